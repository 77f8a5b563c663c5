import PyProof.Rows.All
import Wide.All
import OpenK.AllK
import Wide.FinOn
import Lean
import PyProof.EqAt
import PyProof.EqKinds
import PyProof.TupleCall
import PyProof.Rows.TupAdd
import PyProof.Rows.SortStr
import PyProof.Rows.SortWalk
import PyProof.CollectIter
import PyProof.Rows.Tup
import PyProof.TupleOfSeq
import PyProof.ReprRoads
import PyProof.CallStr
import PyProof.SeqRoads2
import KE.KDictList
import KE.KSortTup
import PyProof.SetRoads
import PyProof.Rows.SetFrom
import PyProof.TupleKey
import PyProof.IsRules
import PyProof.Rows.SortShell
import KE.KUnpack
import PySem.Challenge.RW_runbound_k45_how_far_ahead
set_option genSizeOf false
set_option Elab.async false
set_option compiler.extract_closed false
set_option linter.all false
set_option maxRecDepth 100000
set_option tactic.hygienic false
namespace L2
open PySem PySem.Spec PyProof.Rows
section
variable {prog:Program} {w:World} {A:Around} {E:Value->Shared->Prop} {s:Shared}
theorem bk' (s:Shared):s.TypeIs .none "NoneType":=rfl
theorem ez' {Q:Int->Shared->Prop} (h:Q 0xFCA86420 { s with toks:=s.toks+1 }):wpAny (model prog w) A (pyHash .none) Q E s:=by
 unfold pyHash
 have hv:[Value.none].any Value.onHeap=false:=rfl
 refine wpAny_bind ?_
 rw[cRoomFor,if_neg (by rw[hv];exact Bool.false_ne_true)];refine wpAny_pure ?_
 refine wpAny_bind (wpAny_specialOf (bk' s) F.slot_NoneType_hash.lookup ?_)
 show wpAny _ _ (if(some (Value.builtin "NoneType.__hash__") == some Value.none)=true then _ else _) Q E s
 rw[if_neg (by rw[beq_builtin_none];exact Bool.false_ne_true)]
 refine wpAny_bind (wpAny_specialOf (bk' s) F.slot_NoneType_hash.lookup ?_)
 show wpAny _ _ (callSpecialIfBoundUnlessNone? (.none) "__hash__" _ >>= _) Q E s
 refine wpAny_bind (wpAny_callSpecialIfBoundUnlessNone?_slot (bk' s) F.slot_NoneType_hash
  (wpAny_call_entry F.slot_NoneType_hash (bk' s) F.entry_NoneType_hash
   (show wpAny _ _ (do ret (<- mkInt 0xFCA86420)) _ _ s from wpAny_ret_mkInt ?_) (F.args_NoneType_hash_1 _)))
 exact wpAny_pure h
end
inductive Key where
 |inl (i:Int)|inr (x:Str)|non
 deriving DecidableEq
noncomputable def fl':Key->Value->Bool
 | .inl k,v=>Value.isInt k v
 | .inr x,v=>Value.isStrOf x v
 | .non,.none=>true
 | .non,_=>false
noncomputable def wr' (w:World):Key->Int
 | .inl k=>hashInt k
 | .inr x=>hashStr w x
 | .non=>0xFCA86420
theorem ay':∀{k:Key} {v:Value},fl' k v=true->(∃i t,k=Key.inl i/\v=Value.int i t)\/(∃x t,k=Key.inr x/\v=Value.str x t)\/(k=Key.non/\v=Value.none)
 | .inl i,v,h=>by
  obtain⟨t,e⟩:=Value.isInt_shape (k:=i) (v:=v) h
  exact .inl ⟨i,t,rfl,e⟩
 | .inr x,v,h=>by
  obtain⟨t,e⟩:=Value.isStrOf_shape (x:=x) (v:=v) h
  exact .inr (.inl ⟨x,t,rfl,e⟩)
 | .non,v,h=>by cases v<;>first|exact .inr (.inr ⟨rfl,rfl⟩)|cases h
theorem h5' (i:Int) (t:Tok):fl' (.inl i) (.int i t)=true:=by simp[fl',Value.isInt]
theorem h6' (x:Str) (t:Tok):fl' (.inr x) (.str x t)=true:=by simp[fl',Value.isStrOf]
theorem p5' (a b:Int):decide ((Key.inl a:Key)=Key.inl b)=(a == b):=by
 by_cases e:a=b
 .rw[e,decide_eq_true rfl,beq_self_eq_true]
 .rw[decide_eq_false (fun q=>e (Key.inl.inj q)),beq_eq_false_iff_ne.mpr e]
theorem p6' (a b:Str):decide ((Key.inr a:Key)=Key.inr b)=decide (a=b):=by
 by_cases e:a=b
 .rw[e,decide_eq_true rfl,decide_eq_true rfl]
 .rw[decide_eq_false (fun q=>e (Key.inr.inj q)),decide_eq_false e]
theorem dD' {a b:Key} (h:a≠b):decide (a=b)=false:=decide_eq_false h
noncomputable def aC' (prog:Program) (w:World):PySem.KeyKind prog w Key where
 is:=fl'
 hash:=wr' w
 inj:=fun v a b ha hb=>by
  rcases ay' ha with⟨i,t,rfl,rfl⟩|⟨x,t,rfl,rfl⟩|⟨rfl,rfl⟩<;>rcases ay' hb with⟨j,u,rfl,e⟩|⟨y,u,rfl,e⟩|⟨rfl,e⟩<;>
   first|rfl|(injection e with e1 _;rw[e1])|exact nomatch e
 byValue:=fun k v h=>by
  rcases ay' h with⟨i,t,rfl,rfl⟩|⟨x,t,rfl,rfl⟩|⟨rfl,rfl⟩<;>rfl
 pyHash:=fun hv h=>by
  rcases ay' hv with⟨i,t,rfl,rfl⟩|⟨x,t,rfl,rfl⟩|⟨rfl,rfl⟩
  .exact wpAny_pyHash_int h
  .exact wpAny_pyHash_str h
  .exact ez' h
 eqBool:=fun {A E s a b u v Q} hu hv h=>by
  rcases ay' hu with⟨i,t,rfl,rfl⟩|⟨x,t,rfl,rfl⟩|⟨rfl,rfl⟩
  .rcases ay' hv with⟨j,u,rfl,rfl⟩|⟨y,u,rfl,rfl⟩|⟨rfl,rfl⟩
   .rw[p5']at h;exact wpAny_eqBool_int h
   .rw[dD' (a:=Key.inl i) (b:=Key.inr y) (fun q=>nomatch q)]at h;exact SeqAt.EqAt.int_str i t y u _ _ _ _ h
   .rw[dD' (a:=Key.inl i) (b:=Key.non) (fun q=>nomatch q)]at h;exact SeqAt.EqAt.int_none i t _ _ _ _ h
  .rcases ay' hv with⟨j,u,rfl,rfl⟩|⟨y,u,rfl,rfl⟩|⟨rfl,rfl⟩
   .rw[dD' (a:=Key.inr x) (b:=Key.inl j) (fun q=>nomatch q)]at h;exact SeqAt.EqAt.str_int x t j u _ _ _ _ h
   .rw[p6']at h;exact wpAny_eqBool_str h
   .rw[dD' (a:=Key.inr x) (b:=Key.non) (fun q=>nomatch q)]at h;exact SeqAt.EqAt.str_none x t _ _ _ _ h
  .rcases ay' hv with⟨j,u,rfl,rfl⟩|⟨y,u,rfl,rfl⟩|⟨rfl,rfl⟩
   .rw[dD' (a:=Key.non) (b:=Key.inl j) (fun q=>nomatch q)]at h;exact SeqAt.EqAt.none_int j u _ _ _ _ h
   .rw[dD' (a:=Key.non) (b:=Key.inr y) (fun q=>nomatch q)]at h;exact SeqAt.EqAt.none_str y u _ _ _ _ h
   .rw[decide_eq_true rfl]at h;exact SeqAt.EqAt.same .none _ _ _ _ h
 «strs»:=fun k x t v h=>by
  rcases ay' h with⟨i,u,rfl,e⟩|⟨y,u,rfl,e⟩|⟨rfl,e⟩
  .exact nomatch e
  .injection e with e1 _
   subst e1
   cases v<;>rfl
  .exact nomatch e
theorem fm' (prog:Program) (w:World) (i:Int) (t:Tok):(aC' prog w).is (.inl i) (.int i t)=true:=h5' i t
theorem fn' (prog:Program) (w:World) (x:Str) (t:Tok):(aC' prog w).is (.inr x) (.str x t)=true:=h6' x t
inductive V where
 |non|bl (b:Bool)|int (i:Int)|str (x:Str)|byt (b:Array UInt8)|flt (b:UInt64)|ref (a:Addr)|ty (n:String)
 deriving DecidableEq
noncomputable def ao':V->Value->Prop
 | .non,u=>u=Value.none
 | .bl b,u=>u=Value.bool b
 | .int i,u=>∃t,u=Value.int i t
 | .str x,u=>∃t,u=Value.str x t
 | .byt b,u=>∃t,u=Value.bytes b t
 | .flt b,u=>∃t,u=Value.float b t
 | .ref a,u=>u=Value.ref a
 | .ty n,u=>u=Value.type n
noncomputable abbrev az':List V->List Value->Prop:=Paired ao'
theorem az'.length {xs:List V} {us:List Value} (r:az' xs us):xs.length=us.length:=Paired.length r
theorem az'.get:∀{xs:List V} {us:List Value} {i:Nat} {x:V},az' xs us->xs[i]?=some x->∃u,us[i]?=some u/\ao' x u
 |_,_,_,_,.nil,e=>by simp at e
 |_,_,0,_,.cons r _,e=>by simp at e;subst e;exact⟨_,rfl,r⟩
 |_,_,i+1,x,.cons _ t,e=>by
  obtain⟨u,h1,h2⟩:=az'.get (i:=i) (x:=x) t (by simpa using e)
  exact⟨u,by simpa using h1,h2⟩
theorem az'.set {x:V} {u:Value} (r:ao' x u):∀{xs:List V} {us:List Value} (i:Nat),az' xs us->az' (xs.set i x) (us.set i u)
 |_,_,_,.nil=>.nil
 |_,_,0,.cons _ t=>.cons r t
 |_,_,i+1,.cons q t=>.cons q (az'.set r i t)
theorem az'.append:∀{xs ys:List V} {us ws:List Value},az' xs us->az' ys ws->az' (xs++ys) (us++ws)
 |_,_,_,_,.nil,s=>s
 |_,_,_,_,.cons r t,s=>.cons r (az'.append t s)
theorem az'.take:∀{xs:List V} {us:List Value} (n:Nat),az' xs us->az' (xs.take n) (us.take n)
 |_,_,0,_=>.nil
 |_,_,_+1,.nil=>.nil
 |_,_,n+1,.cons r t=>.cons r (az'.take n t)
theorem az'.drop:∀{xs:List V} {us:List Value} (n:Nat),az' xs us->az' (xs.drop n) (us.drop n)
 |_,_,0,r=>r
 |_,_,_+1,.nil=>.nil
 |_,_,n+1,.cons _ t=>az'.drop n t
noncomputable def h7':Option V->Option Value->Prop
 |some v,some u=>ao' v u
 |none,none=>True
 |_,_=>False
noncomputable def KV {κ:Type}:List (κ×V)->List (κ×Value)->Prop:=Paired fun(p:κ×V) (q:κ×Value)=>p.1=q.1/\ao' p.2 q.2
noncomputable def kV:Key->V
 | .inl i=>.int i
 | .inr x=>.str x
 | .non=>.non
inductive HO where
 |lst (xs:List V)
 |tup (xs:List V)
 |dK (kvs:List (Key×V))|dT (kvs:List (List Key×V))
 |set (S:Int->Bool) (n:Nat)
 |ins (C dx:Addr) (fs:List (Str×V))
 |own (x:Addr)
 |xd (fs:List (Str×V))
 |met (f x:Addr)
 |rng (lo hi:Int)
 |frz (o:Obj) (u:HO)
 |tbl (ps:Array Value)
 |ext (φ:Heap->Prop)
noncomputable abbrev Hp:=Addr->Option HO
noncomputable def upd (H:Hp) (a:Addr) (o:HO):Hp:=fun b=>if b=a then some o else H b
theorem aa' {H:Hp} {a:Addr} {o:HO}:upd H a o a=some o:=by unfold upd;rw[if_pos rfl]
theorem ab' {H:Hp} {a b:Addr} {o:HO} (h:b≠a):upd H a o b=H b:=by unfold upd;rw[if_neg h]
theorem fo' {H:Hp} {a:Addr} {o u:HO}:upd (upd H a o) a u=upd H a u:=by
 funext b;unfold upd;split<;>rfl
theorem tX' {H:Hp} {a b:Addr} {o u:HO} (h:H a=some o) (h':H b=some u) (d:o≠u):a≠b:=by
 intro e;subst e;rw[h]at h';exact d (Option.some.inj h')
theorem ag' {H:Hp} {a b:Addr} {o:HO} (h:H a=some o) (h':H b=none):a≠b:=by
 intro e;subst e;rw[h]at h';cases h'
def l8' (h:Heap) (a:Addr) (items:Array Value):Prop:=∃o,h.get? a=some o/\o.cls=.type "tuple"/\(∃n,o.data=.seq items n)/\o.dict=none
theorem l8'.tup {h:Heap} {a:Addr} {items:Array Value} (x:l8' h a items):IsTup h a items:=let⟨o,e,c,⟨n,d⟩,_⟩:=x;⟨o,e,c,n,d⟩
theorem l8'.new (h:Heap) (items:Array Value):l8' (h.push { cls:=.type "tuple",data:=.seq items }) h.objs.size items:=⟨_,Heap.get?_push_size _ rfl,rfl,⟨_,rfl⟩,rfl⟩
section
variable (P:Program) (w:World)
noncomputable def av' (H:Hp) (h:Heap) (a:Addr):HO->Prop
 | .lst xs=>xs.length<=sizeLine/\∃(its:List Value) (n:Nat),az' xs its/\h.get? a=some { cls:=.type "list",data:=.seq its.toArray n }
 | .tup xs=>xs.length<=sizeLine/\∃its:List Value,az' xs its/\l8' h a its.toArray
 | .dK kvs=>kvs.length<=sizeLine/\(a == sysModules)=false/\∃vs,KV kvs vs/\h.DictOf (aC' P w) a vs
 | .dT kvs=>kvs.length<=sizeLine/\(a == sysModules)=false/\∃xs:List (List Key×Addr×Value),
   Paired (fun(p:List Key×V) (q:List Key×Addr×Value)=>p.1=q.1/\H q.2.1=some (.tup (p.1.map kV))/\ao' p.2 q.2.2) kvs xs/\
   ∃o es ep,h.get? a=some o/\o.ExactDict/\o.data=.dict es ep/\es.toList=xs.map (entryOfKey (tupleKind (aC' P w)))/\(xs.map (·.1)).Nodup
 | .set S n=>h.SetOf (intKind P w) a S n
 | .ins C dx fs=>H dx=some (.own a)/\fs.length<=1000/\dx≠a/\h.get? a=some (W.instObj C dx)/\
   ∃mA,h.Ns1 dx mA/\(∀f,h7' (fs.lookup f) (mA f))/\PySem.Within mA (fs.map (·.1))
 | .own _=>∃o,h.get? a=some o
 | .xd fs=>∃mA,h.Ns1 a mA/\∀f,h7' (fs.lookup f) (mA f)
 | .rng lo hi=>∃t u v,h.get? a=some { cls:=.type "range",data:=.fields #[.int lo t,.int hi u,.int 1 v] }
 | .frz o u=>h.get? a=some o/\av' H h a u
 | .tbl ps=>h.get? a=some { cls:=.none,data:=.fields ps }
 | .met f x=>h.get? a=some (W.methodObj (.ref f) (.ref x))
 | .ext φ=>φ h/\(∃o,h.get? a=some o)/\∀h1 h2:Heap,φ h1->(∀o,h1.get? a=some o->h2.get? a=some o)->φ h2
def HOk (H:Hp) (h:Heap):Prop:=∀a o,H a=some o->av' P w H h a o
end
section
variable {P:Program} {w:World} {H H':Hp} {h h':Heap} {a:Addr} {o:HO}
theorem av'.lt (x:av' P w H h a o):a<h.objs.size:=by
 cases o with
 |lst xs=>obtain⟨_,_,_,_,e⟩:=x;exact Heap.lt_size e
 |tup xs=>obtain⟨_,_,_,p⟩:=x;exact p.tup.lt
 |dK kvs=>obtain⟨_,_,_,_,o,_,_,e,_⟩:=x;exact Heap.lt_size e
 |dT kvs=>obtain⟨_,_,_,_,o,_,_,e,_⟩:=x;exact Heap.lt_size e
 |set S n=>obtain⟨o,_,_,_,e,_⟩:=x;exact Heap.lt_size e
 |ins C dx fs=>obtain⟨_,_,_,e,_⟩:=x;exact Heap.lt_size e
 |own y=>obtain⟨_,e⟩:=x;exact Heap.lt_size e
 |xd fs=>obtain⟨_,⟨_,_,_,e,_⟩,_⟩:=x;exact Heap.lt_size e
 |rng lo hi=>obtain⟨_,_,_,e⟩:=x;exact Heap.lt_size e
 |frz ob u=>obtain⟨e,_⟩:=x;exact Heap.lt_size e
 |tbl ps=>exact Heap.lt_size (show h.get? a=some _ from x)
 |met f y=>exact Heap.lt_size (show h.get? a=some _ from x)
 |ext φ=>obtain⟨_,⟨_,e⟩,_⟩:=x;exact Heap.lt_size e
theorem Paired.mapP {α β:Type} {F G:α->β->Prop}:∀{l₁:List α} {l₂:List β},Paired F l₁ l₂->(∀a b,F a b->G a b)->Paired G l₁ l₂
 |_,_,.nil,_=>.nil
 |_,_,.cons r t,f=>.cons (f _ _ r) (Paired.mapP t f)
theorem av'.stay (x:av' P w H h a o) (k:∀b u,(b=a\/H b=some (.own a))->h.get? b=some u->h'.get? b=some u)
  (ho:∀b,H b=some (.own a)->H' b=some (.own a)) (ht:∀b xs,H b=some (.tup xs)->H' b=some (.tup xs)):av' P w H' h' a o:=by
 induction o with
 |lst xs=>obtain⟨z,its,n,r,e⟩:=x;exact⟨z,its,n,r,k _ _ (.inl rfl) e⟩
 |tup xs=>obtain⟨z,its,r,ob,e,c⟩:=x;exact⟨z,its,r,ob,k _ _ (.inl rfl) e,c⟩
 |dK kvs=>obtain⟨z,y,vs,r,ob,es,ep,e,c⟩:=x;exact⟨z,y,vs,r,ob,es,ep,k _ _ (.inl rfl) e,c⟩
 |dT kvs=>
  obtain⟨z,y,xs,r,ob,es,ep,e,c⟩:=x
  exact⟨z,y,xs,Paired.mapP r fun p q z=>⟨z.1,ht _ _ z.2.1,z.2.2⟩,ob,es,ep,k _ _ (.inl rfl) e,c⟩
 |set S n=>obtain⟨ob,es,ep,t,e,c⟩:=x;exact⟨ob,es,ep,t,k _ _ (.inl rfl) e,c⟩
 |ins C dx fs=>
  obtain⟨d,z,ne,e,mA,⟨od,es,ep,e2,c⟩,r⟩:=x
  exact⟨ho _ d,z,ne,k _ _ (.inl rfl) e,mA,⟨od,es,ep,k _ _ (.inr d) e2,c⟩,r⟩
 |own y=>obtain⟨ob,e⟩:=x;exact⟨ob,k _ _ (.inl rfl) e⟩
 |xd fs=>obtain⟨mA,⟨od,es,ep,e,c⟩,r⟩:=x;exact⟨mA,⟨od,es,ep,k _ _ (.inl rfl) e,c⟩,r⟩
 |rng lo hi=>obtain⟨t,u,v,e⟩:=x;exact⟨t,u,v,k _ _ (.inl rfl) e⟩
 |frz ob u ih=>obtain⟨e,q⟩:=x;exact⟨k _ _ (.inl rfl) e,ih q⟩
 |tbl ps=>
  have e:h.get? a=some { cls:=.none,data:=.fields ps }:=x
  show h'.get? a=some { cls:=.none,data:=.fields ps }
  exact k a _ (.inl rfl) e
 |met f y=>
  have e:h.get? a=some (W.methodObj (.ref f) (.ref y)):=x
  show h'.get? a=some (W.methodObj (.ref f) (.ref y))
  exact k a _ (.inl rfl) e
 |ext φ=>obtain⟨p,⟨o,e⟩,st⟩:=x;exact⟨st _ _ p fun o q=>k _ _ (.inl rfl) q,⟨o,k _ _ (.inl rfl) e⟩,st⟩
theorem HOk.lt (x:HOk P w H h) (e:H a=some o):a<h.objs.size:=(x a o e).lt
theorem HOk.fresh (x:HOk P w H h) (e:h.objs.size<=a):H a=none:=by
 cases q:H a with
 |none=>rfl
 |some u=>exact absurd (Nat.lt_of_lt_of_le (x.lt q) e) (Nat.lt_irrefl _)
theorem HOk.kept (x:HOk P w H h) (k:∀b u,h.get? b=some u->h'.get? b=some u):HOk P w H h':=fun a o e=>
 (x a o e).stay (fun b u _ q=>k b u q) (fun _ q=>q) fun _ _ q=>q
theorem HOk.laid (x:HOk P w H h) (k:∀b u,h.get? b=some u->h'.get? b=some u) (hp:h.objs.size<=a) (new:av' P w (upd H a o) h' a o):HOk P w (upd H a o) h':=fun b u e=>by
 have hn:=x.fresh hp
 by_cases hb:b=a
 .subst hb;rw[aa']at e;cases e;exact new
 .rw[ab' hb]at e
  exact(x b u e).stay (fun c v _ q=>k c v q) (fun c q=>by rw[ab' (ag' q hn)];exact q) fun c xs q=>by rw[ab' (ag' q hn)];exact q
end
def Rd (H:Hp) (a:Addr) (u:HO):Prop:=H a=some u\/∃o,H a=some (.frz o u)
theorem Rd.of {H:Hp} {a:Addr} {u:HO} (h:H a=some u):Rd H a u:=.inl h
theorem Rd.ok {P:Program} {w:World} {H:Hp} {h:Heap} {a:Addr} {u:HO} (r:Rd H a u) (x:HOk P w H h):av' P w H h a u:=by
 rcases r with r|⟨o,r⟩
 .exact x a u r
 .obtain⟨_,q⟩:=x a _ r
  exact q
noncomputable def Mut:Option HO->Prop
 |some (.lst _)=>True
 |some (.dK _)=>True
 |some (.dT _)=>True
 |some (.set _ _)=>True
 |some (.ins _ _ _)=>True
 |some (.ext _)=>True
 |_=>False
section
variable {P:Program} {w:World} {H:Hp} {h h':Heap} {x e:Addr} {o':HO}
theorem HOk.write (ok:HOk P w H h) (mu:Mut (H x)) (he:e=x\/H e=some (.own x)) (k:∀b u,b≠e->h.get? b=some u->h'.get? b=some u) (heo:∃u,h'.get? e=some u)
  (new:av' P w (upd H x o') h' x o'):HOk P w (upd H x o') h':=fun b u q=>by
 have nown:∀c y,H c=some (.own y)->c≠x:=fun c y r z=>by subst z;rw[r]at mu;exact mu
 have ntup:∀c xs,H c=some (.tup xs)->c≠x:=fun c xs r z=>by subst z;rw[r]at mu;exact mu
 by_cases hb:b=x
 .subst hb;rw[aa']at q;cases q;exact new
 .rw[ab' hb]at q
  by_cases hbe:b=e
  .have q':H b=some (.own x):=by
    rcases he with z|z
    .exact absurd (hbe.trans z) hb
    .rw[hbe];exact z
   rw[q]at q';cases q'
   obtain⟨v,hv⟩:=heo
   exact⟨v,by rw[hbe];exact hv⟩
  .refine(ok b u q).stay (fun c v hc r=>k c v ?_ r) (fun c r=>by rw[ab' (nown c b r)];exact r) fun c xs r=>by rw[ab' (ntup c xs r)];exact r
   rcases hc with rfl|hc
   .exact hbe
   .rintro rfl
    rcases he with z|z
    .exact nown c b hc z
    .rw[hc]at z;cases z;exact hb rfl
end
structure Un (fs ex:List Addr) (H H':Hp) (h h':Heap):Prop where
 keep:∀b o,h.get? b=some o->H b=none->b∉fs->b∉ex->h'.get? b=some o
 slot:∀b o,h.get? b=some o->H b=none->b∈fs->b∉ex->∃sl,h'.get? b=some { o with slots:=sl }
 free:∀b o,h.get? b=some o->H b=none->b∉ex->H' b=none
 there:∀b o,h.get? b=some o->b∉ex->∃o',h'.get? b=some o'
 tups:∀b xs,H b=some (.tup xs)->H' b=some (.tup xs)
 frzs:∀b o u,H b=some (.frz o u)->H' b=some (.frz o u)
 tbls:∀b ps,H b=some (.tbl ps)->∃more,H' b=some (.tbl (ps++more))
section
variable {fs fs' ex ex':List Addr} {H H1 H2:Hp} {h h1 h2 h':Heap} {a x e:Addr} {o:HO}
theorem Un.any (u:Un fs ex H H1 h h1) {b:Addr} {ob:Obj} (q:h.get? b=some ob) (n:H b=none) (hx:b∉ex):∃sl,h1.get? b=some { ob with slots:=sl }:=by
 by_cases hb:b∈fs
 .exact u.slot b ob q n hb hx
 .exact⟨ob.slots,u.keep b ob q n hb hx⟩
theorem Un.kept (k:∀b u,h.get? b=some u->h'.get? b=some u):Un fs ex H H h h':=
 ⟨fun b ob q _ _ _=>k b ob q,fun b ob q _ _ _=>⟨ob.slots,k b ob q⟩,fun _ _ _ n _=>n,fun b ob q _=>⟨ob,k b ob q⟩,fun _ _ q=>q,fun _ _ _ q=>q,fun _ ps q=>⟨#[],by rw[q];simp⟩⟩
theorem Un.refl:Un fs ex H H h h:=Un.kept fun _ _ q=>q
theorem Un.laid (k:∀b u,h.get? b=some u->h'.get? b=some u) (hp:h.objs.size<=a) (hn:H a=none):Un fs ex H (upd H a o) h h' where
 keep:=fun b u q _ _ _=>k b u q
 slot:=fun b u q _ _ _=>⟨u.slots,k b u q⟩
 free:=fun b u q n _=>by rw[ab' (Nat.ne_of_lt (Nat.lt_of_lt_of_le (Heap.lt_size q) hp))];exact n
 there:=fun b u q _=>⟨u,k b u q⟩
 tups:=fun b xs q=>by rw[ab' (ag' q hn)];exact q
 frzs:=fun b u xs q=>by rw[ab' (ag' q hn)];exact q
 tbls:=fun b ps q=>⟨#[],by rw[ab' (ag' q hn),q];simp⟩
theorem Un.write (mu:Mut (H x)) (he:e=x\/H e=some (.own x)) (k:∀b u,b≠e->h.get? b=some u->h'.get? b=some u) (heo:∃u,h'.get? e=some u):Un fs ex H (upd H x o) h h':=by
 have hx:∀b,H b=none->b≠x:=fun b n z=>by subst z;rw[n]at mu;exact mu
 have hb:∀b,H b=none->b≠e:=fun b n z=>by
  subst z
  rcases he with r|r
  .exact hx b n r
  .rw[n]at r;cases r
 have hm:∀b u,H b=some u->¬Mut (some u)->b≠x:=fun b u q nm z=>by subst z;rw[q]at mu;exact nm mu
 refine⟨fun b u q n _ _=>k b u (hb b n) q,fun b u q n _ _=>⟨u.slots,k b u (hb b n) q⟩,fun b u q n _=>by rw[ab' (hx b n)];exact n,fun b u q _=>?_,
  fun b xs q=>by rw[ab' (hm b _ q fun z=>z)];exact q,fun b u xs q=>by rw[ab' (hm b _ q fun z=>z)];exact q,fun b ps q=>⟨#[],by rw[ab' (hm b _ q fun z=>z),q];simp⟩⟩
 by_cases hbe:b=e
 .subst hbe;exact heo
 .exact⟨u,k b u hbe q⟩
end
noncomputable def trk (h:Heap) (H:Hp):List Addr:=(List.range h.objs.size).filter fun a=>(H a).isSome
noncomputable def kE' (h:Heap) (H:Hp):Heap:=W.hideAll h (trk h H)
theorem h8' (h:Heap) (H:Hp):(kE' h H).objs.size=h.objs.size:=W.hideAll_size _ _
theorem kF' {h:Heap} {H:Hp} {b:Addr} {o:Obj} (e:h.get? b=some o) (n:H b=none):(kE' h H).get? b=some o:=
 W.hideAll_get _ e fun hm=>by
  have q:(H b).isSome=true:=(List.mem_filter.mp hm).2
  rw[n]at q;simp at q
theorem nX' {h:Heap} {H:Hp} {b:Addr} {o:Obj} (e:(kE' h H).get? b=some o):h.get? b=some o/\H b=none:=by
 have e':h.get? b=some o:=W.of_hideAll (trk h H) e
 refine⟨e',?_⟩
 cases q:H b with
 |none=>rfl
 |some x=>
  have hm:b∈trk h H:=List.mem_filter.mpr ⟨List.mem_range.mpr (Heap.lt_size e'),by simp[q]⟩
  have z:(kE' h H).get? b=none:=W.hideAll_none (trk h H) hm
  rw[z]at e;cases e
noncomputable def nY' (g h:Heap) (L:Addr):List (Addr×Obj):=(List.range h.objs.size).filterMap fun a=>if a=L\/(g.get? a).isSome=true then none else(h.get? a).map fun o=>(a,o)
noncomputable def au' (g h:Heap) (L d:Addr):List (Addr×Obj):=(nY' g h L).filter fun p=>decide (p.1≠d)
structure Mod (K:W.Frag) (mg:Str->Option Value) (base:Heap):Prop where
 kin:K.In base
 glob:base.Ns mainGlobals mg
 blt:∃mb,base.Ns builtinsNs mb/\∀x:Str,x≠"__name__"->mb x=bootBuiltins x
 nolimit:base.NoLimit
set_option genInjectivity false
structure Cx where
 prog:Program
 w:World
 K:W.Frag
 mg:Str->Option Value
 base:Heap
 A:Around
 N:List Str
 s₀:Shared
 H₀:Hp
 env:Env
 outer:List Env
 stack:List Env
 ex:List Addr
 fn:Str->Bool
 calm:Bool
 pn:List (Addr×Obj)
 xe:Value->Shared->Prop
set_option genInjectivity true
noncomputable def frs (l:List Env):List Addr:=l.filterMap (·.frame)
noncomputable abbrev Cx.fs (X:Cx):List Addr:=frs X.outer
def Vis (sc:Scope) (x:Str):Prop:=sc.names.lookup x=some .local\/sc.names.lookup x=some .cell\/sc.names.lookup x=some .free
def Loc (sc:Scope) (x:Str):Prop:=sc.names.lookup x=some .local\/sc.names.lookup x=some .cell
def wt' (env:Env) (h:Heap) (m:Str->Option Value) (x:Str) (u:Value):Prop:=
 (env.kindOf x=some .local/\m x=some u)\/((env.kindOf x=some .cell\/env.kindOf x=some .free)/\∃c,env.cells.lookup x=some c/\h.IsCell c (some u))
structure Cx.Ok (X:Cx):Prop where
 mod:Mod X.K X.mg X.base
 kind:X.env.scope.kind=.function
 glob:X.env.globals=mainGlobals
 blt:X.env.builtins=builtinsNs
 above:X.s₀.heap.objs.size<=X.env.locals
 inj:∀x y c,X.env.cells.lookup x=some c->X.env.cells.lookup y=some c->x=y
 has:∀x,(X.env.kindOf x=some .cell\/X.env.kindOf x=some .free)->∃c,X.env.cells.lookup x=some c
 cab:∀x c,X.fn x=true->X.env.cells.lookup x=some c->X.s₀.heap.objs.size<=c
 hd:X.calm=true->X.A.handled=none
 frames:X.A.frames=some X.stack
 stk:X.stack=X.outer\/(X.stack=X.env :: X.outer/\X.env.frame=some X.env.locals)
 exf:∀b∈X.ex,b≠X.env.locals/\∀x c,X.env.cells.lookup x=some c->c≠b
 bs:∀b o,X.base.get? b=some o->X.s₀.heap.get? b=some o/\X.H₀ b=none
 bsz:X.base.objs.size<=X.s₀.heap.objs.size
 noex:∀b o,X.base.get? b=some o->b∉X.ex
 exfs:∀b∈X.ex,b∉X.fs
 funs:X.s₀.heap.FunFrames X.base X.outer
 frf:∀b∈X.fs,X.H₀ b=none
structure Inv (X:Cx) (pins:List (Addr×Obj)) (σ:List (Option V)) (H:Hp) (s:Shared):Prop where
 ok:X.Ok
 os:s.os=X.s₀.os
 bare:AllBare s.gens
 base:Un X.fs X.ex X.H₀ H X.s₀.heap s.heap
 loc:∃m,s.heap.Ns X.env.locals m/\∀(i:Nat) (x:Str) (v:V),X.N[i]?=some x->σ[i]?=some (some v)->Vis X.env.scope x->∃u,ao' v u/\wt' X.env s.heap m x u
 cell:∀x c,X.env.cells.lookup x=some c->∃v,s.heap.IsCell c v
 free:H X.env.locals=none
 freeC:∀x c,X.env.cells.lookup x=some c->H c=none
 pin:∀p∈X.pn++pins,s.heap.get? p.1=some p.2/\H p.1=none/\p.1≠X.env.locals/\p.1∉X.fs/\∀v,p.2.data≠.cell v
 hok:HOk X.prog X.w H s.heap
 len:σ.length=X.N.length
section
variable {X:Cx} {pins:List (Addr×Obj)} {σ:List (Option V)} {H H':Hp} {s:Shared} {h':Heap}
theorem Cx.Ok.nofr (ok:X.Ok) {b:Addr} {o:Obj} (e:X.base.get? b=some o):b∉X.fs:=fun hb=>by
 have:=(ok.funs.mem hb).1
 rw[e]at this;cases this
theorem Inv.bs (I:Inv X pins σ H s):∀b o,X.base.get? b=some o->s.heap.get? b=some o/\H b=none:=fun b o e=>
 ⟨I.base.keep b o (I.ok.bs b o e).1 (I.ok.bs b o e).2 (I.ok.nofr e) (I.ok.noex b o e),I.base.free b o (I.ok.bs b o e).1 (I.ok.bs b o e).2 (I.ok.noex b o e)⟩
theorem Inv.bk (I:Inv X pins σ H s):∀b o,X.base.get? b=some o->s.heap.get? b=some o:=fun b o e=>(I.bs b o e).1
theorem Inv.mod (I:Inv X pins σ H s):Mod X.K X.mg X.base:=I.ok.mod
theorem Inv.kIn (I:Inv X pins σ H s):X.K.In s.heap:=I.ok.mod.kin.keeps I.bk
theorem Inv.fr (I:Inv X pins σ H s):∃m,Fr X.base X.env.locals s.heap m:=
 let⟨m,hn,_⟩:=I.loc
 ⟨m,hn,I.bk,Nat.le_trans I.ok.bsz I.ok.above⟩
theorem Inv.lt (I:Inv X pins σ H s):X.env.locals<s.heap.objs.size:=let⟨_,hn,_⟩:=I.loc;hn.lt
theorem Inv.sz (I:Inv X pins σ H s):X.s₀.heap.objs.size<=s.heap.objs.size:=Nat.le_trans I.ok.above (Nat.le_of_lt I.lt)
theorem Inv.nofs (I:Inv X pins σ H s) {a:Addr} (h:s.heap.objs.size<=a):a∉X.fs:=fun hb=>by
 obtain⟨_,o,ho,_⟩:=I.ok.funs.mem hb
 exact absurd (Nat.lt_of_lt_of_le (Heap.lt_size ho) (Nat.le_trans I.sz h)) (Nat.lt_irrefl _)
theorem Inv.cne (I:Inv X pins σ H s):∀x c,X.env.cells.lookup x=some c->c≠X.env.locals:=fun x c e z=>by
 obtain⟨v,o,ho,hd⟩:=I.cell x c e
 obtain⟨m,⟨o',es,ep,ho',hd',_⟩,_⟩:=I.loc
 rw[z,ho']at ho;cases ho;rw[hd']at hd;cases hd
theorem Inv.funs (I:Inv X pins σ H s):s.heap.FunFrames X.base X.outer:=by
 have all:∀(l:List Env),(∀b∈frs l,b∈X.fs)->X.s₀.heap.FunFrames X.base l->s.heap.FunFrames X.base l:=by
  intro l
  induction l with
  |nil=>intro _ _;trivial
  |cons env r ih=>
   intro hs hl
   obtain⟨hk,⟨L,o,hf,hn,ho,hd⟩,hr⟩:=hl
   have hL:L∈X.fs:=hs L (by unfold frs;rw[List.filterMap_cons,hf];exact List.mem_cons_self)
   obtain⟨sl,e⟩:=I.base.slot L o ho (I.ok.frf L hL) hL fun z=>I.ok.exfs L z hL
   exact⟨hk,⟨L,_,hf,hn,e,hd⟩,ih (fun b hb=>hs b (by unfold frs;rw[List.filterMap_cons,hf];exact List.mem_cons_of_mem _ hb)) hr⟩
 exact all X.outer (fun _ hb=>hb) I.ok.funs
theorem Inv.stack (I:Inv X pins σ H s):s.heap.FunFrames X.base X.stack:=by
 rcases I.ok.stk with e|⟨e,hf⟩
 .rw[e];exact I.funs
 .rw[e]
  obtain⟨m,hn,_⟩:=I.loc
  refine .cons (by rw[I.ok.kind];decide) hf hn ?_ I.funs
  exact Heap.get?_none_of_le (Nat.le_trans I.ok.bsz I.ok.above)
theorem Inv.stkSub (I:Inv X pins σ H s):∀b∈frs X.stack,b∈X.env.locals :: X.fs:=fun b hb=>by
 rcases I.ok.stk with e|⟨e,hf⟩
 .rw[e]at hb;exact List.mem_cons_of_mem _ hb
 .rw[e]at hb
  unfold frs at hb
  rw[List.filterMap_cons,hf]at hb
  exact hb
theorem Inv.stkFree (I:Inv X pins σ H s):∀b∈frs X.stack,H b=none:=fun b hb=>by
 rcases List.mem_cons.mp (I.stkSub b hb)with e|hb
 .rw[e];exact I.free
 .obtain⟨_,o,ho,_⟩:=I.ok.funs.mem hb
  exact I.base.free b o ho (I.ok.frf b hb) fun z=>I.ok.exfs b z hb
theorem Inv.step {g':Array GenState} {t':Nat} {d':Drawn} {ch:List Addr} (I:Inv X pins σ H s)
  (hch:∀b∈ch,(b∈X.ex\/X.s₀.heap.objs.size<=b)/\b≠X.env.locals/\(∀x c,X.env.cells.lookup x=some c->c≠b)/\∀p∈X.pn++pins,p.1≠b)
  (keep:∀b o,b≠X.env.locals->b∉X.fs->b∉ch->s.heap.get? b=some o->H b=none->h'.get? b=some o)
  (slot:∀b o,b≠X.env.locals->b∈X.fs->b∉ch->s.heap.get? b=some o->H b=none->∃sl,h'.get? b=some { o with slots:=sl }) (free:∀b o,b∉ch->s.heap.get? b=some o->H b=none->H' b=none)
  (there:∀b o,b∉ch->s.heap.get? b=some o->∃o',h'.get? b=some o')
  (tups:∀b xs,H b=some (.tup xs)->H' b=some (.tup xs)) (frzs:∀b o u,H b=some (.frz o u)->H' b=some (.frz o u)) (tbls:∀b ps,H b=some (.tbl ps)->∃more,H' b=some (.tbl (ps++more)))
  (ns:∀m,s.heap.Ns X.env.locals m->h'.Ns X.env.locals m) (hok:HOk X.prog X.w H' h') (hg:AllBare g'):
  Inv X pins σ H' { s with heap:=h',gens:=g',drawn:=d',toks:=t' }:=by
 have neL:∀b o,X.s₀.heap.get? b=some o->b≠X.env.locals:=fun b o e=>Nat.ne_of_lt (Nat.lt_of_lt_of_le (Heap.lt_size e) I.ok.above)
 have neC:∀b o,X.s₀.heap.get? b=some o->b∉X.ex->b∉ch:=fun b o e hx hb=>by
  rcases(hch b hb).1 with z|z
  .exact hx z
  .exact absurd (Nat.lt_of_lt_of_le (Heap.lt_size e) z) (Nat.lt_irrefl _)
 have cellK:∀x c,X.env.cells.lookup x=some c->∀v,s.heap.IsCell c v->h'.IsCell c v:=fun x c e v ⟨o,ho,hd⟩=>by
  have nch:c∉ch:=fun z=>(hch c z).2.2.1 x c e rfl
  by_cases hc:c∈X.fs
  .obtain⟨sl,q⟩:=slot c o (I.cne x c e) hc nch ho (I.freeC x c e)
   exact⟨_,q,hd⟩
  .exact⟨o,keep c o (I.cne x c e) hc nch ho (I.freeC x c e),hd⟩
 refine⟨I.ok,I.os,hg,⟨fun b o e n hb hx=>?_,fun b o e n hb hx=>?_,fun b o e n hx=>?_,fun b o e hx=>?_,fun b xs e=>tups b xs (I.base.tups b xs e),fun b o xs e=>frzs b o xs (I.base.frzs b o xs e),fun b ps e=>?_⟩,?_,fun x c e=>?_,?_,fun x c e=>?_,fun p hp=>?_,hok,I.len⟩
 .exact keep b o (neL b o e) hb (neC b o e hx) (I.base.keep b o e n hb hx) (I.base.free b o e n hx)
 .obtain⟨sl,e1⟩:=I.base.slot b o e n hb hx
  obtain⟨sl',e2⟩:=slot b _ (neL b o e) hb (neC b o e hx) e1 (I.base.free b o e n hx)
  exact⟨sl',e2⟩
 .obtain⟨o',e1⟩:=I.base.there b o e hx
  exact free b o' (neC b o e hx) e1 (I.base.free b o e n hx)
 .obtain⟨o',e1⟩:=I.base.there b o e hx
  exact there b o' (neC b o e hx) e1
 .obtain⟨m1,e1⟩:=I.base.tbls b ps e
  obtain⟨m2,e2⟩:=tbls b _ e1
  exact⟨m1++m2,by rw[e2,Array.append_assoc]⟩
 .obtain⟨m,hn,hl⟩:=I.loc
  refine⟨m,ns m hn,fun i x v e1 e2 e3=>?_⟩
  obtain⟨u,r,l⟩:=hl i x v e1 e2 e3
  refine⟨u,r,?_⟩
  rcases l with l|⟨k,c,e,z⟩
  .exact .inl l
  .exact .inr ⟨k,c,e,cellK x c e _ z⟩
 .obtain⟨v,z⟩:=I.cell x c e
  exact⟨v,cellK x c e v z⟩
 .obtain⟨m,⟨o,_,_,ho,_⟩,_⟩:=I.loc
  exact free _ o (fun z=>(hch _ z).2.1 rfl) ho I.free
 .obtain⟨v,o,ho,hd⟩:=I.cell x c e
  exact free c o (fun z=>(hch c z).2.2.1 x c e rfl) ho (I.freeC x c e)
 .obtain⟨e,n,ne,nf,d⟩:=I.pin p hp
  have nch:p.1∉ch:=fun z=>(hch p.1 z).2.2.2 p hp rfl
  exact⟨keep p.1 p.2 ne nf nch e n,free p.1 p.2 nch e n,ne,nf,d⟩
theorem Inv.un {t':Nat} (I:Inv X pins σ H s) (u:Un X.fs [] H H' s.heap h') (hok:HOk X.prog X.w H' h'):Inv X pins σ H' { s with heap:=h',toks:=t' }:=by
 obtain⟨m,⟨o,es,ep,ho,r⟩,_⟩:=id I.loc
 obtain⟨sl,hL⟩:=u.any ho I.free (by simp)
 exact I.step (g':=s.gens) (d':=s.drawn) (ch:=[]) (fun _ z=>nomatch z) (fun b o _ hb _ e n=>u.keep b o e n hb (by simp)) (fun b o _ hb _ e n=>u.slot b o e n hb (by simp)) (fun b o _ e n=>u.free b o e n (by simp)) (fun b o _ e=>u.there b o e (by simp)) u.tups u.frzs u.tbls (fun m' hm=>by
  obtain⟨o',es',ep',ho',r'⟩:=hm
  rw[ho]at ho';cases ho'
  exact⟨_,es',ep',hL,r'⟩) hok I.bare
theorem Inv.call {g':Array GenState} {t':Nat} {d':Drawn} {ch:List Addr} (I:Inv X pins σ H s) (u:Un (frs X.stack) ch H H' s.heap h') (hok:HOk X.prog X.w H' h') (hg:AllBare g')
  (hch:∀b∈ch,(b∈X.ex\/X.s₀.heap.objs.size<=b)/\b≠X.env.locals/\(∀x c,X.env.cells.lookup x=some c->c≠b)/\∀p∈X.pn++pins,p.1≠b):
  Inv X pins σ H' { s with heap:=h',gens:=g',drawn:=d',toks:=t' }:=by
 obtain⟨m,⟨o,es,ep,ho,r⟩,_⟩:=id I.loc
 obtain⟨sl,hL⟩:=u.any ho I.free fun z=>(hch _ z).2.1 rfl
 exact I.step (ch:=ch) hch (fun b o hL hb hc e n=>u.keep b o e n (fun z=>(List.mem_cons.mp (I.stkSub b z)).elim hL hb) hc) (fun b o _ _ hc e n=>u.any e n hc) (fun b o hc e n=>u.free b o e n hc) (fun b o hc e=>u.there b o e hc) u.tups u.frzs u.tbls (fun m' hm=>by
  obtain⟨o',es',ep',ho',r'⟩:=hm
  rw[ho]at ho';cases ho'
  exact⟨_,es',ep',hL,r'⟩) hok hg
theorem Inv.turned {t':Nat} {it:Addr} (I:Inv X pins σ H s) (k:∀b o,b≠it->s.heap.get? b=some o->h'.get? b=some o) (hn:H it=none) (hL:it≠X.env.locals)
  (h1:it∈X.ex\/X.s₀.heap.objs.size<=it) (h2:∀x c,X.env.cells.lookup x=some c->c≠it) (h3:∀p∈X.pn++pins,p.1≠it):Inv X pins σ H { s with heap:=h',toks:=t' }:=by
 have nit:∀b u,H b=some u->b≠it:=fun b u e z=>by rw[z,hn]at e;cases e
 refine I.step (g':=s.gens) (d':=s.drawn) (ch:=[it]) (fun b hb=>?_) (fun b o _ _ hc e _=>k b o (fun z=>hc (by simp[z])) e) (fun b o _ _ hc e _=>⟨o.slots,k b o (fun z=>hc (by simp[z])) e⟩) (fun _ _ _ _ n=>n)
  (fun b o hc e=>⟨o,k b o (fun z=>hc (by simp[z])) e⟩) (fun _ _ e=>e) (fun _ _ _ e=>e) (fun b ps e=>⟨#[],by rw[e];simp⟩) (fun m hm=>?_) (fun b u e=>?_) I.bare
 .have e:b=it:=by simpa using hb
  subst e
  exact⟨h1,hL,h2,h3⟩
 .obtain⟨o,es,ep,ho,r⟩:=hm
  exact⟨o,es,ep,k _ o (Ne.symm hL) ho,r⟩
 .refine(I.hok b u e).stay (fun c v hc q=>k c v ?_ q) (fun _ q=>q) fun _ _ q=>q
  rcases hc with z|z
  .rw[z];exact nit b u e
  .exact nit c _ z
theorem Inv.tok (I:Inv X pins σ H s) (t:Nat):Inv X pins σ H { s with toks:=t }:=I.un (h':=s.heap) (t':=t) Un.refl I.hok
theorem Inv.kept {t':Nat} (I:Inv X pins σ H s) (k:∀b u,s.heap.get? b=some u->h'.get? b=some u):Inv X pins σ H { s with heap:=h',toks:=t' }:=I.un (Un.kept k) (I.hok.kept k)
theorem Inv.laid {a:Addr} {o:HO} {t':Nat} (I:Inv X pins σ H s) (k:∀b u,s.heap.get? b=some u->h'.get? b=some u) (hp:s.heap.objs.size<=a) (new:av' X.prog X.w (upd H a o) h' a o):
  Inv X pins σ (upd H a o) { s with heap:=h',toks:=t' }:=I.un (Un.laid k hp (I.hok.fresh hp)) (I.hok.laid k hp new)
theorem Inv.write {x e:Addr} {o:HO} {t':Nat} (I:Inv X pins σ H s) (mu:Mut (H x)) (he:e=x\/H e=some (.own x)) (k:∀b u,b≠e->s.heap.get? b=some u->h'.get? b=some u) (heo:∃u,h'.get? e=some u)
  (new:av' X.prog X.w (upd H x o) h' x o):Inv X pins σ (upd H x o) { s with heap:=h',toks:=t' }:=I.un (Un.write mu he k heo) (I.hok.write mu he k heo new)
theorem Inv.weak {σ':List (Option V)} (I:Inv X pins σ H s) (hl:σ'.length=σ.length) (w:∀(i:Nat) v,σ'[i]?=some (some v)->σ[i]?=some (some v)):Inv X pins σ' H s:=
 ⟨I.ok,I.os,I.bare,I.base,let⟨m,hn,hl'⟩:=I.loc;⟨m,hn,fun i x v e1 e2 e3=>hl' i x v e1 (w i v e2) e3⟩,I.cell,I.free,I.freeC,I.pin,I.hok,hl.trans I.len⟩
theorem Inv.pins_of {pins':List (Addr×Obj)} (I:Inv X pins σ H s) (h:∀p∈pins',s.heap.get? p.1=some p.2/\H p.1=none/\p.1≠X.env.locals/\p.1∉X.fs/\∀v,p.2.data≠.cell v):Inv X pins' σ H s:=
 ⟨I.ok,I.os,I.bare,I.base,I.loc,I.cell,I.free,I.freeC,fun p hp=>(List.mem_append.mp hp).elim (fun z=>I.pin p (List.mem_append_left _ z)) (h p),I.hok,I.len⟩
theorem dZ' {N:List Str} (hN:N.Nodup) {i j:Nat} {x:Str} (a:N[i]?=some x) (b:N[j]?=some x):i=j:=by
 obtain⟨h1,e1⟩:=List.getElem?_eq_some_iff.mp a
 obtain⟨h2,e2⟩:=List.getElem?_eq_some_iff.mp b
 exact(List.getElem_inj hN).mp (e1.trans e2.symm)
theorem eA' {M:Model} {A:Around} {E:Value->Shared->Prop} {i:Nat} {x:Str} {v:V} {u:Value} {Q:Unit->Shared->Prop} (I:Inv X pins σ H s) (hN:X.N.Nodup) (hi:X.N[i]?=some x) (hx:Loc X.env.scope x) (r:ao' v u)
  (h:∀s',Inv X pins (σ.set i (some v)) H s'->(∃a,Heap.SameBut a s.heap s'.heap/\(a=X.env.locals\/X.env.cells.lookup x=some a))->Q () s') (hf:X.fn x=true\/X.env.scope.names.lookup x=some .local:=by first|exact .inl rfl|exact .inr rfl|assumption):wpAny M A (storeName X.env x u) Q E s:=by
 obtain⟨m,hn,hl⟩:=id I.loc
 have hcls:(X.env.scope.kind == .class || (X.env.scope.kind == .module&&X.env.locals != X.env.globals))=false:=by rw[I.ok.kind];rfl
 have hiσ:i<σ.length:=by rw[I.len];exact(List.getElem?_eq_some_iff.mp hi).1
 have cne:=I.cne
 have tracked:∀{a:Addr} {h':Heap},(∃o,s.heap.get? a=some o/\H a=none)->Heap.SameBut a s.heap h'->HOk X.prog X.w H h':=fun {a h'} ha hs b ob e=>by
  obtain⟨_,_,hfree⟩:=ha
  refine(I.hok b ob e).stay (fun c w' hc q=>(hs.2 c ?_).trans q) (fun _ q=>q) fun _ _ q=>q
  rintro rfl
  rcases hc with rfl|hc
  .rw[hfree]at e;cases e
  .rw[hfree]at hc;cases hc
 rcases hx with hk|hk
 .refine wpAny_storeName_local hk hn (fun h' hn' hs=>?_) hcls
  obtain⟨oL,_,_,hoL,_⟩:=id hn
  refine h _ ⟨I.ok,I.os,I.bare,⟨fun b o e n hb hx=>?_,fun b o e n hb hx=>?_,I.base.free,fun b o e hx=>?_,I.base.tups,I.base.frzs,I.base.tbls⟩,⟨_,hn',fun j y v' e1 e2 e3=>?_⟩,fun y c e=>?_,I.free,I.freeC,fun p hp=>?_,tracked ⟨oL,hoL,I.free⟩ hs,by simpa using I.len⟩ ⟨_,hs,.inl rfl⟩
  .exact(hs.2 b (Nat.ne_of_lt (Nat.lt_of_lt_of_le (Heap.lt_size e) I.ok.above))).trans (I.base.keep b o e n hb hx)
  .obtain⟨sl,e1⟩:=I.base.slot b o e n hb hx
   exact⟨sl,(hs.2 b (Nat.ne_of_lt (Nat.lt_of_lt_of_le (Heap.lt_size e) I.ok.above))).trans e1⟩
  .obtain⟨o',e1⟩:=I.base.there b o e hx
   exact⟨o',(hs.2 b (Nat.ne_of_lt (Nat.lt_of_lt_of_le (Heap.lt_size e) I.ok.above))).trans e1⟩
  .by_cases hj:j=i
   .subst hj
    rw[hi]at e1;cases e1
    rw[List.getElem?_set_self hiσ]at e2
    cases e2
    exact⟨u,r,.inl ⟨hk,by simp⟩⟩
   .rw[List.getElem?_set_ne (Ne.symm hj)]at e2
    obtain⟨u',r',q⟩:=hl j y v' e1 e2 e3
    refine⟨u',r',?_⟩
    rcases q with⟨k,e⟩|⟨k,c,e,z⟩
    .refine .inl ⟨k,?_⟩
     have:y≠x:=fun e=>hj (dZ' hN e1 (e ▸ hi))
     simp[this,e]
    .exact .inr ⟨k,c,e,z.sameBut hs (cne y c e)⟩
  .obtain⟨w',z⟩:=I.cell y c e
   exact⟨w',z.sameBut hs (cne y c e)⟩
  .obtain⟨e,n,ne,nf,d⟩:=I.pin p hp
   exact⟨(hs.2 p.1 ne).trans e,n,ne,nf,d⟩
 .have hfn:X.fn x=true:=by
   rcases hf with z|z
   .exact z
   .rw[z]at hk;cases hk
  obtain⟨c,hc⟩:=I.ok.has x (.inl hk)
  obtain⟨w',z⟩:=I.cell x c hc
  refine wpAny_storeName_cell I.ok.kind hk hc z (fun h' hc' hs=>?_)
  obtain⟨oc,hoc,hocd⟩:=id z
  refine h { s with heap:=h' } ⟨I.ok,I.os,I.bare,⟨fun b o e n hb hx=>?_,fun b o e n hb hx=>?_,I.base.free,fun b o e hx=>?_,I.base.tups,I.base.frzs,I.base.tbls⟩,⟨m,hn.sameBut hs (Ne.symm (cne x c hc)),fun j y v' e1 e2 e3=>?_⟩,fun y c' e=>?_,I.free,I.freeC,fun p hp=>?_,tracked ⟨oc,hoc,I.freeC x c hc⟩ hs,by simpa using I.len⟩ ⟨c,hs,.inr hc⟩
  .exact(hs.2 b (Nat.ne_of_lt (Nat.lt_of_lt_of_le (Heap.lt_size e) (I.ok.cab x c hfn hc)))).trans (I.base.keep b o e n hb hx)
  .obtain⟨sl,e1⟩:=I.base.slot b o e n hb hx
   exact⟨sl,(hs.2 b (Nat.ne_of_lt (Nat.lt_of_lt_of_le (Heap.lt_size e) (I.ok.cab x c hfn hc)))).trans e1⟩
  .obtain⟨o',e1⟩:=I.base.there b o e hx
   exact⟨o',(hs.2 b (Nat.ne_of_lt (Nat.lt_of_lt_of_le (Heap.lt_size e) (I.ok.cab x c hfn hc)))).trans e1⟩
  .by_cases hj:j=i
   .subst hj
    rw[hi]at e1;cases e1
    rw[List.getElem?_set_self hiσ]at e2
    cases e2
    exact⟨u,r,.inr ⟨.inl hk,c,hc,hc'⟩⟩
   .rw[List.getElem?_set_ne (Ne.symm hj)]at e2
    obtain⟨u',r',q⟩:=hl j y v' e1 e2 e3
    refine⟨u',r',?_⟩
    rcases q with q|⟨k,c',e,z'⟩
    .exact .inl q
    .refine .inr ⟨k,c',e,z'.sameBut hs ?_⟩
     rintro rfl
     exact hj (dZ' hN e1 (I.ok.inj _ _ _ e hc ▸ hi))
  .by_cases hcc:c'=c
   .subst hcc;exact⟨_,hc'⟩
   .obtain⟨w2,z2⟩:=I.cell y c' e
    exact⟨w2,z2.sameBut hs hcc⟩
  .obtain⟨e,n,ne,nf,d⟩:=I.pin p hp
   refine⟨(hs.2 p.1 ?_).trans e,n,ne,nf,d⟩
   intro q
   rw[q,hoc]at e
   have q':oc=p.2:=Option.some.inj e
   exact d w' (by rw[<- q'];exact hocd)
theorem cL' {M:Model} {A:Around} {E:Value->Shared->Prop} {i:Nat} {x:Str} {v:V} {u:Value} {Q:Unit->Shared->Prop} (I:Inv X pins σ H s) (hN:X.N.Nodup) (hi:X.N[i]?=some x) (hx:Loc X.env.scope x) (r:ao' v u)
  (h:∀s',Inv X pins (σ.set i (some v)) H s'->Q () s') (hf:X.fn x=true\/X.env.scope.names.lookup x=some .local:=by first|exact .inl rfl|exact .inr rfl|assumption):wpAny M A (storeName X.env x u) Q E s:=
 eA' I hN hi hx r (fun s' I' _=>h s' I') hf
theorem Inv.call' {s':Shared} {ch:List Addr} (I:Inv X pins σ H s) (ho:s'.os=s.os) (u:Un (frs X.stack) ch H H' s.heap s'.heap) (hok:HOk X.prog X.w H' s'.heap) (hg:AllBare s'.gens)
  (hch:∀b∈ch,(b∈X.ex\/X.s₀.heap.objs.size<=b)/\b≠X.env.locals/\(∀x c,X.env.cells.lookup x=some c->c≠b)/\∀p∈X.pn++pins,p.1≠b):Inv X pins σ H' s':=by
 obtain⟨h',g',d',t',o'⟩:=s'
 have e:o'=s.os:=ho
 subst e
 exact I.call (g':=g') (t':=t') (d':=d') u hok hg hch
end
noncomputable abbrev XK:=Value->Option Addr->Hp->Prop
noncomputable abbrev St:=List (Option V)
noncomputable abbrev VK:=V->Hp->Prop
noncomputable abbrev TE:=St->Hp->VK->Prop
noncomputable abbrev TT:=St->Hp->(Bool->Hp->Prop)->Prop
noncomputable abbrev TA:=St->Hp->(List V->Hp->Prop)->Prop
structure Ends where
 nx:St->Hp->Prop
 rt:VK
 bk:St->Hp->Prop:=fun _ _=>False
 ct:St->Hp->Prop:=fun _ _=>False
noncomputable abbrev TS:=Ends->St->Hp->Prop
def EP (X:Cx) (pins:List (Addr×Obj)) (σ:St) (Q:VK) (u:Value) (s':Shared):Prop:=∃v H',Inv X pins σ H' s'/\ao' v u/\Q v H'
def TP (X:Cx) (pins:List (Addr×Obj)) (σ:St) (Q:Bool->Hp->Prop) (b:Bool) (s':Shared):Prop:=∃H',Inv X pins σ H' s'/\Q b H'
def AP (X:Cx) (pins:List (Addr×Obj)) (σ:St) (Q:List V->Hp->Prop) (us:List Value) (s':Shared):Prop:=∃vs H',Inv X pins σ H' s'/\az' vs us/\Q vs H'
def SP (X:Cx) (pins:List (Addr×Obj)) (D:Ends) (f:Flow) (s':Shared):Prop:=
 match f with
 | .next=>∃σ' H',Inv X pins σ' H' s'/\D.nx σ' H'
 | .brk=>∃σ' H',Inv X pins σ' H' s'/\D.bk σ' H'
 | .cont=>∃σ' H',Inv X pins σ' H' s'/\D.ct σ' H'
 | .ret u=>∃v σ' H',Inv X pins σ' H' s'/\ao' v u/\D.rt v H'
def PE (X:Cx) (e:Expr) (t:TE):Prop:=
 ∀(pins:List (Addr×Obj)) (s:Shared) (σ:St) (H:Hp) (Q:VK),Inv X pins σ H s->t σ H Q->wpAny (model X.prog X.w) X.A (eval e X.env) (EP X pins σ Q) X.xe s
def PT (X:Cx) (e:Expr) (t:TT):Prop:=
 ∀(pins:List (Addr×Obj)) (s:Shared) (σ:St) (H:Hp) (Q:Bool->Hp->Prop),Inv X pins σ H s->t σ H Q->wpAny (model X.prog X.w) X.A (isTrue e X.env (eval e X.env)) (TP X pins σ Q) X.xe s
def PW (X:Cx) (e:Expr) (t:TT):Prop:=
 ∀(whole:Sem Value) (pins:List (Addr×Obj)) (s:Shared) (σ:St) (H:Hp) (Q:Bool->Hp->Prop),Inv X pins σ H s->t σ H Q->wpAny (model X.prog X.w) X.A (isTrue e X.env whole) (TP X pins σ Q) X.xe s
theorem PW.pt {X:Cx} {e:Expr} {t:TT} (h:PW X e t):PT X e t:=h _
def PA (X:Cx) (es:List Expr) (t:TA):Prop:=
 ∀(pos:Pos) (pins:List (Addr×Obj)) (s:Shared) (σ:St) (H:Hp) (Q:List V->Hp->Prop),Inv X pins σ H s->t σ H Q->wpAny (model X.prog X.w) X.A (spliced (backTo pos (starEach es X.env))) (AP X pins σ Q) X.xe s
def PS (X:Cx) (st:Stmt) (t:TS):Prop:=
 ∀(pins:List (Addr×Obj)) (s:Shared) (σ:St) (H:Hp) (D:Ends),Inv X pins σ H s->t D σ H->wpAny (model X.prog X.w) X.A (exec st X.env) (SP X pins D) X.xe s
def PSs (X:Cx) (st:List Stmt) (t:TS):Prop:=
 ∀(pins:List (Addr×Obj)) (s:Shared) (σ:St) (H:Hp) (D:Ends),Inv X pins σ H s->t D σ H->wpAny (model X.prog X.w) X.A (execs st X.env) (SP X pins D) X.xe s
theorem thn {α:Type} {t:Sem α} {Q Q':α->Shared->Prop} {M:Model} {A:Around} {E:Value->Shared->Prop} {s:Shared} (h:wpAny M A t Q E s) (hQ:∀a s,Q a s->Q' a s):wpAny M A t Q' E s:=wpAny_mono h hQ fun _ _ x=>x
section
variable {X:Cx}
theorem bin {a b:Expr} {ta tb:TE} (ha:PE X a ta) (hb:PE X b tb) {pins:List (Addr×Obj)} {s:Shared} {σ:St} {H:Hp} {R:V->V->Hp->Prop} (I:Inv X pins σ H s) (h:ta σ H fun x H1=>tb σ H1 fun y H2=>R x y H2)
  {α:Type} {Q:α->Shared->Prop} {f:Value->Value->Sem α}
  (hf:∀v u s2 x y H2,Inv X pins σ H2 s2->ao' x v->ao' y u->R x y H2->wpAny (model X.prog X.w) X.A (f v u) Q X.xe s2):
  wpAny (model X.prog X.w) X.A (eval a X.env) (fun v s₁=>wpAny (model X.prog X.w) X.A (eval b X.env) (fun u s₂=>wpAny (model X.prog X.w) X.A (f v u) Q X.xe s₂) X.xe s₁) X.xe s:=by
 refine thn (ha pins s σ H _ I h) fun v s1 ⟨x,H1,I1,r1,q1⟩=>?_
 refine thn (hb pins s1 σ H1 _ I1 q1) fun u s2 ⟨y,H2,I2,r2,q2⟩=>?_
 exact hf v u s2 x y H2 I2 r1 r2 q2
noncomputable def tA' (i:Nat):TE:=fun σ H Q=>∃v,σ[i]?=some (some v)/\Q v H
noncomputable def tC (v:V):TE:=fun _ H Q=>Q v H
theorem l9' {i:Nat} {x:Str} {pos:Pos} (hN:X.N[i]?=some x) (hv:Vis X.env.scope x) (hd:(x == ("__debug__":Str))=false:=by decide) (hcd:(x == ("__classdict__":Str))=false:=by decide):PE X (.Name x pos) (tA' i):=by
 intro pins s σ H Q I h
 obtain⟨v,e,h⟩:=h
 obtain⟨m,hn,hl⟩:=I.loc
 obtain⟨u,r,l⟩:=hl i x v hN e hv
 have fin:EP X pins σ Q u s:=⟨v,H,I,r,h⟩
 rcases l with⟨hk,hm⟩|⟨hk,c,hc,hcell⟩
 .exact wpAny_Name (wpAny_loadName_local I.ok.kind hk hn hm fin) hd
 .rcases hk with hk|hk
  .exact wpAny_Name (wpAny_loadName_cell I.ok.kind hk hc hcell fin) hd
  .exact wpAny_Name (wpAny_loadName_free I.ok.kind hk hc hcell fin hcd) hd
theorem p7' {i j pos}:PE X (.Constant (.int i) j pos) (tC (.int i)):=fun _ _ _ H _ I h=>wpAny_Constant_int ⟨.int i,H,I.tok _,⟨_,rfl⟩,h⟩
theorem tY' {b j pos}:PE X (.Constant (.bool b) j pos) (tC (.bl b)):=fun _ _ _ H _ I h=>Constant_bool ⟨.bl b,H,I,rfl,h⟩
theorem p8' {j pos}:PE X (.Constant .none j pos) (tC .non):=fun _ _ _ H _ I h=>Constant_none ⟨.non,H,I,rfl,h⟩
theorem p9' {x j pos}:PE X (.Constant (.str x) j pos) (tC (.str x)):=fun _ _ _ H _ I h=>Calls.Constant_str ⟨.str x,H,I.tok _,⟨_,rfl⟩,h⟩
def Gl (X:Cx) (x:Str):Prop:=X.env.kindOf x=some .globalImplicit
theorem nZ' {E:Value->Shared->Prop} {pins:List (Addr×Obj)} {s:Shared} {σ:St} {H:Hp} {x:Str} {u:Value} {pos:Pos} {Q:Value->Shared->Prop} (I:Inv X pins σ H s) (hg:Gl X x) (hm:X.mg x=some u) (h:Q u s)
  (hd:(x == ("__debug__":Str))=false:=by decide):wpAny (model X.prog X.w) X.A (eval (.Name x pos) X.env) Q E s:=
 Calls.Name_function_global I.ok.kind hg (Calls.loadGlobal_global (by rw[I.ok.glob];exact I.mod.glob.keeps I.bk) hm h) hd
theorem dE' {E:Value->Shared->Prop} {pins:List (Addr×Obj)} {s:Shared} {σ:St} {H:Hp} {x:Str} {u:Value} {pos:Pos} {Q:Value->Shared->Prop} (I:Inv X pins σ H s) (hg:Gl X x) (hm:X.mg x=none) (hv:bootBuiltins x=some u) (h:Q u s)
  (hn:x≠"__name__":=by decide) (hd:(x == ("__debug__":Str))=false:=by decide):wpAny (model X.prog X.w) X.A (eval (.Name x pos) X.env) Q E s:=by
 obtain⟨mb,h1,h2⟩:=I.mod.blt
 exact Calls.Name_function_global I.ok.kind hg (Calls.loadGlobal_builtin (by rw[I.ok.glob];exact I.mod.glob.keeps I.bk) hm (by rw[I.ok.blt];exact h1.keeps I.bk) ((h2 x hn).trans hv) h) hd
theorem n0' {x:Str} {v:V} {u:Value} {pos:Pos} (hg:Gl X x) (hm:X.mg x=none) (hv:bootBuiltins x=some u) (r:ao' v u) (hn:x≠"__name__":=by decide) (hd:(x == ("__debug__":Str))=false:=by decide):PE X (.Name x pos) (tC v):=
 fun _ _ _ H _ I h=>dE' I hg hm hv ⟨v,H,I,r,h⟩ hn hd
variable {a b:Expr} {ta tb:TE} {pos:Pos}
def PC (X:Cx) (op:CmpOp) (a b:Expr) (t:TE):Prop:=
 ∀(pins:List (Addr×Obj)) (s:Shared) (σ:St) (H:Hp) (Q:VK),Inv X pins σ H s->t σ H Q->
  wpAny (model X.prog X.w) X.A (eval a X.env) (fun v s₁=>wpAny (model X.prog X.w) X.A (eval b X.env) (fun u s₂=>wpAny (model X.prog X.w) X.A (compareOp op v u) (EP X pins σ Q) X.xe s₂) X.xe s₁) X.xe s
noncomputable def tB (t:TE):TT:=fun σ H Q=>t σ H fun x H1=>∃c,x=.bl c/\Q c H1
theorem ma' {op:CmpOp} {t:TE} (h:PC X op a b t) (h1:behindInMarks op b=false:=by rfl):PE X (.Compare a [op] [b] pos) t:=fun pins s σ H Q I hw=>wpAny_Compare1 (h pins s σ H Q I hw) h1
theorem mb' {op:CmpOp} {t:TE} (h:PC X op a b t) (h1:behindInMarks op b=false:=by rfl):PT X (.Compare a [op] [b] pos) (tB t):=by
 intro pins s σ H Q I hw
 refine wpAny_isTrue_Compare1 (thn (h pins s σ H _ I hw) fun v s1 h1=>thn h1 fun u s2 h2=>thn h2 fun c s3 ⟨x,H1,I1,r1,q1⟩=>?_) h1
 obtain⟨d,rfl,q⟩:=q1
 cases r1
 exact wpAny_truthy_bool ⟨H1,I1,q⟩
variable {tA tB':TT} {au':List Expr}
noncomputable def qa' (t u:TT):TT:=fun σ H Q=>t σ H fun c H1=>if c=true then u σ H1 Q else Q false H1
noncomputable def tOr (t u:TT):TT:=fun σ H Q=>t σ H fun c H1=>if c=true then Q true H1 else u σ H1 Q
noncomputable def tZ' (t:TT):TT:=fun σ H Q=>t σ H fun c H1=>Q (!c) H1
theorem n1' (ha:PT X a tA):PW X (.BoolOp .And [a] pos) tA:=by
 intro wh pins s σ H Q I h
 refine isTrue_and (thn (ha pins s σ H Q I h) fun c s1 e=>?_)
 cases c with
 |true=>exact isTrue_and_nil e
 |false=>exact e
theorem qb' (ha:PT X a tA):PW X (.BoolOp .Or [a] pos) tA:=by
 intro wh pins s σ H Q I h
 refine isTrue_or (thn (ha pins s σ H Q I h) fun c s1 e=>?_)
 cases c with
 |false=>exact isTrue_or_nil e
 |true=>exact e
theorem mc' (ha:PT X a tA) (hb:PW X (.BoolOp .And (b :: au') pos) tB'):PW X (.BoolOp .And (a :: b :: au') pos) (qa' tA tB'):=by
 intro wh pins s σ H Q I h
 refine isTrue_and (thn (ha pins s σ H _ I h) fun c s1 ⟨H1,I1,q1⟩=>?_)
 cases c with
 |true=>exact hb wh pins s1 σ H1 Q I1 q1
 |false=>exact⟨H1,I1,q1⟩
theorem qc' (ha:PT X a tA) (hb:PW X (.BoolOp .Or (b :: au') pos) tB'):PW X (.BoolOp .Or (a :: b :: au') pos) (tOr tA tB'):=by
 intro wh pins s σ H Q I h
 refine isTrue_or (thn (ha pins s σ H _ I h) fun c s1 ⟨H1,I1,q1⟩=>?_)
 cases c with
 |true=>exact⟨H1,I1,q1⟩
 |false=>exact hb wh pins s1 σ H1 Q I1 q1
theorem qd' (ha:PT X a tA):PT X (.UnaryOp .Not a pos) (tZ' tA):=by
 intro pins s σ H Q I h
 exact isTrue_not (ha pins s σ H (fun c H1=>Q (!c) H1) I h)
noncomputable def kG' (ta tb:TE):TE:=fun σ H Q=>ta σ H fun x H1=>∃c,x=.bl c/\if c=true then tb σ H1 Q else Q (.bl false) H1
noncomputable def tC' (ta tb:TE):TE:=fun σ H Q=>ta σ H fun x H1=>∃c,x=.bl c/\if c=true then Q (.bl true) H1 else tb σ H1 Q
noncomputable def n2' (ta:TE):TE:=fun σ H Q=>ta σ H fun x H1=>∃c,x=.bl c/\Q (.bl (!c)) H1
theorem md' {op} {t:TE} (h:PE X a t):PE X (.BoolOp op [a] pos) t:=fun pins s σ H Q I hw=>BoolOp_one (h pins s σ H Q I hw)
theorem me' (ha:PE X a ta) (hb:PE X (.BoolOp .And (b :: au') pos) tb):PE X (.BoolOp .And (a :: b :: au') pos) (kG' ta tb):=by
 intro pins s σ H Q I h
 refine BoolOp_and (thn (ha pins s σ H _ I h) fun v s1 ⟨x,H1,I1,r1,q1⟩=>?_)
 obtain⟨c,rfl,q1⟩:=q1
 cases r1
 refine wpAny_truthy_bool ?_
 cases c with
 |true=>exact hb pins s1 σ H1 Q I1 q1
 |false=>exact⟨.bl false,H1,I1,rfl,q1⟩
theorem qe' (ha:PE X a ta) (hb:PE X (.BoolOp .Or (b :: au') pos) tb):PE X (.BoolOp .Or (a :: b :: au') pos) (tC' ta tb):=by
 intro pins s σ H Q I h
 refine BoolOp_or (thn (ha pins s σ H _ I h) fun v s1 ⟨x,H1,I1,r1,q1⟩=>?_)
 obtain⟨c,rfl,q1⟩:=q1
 cases r1
 refine wpAny_truthy_bool ?_
 cases c with
 |false=>exact hb pins s1 σ H1 Q I1 q1
 |true=>exact⟨.bl true,H1,I1,rfl,q1⟩
theorem qf' (ha:PE X a ta):PE X (.UnaryOp .Not a pos) (n2' ta):=by
 intro pins s σ H Q I h
 refine UnaryOp_ (thn (ha pins s σ H _ I h) fun v s1 ⟨x,H1,I1,r1,q1⟩=>?_)
 obtain⟨c,rfl,q1⟩:=q1
 cases r1
 exact not_of (wpAny_truthy_bool ⟨.bl (!c),H1,I1,rfl,q1⟩)
noncomputable def tIf (t:TT) (ta tb:TE):TE:=fun σ H Q=>t σ H fun c H1=>if c=true then ta σ H1 Q else tb σ H1 Q
theorem kH' {c:Expr} (hc:PT X c tA) (ha:PE X a ta) (hb:PE X b tb):PE X (.IfExp c a b pos) (tIf tA ta tb):=by
 intro pins s σ H Q I h
 refine wpAny_IfExp (thn (hc pins s σ H _ I h) fun d s1 ⟨H1,I1,q1⟩=>?_)
 cases d with
 |true=>exact ha pins s1 σ H1 Q I1 q1
 |false=>exact hb pins s1 σ H1 Q I1 q1
end
def SqL (K:W.Frag) (H:Hp) (a:Addr) (xs:List V):Prop:=
 Rd H a (.lst xs)\/
  ∃(o:Obj) (its:Array Value) (n:Nat),K.lookup a=some o/\o.cls=.type "list"/\o.dict=none/\o.data=.seq its n/\its.size<=sizeLine/\az' xs its.toList
def SqT (K:W.Frag) (H:Hp) (a:Addr) (xs:List V):Prop:=
 Rd H a (.tup xs)\/
  ∃(o:Obj) (its:Array Value) (n:Nat),K.lookup a=some o/\o.cls=.type "tuple"/\o.data=.seq its n/\its.size<=sizeLine/\az' xs its.toList
noncomputable def wu':Value->Option V
 | .none=>some .non
 | .bool b=>some (.bl b)
 | .int i _=>some (.int i)
 | .str x _=>some (.str x)
 | .bytes b _=>some (.byt b)
 | .float b _=>some (.flt b)
 | .ref a=>some (.ref a)
 | .type n=>some (.ty n)
 |_=>none
theorem ao'.abs {x:V} {u:Value} (r:ao' x u):wu' u=some x:=by
 cases x with
 |non=>cases r;rfl
 |bl _=>cases r;rfl
 |int _=>obtain⟨t,rfl⟩:=r;rfl
 |str _=>obtain⟨t,rfl⟩:=r;rfl
 |byt _=>obtain⟨t,rfl⟩:=r;rfl
 |flt _=>obtain⟨t,rfl⟩:=r;rfl
 |ref _=>cases r;rfl
 |ty _=>cases r;rfl
theorem ao'.inj {x y:V} {u:Value} (r:ao' x u) (q:ao' y u):x=y:=Option.some.inj (r.abs.symm.trans q.abs)
theorem az'.inj:∀{xs ys:List V} {us:List Value},az' xs us->az' ys us->xs=ys
 |_,_,_,.nil,.nil=>rfl
 |_,_,_,.cons r t,.cons r' t'=>by rw[r.inj r',az'.inj t t']
section
variable {X:Cx} {pins:List (Addr×Obj)} {σ:St} {H:Hp} {s:Shared} {a:Addr} {xs ys:List V}
theorem SqL.of {K:W.Frag} (h:H a=some (.lst xs)):SqL K H a xs:=.inl (.inl h)
theorem SqT.of {K:W.Frag} (h:H a=some (.tup xs)):SqT K H a xs:=.inl (.inl h)
theorem Inv.list (I:Inv X pins σ H s) (h:SqL X.K H a xs):∃its:List Value,az' xs its/\PlainL s.heap a its.toArray/\xs.length<=sizeLine:=by
 rcases h with h|⟨o,its,n,hk,hc,hd,hs,hz,r⟩
 .obtain⟨z,its,n,r,e⟩:=h.ok I.hok
  exact⟨its,r,⟨_,n,e,rfl,rfl,rfl⟩,z⟩
 .refine⟨its.toList,r,⟨o,n,I.kIn a o hk,hc,hd,by simpa using hs⟩,?_⟩
  have e:=r.length
  simp only[Array.length_toList]at e
  omega
theorem Inv.tuple (I:Inv X pins σ H s) (h:SqT X.K H a xs):∃its:List Value,az' xs its/\IsTup s.heap a its.toArray/\xs.length<=sizeLine:=by
 rcases h with h|⟨o,its,n,hk,hc,hs,hz,r⟩
 .obtain⟨z,its,r,p⟩:=h.ok I.hok
  exact⟨its,r,p.tup,z⟩
 .refine⟨its.toList,r,⟨o,I.kIn a o hk,hc,n,by simpa using hs⟩,?_⟩
  have e:=r.length
  simp only[Array.length_toList]at e
  omega
theorem Inv.list_inj (I:Inv X pins σ H s) (h:SqL X.K H a xs) (h':SqL X.K H a ys):xs=ys:=by
 obtain⟨its,r,⟨o,n,e,_,_,d⟩,_⟩:=I.list h
 obtain⟨its',r',⟨o',n',e',_,_,d'⟩,_⟩:=I.list h'
 rw[e]at e';cases e'
 rw[d]at d'
 injection d' with d1 _
 have:its=its':=by simpa using congrArg Array.toList d1
 subst this
 exact r.inj r'
theorem Inv.tuple_inj (I:Inv X pins σ H s) (h:SqT X.K H a xs) (h':SqT X.K H a ys):xs=ys:=by
 obtain⟨its,r,⟨o,e,_,n,d⟩,_⟩:=I.tuple h
 obtain⟨its',r',⟨o',e',_,n',d'⟩,_⟩:=I.tuple h'
 rw[e]at e';cases e'
 rw[d]at d'
 injection d' with d1 _
 have:its=its':=by simpa using congrArg Array.toList d1
 subst this
 exact r.inj r'
end
noncomputable abbrev Cx.wish (X:Cx) (E:Value->Shared->Prop):Cx:={ X with xe:=E }
noncomputable abbrev Cx.nox (X:Cx):Cx:=X.wish fun _ _=>False
theorem Cx.Ok.wish {X:Cx} (ok:X.Ok) (E:Value->Shared->Prop):(X.wish E).Ok:=
 ⟨ok.mod,ok.kind,ok.glob,ok.blt,ok.above,ok.inj,ok.has,ok.cab,ok.hd,ok.frames,ok.stk,ok.exf,ok.bs,ok.bsz,ok.noex,ok.exfs,ok.funs,ok.frf⟩
theorem Cx.Ok.unwish {X:Cx} {E:Value->Shared->Prop} (ok:(X.wish E).Ok):X.Ok:=
 ⟨ok.mod,ok.kind,ok.glob,ok.blt,ok.above,ok.inj,ok.has,ok.cab,ok.hd,ok.frames,ok.stk,ok.exf,ok.bs,ok.bsz,ok.noex,ok.exfs,ok.funs,ok.frf⟩
section
variable {X:Cx} {pins:List (Addr×Obj)} {σ:St} {H:Hp} {s:Shared} {E:Value->Shared->Prop}
theorem Inv.wish (I:Inv X pins σ H s) (E:Value->Shared->Prop):Inv (X.wish E) pins σ H s:=⟨I.ok.wish E,I.os,I.bare,I.base,I.loc,I.cell,I.free,I.freeC,I.pin,I.hok,I.len⟩
theorem Inv.unwish (I:Inv (X.wish E) pins σ H s):Inv X pins σ H s:=⟨I.ok.unwish,I.os,I.bare,I.base,I.loc,I.cell,I.free,I.freeC,I.pin,I.hok,I.len⟩
theorem SP.unwish {D:Ends} {f:Flow} {s':Shared} (h:SP (X.wish E) pins D f s'):SP X pins D f s':=by
 cases f with
 |next=>obtain⟨σ',H',I,q⟩:=h;exact⟨σ',H',I.unwish,q⟩
 |brk=>obtain⟨σ',H',I,q⟩:=h;exact⟨σ',H',I.unwish,q⟩
 |cont=>obtain⟨σ',H',I,q⟩:=h;exact⟨σ',H',I.unwish,q⟩
 |ret u=>obtain⟨v,σ',H',I,r,q⟩:=h;exact⟨v,σ',H',I.unwish,r,q⟩
theorem PSs.nox {st:List Stmt} {t:TS} (h:PSs X.nox st t):PSs X st t:=fun pins s σ H D I hw=>
 wpAny_mono (h pins s σ H D (I.wish _) hw) (fun _ _ q=>q.unwish) fun _ _ z=>False.elim z
end
section
variable {X:Cx} {st:Stmt} {au':List Stmt} {t u:TS} {e:Expr} {te:TE} {pos:Pos}
noncomputable def n3':TS:=fun D σ H=>D.nx σ H
noncomputable def t0' (t u:TS):TS:=fun D σ H=>t { D with nx:=u D } σ H
theorem n4':PSs X [] n3':=fun _ _ σ H _ I h=>wpAny_execs_nil ⟨σ,H,I,h⟩
theorem kI' (h1:PS X st t) (h2:PSs X au' u):PSs X (st :: au') (t0' t u):=by
 intro pins s σ H D I h
 refine wpAny_execs_cons (thn (h1 pins s σ H { D with nx:=u D } I h) fun f s1 q=>?_)
 cases f with
 |next=>
  obtain⟨σ',H',I',q⟩:=q
  exact h2 pins s1 σ' H' D I' q
 |ret v=>exact q
 |brk=>exact q
 |cont=>exact q
theorem Inv.quiet {pins:List (Addr×Obj)} {σ:St} {H:Hp} {s:Shared} (I:Inv X pins σ H s):interactive X.env=false:=by simp[interactive,I.ok.kind]
noncomputable def n5' (te:TE):TS:=fun D σ H=>te σ H fun _ H1=>D.nx σ H1
theorem n6' (he:PE X e te) (hs:swapsWith e none pos.line X.env=pure false:=by rfl):PS X (.Expr e pos) (n5' te):=by
 intro pins s σ H D I h
 exact wpAny_Expr_any (thn (he pins s σ H _ I h) fun v s1 ⟨x,H1,I1,r1,q1⟩=>⟨σ,H1,I1,q1⟩) I.quiet hs
noncomputable def t1' (te:TE):TS:=fun D σ H=>te σ H D.rt
theorem qg' (he:PE X e te):PS X (.Return (some e) pos) (t1' te):=by
 intro pins s σ H D I h
 exact wpAny_Return_some (thn (he pins s σ H _ I h) fun v s1 ⟨x,H1,I1,r1,q1⟩=>⟨x,σ,H1,I1,r1,q1⟩)
noncomputable def t2' (c:TT) (t u:TS):TS:=fun D σ H=>c σ H fun b H1=>if b=true then t D σ H1 else u D σ H1
theorem t3' {c:Expr} {a b:List Stmt} {tc:TT} (hc:PT X c tc) (ha:PSs X a t) (hb:PSs X b u):PS X (.If c a b pos) (t2' tc t u):=by
 intro pins s σ H D I h
 refine wpAny_If (thn (hc pins s σ H _ I h) fun d s1 ⟨H1,I1,q1⟩=>?_)
 cases d with
 |true=>exact ha pins s1 σ H1 D I1 q1
 |false=>exact hb pins s1 σ H1 D I1 q1
end
noncomputable abbrev TG:=V->St->Hp->(St->Hp->Prop)->Prop
noncomputable abbrev TGs:=List V->St->Hp->(St->Hp->Prop)->Prop
def PG (X:Cx) (target:Expr) (t:TG):Prop:=
 ∀(pins:List (Addr×Obj)) (s:Shared) (σ:St) (H:Hp) (v:V) (u:Value) (Q:St->Hp->Prop),Inv X pins σ H s->ao' v u->t v σ H Q->
  wpAny (model X.prog X.w) X.A (assign target X.env u) (fun _ s'=>∃σ' H',Inv X pins σ' H' s'/\Q σ' H') X.xe s
def PGs (X:Cx) (ts:List Expr) (t:TGs):Prop:=
 ∀(pins:List (Addr×Obj)) (s:Shared) (σ:St) (H:Hp) (vs:List V) (us:List Value) (Q:St->Hp->Prop),Inv X pins σ H s->az' vs us->t vs σ H Q->
  wpAny (model X.prog X.w) X.A (assignInOrder ((assignEach ts X.env).map (·.2)) us) (fun _ s'=>∃σ' H',Inv X pins σ' H' s'/\Q σ' H') X.xe s
noncomputable abbrev t4':=V->V->V->Hp->(Hp->Prop)->Prop
def vH' (X:Cx) (t:t4'):Prop:=
 ∀(pins:List (Addr×Obj)) (s:Shared) (σ:St) (H:Hp) (o i v:V) (ov iv u:Value) (Q:Hp->Prop),Inv X pins σ H s->ao' o ov->ao' i iv->ao' v u->t o i v H Q->
  wpAny (model X.prog X.w) X.A (setItem ov iv u) (fun _ s'=>∃H',Inv X pins σ H' s'/\Q H') X.xe s
noncomputable abbrev TIp:=V->V->Hp->VK->Prop
def PIp (X:Cx) (op:Operator) (t:TIp):Prop:=
 ∀(pins:List (Addr×Obj)) (s:Shared) (σ:St) (H:Hp) (x y:V) (v u:Value) (Q:VK),Inv X pins σ H s->ao' x v->ao' y u->t x y H Q->
  wpAny (model X.prog X.w) X.A (inplaceOp op v u) (EP X pins σ Q) X.xe s
section
variable {X:Cx} {pos:Pos}
noncomputable def h9' (i:Nat):TG:=fun v σ H Q=>Q (σ.set i (some v)) H
theorem n7' {i:Nat} {x:Str} (hN:X.N.Nodup) (hi:X.N[i]?=some x) (hx:Loc X.env.scope x) (hf:X.fn x=true\/X.env.scope.names.lookup x=some .local:=by first|exact .inl rfl|exact .inr rfl|assumption):PG X (.Name x pos) (h9' i):=by
 intro pins s σ H v u Q I r h
 exact wpAny_assign_Name (cL' I hN hi hx r (fun s' I'=>⟨_,H,I',h⟩) hf)
noncomputable def t5':TGs:=fun vs σ H Q=>vs=[]/\Q σ H
noncomputable def n8' (t:TG) (u:TGs):TGs:=fun vs σ H Q=>∃v r,vs=v :: r/\t v σ H fun σ' H'=>u r σ' H' Q
theorem n9':PGs X [] t5':=by
 intro pins s σ H vs us Q I r h
 obtain⟨e,h⟩:=h
 subst e
 cases r
 exact assignInOrder_nil ⟨σ,H,I,h⟩
theorem kJ' {e:Expr} {es:List Expr} {t:TG} {u:TGs} (h1:PG X e t) (h2:PGs X es u)
  (hs:(assignEach (e :: es) X.env).map (·.2)=assign e X.env :: (assignEach es X.env).map (·.2):=by rfl):PGs X (e :: es) (n8' t u):=by
 intro pins s σ H vs us Q I r h
 obtain⟨v,vr,e1,h⟩:=h
 subst e1
 cases r with
 |cons r rr=>
  rw[hs]
  refine assignInOrder_cons (thn (h1 pins s σ H _ _ _ I r h) fun _ s1 ⟨σ1,H1,I1,q1⟩=>?_)
  exact h2 pins s1 σ1 H1 _ _ Q I1 rr q1
noncomputable def wv' (K:W.Frag) (n:Nat) (t:TGs):TG:=fun v σ H Q=>∃a xs,v=.ref a/\SqT K H a xs/\xs.length=n/\t xs σ H Q
theorem qh' {es:List Expr} {k:Nat} {t:TGs} {n:Nat} (hc:X.calm=true) (h:PGs X es t)
  (hn:(assignEach es X.env).length=n:=by rfl) (hst:(assignEach es X.env).findIdx? (·.1)=none:=by rfl):PG X (.Tuple es k pos) (wv' X.K n t):=by
 intro pins s σ H v u Q I r hw
 obtain⟨a,xs,e1,hq,hl,hw⟩:=hw
 subst e1
 cases r
 obtain⟨its,rv,ht,hz⟩:=I.tuple hq
 refine assign_Tuple_tuple (I.ok.hd hc) ht (by simp[hn,<- hl,rv.length]) hst fun h' hx=>?_
 have I1:Inv X pins σ H { s with heap:=h' }:=I.kept (t':=s.toks) fun b o e=>hx b o (Nat.ne_of_lt (Heap.lt_size e)) e
 exact h pins _ σ H xs _ Q I1 (by simpa using rv) hw
noncomputable def t6' (to ti:TE) (t:t4'):TG:=fun v σ H Q=>to σ H fun o H1=>ti σ H1 fun i H2=>t o i v H2 fun H3=>Q σ H3
theorem qi' {o i:Expr} {to ti:TE} {t:t4'} (ho:PE X o to) (hi:PE X i ti) (hs:vH' X t)
  (ha:∀v,assign (.Subscript o i pos) X.env v=(do
   let ov <- holding [v] (eval o X.env)
   let iv <- holding [v,ov] (eval i X.env)
   standAt pos
   holding [v,ov,iv] (setItem ov iv v)
   release [v,ov,iv] []):=by intro _;rfl):PG X (.Subscript o i pos) (t6' to ti t):=by
 intro pins s σ H v u Q I r h
 rw[ha]
 refine wpAny_bind (wpAny_holding (thn (ho pins s σ H _ I h) fun ov s1 ⟨x,H1,I1,r1,q1⟩=>?_))
 refine wpAny_bind (wpAny_holding (thn (hi pins s1 σ H1 _ I1 q1) fun iv s2 ⟨y,H2,I2,r2,q2⟩=>?_))
 refine wpAny_bind (wpAny_standAt (wpAny_bind (wpAny_holding (thn (hs pins s2 σ H2 x y v ov iv u _ I2 r1 r2 r q2) fun _ s3 ⟨H3,I3,q3⟩=>?_))))
 exact wpAny_release ⟨σ,H3,I3,q3⟩
noncomputable def tD' (te:TE) (g:TG):TS:=fun D σ H=>te σ H fun x H1=>g x σ H1 D.nx
theorem ia' {tg e:Expr} {te:TE} {g:TG} (he:PE X e te) (hg:PG X tg g) (hs:swapsWithSole [tg] e pos.line X.env=pure false:=by rfl) (hw:swappedStores [tg] e X.env=pure none:=by rfl)
  (h1:(assignEach [tg] X.env).map (·.2)=[assign tg X.env]:=by rfl):PS X (.Assign [tg] e pos) (tD' te g):=by
 intro pins s σ H D I h
 refine wpAny_Assign_stores (thn (he pins s σ H _ I h) fun v s1 ⟨x,H1,I1,r1,q1⟩=>?_) hs hw
 rw[h1]
 exact thn (hg pins s1 σ H1 x v _ I1 r1 q1) fun _ s2 q=>q
noncomputable def t7' (i j:Nat) (ta:TA):TS:=fun D σ H=>ta σ H fun vs H1=>∃v w,vs=[v,w]/\D.nx ((σ.set i (some v)).set j (some w)) H1
theorem qj' {i j:Nat} {x y:Str} {a b:Expr} {ta:TA} {px py pt:Pos} {kt k2 pt2} (hc:X.calm=true) (hN:X.N.Nodup) (hi:X.N[i]?=some x) (hj:X.N[j]?=some y) (hij:i≠j)
  (hx:X.env.scope.names.lookup x=some .local) (hy:X.env.scope.names.lookup y=some .local) (ha:PA X [a,b] ta)
  (hw:swappedStores [.Tuple [.Name x px,.Name y py] kt pt] (.Tuple [a,b] k2 pt2) X.env=pure (some [x,y]))
  (hs:swapsWithSole [.Tuple [.Name x px,.Name y py] kt pt] (.Tuple [a,b] k2 pt2) pos.line X.env=pure false:=by rfl):
  PS X (.Assign [.Tuple [.Name x px,.Name y py] kt pt] (.Tuple [a,b] k2 pt2) pos) (t7' i j ta):=by
 intro pins s σ H D I h
 rw[exec_Assign_arm]
 refine wpAny_bind (wpAny_standAt ?_)
 rw[hs]
 refine wpAny_bind (wpAny_pure ?_)
 rw[if_neg (by decide)]
 refine wpAny_bind (Tuple_ (thn (ha _ pins s σ H _ I h) fun us s1 ⟨vs,H1,I1,r1,q1⟩=>?_))
 obtain⟨v,w,e1,q1⟩:=q1
 subst e1
 obtain⟨u1,u2,rfl,rv,rw'⟩:∃u1 u2,us=[u1,u2]/\ao' v u1/\ao' w u2:=by
  cases r1 with
  |cons p q=>
   cases q with
   |cons p' q'=>
    cases q'
    exact⟨_,_,rfl,p,p'⟩
 refine wpAny_newObj_type ?_ (by show 2<=sizeLine;decide)
 have I2:Inv X pins σ H1 { s1 with heap:=s1.heap.push { cls:=.type "tuple",data:=.seq [u1,u2].toArray } }:=I1.kept (t':=s1.toks) fun b o e=>Heap.get?_push_of_some _ e
 rw[hw]
 refine wpAny_bind (wpAny_pure ?_)
 show wpAny (model X.prog X.w) X.A (do rule "assign.swapped-stores";let items <- unpackItems (.ref s1.heap.objs.size) 2 none;assignInOrder [fun v=>bindName X.env y v,fun v=>bindName X.env x v] items.reverse;pure Flow.next) _ _ _
 refine wpAny_bind (wpAny_rule (wpAny_bind (unpackItems_tuple (items:=#[u1,u2]) (I.ok.hd hc) (IsTup.new s1.heap _) fun h' hx'=>?_)))
 have I3:=I2.kept (h':=h') (t':=s1.toks) fun b o e=>hx' b o (Nat.ne_of_lt (Heap.lt_size e)) e
 show wpAny _ _ (assignInOrder [fun v=>bindName X.env y v,fun v=>bindName X.env x v] [u2,u1] >>= fun _=>pure Flow.next) _ _ _
 refine wpAny_bind (assignInOrder_cons (wpAny_bindName (cL' I3 hN hj (.inl hy) rw' (fun s2 I4=>?_) (.inr hy))))
 refine assignInOrder_cons (wpAny_bindName (cL' I4 hN hi (.inl hx) rv (fun s3 I5=>assignInOrder_nil (wpAny_pure ?_)) (.inr hx)))
 rw[List.set_comm _ _ (Ne.symm hij)]at I5
 exact⟨_,H1,I5,q1⟩
noncomputable def t8' (i:Nat) (te:TE) (ti:TIp):TS:=fun D σ H=>∃x,σ[i]?=some (some x)/\te σ H fun y H1=>ti x y H1 fun z H2=>D.nx (σ.set i (some z)) H2
theorem mf' {i:Nat} {x:Str} {e:Expr} {te:TE} {op:Operator} {ti:TIp} {pos':Pos} (hN:X.N.Nodup) (hi:X.N[i]?=some x) (hx:Loc X.env.scope x) (he:PE X e te) (ho:PIp X op ti) (hf:X.fn x=true\/X.env.scope.names.lookup x=some .local:=by first|exact .inl rfl|exact .inr rfl|assumption):
  PS X (.AugAssign (.Name x pos') op e pos) (t8' i te ti):=by
 intro pins s σ H D I h
 obtain⟨v,e1,h⟩:=h
 obtain⟨m,hn,hl⟩:=I.loc
 have vis:Vis X.env.scope x:=by rcases hx with k|k;exact .inl k;exact .inr (.inl k)
 obtain⟨u,r,l⟩:=hl i x v hi e1 vis
 refine wpAny_AugAssign_Name ?_
 have go:wpAny (model X.prog X.w) X.A (eval e X.env) (fun w s₂=>wpAny (model X.prog X.w) X.A (inplaceOp op u w) (fun r s₃=>wpAny (model X.prog X.w) X.A (storeName X.env x r) (fun _=>SP X pins D .next) X.xe s₃) X.xe s₂) X.xe s:=by
  refine thn (he pins s σ H _ I h) fun w s1 ⟨y,H1,I1,r1,q1⟩=>?_
  refine thn (ho pins s1 σ H1 v y u w _ I1 r r1 q1) fun z s2 ⟨zv,H2,I2,r2,q2⟩=>?_
  exact cL' I2 hN hi hx r2 (fun s3 I3=>⟨_,H2,I3,q2⟩) hf
 rcases l with⟨hk,hm⟩|⟨hk,c,hc,hcell⟩
 .exact wpAny_loadName_local I.ok.kind hk hn hm go
 .rcases hk with hk|hk
  .exact wpAny_loadName_cell I.ok.kind hk hc hcell go
  .rcases hx with k|k
   .have:X.env.scope.names.lookup x=some .free:=hk
    rw[k]at this;cases this
   .have:X.env.scope.names.lookup x=some .free:=hk
    rw[k]at this;cases this
noncomputable def ipI (f:Int->Int->Int):TIp:=fun x y H Q=>∃i j,x=.int i/\y=.int j/\Q (.int (f i j)) H
theorem qk':PIp X .Add (ipI fun i j=>i+j):=by
 intro pins s σ H x y v u Q I r1 r2 h
 obtain⟨i,j,e1,e2,q⟩:=h
 subst e1;subst e2
 obtain⟨t,rfl⟩:=r1
 obtain⟨t',rfl⟩:=r2
 exact iadd_int ⟨.int _,H,I.tok _,⟨_,rfl⟩,q⟩
theorem ql':PIp X .Sub (ipI fun i j=>i-j):=by
 intro pins s σ H x y v u Q I r1 r2 h
 obtain⟨i,j,e1,e2,q⟩:=h
 subst e1;subst e2
 obtain⟨t,rfl⟩:=r1
 obtain⟨t',rfl⟩:=r2
 exact isub_int ⟨.int _,H,I.tok _,⟨_,rfl⟩,q⟩
end
section
variable {X:Cx} {pos:Pos}
noncomputable def ib' (c:TT) (tb:TS):TS:=fun D σ H=>∃W:Nat->St->Hp->Prop,(∃m,W m σ H)/\∀m σ H,W m σ H->
 c σ H fun b H1=>if b=true then ∃N:St->Hp->Prop,(∀σ' H',N σ' H'->∃m',m'<m/\W m' σ' H')/\tb { D with nx:=N,ct:=N,bk:=D.nx } σ H1 else D.nx σ H1
theorem kK' {c:Expr} {body:List Stmt} {tc:TT} {tb:TS} (hp:PassesOwn (model X.prog X.w) X.A X.env X.xe) (hc:PT X c tc) (hb:PSs X body tb):PS X (.While c body [] pos) (ib' tc tb):=by
 intro pins s σ H D I h
 obtain⟨W,⟨m0,w0⟩,turn⟩:=h
 refine wpAny_While (codeAny_whileLoop (fun n s'=>∃σ' H',Inv X pins σ' H' s'/\W n σ' H') ?_ m0 ⟨σ,H,I,w0⟩)
 rintro n s1 ⟨σ1,H1,I1,w1⟩
 refine wpAny_passesOwn hp (thn (hc pins s1 σ1 H1 _ I1 (turn n σ1 H1 w1)) fun b s2 ⟨H2,I2,q2⟩=>?_)
 cases b with
 |true=>
  obtain⟨N,hN,q2⟩:=q2
  rw[if_pos rfl]
  refine wpAny_passesOwn hp (thn (hb pins s2 σ1 H2 _ I2 q2) fun f s3 q3=>?_)
  cases f with
  |next=>
   obtain⟨σ3,H3,I3,n3⟩:=q3
   obtain⟨m',hm,w3⟩:=hN σ3 H3 n3
   exact⟨m',hm,σ3,H3,I3,w3⟩
  |cont=>
   obtain⟨σ3,H3,I3,n3⟩:=q3
   obtain⟨m',hm,w3⟩:=hN σ3 H3 n3
   exact⟨m',hm,σ3,H3,I3,w3⟩
  |brk=>exact q3
  |ret v=>exact q3
 |false=>
  rw[if_neg Bool.false_ne_true]
  exact wpAny_execs_nil ⟨σ1,H2,I2,q2⟩
end
structure It where
 go:Nat->Hp->Prop
 yld:Nat->Hp->V->Hp->Prop
 stop:Nat->Hp->Prop
def cr' (X:Cx) (pins:List (Addr×Obj)) (H:Hp) (b:Addr):Prop:=
 H b=none/\b≠X.env.locals/\b∉X.fs/\(b∈X.ex\/X.s₀.heap.objs.size<=b)/\(∀x c,X.env.cells.lookup x=some c->c≠b)/\∀p∈X.pn++pins,p.1≠b
theorem Inv.fpOk {X:Cx} {pins:List (Addr×Obj)} {σ:St} {H H':Hp} {s:Shared} {b:Addr} (I:Inv X pins σ H s) (hb:s.heap.objs.size<=b) (hn:H' b=none):cr' X pins H' b:=by
 refine⟨hn,Nat.ne_of_gt (Nat.lt_of_lt_of_le I.lt hb),I.nofs hb,.inr (Nat.le_trans I.sz hb),fun x c e z=>?_,fun p hp z=>?_⟩
 .obtain⟨v,q⟩:=I.cell x c e
  exact absurd (Nat.lt_of_lt_of_le q.lt (by rw[z];exact hb)) (Nat.lt_irrefl _)
 .exact absurd (Nat.lt_of_lt_of_le (Heap.lt_size (I.pin p hp).1) (by rw[z];exact hb)) (Nat.lt_irrefl _)
structure Turn (P:Program) (w:World) (K:W.Frag) (tg:Expr) (J:It) (fp:List Addr) (it:Addr) (tn:Nat->Heap->Prop):Prop where
 mem:it∈fp
 obj:∀i h,tn i h->∀b∈fp,∃o,h.get? b=some o/\∀v,o.data≠.cell v
 keep:∀i h h',tn i h->(∀b∈fp,∀o,h.get? b=some o->h'.get? b=some o)->tn i h'
 item:∀(X:Cx),X.prog=P->X.w=w->X.K=K->X.calm=true->∀(i:Nat) (pins:List (Addr×Obj)) (s:Shared) (σ:St) (H:Hp) (E:Value->Shared->Prop),Inv X pins σ H s->(∀b∈fp,cr' X pins H b)->tn i s.heap->J.go i H->
  wpAny (model P w) X.A (pyNext (.ref it)) (fun r s1=>∃u,r=some u/\
   wpAny (model P w) X.A (letOwnedTupleGo tg (.ref it) u) (fun _ s2=>∃x H',Inv X pins σ H' s2/\ao' x u/\J.yld i H x H'/\tn (i+1) s2.heap/\∀b∈fp,H' b=none) E s1) E s
 done:∀(X:Cx),X.prog=P->X.w=w->X.K=K->X.calm=true->∀(i:Nat) (pins:List (Addr×Obj)) (s:Shared) (σ:St) (H:Hp) (E:Value->Shared->Prop),Inv X pins σ H s->(∀b∈fp,cr' X pins H b)->tn i s.heap->J.stop i H->
  wpAny (model P w) X.A (pyNext (.ref it)) (fun r s1=>r=none/\Inv X pins σ H s1) E s
 self:∀(A:Around) (i:Nat) (s:Shared) (Q:Value->Shared->Prop) (E:Value->Shared->Prop),tn i s.heap->Q (.ref it) s->wpAny (model P w) A (pyIter (.ref it)) Q E s
noncomputable abbrev TI:=St->Hp->(It->Hp->Prop)->Prop
def PIE (X:Cx) (pins:List (Addr×Obj)) (σ:St) (tg:Expr) (R:It->Hp->Prop) (itv:Value) (s2:Shared):Prop:=
 ∃(it:Addr) (fp:List Addr) (tn:Nat->Heap->Prop) (J:It) (H':Hp),itv=.ref it/\Inv X pins σ H' s2/\Turn X.prog X.w X.K tg J fp it tn/\tn 0 s2.heap/\(∀b∈fp,cr' X pins H' b)/\R J H'
def PI (X:Cx) (tg iter:Expr) (wi:TI):Prop:=
 ∀(pins:List (Addr×Obj)) (s:Shared) (σ:St) (H:Hp) (R:It->Hp->Prop),Inv X pins σ H s->wi σ H R->
  wpAny (model X.prog X.w) X.A (eval iter X.env) (fun v s1=>wpAny (model X.prog X.w) X.A (pyIter v) (PIE X pins σ tg R) X.xe s1) X.xe s
theorem ic' {M:Model} {A:Around} {E:Value->Shared->Prop} {s:Shared} {tg:Expr} {it:Addr} {u:Value} {o:Obj} {n:String} {vs:Array Value} {Q:Unit->Shared->Prop} (ho:s.heap.get? it=some o) (hc:o.cls=.type n) (hd:o.data=.fields vs)
  (hn:["enumerate","zip","dict_itemiterator","dict_reverseitemiterator","odict_iterator","itertools.zip_longest","itertools.pairwise"].contains n=false) (hQ:Q () s):wpAny M A (letOwnedTupleGo tg (.ref it) u) Q E s:=by
 unfold letOwnedTupleGo
 cases tg<;>first
  |exact wpAny_pure hQ
  |(cases u<;>first
    |exact wpAny_pure hQ
    |(refine wpAny_bind (wpAny_load ho ?_)
      rw[hc,hd]
      show wpAny M A (if(["enumerate","zip","dict_itemiterator","dict_reverseitemiterator","odict_iterator","itertools.zip_longest","itertools.pairwise"].contains n&&vs[0]? == some (rawInt _))=true then _ else _) Q E s
      rw[if_neg (by intro h;rw[hn,Bool.false_and]at h;cases h)]
      exact wpAny_pure hQ))
noncomputable def Itl (K:W.Frag) (a:Addr):It:=
 ⟨fun i H=>∃xs x,SqL K H a xs/\xs[i]?=some x,fun i H x H'=>H'=H/\∀xs,SqL K H a xs->xs[i]?=some x,fun i H=>∃xs,SqL K H a xs/\xs.length<=i⟩
noncomputable def Itt (K:W.Frag) (a:Addr):It:=
 ⟨fun i H=>∃xs x,SqT K H a xs/\xs[i]?=some x,fun i H x H'=>H'=H/\∀xs,SqT K H a xs->xs[i]?=some x,fun i H=>∃xs,SqT K H a xs/\xs.length<=i⟩
noncomputable def Itr (lo:Int) (n:Nat):It:=⟨fun i _=>i<n,fun i H x H'=>H'=H/\x=.int (lo+i),fun i _=>n<=i⟩
theorem ie' {P:Program} {w:World} {K:W.Frag} {tg:Expr} (a it:Addr):Turn P w K tg (Itl K a) [it] it (fun i h=>h.IsListIter it a i) where
 mem:=by simp
 obj:=fun i h st b hb=>by
  have e:b=it:=by simpa using hb
  subst e
  obtain⟨o,e,c,d⟩:=st
  exact⟨o,e,fun v z=>by rw[d]at z;cases z⟩
 keep:=fun i h h' st k=>st.at fun o e=>k it (by simp) o e
 item:=by
  intro X hP hw hK hc i pins s σ H E I hf st hg
  subst hP hw hK
  obtain⟨xs,x,hq,hx⟩:=hg
  obtain⟨its,rv,p,hz⟩:=I.list hq
  obtain⟨u,hu,ru⟩:=rv.get hx
  obtain⟨f0,f1,f2,f3,f4,f5⟩:=hf it (by simp)
  refine wpAny_pyNext_list_item st p.isList (x:=u) (by simpa using hu) fun h' st' sb=>?_
  have I1:Inv X pins σ H { s with heap:=h' }:=I.turned (t':=s.toks) (fun b o hb e=>(sb.2 b hb).trans e) f0 f1 f3 f4 f5
  obtain⟨o,e,c,d⟩:=id st'
  exact⟨u,rfl,ic' (s:={ s with heap:=h' }) e c d (by decide) ⟨x,H,I1,ru,⟨rfl,fun ys hy=>by rw[I.list_inj hy hq];exact hx⟩,st',fun b hb=>(hf b hb).1⟩⟩
 done:=by
  intro X hP hw hK hc i pins s σ H E I hf st hg
  subst hP hw hK
  obtain⟨xs,hq,hx⟩:=hg
  obtain⟨its,rv,p,hz⟩:=I.list hq
  obtain⟨f0,f1,f2,f3,f4,f5⟩:=hf it (by simp)
  have hl:=rv.length
  exact wpAny_pyNext_list_end (I.ok.hd hc) st p.isList (by simp;omega) fun h' eb=>⟨rfl,I.turned (t':=s.toks) (fun b o hb e=>eb b o hb e) f0 f1 f3 f4 f5⟩
 self:=fun _ _ _ _ _ st h=>wpAny_pyIter_listiter st h
theorem gZ' {P:Program} {w:World} {K:W.Frag} {tg:Expr} (a it:Addr):Turn P w K tg (Itt K a) [it] it (fun i h=>h.IsTupleIter it a i) where
 mem:=by simp
 obj:=fun i h st b hb=>by
  have e:b=it:=by simpa using hb
  subst e
  obtain⟨o,e,c,d⟩:=st
  exact⟨o,e,fun v z=>by rw[d]at z;cases z⟩
 keep:=fun i h h' st k=>st.at fun o e=>k it (by simp) o e
 item:=by
  intro X hP hw hK hc i pins s σ H E I hf st hg
  subst hP hw hK
  obtain⟨xs,x,hq,hx⟩:=hg
  obtain⟨its,rv,p,hz⟩:=I.tuple hq
  obtain⟨u,hu,ru⟩:=rv.get hx
  obtain⟨f0,f1,f2,f3,f4,f5⟩:=hf it (by simp)
  refine wpAny_pyNext_tuple_item st (show s.heap.IsTuple a its.toArray from p) (x:=u) (by simpa using hu) fun h' st' sb=>?_
  have I1:Inv X pins σ H { s with heap:=h' }:=I.turned (t':=s.toks) (fun b o hb e=>(sb.2 b hb).trans e) f0 f1 f3 f4 f5
  obtain⟨o,e,c,d⟩:=id st'
  exact⟨u,rfl,ic' (s:={ s with heap:=h' }) e c d (by decide) ⟨x,H,I1,ru,⟨rfl,fun ys hy=>by rw[I.tuple_inj hy hq];exact hx⟩,st',fun b hb=>(hf b hb).1⟩⟩
 done:=by
  intro X hP hw hK hc i pins s σ H E I hf st hg
  subst hP hw hK
  obtain⟨xs,hq,hx⟩:=hg
  obtain⟨its,rv,p,hz⟩:=I.tuple hq
  obtain⟨f0,f1,f2,f3,f4,f5⟩:=hf it (by simp)
  have hl:=rv.length
  exact wpAny_pyNext_tuple_end (I.ok.hd hc) st (show s.heap.IsTuple a its.toArray from p) (by simp;omega) fun h' eb=>⟨rfl,I.turned (t':=s.toks) (fun b o hb e=>eb b o hb e) f0 f1 f3 f4 f5⟩
 self:=fun _ _ _ _ _ st h=>wpAny_pyIter_tupleiter st h
theorem g0' {P:Program} {w:World} {K:W.Frag} {tg:Expr} (it:Addr) (lo:Int) (n:Nat):Turn P w K tg (Itr lo n) [it] it (fun i h=>IsRangeIter h it (lo+(i:Nat)*1) ((n:Int)-(i:Nat)) 1) where
 mem:=by simp
 obj:=fun i h st b hb=>by
  have e:b=it:=by simpa using hb
  subst e
  exact⟨_,st,fun v z=>by
   have z':Data.fields _=Data.cell v:=z
   cases z'⟩
 keep:=fun i h h' st k=>k it (by simp) _ st
 item:=by
  intro X hP hw hK hc i pins s σ H E I hf st hg
  subst hP hw hK
  obtain⟨f0,f1,f2,f3,f4,f5⟩:=hf it (by simp)
  have W:=Walks.range (prog:=X.prog) (w:=X.w) (I.ok.hd hc) it lo 1 n
  refine W.item i s _ _ hg st fun v h' tk hv st' kk=>?_
  obtain⟨t,rfl⟩:=hv
  have I1:Inv X pins σ H { s with heap:=h',toks:=tk }:=I.turned (fun b o hb e=>kk b o (by simpa using hb) e) f0 f1 f3 f4 f5
  refine⟨_,rfl,ic' (s:={ s with heap:=h',toks:=tk }) (n:="range_iterator") st' rfl rfl (by decide) ⟨.int (lo+i),H,I1,⟨t,?_⟩,⟨rfl,rfl⟩,st',fun b hb=>(hf b hb).1⟩⟩
  rw[Int.mul_one]
 done:=by
  intro X hP hw hK hc i pins s σ H E I hf st hg
  subst hP hw hK
  obtain⟨f0,f1,f2,f3,f4,f5⟩:=hf it (by simp)
  exact wpAny_pyNext_range_end (I.ok.hd hc) st (by have:n<=i:=hg;omega) fun h' eb=>⟨rfl,I.turned (t':=s.toks) (fun b o hb e=>eb b o hb e) f0 f1 f3 f4 f5⟩
 self:=fun _ _ _ _ _ st h=>wpAny_pyIter_rangeiter st h
section
variable {X:Cx} {tg:Expr}
theorem kL' {pins:List (Addr×Obj)} {σ:St} {H:Hp} {s:Shared} {R:It->Hp->Prop} {E:Value->Shared->Prop} {lo hi:Int} {t u v:Tok} {tk:Nat} (I:Inv X pins σ H s) (h1:-(2 ^ 62)<=lo) (h2:lo<2 ^ 62) (h3:-(2 ^ 62)<=hi) (h4:hi<2 ^ 62)
  (q:R (Itr lo (hi-lo).toNat) H):wpAny (model X.prog X.w) X.A (pyIter (.ref s.heap.objs.size)) (PIE X pins σ tg R) E { s with heap:=s.heap.push { cls:=.type "range",data:=.fields #[.int lo t,.int hi u,.int 1 v] },toks:=tk }:=by
 refine wpAny_pyIter_range (IsRange.new ..) (small_one h1 h2 h3 h4) ?_
 have I1:Inv X pins σ H { s with heap:=s.heap.push { cls:=.type "range",data:=.fields #[.int lo t,.int hi u,.int 1 v] },toks:=tk }:=I.kept fun b o e=>Heap.get?_push_of_some _ e
 refine⟨(s.heap.push { cls:=.type "range",data:=.fields #[.int lo t,.int hi u,.int 1 v] }).objs.size,[(s.heap.push { cls:=.type "range",data:=.fields #[.int lo t,.int hi u,.int 1 v] }).objs.size],_,_,H,rfl,
  I1.kept (t':=tk) fun b o e=>Heap.get?_push_of_some _ e,g0' _ lo (hi-lo).toNat,?_,fun b hb=>?_,q⟩
 .have e1:lo+((0:Nat):Int)*1=lo:=by simp
  have e2:(((hi-lo).toNat:Nat):Int)-((0:Nat):Int)=Builtin.Range.rangeSize lo hi 1:=by rw[rangeSize_one];split<;>omega
  show IsRangeIter _ _ (lo+((0:Nat):Int)*1) ((((hi-lo).toNat:Nat):Int)-((0:Nat):Int)) 1
  rw[e1,e2]
  exact Heap.get?_push_size _ rfl
 .have e:b=(s.heap.push { cls:=.type "range",data:=.fields #[.int lo t,.int hi u,.int 1 v] }).objs.size:=by simpa using hb
  subst e
  exact I1.fpOk (Nat.le_refl _) (I1.hok.fresh (Nat.le_refl _))
noncomputable def oa' (ta:TA):TI:=fun σ H R=>ta σ H fun vs H1=>∃j:Int,vs=[.int j]/\-(2 ^ 62)<=j/\j<2 ^ 62/\R (Itr 0 j.toNat) H1
theorem if' {a:Expr} {ta:TA} {p pos:Pos} (hg:Gl X "range") (hm:X.mg "range"=none) (ha:PA X [a] ta) (hs:starEach [a] X.env=[(false,eval a X.env)]:=by rfl):PI X tg (.Call (.Name "range" p) [a] [] pos) (oa' ta):=by
 intro pins s σ H R I h
 refine Call_ (dE' I hg hm boot_range (PyProof.Rows.callWith_type1 (thn (ha pos pins s σ H _ I h) fun us s1 ⟨vs,H1,I1,r1,q1⟩=>?_) hs rfl))
 obtain⟨j,e,q1,q2,q⟩:=q1
 subst e
 cases r1 with
 |cons r rr=>
  cases rr
  obtain⟨t,rfl⟩:=r
  exact call_range_1 (kL' I1 (by omega) (by omega) q1 q2 (by simpa using q))
noncomputable def t9' (wi:TI) (g:TG) (tb:TS):TS:=fun D σ H=>wi σ H fun J H1=>∃W:Nat->Nat->St->Hp->Prop,(∃m,W 0 m σ H1)/\∀i m σ H,W i m σ H->
 (J.stop i H/\D.nx σ H)\/(J.go i H/\∃N:St->Hp->Prop,(∀σ' H',N σ' H'->∃m',m'<m/\W (i+1) m' σ' H')/\∀x H',J.yld i H x H'->g x σ H' fun σ2 H2=>tb { D with nx:=N,ct:=N,bk:=D.nx } σ2 H2)
noncomputable def bx' (fp:List Addr) (h:Heap):List (Addr×Obj):=fp.filterMap fun b=>(h.get? b).map fun o=>(b,o)
theorem aK' {fp:List Addr} {h:Heap} {b:Addr} {o:Obj} (hb:b∈fp) (e:h.get? b=some o):(b,o)∈bx' fp h:=List.mem_filterMap.mpr ⟨b,hb,by rw[e];rfl⟩
theorem cY' {fp:List Addr} {h:Heap} {p:Addr×Obj} (hp:p∈bx' fp h):p.1∈fp/\h.get? p.1=some p.2:=by
 obtain⟨b,hb,e⟩:=List.mem_filterMap.mp hp
 cases q:h.get? b with
 |none=>rw[q]at e;cases e
 |some o=>
  rw[q]at e
  have e':(b,o)=p:=Option.some.inj e
  subst e'
  exact⟨hb,q⟩
theorem Inv.pinned {pins:List (Addr×Obj)} {σ:St} {H:Hp} {s:Shared} {fp:List Addr} (I:Inv X pins σ H s) (hf:∀b∈fp,cr' X pins H b) (ho:∀b∈fp,∃o,s.heap.get? b=some o/\∀v,o.data≠.cell v):Inv X (pins++bx' fp s.heap) σ H s:=
 I.pins_of fun p hp=>(List.mem_append.mp hp).elim (fun z=>I.pin p (List.mem_append_right _ z)) fun z=>by
  obtain⟨hb,e⟩:=cY' z
  obtain⟨f0,f1,f2,_⟩:=hf p.1 hb
  obtain⟨o,e',d⟩:=ho p.1 hb
  rw[e]at e';cases e'
  exact⟨e,f0,f1,f2,d⟩
theorem Inv.unpinned {pins pl:List (Addr×Obj)} {σ:St} {H:Hp} {s:Shared} (I:Inv X (pins++pl) σ H s):Inv X pins σ H s:=I.pins_of fun p hp=>I.pin p (List.mem_append_right _ (List.mem_append_left _ hp))
theorem qm' {iter:Expr} {body:List Stmt} {wi:TI} {g:TG} {tb:TS} {pos:Pos} (hp:PassesOwn (model X.prog X.w) X.A X.env X.xe) (hc:X.calm=true) (hi:PI X tg iter wi) (hg:PG X tg g) (hb:PSs X body tb)
  (hs:∀x,foldedSetIterable iter X.env x=pure x:=by intro _;rfl):PS X (.For tg iter body [] pos) (t9' wi g tb):=by
 intro pins s σ H D I h
 refine wpAny_For (thn (hi pins s σ H _ I h) fun v s1 h1=>thn h1 fun itv s2 h2=>?_) hs
 obtain⟨it,fp,tn,J,H2,e,I2,T,st2,f2,W,⟨m0,w0⟩,turn⟩:=h2
 subst e
 have stat:∀{H':Hp},(∀b∈fp,H' b=none)->∀b∈fp,cr' X pins H' b:=fun hn b hb=>⟨hn b hb,(f2 b hb).2⟩
 refine codeAny_forLoop_any (fun n s'=>∃i σ' H',Inv X pins σ' H' s'/\tn i s'.heap/\(∀b∈fp,H' b=none)/\W i n σ' H') ?_ m0 ⟨0,σ,H2,I2,st2,fun b hb=>(f2 b hb).1,w0⟩
 rintro n s3 ⟨i,σ3,H3,I3,st3,fr3,w3⟩
 rcases turn i n σ3 H3 w3 with⟨stop,qn⟩|⟨go,N,hN,step⟩
 .refine wpAny_passesOwn hp (thn (T.done X rfl rfl rfl hc i pins s3 σ3 H3 X.xe I3 (stat fr3) st3 stop) fun r s4 ⟨hr,I4⟩=>?_)
  subst hr
  exact wpAny_execs_nil ⟨σ3,H3,I4,qn⟩
 .refine wpAny_passesOwn hp (thn (T.item X rfl rfl rfl hc i pins s3 σ3 H3 X.xe I3 (stat fr3) st3 go) fun r s4 ⟨u,hr,h4⟩=>?_)
  subst hr
  refine wpAny_passesOwn hp (thn h4 fun _ s5 ⟨x,H5,I5,r5,y5,st5,fr5⟩=>?_)
  have I5':=I5.pinned (stat fr5) (T.obj _ _ st5)
  refine wpAny_passesOwn hp (thn (hg _ s5 σ3 H5 x u _ I5' r5 (step x H5 y5)) fun _ s6 ⟨σ6,H6,I6,q6⟩=>?_)
  refine wpAny_passesOwn hp (thn (hb _ s6 σ6 H6 _ I6 q6) fun f s7 q7=>?_)
  have again:∀{σ7:St} {H7:Hp},Inv X (pins++bx' fp s5.heap) σ7 H7 s7->N σ7 H7->∃m,m<n/\∃i σ' H',Inv X pins σ' H' s7/\tn i s7.heap/\(∀b∈fp,H' b=none)/\W i m σ' H':=fun {σ7 H7} I7 n7=>by
   obtain⟨m',hm,w7⟩:=hN σ7 H7 n7
   refine⟨m',hm,i+1,σ7,H7,I7.unpinned,T.keep _ _ _ st5 fun b hb o e=>(I7.pin (b,o) (List.mem_append_right _ (List.mem_append_right _ (aK' hb e)))).1,fun b hb=>?_,w7⟩
   obtain⟨o,e,d⟩:=T.obj _ _ st5 b hb
   exact(I7.pin (b,o) (List.mem_append_right _ (List.mem_append_right _ (aK' hb e)))).2.1
  cases f with
  |next=>obtain⟨σ7,H7,I7,n7⟩:=q7;exact again I7 n7
  |cont=>obtain⟨σ7,H7,I7,n7⟩:=q7;exact again I7 n7
  |brk=>obtain⟨σ7,H7,I7,q7⟩:=q7;exact⟨σ7,H7,I7.unpinned,q7⟩
  |ret v=>obtain⟨x7,σ7,H7,I7,r7,q7⟩:=q7;exact⟨x7,σ7,H7,I7.unpinned,r7,q7⟩
end
theorem kM' {K:W.Frag} {a:Addr} {xs:List V} {g:TG} {tb:TS} {D:Ends} {σ:St} {H:Hp} (Pv:Nat->St->Hp->Prop) (h0:Pv 0 σ H) (hl:∀i σ H,i<=xs.length->Pv i σ H->SqL K H a xs)
  (hs:∀i x σ H,xs[i]?=some x->Pv i σ H->g x σ H fun σ2 H2=>tb { D with nx:=Pv (i+1),ct:=Pv (i+1),bk:=D.nx } σ2 H2) (hd:∀σ H,Pv xs.length σ H->D.nx σ H):
  ∃W:Nat->Nat->St->Hp->Prop,(∃m,W 0 m σ H)/\∀i m σ H,W i m σ H->
   ((Itl K a).stop i H/\D.nx σ H)\/((Itl K a).go i H/\∃N:St->Hp->Prop,(∀σ' H',N σ' H'->∃m',m'<m/\W (i+1) m' σ' H')/\∀x H',(Itl K a).yld i H x H'->g x σ H' fun σ2 H2=>tb { D with nx:=N,ct:=N,bk:=D.nx } σ2 H2):=by
 refine⟨fun i m σ H=>m=xs.length-i/\i<=xs.length/\Pv i σ H,⟨xs.length,by simp,Nat.zero_le _,h0⟩,?_⟩
 rintro i m σ H ⟨rfl,hi,p⟩
 have q:=hl i σ H hi p
 by_cases hlt:i<xs.length
 .refine .inr ⟨⟨xs,xs[i],q,by simp[hlt]⟩,Pv (i+1),fun σ' H' p'=>⟨xs.length-(i+1),by omega,rfl,hlt,p'⟩,fun x H' y=>?_⟩
  obtain⟨e,y⟩:=y
  subst e
  exact hs i x σ _ (y xs q) p
 .have e:i=xs.length:=by omega
  subst e
  exact .inl ⟨⟨xs,q,Nat.le_refl _⟩,hd σ H p⟩
theorem ob' {K:W.Frag} {a:Addr} {xs:List V} {g:TG} {tb:TS} {D:Ends} {σ:St} {H:Hp} (Pv:Nat->St->Hp->Prop) (h0:Pv 0 σ H) (hl:∀i σ H,i<=xs.length->Pv i σ H->SqT K H a xs)
  (hs:∀i x σ H,xs[i]?=some x->Pv i σ H->g x σ H fun σ2 H2=>tb { D with nx:=Pv (i+1),ct:=Pv (i+1),bk:=D.nx } σ2 H2) (hd:∀σ H,Pv xs.length σ H->D.nx σ H):
  ∃W:Nat->Nat->St->Hp->Prop,(∃m,W 0 m σ H)/\∀i m σ H,W i m σ H->
   ((Itt K a).stop i H/\D.nx σ H)\/((Itt K a).go i H/\∃N:St->Hp->Prop,(∀σ' H',N σ' H'->∃m',m'<m/\W (i+1) m' σ' H')/\∀x H',(Itt K a).yld i H x H'->g x σ H' fun σ2 H2=>tb { D with nx:=N,ct:=N,bk:=D.nx } σ2 H2):=by
 refine⟨fun i m σ H=>m=xs.length-i/\i<=xs.length/\Pv i σ H,⟨xs.length,by simp,Nat.zero_le _,h0⟩,?_⟩
 rintro i m σ H ⟨rfl,hi,p⟩
 have q:=hl i σ H hi p
 by_cases hlt:i<xs.length
 .refine .inr ⟨⟨xs,xs[i],q,by simp[hlt]⟩,Pv (i+1),fun σ' H' p'=>⟨xs.length-(i+1),by omega,rfl,hlt,p'⟩,fun x H' y=>?_⟩
  obtain⟨e,y⟩:=y
  subst e
  exact hs i x σ _ (y xs q) p
 .have e:i=xs.length:=by omega
  subst e
  exact .inl ⟨⟨xs,q,Nat.le_refl _⟩,hd σ H p⟩
theorem ig' {lo:Int} {n:Nat} {g:TG} {tb:TS} {D:Ends} {σ:St} {H:Hp} (Pv:Nat->St->Hp->Prop) (h0:Pv 0 σ H)
  (hs:∀i σ H,i<n->Pv i σ H->g (.int (lo+i)) σ H fun σ2 H2=>tb { D with nx:=Pv (i+1),ct:=Pv (i+1),bk:=D.nx } σ2 H2) (hd:∀σ H,Pv n σ H->D.nx σ H):
  ∃W:Nat->Nat->St->Hp->Prop,(∃m,W 0 m σ H)/\∀i m σ H,W i m σ H->
   ((Itr lo n).stop i H/\D.nx σ H)\/((Itr lo n).go i H/\∃N:St->Hp->Prop,(∀σ' H',N σ' H'->∃m',m'<m/\W (i+1) m' σ' H')/\∀x H',(Itr lo n).yld i H x H'->g x σ H' fun σ2 H2=>tb { D with nx:=N,ct:=N,bk:=D.nx } σ2 H2):=by
 refine⟨fun i m σ H=>m=n-i/\i<=n/\Pv i σ H,⟨n,by simp,Nat.zero_le _,h0⟩,?_⟩
 rintro i m σ H ⟨rfl,hi,p⟩
 by_cases hlt:i<n
 .refine .inr ⟨hlt,Pv (i+1),fun σ' H' p'=>⟨n-(i+1),by omega,rfl,hlt,p'⟩,fun x H' y=>?_⟩
  obtain⟨e,y⟩:=y
  subst e y
  exact hs i σ _ hlt p
 .have e:i=n:=by omega
  subst e
  exact .inl ⟨Nat.le_refl _,hd σ H p⟩
noncomputable abbrev R2:=V->V->Hp->VK->Prop
def OpR (X:Cx) (f:Value->Value->Sem Value) (r:R2):Prop:=
 ∀(pins:List (Addr×Obj)) (s:Shared) (σ:St) (H:Hp) (x y:V) (v u:Value) (Q:VK),Inv X pins σ H s->ao' x v->ao' y u->r x y H Q->
  wpAny (model X.prog X.w) X.A (f v u) (EP X pins σ Q) X.xe s
def aH' (X:Cx) (f:Value) (r:List V->Hp->VK->Prop):Prop:=
 ∀(pins:List (Addr×Obj)) (s:Shared) (σ:St) (H:Hp) (xs:List V) (us:List Value) (Q:VK),Inv X pins σ H s->az' xs us->r xs H Q->
  wpAny (model X.prog X.w) X.A (call f us) (EP X pins σ Q) X.xe s
def ww' (X:Cx) (r:V->Hp->(Bool->Hp->Prop)->Prop):Prop:=
 ∀(pins:List (Addr×Obj)) (s:Shared) (σ:St) (H:Hp) (x:V) (v:Value) (Q:Bool->Hp->Prop),Inv X pins σ H s->ao' x v->r x H Q->
  wpAny (model X.prog X.w) X.A (truthy v) (TP X pins σ Q) X.xe s
noncomputable def tOp (r:R2) (ta tb:TE):TE:=fun σ H Q=>ta σ H fun x H1=>tb σ H1 fun y H2=>r x y H2 Q
noncomputable def rI (C:Int->Int->Prop) (g:Int->Int->V):R2:=fun x y H Q=>∃i j,x=.int i/\y=.int j/\C i j/\Q (g i j) H
noncomputable def rI0 (g:Int->Int->V):R2:=fun x y H Q=>∃i j,x=.int i/\y=.int j/\Q (g i j) H
section
variable {X:Cx} {a b c:Expr} {ta tb tc:TE} {pos:Pos}
theorem ua' (ha:PE X a ta) (hb:PE X b tb) {pins:List (Addr×Obj)} {s:Shared} {σ:St} {H:Hp} {R:V->V->Hp->Prop} (I:Inv X pins σ H s)
  (h:ta σ H fun x H1=>tb σ H1 fun y H2=>R x y H2) {Q:Value->Shared->Prop} {f:Value->Value->Sem Value}
  (hf:∀v u s2 x y H2,Inv X pins σ H2 s2->ao' x v->ao' y u->R x y H2->wpAny (model X.prog X.w) X.A (f v u) Q X.xe s2):
  wpAny (model X.prog X.w) X.A (eval a X.env) (fun v s₁=>wpAny (model X.prog X.w) X.A (eval b X.env) (fun u s₂=>wpAny (model X.prog X.w) X.A (f v u) Q X.xe s₂) X.xe s₁) X.xe s:=by
 refine thn (ha pins s σ H _ I h) fun v s1 ⟨x,H1,I1,r1,q1⟩=>?_
 refine thn (hb pins s1 σ H1 _ I1 q1) fun u s2 ⟨y,H2,I2,r2,q2⟩=>?_
 exact hf v u s2 x y H2 I2 r1 r2 q2
theorem ub' {op:Operator} {r:R2} (ho:OpR X (binaryOp op) r) (ha:PE X a ta) (hb:PE X b tb):PE X (.BinOp a op b pos) (tOp r ta tb):=by
 intro pins s σ H Q I h
 exact wpAny_BinOp (ua' ha hb I h fun v u s2 x y H2 I2 rx ry q=>ho pins s2 σ H2 x y v u Q I2 rx ry q)
theorem opI {f:Value->Value->Sem Value} {C:Int->Int->Prop} {g:Int->Int->Int}
  (rule:∀(i j:Int) (t u:Tok) (s:Shared) (Q:Value->Shared->Prop) (E:Value->Shared->Prop),C i j->Q (.int (g i j) s.toks) { s with toks:=s.toks+1 }->wpAny (model X.prog X.w) X.A (f (.int i t) (.int j u)) Q E s):
  OpR X f (rI C fun i j=>.int (g i j)):=by
 intro pins s σ H x y v u Q I rx ry h
 obtain⟨i,j,rfl,rfl,hc,q⟩:=h
 obtain⟨t,rfl⟩:=rx
 obtain⟨t',rfl⟩:=ry
 exact rule i j t t' s _ _ hc ⟨.int (g i j),H,I.tok _,⟨_,rfl⟩,q⟩
theorem uc' {f:Value->Value->Sem Value} {g:Int->Int->Int}
  (rule:∀(i j:Int) (t u:Tok) (s:Shared) (Q:Value->Shared->Prop) (E:Value->Shared->Prop),Q (.int (g i j) s.toks) { s with toks:=s.toks+1 }->wpAny (model X.prog X.w) X.A (f (.int i t) (.int j u)) Q E s):
  OpR X f (rI0 fun i j=>.int (g i j)):=by
 intro pins s σ H x y v u Q I rx ry h
 obtain⟨i,j,rfl,rfl,q⟩:=h
 obtain⟨t,rfl⟩:=rx
 obtain⟨t',rfl⟩:=ry
 exact rule i j t t' s _ _ ⟨.int (g i j),H,I.tok _,⟨_,rfl⟩,q⟩
theorem tE' {f:Value->Value->Sem Value} {g:Int->Int->Bool}
  (rule:∀(i j:Int) (t u:Tok) (s:Shared) (Q:Value->Shared->Prop) (E:Value->Shared->Prop),Q (.bool (g i j)) s->wpAny (model X.prog X.w) X.A (f (.int i t) (.int j u)) Q E s):
  OpR X f (rI0 fun i j=>.bl (g i j)):=by
 intro pins s σ H x y v u Q I rx ry h
 obtain⟨i,j,rfl,rfl,q⟩:=h
 obtain⟨t,rfl⟩:=rx
 obtain⟨t',rfl⟩:=ry
 exact rule i j t t' s _ _ ⟨.bl (g i j),H,I,rfl,q⟩
def wx' (i j:Int):Prop:=0<j/\j<1073741824
def ud' (i j:Int):Prop:=0<=j/\j<=1000000/\i.natAbs<2 ^ 64
def tF' (i j:Int):Prop:=(-(2 ^ 64)<i/\i<2 ^ 64)\/(-(2 ^ 64)<j/\j<2 ^ 64)
theorem tF'.ok {i j:Int} (h:tF' i j):IntMulOk i j:=by
 rcases h with⟨h1,h2⟩|⟨h1,h2⟩
 .exact .of_left (intBits_le_64 h1 h2)
 .exact .of_right (intBits_le_64 h1 h2)
theorem dF' (k:Nat):(0:Int)<=2 ^ k:=by
 rw[two_pow_cast]
 exact Int.natCast_nonneg _
theorem qn':OpR X (binaryOp .Add) (rI0 fun i j=>.int (i+j)):=uc' fun _ _ _ _ _ _ _ q=>add_int q
theorem qo':OpR X (binaryOp .Sub) (rI0 fun i j=>.int (i-j)):=uc' fun _ _ _ _ _ _ _ q=>sub_int q
theorem oc':OpR X (binaryOp .FloorDiv) (rI wx' fun i j=>.int (i / j)):=opI fun i j _ _ _ _ _ hc q=>by
 have h1:(0:Int)<j:=hc.1
 have h2:j<1073741824:=hc.2
 exact floordiv_int (by omega) (by rw[Int.fdiv_eq_ediv_of_nonneg i (by omega)];exact q) (.inl (PyProof.noPylong_small (by omega)))
theorem qp':OpR X (binaryOp .Mod) (rI (fun _ j=>0<j) fun i j=>.int (i % j)):=opI fun i j _ _ _ _ _ hc q=>by
 have h1:(0:Int)<j:=hc
 exact mod_int' (by omega) (by rw[Int.fmod_eq_emod_of_nonneg i (by omega)];exact q)
theorem qq':OpR X (binaryOp .Pow) (rI ud' fun i j=>.int (i ^ j.toNat)):=opI fun _ _ _ _ _ _ _ hc q=>pow_int_small hc.1 hc.2.1 hc.2.2 q
theorem qr':OpR X (binaryOp .RShift) (rI (fun _ j=>0<=j) fun i j=>.int (i / 2 ^ j.toNat)):=opI fun i j _ _ _ _ _ hc q=>
 rshift_int hc (by rw[Int.fdiv_eq_ediv_of_nonneg i (dF' _)];exact q)
theorem qt':OpR X (binaryOp .BitAnd) (rI0 fun i j=>.int (Builtin.bitAnd i j)):=uc' fun _ _ _ _ _ _ _ q=>and_int q
end
noncomputable def qu':V->V->Bool
 | .non,.non=>true | .non,.int _=>true | .int _,.non=>true | .non,.bl _=>true | .bl _,.non=>true | .non,.str _=>true | .str _,.non=>true
 | .int _,.int _=>true | .bl _,.bl _=>true | .str _,.str _=>true | .byt _,.byt _=>true
 | .int _,.str _=>true | .str _,.int _=>true | .bl _,.str _=>true | .str _,.bl _=>true
 |_,_=>false
noncomputable def rEq:R2:=fun x y H Q=>qu' x y=true/\Q (.bl (decide (x=y))) H
noncomputable def rNe:R2:=fun x y H Q=>qu' x y=true/\Q (.bl (!decide (x=y))) H
theorem fp' {i j:Int}:decide (V.int i=V.int j)=(i == j):=by
 rw[Bool.eq_iff_iff]
 simp
theorem mg' {i j:Bool}:decide (V.bl i=V.bl j)=(i == j):=by
 rw[Bool.eq_iff_iff]
 simp
theorem ii' {i j:Str}:decide (V.str i=V.str j)=(i == j):=by
 rw[Bool.eq_iff_iff]
 simp
theorem ij' {i j:Array UInt8}:decide (V.byt i=V.byt j)=(i.toList == j.toList):=by
 rw[Bool.eq_iff_iff]
 cases i
 cases j
 simp
section
variable {X:Cx} {a b c:Expr} {ta tb tc:TE} {pos:Pos}
theorem aq' {pins:List (Addr×Obj)} {σ:St} {H:Hp} {s:Shared} {Q:VK} {k k':Bool} (I:Inv X pins σ H s) (q:Q (.bl k) H) (e:k=k'):EP X pins σ Q (.bool k') s:=by
 subst e
 exact⟨.bl k,H,I,rfl,q⟩
theorem ue':OpR X (compareOp .Eq) rEq:=by
 intro pins s σ H x y v u Q I rx ry h
 obtain⟨hs,q⟩:=h
 cases x with
 |non=>
  cases rx
  cases y with
  |non=>cases ry;exact PySem.EqNone.eq_none_none (aq' I q (by simp))
  |bl j=>cases ry;exact PySem.EqNone.eq_none_bool (aq' I q (by simp))
  |int j=>obtain⟨t',rfl⟩:=ry;exact PySem.EqNone.eq_none_int (aq' I q (by simp))
  |str j=>obtain⟨t',rfl⟩:=ry;exact PySem.EqNone.eq_none_str (aq' I q (by simp))
  |_=>exact absurd (show false=true from hs) Bool.false_ne_true
 |bl i=>
  cases rx
  cases y with
  |non=>cases ry;exact PySem.EqNone.eq_bool_none (aq' I q (by simp))
  |bl j=>cases ry;exact eq_bool (aq' I q mg')
  |str j=>obtain⟨t',rfl⟩:=ry;exact PySem.EqMixed.eq_bool_str (aq' I q (by simp))
  |_=>exact absurd (show false=true from hs) Bool.false_ne_true
 |int i=>
  obtain⟨t,rfl⟩:=rx
  cases y with
  |non=>cases ry;exact PySem.EqNone.eq_int_none (aq' I q (by simp))
  |int j=>obtain⟨t',rfl⟩:=ry;exact eq_int (aq' I q fp')
  |str j=>obtain⟨t',rfl⟩:=ry;exact PySem.EqMixed.eq_int_str (aq' I q (by simp))
  |_=>exact absurd (show false=true from hs) Bool.false_ne_true
 |str i=>
  obtain⟨t,rfl⟩:=rx
  cases y with
  |non=>cases ry;exact PySem.EqNone.eq_str_none (aq' I q (by simp))
  |bl j=>cases ry;exact PySem.EqMixed.eq_str_bool (aq' I q (by simp))
  |int j=>obtain⟨t',rfl⟩:=ry;exact PySem.EqMixed.eq_str_int (aq' I q (by simp))
  |str j=>obtain⟨t',rfl⟩:=ry;exact eq_str (aq' I q ii')
  |_=>exact absurd (show false=true from hs) Bool.false_ne_true
 |byt i=>
  obtain⟨t,rfl⟩:=rx
  cases y with
  |byt j=>obtain⟨t',rfl⟩:=ry;exact W.eq_bytes (aq' I q ij')
  |_=>exact absurd (show false=true from hs) Bool.false_ne_true
 |_=>cases y<;>exact absurd (show false=true from hs) Bool.false_ne_true
theorem uf':OpR X (compareOp .NotEq) rNe:=by
 intro pins s σ H x y v u Q I rx ry h
 obtain⟨hs,q⟩:=h
 cases x with
 |non=>
  cases rx
  cases y with
  |non=>cases ry;exact PySem.EqNone.ne_none_none (aq' I q (by simp))
  |bl j=>cases ry;exact PySem.EqNone.ne_none_bool (aq' I q (by simp))
  |int j=>obtain⟨t',rfl⟩:=ry;exact PySem.EqNone.ne_none_int (aq' I q (by simp))
  |str j=>obtain⟨t',rfl⟩:=ry;exact PySem.EqNone.ne_none_str (aq' I q (by simp))
  |_=>exact absurd (show false=true from hs) Bool.false_ne_true
 |bl i=>
  cases rx
  cases y with
  |non=>cases ry;exact PySem.EqNone.ne_bool_none (aq' I q (by simp))
  |bl j=>cases ry;exact ne_bool (aq' I q (congrArg not mg'))
  |str j=>obtain⟨t',rfl⟩:=ry;exact PySem.EqMixed.ne_bool_str (aq' I q (by simp))
  |_=>exact absurd (show false=true from hs) Bool.false_ne_true
 |int i=>
  obtain⟨t,rfl⟩:=rx
  cases y with
  |non=>cases ry;exact PySem.EqNone.ne_int_none (aq' I q (by simp))
  |int j=>obtain⟨t',rfl⟩:=ry;exact ne_int (aq' I q (congrArg not fp'))
  |str j=>obtain⟨t',rfl⟩:=ry;exact PySem.EqMixed.ne_int_str (aq' I q (by simp))
  |_=>exact absurd (show false=true from hs) Bool.false_ne_true
 |str i=>
  obtain⟨t,rfl⟩:=rx
  cases y with
  |non=>cases ry;exact PySem.EqNone.ne_str_none (aq' I q (by simp))
  |bl j=>cases ry;exact PySem.EqMixed.ne_str_bool (aq' I q (by simp))
  |int j=>obtain⟨t',rfl⟩:=ry;exact PySem.EqMixed.ne_str_int (aq' I q (by simp))
  |str j=>obtain⟨t',rfl⟩:=ry;exact ne_str (aq' I q (congrArg not ii'))
  |_=>exact absurd (show false=true from hs) Bool.false_ne_true
 |byt i=>
  obtain⟨t,rfl⟩:=rx
  cases y with
  |byt j=>obtain⟨t',rfl⟩:=ry;exact W.ne_bytes (aq' I q (congrArg not ij'))
  |_=>exact absurd (show false=true from hs) Bool.false_ne_true
 |_=>cases y<;>exact absurd (show false=true from hs) Bool.false_ne_true
theorem ug':OpR X (compareOp .Lt) (rI0 fun i j=>.bl (decide (i<j))):=tE' fun _ _ _ _ _ _ _ q=>lt_int q
theorem uh':OpR X (compareOp .LtE) (rI0 fun i j=>.bl (decide (i<=j))):=tE' fun _ _ _ _ _ _ _ q=>le_int q
theorem ui':OpR X (compareOp .Gt) (rI0 fun i j=>.bl (decide (j<i))):=tE' fun _ _ _ _ _ _ _ q=>gt_int q
theorem uj':OpR X (compareOp .GtE) (rI0 fun i j=>.bl (decide (j<=i))):=tE' fun _ _ _ _ _ _ _ q=>ge_int q
theorem ik':OpR X (compareOp .Lt) (fun x y H Q=>∃i j,x=.str i/\y=.str j/\Q (.bl (decide (i.cps.toList<j.cps.toList))) H):=by
 intro pins s σ H x y v u Q I rx ry h
 obtain⟨i,j,rfl,rfl,q⟩:=h
 obtain⟨t,rfl⟩:=rx
 obtain⟨t',rfl⟩:=ry
 exact lt_str (aq' I q rfl)
theorem qv':OpR X (compareOp .Is) (fun x y H Q=>y=.non/\Q (.bl (decide (x=.non))) H):=by
 intro pins s σ H x y v u Q I rx ry h
 obtain⟨rfl,q⟩:=h
 cases ry
 refine is_none_gen (aq' I q ?_)
 cases x<;>first
  |(cases rx;rfl)
  |(obtain⟨t,rfl⟩:=rx;rfl)
theorem od':OpR X (compareOp .IsNot) (fun x y H Q=>y=.non/\Q (.bl (!decide (x=.non))) H):=by
 intro pins s σ H x y v u Q I rx ry h
 obtain⟨rfl,q⟩:=h
 cases ry
 refine isnot_none_gen (aq' I q ?_)
 cases x<;>first
  |(cases rx;rfl)
  |(obtain⟨t,rfl⟩:=rx;rfl)
theorem OpR.or {f:Value->Value->Sem Value} {r r':R2} (h:OpR X f r) (h':OpR X f r'):OpR X f (fun x y H Q=>r x y H Q\/r' x y H Q):=by
 intro pins s σ H x y v u Q I rx ry q
 rcases q with q|q
 .exact h pins s σ H x y v u Q I rx ry q
 .exact h' pins s σ H x y v u Q I rx ry q
theorem oe' {op:CmpOp} {r:R2} (ho:OpR X (compareOp op) r) (ha:PE X a ta) (hb:PE X b tb) (hm:behindInMarks op b=false):PE X (.Compare a [op] [b] pos) (tOp r ta tb):=by
 intro pins s σ H Q I h
 exact wpAny_Compare1 (ua' ha hb I h fun v u s2 x y H2 I2 rx ry q=>ho pins s2 σ H2 x y v u Q I2 rx ry q) hm
noncomputable def fq' (t:TE):TT:=fun σ H Q=>t σ H fun x H'=>∃k,x=.bl k/\Q k H'
theorem il' {op:CmpOp} {r:R2} (ho:OpR X (compareOp op) r) (ha:PE X a ta) (hb:PE X b tb) (hm:behindInMarks op b=false):PT X (.Compare a [op] [b] pos) (fq' (tOp r ta tb)):=by
 intro pins s σ H Q I h
 refine wpAny_isTrue_Compare1 (thn (ha pins s σ H _ I h) fun v s1 ⟨x,H1,I1,r1,q1⟩=>thn (hb pins s1 σ H1 _ I1 q1) fun u s2 ⟨y,H2,I2,r2,q2⟩=>
  thn (ho pins s2 σ H2 x y v u _ I2 r1 r2 q2) fun c s3 ⟨z,H3,I3,r3,k,e,q3⟩=>?_) hm
 subst e
 cases r3
 exact wpAny_truthy_bool ⟨H3,I3,q3⟩
def qw' (K:W.Frag) (x:V) (H:Hp) (k:Bool):Prop:=
 match x with
 | .non=>k=false
 | .bl b=>k=b
 | .int i=>k=(i != 0)
 | .str y=>y.length<=sizeLine/\k=((y.length:Int) != 0)
 | .byt y=>y.size<=sizeLine/\k=((y.size:Int) != 0)
 | .ref p=>(∃xs,SqL K H p xs/\k=!xs.isEmpty)\/(∃xs,SqT K H p xs/\k=!xs.isEmpty)\/∃kvs,H p=some (.dK kvs)/\k=!kvs.isEmpty
 |_=>False
theorem g5' {κ:Type} {kvs:List (κ×V)} {vs:List (κ×Value)} (r:KV kvs vs):(!vs.isEmpty)=!kvs.isEmpty:=by
 cases r<;>rfl
theorem dG' {xs:List V} {its:List Value} (r:az' xs its):(!its.toArray.isEmpty)=!xs.isEmpty:=by
 cases r<;>simp
theorem dH':(sizeLine:Nat)<2 ^ 63:=by rw[sizeLine_eq];decide
theorem qx':ww' X (fun x H Q=>∃k,qw' X.K x H k/\Q k H):=by
 intro pins s σ H x v Q I rx h
 obtain⟨k,e,q⟩:=h
 have hl:=dH'
 have hs:sizeLine=16777216:=sizeLine_eq
 cases x with
 |non=>
  cases rx
  have e':k=false:=e
  subst e'
  exact truthy_none ⟨H,I,q⟩
 |bl b=>
  cases rx
  have e':k=b:=e
  subst e'
  exact wpAny_truthy_bool ⟨H,I,q⟩
 |int i=>
  obtain⟨t,rfl⟩:=rx
  have e':k=(i != 0):=e
  subst e'
  exact PySem.P.truthy_int ⟨H,I,q⟩
 |str y=>
  obtain⟨t,rfl⟩:=rx
  obtain⟨hy,e'⟩:y.length<=sizeLine/\k=((y.length:Int) != 0):=e
  subst e'
  exact PySem.P.truthy_str (by omega) ⟨H,I.tok _,q⟩
 |byt y=>
  obtain⟨t,rfl⟩:=rx
  obtain⟨hy,e'⟩:y.size<=sizeLine/\k=((y.size:Int) != 0):=e
  subst e'
  exact W.truthy_bytes (by omega) ⟨H,I.tok _,q⟩
 |ref p=>
  cases rx
  have e':(∃xs,SqL X.K H p xs/\k=!xs.isEmpty)\/(∃xs,SqT X.K H p xs/\k=!xs.isEmpty)\/∃kvs,H p=some (.dK kvs)/\k=!kvs.isEmpty:=e
  rcases e' with⟨xs,hx,e'⟩|⟨xs,hx,e'⟩|⟨kvs,hx,e'⟩
  .subst e'
   obtain⟨its,r,pl,hz⟩:=I.list hx
   have hlen:=r.length
   exact wpAny_truthy_list pl.isList (by simp only[List.size_toArray];omega) ⟨H,I.tok _,by rw[dG' r];exact q⟩
  .subst e'
   obtain⟨its,r,pl,hz⟩:=I.tuple hx
   have hlen:=r.length
   exact truthy_tuple pl (by simp only[List.size_toArray];omega) ⟨H,I.tok _,by rw[dG' r];exact q⟩
  .subst e'
   obtain⟨hz,hS,vs,r,m⟩:kvs.length<=sizeLine/\(p == sysModules)=false/\∃vs,KV kvs vs/\s.heap.DictOf (aC' X.prog X.w) p vs:=I.hok p _ hx
   have hlen:kvs.length=vs.length:=Paired.length r
   exact wpAny_truthy_dict hS m (by omega) ⟨H,I.tok _,by rw[g5' r];exact q⟩
 |_=>exact(show False from e).elim
theorem kN' (ha:PE X a ta) (he:∀whole,isTrue a X.env whole=(do let v <- whole;standAt a.pos;holding [v] (truthy v))):
  PT X a (fun σ H Q=>ta σ H fun x H'=>∃k,qw' X.K x H' k/\Q k H'):=by
 intro pins s σ H Q I h
 exact isTrue_plain (thn (ha pins s σ H _ I h) fun v s1 ⟨x,H1,I1,r1,q1⟩=>qx' pins s1 σ H1 x v Q I1 r1 q1) (he _)
theorem g6':OpR X (binaryOp .Add) (fun x y H Q=>∃i j,x=.str i/\y=.str j/\i.length+j.length<=sizeLine/\Q (.str (i++j)) H):=by
 intro pins s σ H x y v u Q I rx ry h
 obtain⟨i,j,rfl,rfl,hz,q⟩:=h
 obtain⟨t,rfl⟩:=rx
 obtain⟨t',rfl⟩:=ry
 exact add_str (fun t' tk=>⟨.str (i++j),H,I.tok _,⟨_,rfl⟩,q⟩) hz
theorem b2' {x:V} {us:List Value} (r:az' [x] us):∃u,us=[u]/\ao' x u:=by
 cases r with
 |cons r1 r2=>cases r2;exact⟨_,rfl,r1⟩
theorem im' {x y:V} {us:List Value} (r:az' [x,y] us):∃u w',us=[u,w']/\ao' x u/\ao' y w':=by
 cases r with
 |cons r1 r2=>
  cases r2 with
  |cons r3 r4=>cases r4;exact⟨_,_,rfl,r1,r3⟩
theorem kO':aH' X (.builtin "abs") (fun xs H Q=>∃i,xs=[.int i]/\Q (.int (if i<0 then -i else i)) H):=by
 intro pins s σ H xs us Q I r h
 obtain⟨i,rfl,q⟩:=h
 obtain⟨u,rfl,t,rfl⟩:=b2' r
 exact call_abs_int fun u tk=>⟨.int (if i<0 then -i else i),H,I.tok _,⟨_,rfl⟩,q⟩
theorem in' (hc:X.calm=true):aH' X (.builtin "max") (fun xs H Q=>∃i j,xs=[.int i,.int j]/\Q (.int (if j > i then j else i)) H):=by
 intro pins s σ H xs us Q I r h
 obtain⟨i,j,rfl,q⟩:=h
 obtain⟨u,w',rfl,⟨t,rfl⟩,⟨t',rfl⟩⟩:=im' r
 refine max_two_ints (I.ok.hd hc) fun h' tk k=>⟨_,H,I.kept k,?_,q⟩
 by_cases hj:j > i
 .rw[if_pos hj,if_pos hj];exact⟨_,rfl⟩
 .rw[if_neg hj,if_neg hj];exact⟨_,rfl⟩
theorem io' (hc:X.calm=true):aH' X (.builtin "min") (fun xs H Q=>∃i j,xs=[.int i,.int j]/\Q (.int (if j<i then j else i)) H):=by
 intro pins s σ H xs us Q I r h
 obtain⟨i,j,rfl,q⟩:=h
 obtain⟨u,w',rfl,⟨t,rfl⟩,⟨t',rfl⟩⟩:=im' r
 refine min_two_ints (I.ok.hd hc) fun h' tk k=>⟨_,H,I.kept k,?_,q⟩
 by_cases hj:j<i
 .rw[if_pos hj,if_pos hj];exact⟨_,rfl⟩
 .rw[if_neg hj,if_neg hj];exact⟨_,rfl⟩
theorem ip':aH' X (.type "int") (fun xs H Q=>(∃i,xs=[.int i]/\Q (.int i) H)\/∃k,xs=[.bl k]/\Q (.int (if k then 1 else 0)) H):=by
 intro pins s σ H xs us Q I r h
 rcases h with⟨i,rfl,q⟩|⟨k,rfl,q⟩
 .obtain⟨u,rfl,t,rfl⟩:=b2' r
  exact call_int_int ⟨.int i,H,I,⟨_,rfl⟩,q⟩
 .obtain⟨u,rfl,r1⟩:=b2' r
  cases r1
  exact call_int_bool ⟨.int (if k then 1 else 0),H,I.tok _,⟨_,rfl⟩,q⟩
theorem eB':aH' X (.type "str") (fun xs H Q=>∃i,xs=[.int i]/\i.natAbs.log2<1920/\Q (.str (toString i)) H):=by
 intro pins s σ H xs us Q I r h
 obtain⟨i,rfl,hz,q⟩:=h
 obtain⟨u,rfl,t,rfl⟩:=b2' r
 exact PySem.P.str_of_int hz ⟨.str _,H,I.tok _,⟨_,rfl⟩,q⟩
def vI' (K:W.Frag) (x:V) (H:Hp) (n:Nat):Prop:=
 match x with
 | .str y=>y.length<=sizeLine/\n=y.length
 | .byt y=>y.size<=sizeLine/\n=y.size
 | .ref p=>(∃xs,SqL K H p xs/\n=xs.length)\/∃xs,SqT K H p xs/\n=xs.length
 |_=>False
theorem kP':aH' X (.builtin "len") (fun xs H Q=>∃x n,xs=[x]/\vI' X.K x H n/\Q (.int n) H):=by
 intro pins s σ H xs us Q I r h
 obtain⟨x,n,rfl,e,q⟩:=h
 obtain⟨u,rfl,rx⟩:=b2' r
 have hl:=dH'
 have hs:sizeLine=16777216:=sizeLine_eq
 cases x with
 |str y=>
  obtain⟨t,rfl⟩:=rx
  obtain⟨hy,e'⟩:y.length<=sizeLine/\n=y.length:=e
  subst e'
  exact len_str (by omega) ⟨.int _,H,I.tok _,⟨_,rfl⟩,q⟩
 |byt y=>
  obtain⟨t,rfl⟩:=rx
  obtain⟨hy,e'⟩:y.size<=sizeLine/\n=y.size:=e
  subst e'
  exact W.len_bytes (by omega) ⟨.int _,H,I.tok _,⟨_,rfl⟩,q⟩
 |ref p=>
  cases rx
  have e':(∃xs,SqL X.K H p xs/\n=xs.length)\/∃xs,SqT X.K H p xs/\n=xs.length:=e
  rcases e' with⟨xs,hx,e'⟩|⟨xs,hx,e'⟩
  .subst e'
   obtain⟨its,r',pl,hz⟩:=I.list hx
   have hlen:=r'.length
   exact Calls.call_len_list pl.isList (by simp only[List.size_toArray];omega) ⟨.int xs.length,H,I.tok _,⟨_,by simp only[List.size_toArray];rw[hlen]⟩,q⟩
  .subst e'
   obtain⟨its,r',pl,hz⟩:=I.tuple hx
   have hlen:=r'.length
   exact len_tuple pl (by simp only[List.size_toArray];omega) ⟨.int xs.length,H,I.tok _,⟨_,by simp only[List.size_toArray];rw[hlen]⟩,q⟩
 |_=>exact(show False from e).elim
end
structure ObjM (h:Heap) (x dx C:Addr) (mA:Str->Option Value):Prop where
 obj:h.get? x=some (W.instObj C dx)
 ns:h.Ns1 dx mA
 ne:dx≠x
set_option tactic.hygienic true in
theorem iq' {h:Heap} {dx:Addr} {mA:Str->Option Value} (n:h.Ns1 dx mA):∃od,h.get? dx=some od/\∀name,W.lookIn name od=some (mA name):=by
 obtain⟨o,es,ep,ho,hd,hk,_,hm⟩:=n
 refine⟨o,ho,fun name=>?_⟩
 have e:=hm name
 unfold nsFind findBy at e
 rw[<- Array.find?_toList]at e
 unfold W.lookIn
 rw[hd]
 dsimp only
 split
 .rename_i y q
  rw[q]at e
  exact congrArg some e
 .rename_i q
  rw[q]at e
  have a:es.toList.any (·.refKey)=false:=by
   rw[List.any_eq_false]
   intro y hy
   obtain⟨z,t,hkey⟩:=hk y (Array.mem_toList_iff.mp hy)
   simp[DictEntry.refKey,hkey]
  have a':¬es.toList.any (·.refKey)=true:=by rw[a];exact Bool.false_ne_true
  rw[if_neg a']
  exact congrArg some e
theorem ObjM.look {h:Heap} {x dx C:Addr} {mA:Str->Option Value} (I:ObjM h x dx C mA):∃od,W.InstAt h x (W.instObj C dx) C (some od)/\∀name,W.lookIn name od=some (mA name):=
 let⟨od,ho,hl⟩:=iq' I.ns
 ⟨od,⟨I.obj,rfl,rfl,ho⟩,hl⟩
section
variable {prog:Program} {w:World} {A:Around} {E:Value->Shared->Prop} {s:Shared} {K:W.Frag} {x dx C f:Addr} {mA:Str->Option Value} {name:Str} {v:Value}
end
theorem h7'.some_of {v:V} {o:Option Value} (r:h7' (some v) o):∃u,o=some u/\ao' v u:=by
 cases o with
 |none=>exact(show False from r).elim
 |some u=>exact⟨u,rfl,r⟩
section
variable {P:Program} {w:World} {H H':Hp} {h h':Heap} {a C dx:Addr} {fs fs':List (Str×V)}
theorem of' (hok:HOk P w H h) (e:H a=some (.ins C dx fs)):∃mA,ObjM h a dx C mA/\(∀f,h7' (fs.lookup f) (mA f))/\PySem.Within mA (fs.map (·.1))/\fs.length<=1000/\H dx=some (.own a):=by
 obtain⟨d,z,ne,ob,mA,n,r,q⟩:=(show av' P w H h a (.ins C dx fs) from hok a _ e)
 exact⟨mA,⟨ob,n,ne⟩,r,q,z,d⟩
end
structure Cls (K:W.Frag) (C:Addr):Prop where
 pg:W.plainGet K C Str.empty=true
 hd:W.hasDictIn K C=true
 po:W.plainOver K C=true
 sa:W.findIn K (.ref C) "__setattr__"=some (some (.builtin "object.__setattr__"))
theorem Cls.get {K:W.Frag} {C:Addr} (c:Cls K C) (f:Str):W.plainGet K C f=true:=c.pg
structure Con (K:W.Frag) (C:Addr) (f:Str) (v:V) (u:Value):Prop where
 at_:W.findIn K (.ref C) f=some (some u)
 rel:ao' v u
 get:W.specialIn K u "__get__"=some none
 cp:W.copiedNames.contains f=false
structure Meth (K:W.Frag) (C:Addr) (m:Str) (f:Addr):Prop where
 at_:W.findIn K (.ref C) m=some (some (.ref f))
 fn:W.isFn K (.ref f)=true
 kp:W.keepIn K (.ref f)=true
section
variable {X:Cx} {pins:List (Addr×Obj)} {σ:St} {H:Hp} {s:Shared} {a C dx:Addr} {fs:List (Str×V)} {f:Str} {v:V} {A:Around} {E:Value->Shared->Prop}
end
section
variable {X:Cx} {o e value:Expr} {f:Str} {pos pos' tpos:Pos} {ta tv:TE}
end
section
variable {X:Cx} {pins:List (Addr×Obj)} {σ:St} {H:Hp} {s:Shared} {A:Around} {E:Value->Shared->Prop} {Q:Value->Shared->Prop} {c:Value} {b:Bool}
inductive TyOf (K:W.Frag) (H:Hp):V->Value->Prop where
 |non:TyOf K H .non (.type "NoneType")
 |bl (x:Bool):TyOf K H (.bl x) (.type "bool")
 |int (i:Int):TyOf K H (.int i) (.type "int")
 |str (x:Str):TyOf K H (.str x) (.type "str")
 |flt (x:UInt64):TyOf K H (.flt x) (.type "float")
 |lst {a:Addr} {xs:List V} (e:H a=some (.lst xs)):TyOf K H (.ref a) (.type "list")
 |frz {a:Addr} {o:Obj} {xs:List V} (e:H a=some (.frz o (.lst xs))):TyOf K H (.ref a) (.type "list")
 |tup {a:Addr} {xs:List V} (e:H a=some (.tup xs)):TyOf K H (.ref a) (.type "tuple")
 |dK {a:Addr} {kvs:List (Key×V)} (e:H a=some (.dK kvs)):TyOf K H (.ref a) (.type "dict")
 |dT {a:Addr} {kvs:List (List Key×V)} (e:H a=some (.dT kvs)):TyOf K H (.ref a) (.type "dict")
 |ins {a C dx:Addr} {fs:List (Str×V)} (e:H a=some (.ins C dx fs)) (cl:Cls K C) (ha:W.findIn K (.ref C) "__class__"=some (some (.builtin "object.__class__")))
   (hn:W.specialIn K (.builtin "object.__class__") "__get__"=some (some (.builtin "getset_descriptor.__get__"))) (htk:W.takesIn K (.builtin "object.__class__")=some true)
   (hm:W.mroIn K C (.type "object")=some true):TyOf K H (.ref a) (.ref C)
theorem ir' {x:V} {u t:Value} (I:Inv X pins σ H s) (rx:ao' x u) (ty:TyOf X.K H x t) (e:W.kitOne X.K t c=some b) (h:∀tk,Q (.bool b) { s with toks:=tk }):
  wpAny (model X.prog X.w) A (call (.builtin "isinstance") [u,c]) Q E s:=by
 cases ty with
 |non=>cases(show u=Value.none from rx);exact W.kia_one W.kitx_none I.kIn True.intro e (fun z=>nomatch z) h
 |bl y=>cases(show u=Value.bool y from rx);exact W.kia_one W.kitx_bool I.kIn True.intro e (fun z=>nomatch z) h
 |int i=>obtain⟨t,q⟩:=(show ∃t,u=Value.int i t from rx);cases q;exact W.kia_one W.kitx_int I.kIn True.intro e (fun z=>nomatch z) h
 |str y=>obtain⟨t,q⟩:=(show ∃t,u=Value.str y t from rx);cases q;exact W.kia_one W.kitx_str I.kIn True.intro e (fun z=>nomatch z) h
 |flt y=>obtain⟨t,q⟩:=(show ∃t,u=Value.float y t from rx);cases q;exact W.kia_one W.kitx_float I.kIn True.intro e (fun z=>nomatch z) h
 | @lst a xs ea=>
  cases(show u=Value.ref a from rx)
  obtain⟨_,_,n,_,h1⟩:=(show av' X.prog X.w H s.heap a (.lst xs) from I.hok a _ ea)
  exact W.kia_one W.kitx_list I.kIn ⟨_,h1,rfl⟩ e (fun z=>nomatch z) h
 | @frz a ob xs ea=>
  cases(show u=Value.ref a from rx)
  obtain⟨_,_,_,n,_,h1⟩:=(show av' X.prog X.w H s.heap a (.frz ob (.lst xs)) from I.hok a _ ea)
  exact W.kia_one W.kitx_list I.kIn ⟨_,h1,rfl⟩ e (fun z=>nomatch z) h
 | @tup a xs ea=>
  cases(show u=Value.ref a from rx)
  obtain⟨_,_,_,p⟩:=(show av' X.prog X.w H s.heap a (.tup xs) from I.hok a _ ea)
  obtain⟨o,h1,h2,_⟩:=p
  exact W.kia_one W.kitx_tuple I.kIn ⟨o,h1,h2⟩ e (fun z=>nomatch z) h
 | @dK a kvs ea=>
  cases(show u=Value.ref a from rx)
  obtain⟨_,_,vs,_,p⟩:=(show av' X.prog X.w H s.heap a (.dK kvs) from I.hok a _ ea)
  obtain⟨o,es,ep,h1,h2,_⟩:=p
  exact W.kia_one W.kitx_dict I.kIn ⟨o,h1,h2.1⟩ e (fun z=>nomatch z) h
 | @dT a kvs ea=>
  cases(show u=Value.ref a from rx)
  obtain⟨_,_,xs,_,o,es,ep,h1,h2,_⟩:=(show av' X.prog X.w H s.heap a (.dT kvs) from I.hok a _ ea)
  exact W.kia_one W.kitx_dict I.kIn ⟨o,h1,h2.1⟩ e (fun z=>nomatch z) h
 | @ins a C dx fs ea cl ha hn htk hm=>
  cases(show u=Value.ref a from rx)
  obtain⟨mA,O,_⟩:=of' I.hok ea
  obtain⟨od,J,_⟩:=O.look
  exact W.kia_one (W.kitx_own (cl.get _) cl.hd ha hn htk hm) I.kIn J e (fun z=>nomatch z) h
end
structure Room (k:Nat) (A:Around):Prop where
 hd:A.handled=none
 dp:A.depth+3*k+5<recursionLimit
 un:A.units+16*k+200<cLine
 gd:A.guards=some []
theorem Room.mono {j k:Nat} {A:Around} (r:Room k A) (h:j<=k):Room j A:=⟨r.hd,by have:=r.dp;omega,by have:=r.un;omega,r.gd⟩
theorem Room.deeper {k:Nat} {A:Around} (r:Room (k+1) A) (env:Env):Room k (A.deeper env):=
 ⟨r.hd,by have:=r.dp;show A.depth+1+3*k+5<_;omega,by have:=r.un;show A.units+3+16*k+200<_;omega,r.gd⟩
theorem Room.depth {k:Nat} {A:Around} (r:Room k A):A.depth<recursionLimit:=by have:=r.dp;omega
theorem Room.units {k:Nat} {A:Around} (r:Room k A):A.units+64<cLine:=by have:=r.un;omega
noncomputable def kA':TA:=fun _ H Q=>Q [] H
noncomputable def cJ' (ta:TE) (tr:TA):TA:=fun σ H Q=>ta σ H fun x H1=>tr σ H1 fun xs H2=>Q (x :: xs) H2
section
variable {X:Cx} {e:Expr} {es:List Expr} {te:TE} {t:TA} {pos:Pos}
theorem f5':PA X [] kA':=fun _ _ _ _ H Q I h=>Calls.spliced_nil ⟨[],H,I,.nil,h⟩
theorem cZ' (ha:PE X e te) (hr:PA X es t) (hs:starEach (e :: es) X.env=(false,eval e X.env) :: starEach es X.env:=by rfl):PA X (e :: es) (cJ' te t):=by
 intro pos pins s σ H Q I h
 rw[hs]
 show wpAny _ _ (spliced ((false,eval e X.env) :: backTo pos (starEach es X.env))) _ _ s
 refine Calls.spliced_cons (thn (ha pins s σ H _ I h) fun u s1 ⟨x,H1,I1,r1,q1⟩=>?_)
 exact thn (hr pos pins s1 σ H1 _ I1 q1) fun us s2 ⟨xs,H2,I2,r2,q2⟩=>⟨x :: xs,H2,I2,.cons r1 r2,q2⟩
noncomputable def uk' (t:TA):TE:=fun σ H Q=>t σ H fun xs H1=>xs.length<=sizeLine/\∀p,H1 p=none->Q (.ref p) (upd H1 p (.tup xs))
noncomputable def ul' (t:TA):TE:=fun σ H Q=>t σ H fun xs H1=>xs.length<=sizeLine/\∀p,H1 p=none->Q (.ref p) (upd H1 p (.lst xs))
theorem qy' {x1} (h:PA X es t):PE X (.Tuple es x1 pos) (uk' t):=by
 intro pins s σ H Q I hq
 refine wpAny_Tuple_spliced (thn (h pos pins s σ H _ I hq) fun us s1 ⟨xs,H1,I1,r,z,q⟩=>⟨by rw[<- r.length];exact z,?_⟩)
 have hf:H1 s1.heap.objs.size=none:=I1.hok.fresh (Nat.le_refl _)
 refine⟨.ref s1.heap.objs.size,upd H1 s1.heap.objs.size (.tup xs),I1.laid (t':=s1.toks) (fun b u e=>Heap.get?_push_of_some _ e) (Nat.le_refl _) ?_,rfl,q _ hf⟩
 exact⟨z,us,r,⟨_,Heap.get?_push_size _ rfl,rfl,⟨_,rfl⟩,rfl⟩⟩
theorem qz' (h:PA X es t):PE X (.List es pos) (ul' t):=by
 intro pins s σ H Q I hq
 refine wpAny_List_spliced (thn (h pos pins s σ H _ I hq) fun us s1 ⟨xs,H1,I1,r,z,q⟩=>⟨by rw[<- r.length];exact z,?_⟩)
 have hf:H1 s1.heap.objs.size=none:=I1.hok.fresh (Nat.le_refl _)
 refine⟨.ref s1.heap.objs.size,upd H1 s1.heap.objs.size (.lst xs),I1.laid (t':=s1.toks) (fun b u e=>Heap.get?_push_of_some _ e) (Nat.le_refl _) ?_,rfl,q _ hf⟩
 exact⟨z,us,0,r,Heap.get?_push_size _ rfl⟩
end
noncomputable abbrev Sp:=List V->Hp->VK->XK->Prop
noncomputable abbrev CXT:=List Env->Hp->Shared->XK->Value->Shared->Prop
structure Env0 (P:Program) (w:World) (K:W.Frag) (mg:Str->Option Value) (base:Heap) (A:Around) (outer:List Env) (s:Shared) (H:Hp):Prop where
 frames:A.frames=some outer
 mod:Mod K mg base
 bs:∀b o,base.get? b=some o->s.heap.get? b=some o/\H b=none
 bsz:base.objs.size<=s.heap.objs.size
 funs:s.heap.FunFrames base outer
 frf:∀b∈frs outer,H b=none
 hok:HOk P w H s.heap
 bare:AllBare s.gens
def CE (outer:List Env) (P:Program) (w:World) (H:Hp) (s:Shared) (Q:VK) (u:Value) (s':Shared):Prop:=
 ∃v H',s'.os=s.os/\AllBare s'.gens/\Un (frs outer) [] H H' s.heap s'.heap/\HOk P w H' s'.heap/\ao' v u/\Q v H'
def CR (CX:CXT) (outer:List Env) (P:Program) (w:World) (H:Hp) (s:Shared) (Q:VK) (E:XK) (r:Result) (s':Shared):Prop:=
 match r with
 | .ok (.ret u)=>CE outer P w H s Q u s'
 | .ok _=>False
 | .error e=>CX outer H s E e s'
structure FnOk (P:Program) (w:World) (K:W.Frag) (mg:Str->Option Value) (base:Heap) (CX:CXT) (k:Nat) (f:Addr) (fd:FuncData) (ps:List Str) (sp:Sp):Prop where
 len:∀vs H Q E,sp vs H Q E->vs.length=ps.length
 run:∀(A:Around) (outer:List Env) (s:Shared) (H:Hp) (args:Args) (us:List Value) (vs:List V) (Q:VK) (E:XK),Room k A->Env0 P w K mg base A outer s H->BindsTo s fd args (ps.zip us)->az' vs us->sp vs H Q E->
  codeAny (model P w) A (.call (.ref f) args) (CR CX outer P w H s Q E) s
theorem FnOk.mono {P:Program} {w:World} {K:W.Frag} {mg:Str->Option Value} {base:Heap} {CX:CXT} {j k:Nat} {f:Addr} {fd:FuncData} {ps:List Str} {sp:Sp} (F:FnOk P w K mg base CX j f fd ps sp) (h:j<=k):
  FnOk P w K mg base CX k f fd ps sp:=⟨F.len,fun A outer s H args us vs Q E hr=>F.run A outer s H args us vs Q E (hr.mono h)⟩
section
variable {X:Cx} {pins:List (Addr×Obj)} {σ:St} {H:Hp} {s s':Shared}
theorem Inv.env0 (I:Inv X pins σ H s):Env0 X.prog X.w X.K X.mg X.base X.A X.stack s H:=
 ⟨I.ok.frames,I.ok.mod,I.bs,Nat.le_trans I.ok.bsz I.sz,I.stack,I.stkFree,I.hok,I.bare⟩
theorem Inv.after {Q:VK} {u:Value} (I:Inv X pins σ H s) (h:CE X.stack X.prog X.w H s Q u s'):EP X pins σ Q u s':=by
 obtain⟨v,H',os,bare,un,hok,r,q⟩:=h
 obtain⟨hh,g,d,t,os'⟩:=s'
 obtain rfl:os'=s.os:=os
 exact⟨v,H',I.call (h':=hh) (g':=g) (d':=d) (t':=t) (ch:=[]) un hok bare (fun b z=>absurd z (by simp)),r,q⟩
end
noncomputable def kQ' (sp:Sp) (dvs:List V) (E:XK) (t:TA):TE:=fun σ H Q=>t σ H fun vs H1=>sp (vs++dvs) H1 Q E
def dv' (K:W.Frag) (fd:FuncData) (ps:List Str) (ds:List Value):Prop:=
 ∀(s:Shared) (us:List Value),K.In s.heap->(us++ds).length=ps.length->BindsTo s fd ⟨us,[]⟩ (ps.zip (us++ds))
theorem dv'.all {K:W.Frag} {fd:FuncData} {ps:List Str} (h:∀us:List Value,us.length=ps.length->bindArgs fd ⟨us,[]⟩=pure (ps.zip us)):dv' K fd ps []:=fun s us _ hl=>by
 rw[List.append_nil]at hl ⊢
 exact .of_eq (h us hl)
section
variable {X:Cx} {CX:CXT} {k:Nat} {f C:Addr} {fd:FuncData} {ps:List Str} {sp:Sp} {dvs:List V} {ds:List Value} {E:XK} {x m:Str} {p pos apos:Pos} {e o:Expr} {es:List Expr} {ta:TE} {t:TA}
structure Mk (K:W.Frag) (C f:Addr):Prop where
 makes:W.makesIn K C=true
 init:W.findIn K (.ref C) "__init__"=some (some (.ref f))
 fn:W.isFn K (.ref f)=true
 kp:W.keepIn K (.ref C)=true
end
section
variable {X:Cx} {CX:CXT} {k:Nat} {f C:Addr} {fd:FuncData} {ps ks:List Str} {sp:Sp} {E:XK} {x m:Str} {p pos apos kpos:Pos} {e o:Expr} {es:List Expr} {kws:List Keyword} {te ta:TE} {t tk:TA} {nm:Option Str}
structure KBinds (K:W.Frag) (fd:FuncData) (ps ks:List Str) (g:List Value->List Value->List Value) (gV:List V->List V->List V):Prop where
 to:∀(s:Shared) (us ws:List Value),K.In s.heap->(g us ws).length=ps.length->BindsTo s fd ⟨us,ks.zip ws⟩ (ps.zip (g us ws))
 rel:∀{vs:List V} {us:List Value} {zs:List V} {ws:List Value},az' vs us->az' zs ws->az' (gV vs zs) (g us ws)
variable {g:List Value->List Value->List Value} {gV:List V->List V->List V}
end
structure FnScope (N P:List Str) (sc:Scope):Prop where
 kind:sc.kind=.function
 co:sc.isCoroutine=false
 gen:sc.isGenerator=false
 nd:N.Nodup
 pre:N.take P.length=P
 par:∀x∈P,sc.names.lookup x=some .local\/sc.names.lookup x=some .cell
 nofree:∀y∈sc.names,y.2≠.free
theorem eC' {kindOf:Str->Option NameKind} {x:Str}:∀{binds:List (Str×Value)} {m:Str->Option Value},(∀v,(x,v)∉binds)->bindL kindOf binds m x=m x
 | [],_,_=>rfl
 |(n,v) :: r,m,h=>by
  unfold bindL
  rw[eC' fun w hw=>h w (List.mem_cons_of_mem _ hw)]
  split
  .have:x≠n:=by rintro rfl;exact h v List.mem_cons_self
   simp[this]
  .rfl
theorem eD' {kindOf:Str->Option NameKind} {x:Str}:∀{binds:List (Str×Value)} {m:Str->Option Value},(∀v,(x,v)∉binds)->bindC kindOf binds m x=m x
 | [],_,_=>rfl
 |(n,v) :: r,m,h=>by
  unfold bindC
  rw[eD' fun w hw=>h w (List.mem_cons_of_mem _ hw)]
  split
  .rfl
  .have:x≠n:=by rintro rfl;exact h v List.mem_cons_self
   simp[this]
theorem eE' {kindOf:Str->Option NameKind} {x:Str} {v:Value}:∀{P:List Str} {vs:List Value} {i:Nat} {m:Str->Option Value},P.Nodup->P[i]?=some x->vs[i]?=some v->kindOf x=some .local->
  bindL kindOf (P.zip vs) m x=some v
 | [],_,_,_,_,h,_,_=>by simp at h
 |_ :: _,[],_,_,_,_,h,_=>by simp at h
 |p :: P,w :: vs,0,m,nd,h1,h2,hk=>by
  simp at h1 h2;subst h1;subst h2
  show bindL kindOf ((p,w) :: P.zip vs) m p=_
  unfold bindL
  rw[eC' fun v hv=>(List.nodup_cons.mp nd).1 (List.of_mem_zip hv).1,if_pos hk]
  simp
 |p :: P,w :: vs,i+1,m,nd,h1,h2,hk=>by
  show bindL kindOf ((p,w) :: P.zip vs) m x=_
  unfold bindL
  exact eE' (i:=i) (List.nodup_cons.mp nd).2 (by simpa using h1) (by simpa using h2) hk
theorem eF' {kindOf:Str->Option NameKind} {x:Str} {v:Value}:∀{P:List Str} {vs:List Value} {i:Nat} {m:Str->Option Value},P.Nodup->P[i]?=some x->vs[i]?=some v->kindOf x≠some .local->
  bindC kindOf (P.zip vs) m x=some v
 | [],_,_,_,_,h,_,_=>by simp at h
 |_ :: _,[],_,_,_,_,h,_=>by simp at h
 |p :: P,w :: vs,0,m,nd,h1,h2,hk=>by
  simp at h1 h2;subst h1;subst h2
  show bindC kindOf ((p,w) :: P.zip vs) m p=_
  unfold bindC
  rw[eD' fun v hv=>(List.nodup_cons.mp nd).1 (List.of_mem_zip hv).1,if_neg hk]
  simp
 |p :: P,w :: vs,i+1,m,nd,h1,h2,hk=>by
  show bindC kindOf ((p,w) :: P.zip vs) m x=_
  unfold bindC
  exact eF' (i:=i) (List.nodup_cons.mp nd).2 (by simpa using h1) (by simpa using h2) hk
noncomputable def aU' (N:List Str) (vs:List V):St:=vs.map some++List.replicate (N.length-vs.length) none
noncomputable def pU' (CX:CXT) (P:Program) (w:World) (K:W.Frag) (mg:Str->Option Value) (base:Heap) (N:List Str) (qual:Str) (scope:Scope) (f:Addr) (cd:Value) (A:Around) (outer:List Env) (s:Shared) (H:Hp) (E:XK):Cx where
 prog:=P
 w:=w
 K:=K
 mg:=mg
 base:=base
 A:=A.deeper (envOfC qual scope s.heap.objs.size f cd)
 N:=N
 s₀:=s
 H₀:=H
 env:=envOfC qual scope s.heap.objs.size f cd
 outer:=outer
 stack:=envOfC qual scope s.heap.objs.size f cd :: outer
 ex:=[]
 calm:=true
 fn:=fun _=>true
 pn:=[]
 xe:=fun e s'=>wpAny (model P w) (A.deeper (envOfC qual scope s.heap.objs.size f cd)) (leaving (envOfC qual scope s.heap.objs.size f cd) e) (fun _ s''=>CX outer H s E e s'') (fun e' s''=>CX outer H s E e' s'') s'
theorem d0' {sc:Scope} {n:Nat} {x:Str} (h:sc.names.lookup x=some .cell):∃c,(cellsFrom n sc.names []).lookup x=some c:=by
 have q:=W.cellsFrom_some sc.names n [] (.inl h)
 exact Option.isSome_iff_exists.mp q
theorem iu' {CX:CXT} {P:Program} {w:World} {K:W.Frag} {mg:Str->Option Value} {base:Heap} {N ps:List Str} {qual:Str} {scope:Scope} {f:Addr} {cd:Value} {A:Around} {outer:List Env} {s s1:Shared} {H:Hp} {E:XK} {us:List Value} {vs:List V}
  (S:FnScope N ps scope) (hd:A.handled=none) (e0:Env0 P w K mg base A outer s H) (hl:vs.length=ps.length) (r:az' vs us)
  (x:InCallC s s.heap.objs.size (bindL (envOfC qual scope s.heap.objs.size f cd).kindOf (ps.zip us) fun _=>none) (cellsFrom (s.heap.objs.size+1) scope.names []) (bindC (envOfC qual scope s.heap.objs.size f cd).kindOf (ps.zip us) fun _=>none) s1):
  Inv (pU' CX P w K mg base N qual scope f cd A outer s H E) [] (aU' N vs) H s1:=by
 have hpl:ps.length<=N.length:=by have:=congrArg List.length S.pre;rw[List.length_take]at this;omega
 obtain⟨h1,tk,rfl,hk⟩:=x.done
 have noA:∀b:Addr,b∉(pU' CX P w K mg base N qual scope f cd A outer s H E).ex:=fun b z=>absurd (show b∈([]:List Addr) from z) (by simp)
 refine⟨⟨e0.mod,S.kind,rfl,rfl,Nat.le_refl _,fun y z c h1 h2=>?_,fun y hy=>?_,fun y c _ h=>?_,fun _=>hd,Around.frames_deeper e0.frames,.inr ⟨rfl,rfl⟩,fun b z=>absurd z (noA b),e0.bs,e0.bsz,fun b _ _=>noA b,fun b z=>absurd z (noA b),e0.funs,e0.frf⟩,
  rfl,e0.bare,Un.kept hk,⟨_,x.toInCall.ns,fun i y v h1 h2 h3=>?_⟩,fun y c h=>⟨_,x.cell y c h⟩,e0.hok.fresh (Nat.le_refl _),fun y c h=>?_,fun p hp=>absurd (show p∈([]:List (Addr×Obj)) from hp) (by simp),e0.hok.kept hk,?_⟩
 .exact name_of_addr x.apart (PySem.mem_of_lookup h1) (PySem.mem_of_lookup h2)
 .have hy:scope.names.lookup y=some .cell\/scope.names.lookup y=some .free:=hy
  rcases hy with hy|hy
  .exact d0' hy
  .exact absurd rfl (S.nofree _ (PySem.mem_of_lookup hy))
 .exact Nat.le_of_lt (x.above y c (PySem.mem_of_lookup h))
 .have hi:i<vs.length:=by
   unfold aU' at h2
   by_cases hi:i<vs.length
   .exact hi
   .rw[List.getElem?_append_right (by simpa using hi)]at h2
    rw[List.getElem?_replicate]at h2
    split at h2<;>cases h2
  have ha:vs[i]?=some v:=by
   unfold aU' at h2
   rw[List.getElem?_append_left (by simpa using hi),List.getElem?_map]at h2
   cases e:vs[i]? with
   |none=>rw[e]at h2;cases h2
   |some a=>rw[e]at h2;cases h2;rfl
  obtain⟨u,hu,rv⟩:=r.get ha
  have hp:ps[i]?=some y:=by
   rw[<- S.pre,List.getElem?_take_of_lt (by omega)];exact h1
  have ndP:ps.Nodup:=by rw[<- S.pre];exact S.nd.sublist (List.take_sublist _ _)
  refine⟨u,rv,?_⟩
  rcases S.par y (List.mem_of_getElem? hp)with k|k
  .exact .inl ⟨k,eE' ndP hp hu k⟩
  .obtain⟨c,e⟩:=d0' (n:=s.heap.objs.size+1) k
   refine .inr ⟨.inl k,c,e,?_⟩
   have q:=x.cell y c e
   rw[eF' ndP hp hu (by show scope.names.lookup y≠_;rw[k];decide)]at q
   exact q
 .exact e0.hok.fresh (Nat.le_of_lt (x.above y c (PySem.mem_of_lookup h)))
 .unfold aU'
  show _=N.length
  rw[List.length_append,List.length_map,List.length_replicate]
  omega
theorem um' {CX:CXT} {P:Program} {w:World} {K:W.Frag} {mg:Str->Option Value} {base:Heap} {k:Nat} {f:Addr} {name qual:Str} {params:Arguments} {body:List Stmt} {scope:Scope} {dV kV doc pm cdv ct oc:Value} {an od:Option Addr}
  {osl:Array (Option Value)} {N ps:List Str} {sp:Sp} (lk:K.lookup f=some ⟨oc,od,.func (W.fnOf name qual params body scope dV kV doc pm an cdv ct),osl⟩) (hcd:W.codeIn K cdv qual=true) (S:FnScope N ps scope)
  (len:∀vs H Q E,sp vs H Q E->vs.length=ps.length)
  (hbody:∀(A:Around) (outer:List Env) (s:Shared) (H:Hp) (vs:List V) (Q:VK) (E:XK),Room k (A.deeper (envOfC qual scope s.heap.objs.size f cdv))->sp vs H Q E->
   ∃t,PSs (pU' CX P w K mg base N qual scope f cdv A outer s H E) body t/\t { nx:=fun _ H'=>Q .non H',rt:=Q } (aU' N vs) H):
  FnOk P w K mg base CX (k+1) f (W.fnOf name qual params body scope dV kV doc pm an cdv ct) ps sp:=by
 refine⟨len,fun A outer s H args us vs Q E hr e0 hb r hsp=>?_⟩
 have hl:=len _ _ _ _ hsp
 have KX:K.In s.heap:=e0.mod.kin.keeps fun b o e=>(e0.bs b o e).1
 have lim:s.heap.NoLimit:=e0.mod.nolimit.keeps fun b o e=>(e0.bs b o e).1
 have hkind:∀y∈ps.zip us,scope.names.lookup y.1=some .local\/(scope.names.lookup y.1=some .cell/\((cellsFrom (s.heap.objs.size+1) scope.names []).lookup y.1).isSome=true):=fun⟨n,v⟩ hy=>by
  rcases S.par n (List.of_mem_zip hy).1 with q|q
  .exact .inl q
  .exact .inr ⟨q,W.cellsFrom_some _ _ _ (.inl q)⟩
 refine codeAny_call_function hr.depth (KX _ _ lk) rfl S.co S.gen rfl (W.codeRec_of KX hcd) (hb _ _ _ _ ?_)
 refine wpAny_newFunctionEnv_cells S.kind hkind fun env he s1 x=>?_
 subst he
 refine⟨lim.keeps x.toInCall.keep,codeAny_func ?_⟩
 obtain⟨t,ht,hq⟩:=hbody A outer s H vs Q E (hr.deeper _) hsp
 have I:Inv (pU' CX P w K mg base N qual scope f cdv A outer s H E) [] (aU' N vs) H s1:=iu' S hr.hd e0 hl r x
 refine wpAny_mono (ht [] s1 (aU' N vs) H _ I hq) (fun fl s' hs=>?_) fun e s' hs=>hs
 have fin:∀{σ':St} {H':Hp} {v:V} {u:Value},Inv (pU' CX P w K mg base N qual scope f cdv A outer s H E) [] σ' H' s'->ao' v u->Q v H'->CE outer P w H s Q u s':=
  fun {σ' H' v u} J rv q=>⟨v,H',J.os,J.bare,J.base,J.hok,rv,q⟩
 cases fl with
 |ret u=>
  obtain⟨v,σ',H',J,rv,q⟩:=hs
  exact fin J rv q
 |next=>
  obtain⟨σ',H',J,q⟩:=hs
  exact fin (v:=V.non) (u:=Value.none) J rfl q
 |brk=>
  obtain⟨_,_,_,q⟩:=hs
  exact False.elim q
 |cont=>
  obtain⟨_,_,_,q⟩:=hs
  exact False.elim q
section
variable {X:Cx} {x:Str} {p pos:Pos} {e:Expr} {es:List Expr} {t:TA} {id T:String} {r:List V->Hp->VK->Prop}
noncomputable def tCB (r:List V->Hp->VK->Prop) (t:TA):TE:=fun σ H Q=>t σ H fun vs H1=>r vs H1 Q
theorem kR' (hc:aH' X (.builtin id) r) (hg:Gl X x) (hm:X.mg x=none) (hv:bootBuiltins x=some (.builtin id)) (ha:PA X (e :: es) t) (hn:x≠"__name__":=by decide) (hdb:(x == ("__debug__":Str))=false:=by decide)
  (he:starEach (e :: es) X.env=(false,eval e X.env) :: starEach es X.env:=by rfl) (hpl:(backTo pos (starEach es X.env)).any (·.1)=false:=by rfl):PE X (.Call (.Name x p) (e :: es) [] pos) (tCB r t):=by
 intro pins s σ H Q I h
 refine wpAny_Call_Name_kw (dE' I hg hm hv ?_ hn hdb)
 exact PyProof.Rows.callWith_builtin1 (thn (ha pos pins s σ H _ I h) fun us s1 ⟨vs,H1,I1,r1,q1⟩=>hc pins s1 σ H1 vs us Q I1 r1 q1) he hpl
theorem iv' (hc:aH' X (.type T) r) (hg:Gl X x) (hm:X.mg x=none) (hv:bootBuiltins x=some (.type T)) (ha:PA X (e :: es) t) (hn:x≠"__name__":=by decide) (hdb:(x == ("__debug__":Str))=false:=by decide)
  (he:starEach (e :: es) X.env=(false,eval e X.env) :: starEach es X.env:=by rfl) (hpl:(backTo pos (starEach es X.env)).any (·.1)=false:=by rfl):PE X (.Call (.Name x p) (e :: es) [] pos) (tCB r t):=by
 intro pins s σ H Q I h
 refine wpAny_Call_Name_kw (dE' I hg hm hv ?_ hn hdb)
 exact PyProof.Rows.callWith_type1 (thn (ha pos pins s σ H _ I h) fun us s1 ⟨vs,H1,I1,r1,q1⟩=>hc pins s1 σ H1 vs us Q I1 r1 q1) he hpl
end
end L2
namespace HT
open PySem PyProof.Rows
section
open PySem.SeqAt
open PySem.AutoSeq1 (wpAny_loadPart')
open PySem.MeetsSeq PySem.MeetsSeq2 PySem.MeetsSeq3
end
section
variable {prog:Program} {w:World} {A:Around} {E:Value->Shared->Prop} {s:Shared}
theorem og' {t b:Addr} {vs ws:List Value} {Q:Value->Shared->Prop} (ht:IsTup s.heap t vs.toArray) (hb:IsTup s.heap b ws.toArray) (hv:vs≠[])
  (h1:ws=[]->Q (.ref t) s) (h2:ws≠[]->Q (.ref s.heap.objs.size) { s with heap:=s.heap.push { cls:=.type "tuple",data:=.seq (vs++ws).toArray } })
  (hsz:vs.length+ws.length<=sizeLine):wpAny (model prog w) A (binaryOp .Add (.ref t) (.ref b)) Q E s:=by
 obtain⟨⟨cls,dd,data,sl⟩,ho,hc,n,hd⟩:=id ht
 obtain⟨⟨cls2,dd2,data2,sl2⟩,ho2,hc2,n2,hd2⟩:=id hb
 simp only at hc hd hc2 hd2
 subst hc hd hc2 hd2
 have e:vs.toArray++ws.toArray=(vs++ws).toArray:=by simp
 by_cases hw:ws=[]
 .exact concat_meets ⟨_,ho,rfl⟩ ⟨_,ho2,rfl⟩ noFill_tuple_add seq_tuple_add PySem.F.slot_tuple_add PySem.F.entry_tuple_add (PySem.F.args_tuple_add_2 _ _)
   (tuple_addW1 t b vs.toArray ws.toArray n n2 dd dd2 sl sl2 (by simpa using hv) (by simp[hw])) ⟨ho,ho2,h1 hw⟩
 .refine concat_meets ⟨_,ho,rfl⟩ ⟨_,ho2,rfl⟩ noFill_tuple_add seq_tuple_add PySem.F.slot_tuple_add PySem.F.entry_tuple_add (PySem.F.args_tuple_add_2 _ _)
   (tuple_addW2 t b vs.toArray ws.toArray n n2 dd dd2 sl sl2 (by simpa using hv) (by simpa using hw) (by rw[List.size_toArray,List.size_toArray];exact hsz)) ⟨ho,ho2,?_⟩
  rw[e]
  exact h2 hw
noncomputable def sIx (n d:Nat):Option Int->Nat
 |none=>d
 |some v=>if v<0 then(v+(n:Int)).toNat else min v.toNat n
theorem kS' (n d:Nat):sIx n d none=d:=rfl
theorem oh' (n d k:Nat):sIx n d (some (k:Int))=min k n:=by
 show(if(k:Int)<0 then((k:Int)+(n:Int)).toNat else min (k:Int).toNat n)=min k n
 rw[if_neg (by omega),Int.toNat_natCast]
theorem qA' (n d:Nat) (hd:d<=n) (o:Option Int):sIx n d o<=n:=by
 cases o with
 |none=>exact hd
 |some v=>
  show(if v<0 then(v+(n:Int)).toNat else min v.toNat n)<=n
  by_cases hv:v<0
  .rw[if_pos hv];omega
  .rw[if_neg hv];exact Nat.min_le_right _ _
theorem iw' (v:Int) (n d:Nat):(if v<0 then max (v+(n:Int)) 0 else min v (n:Int))=((sIx n d (some v):Nat):Int):=by
 show(if v<0 then max (v+(n:Int)) 0 else min v (n:Int))=(((if v<0 then(v+(n:Int)).toNat else min v.toNat n):Nat):Int)
 by_cases hv:v<0
 .simp only[if_pos hv];omega
 .simp only[if_neg hv];omega
theorem g7' (lo hi:Option Int) (n:Nat):Builtin.Slice.sliceAdjust lo hi 1 (n:Int)=(((sIx n 0 lo:Nat):Int),((sIx n n hi:Nat):Int)):=by
 have h1:¬((1:Int)<0):=by omega
 unfold Builtin.Slice.sliceAdjust
 simp only[h1,if_false]
 refine Prod.ext ?_ ?_
 .cases lo with
  |none=>rfl
  |some v=>exact iw' v n 0
 .cases hi with
  |none=>rfl
  |some v=>exact iw' v n n
theorem g8' (i j:Nat):Builtin.Slice.slicePlaces (i:Int) (j:Int) 1=j-i:=by
 unfold Builtin.Slice.slicePlaces
 have h1:(1:Int) > 0:=by omega
 simp only[h1,if_true,Int.ediv_one]
 split<;>omega
theorem dI' {v:Value} {o:Option Int} {Q:Option Int->Shared->Prop} (p:IsPart v o) (h:Q o s):wpAny (model prog w) A (Builtin.Slice.slicePartIndex v) Q E s:=by
 cases p with
 |none=>exact slicePart_none h
 |int i t=>exact slicePart_int h
theorem bF' {sl:Addr} {vl vu:Value} {lo hi:Option Int} {n:Nat} {Q:Int×Int×Nat->Shared->Prop} (hs:s.heap.IsSliceOf sl vl vu .none) (pl:IsPart vl lo) (pu:IsPart vu hi)
  (h:Q (((sIx n 0 lo:Nat):Int),1,sIx n n hi-sIx n 0 lo) s):wpAny (model prog w) A (Builtin.Slice.sliceApplied (.ref sl) (pure (n:Int))) Q E s:=by
 obtain⟨os,hos,hcs,hds⟩:=id hs
 unfold Builtin.Slice.sliceApplied Builtin.Slice.sliceFields
 refine wpAny_bind (wpAny_bind (wpAny_field hos hds (x:=vl) rfl (wpAny_bind (wpAny_field hos hds (x:=vu) rfl (wpAny_bind (wpAny_field hos hds (x:=.none) rfl (wpAny_pure ?_)))))))
 refine wpAny_bind (slicePart_none ?_)
 show wpAny _ _ (if((1:Int) == 0)=true then _ else _) _ _ s
 rw[if_neg (by decide)]
 refine wpAny_bind (dI' pl (wpAny_bind (dI' pu (wpAny_bind (wpAny_pure ?_)))))
 show wpAny _ _ (match Builtin.Slice.sliceAdjust lo hi 1 (n:Int)with|(lo,hi)=>pure (lo,(1:Int),Builtin.Slice.slicePlaces lo hi 1)) _ _ s
 rw[g7' lo hi n]
 show wpAny _ _ (pure (((sIx n 0 lo:Nat):Int),(1:Int),Builtin.Slice.slicePlaces ((sIx n 0 lo:Nat):Int) ((sIx n n hi:Nat):Int) 1)) _ _ s
 rw[g8']
 exact wpAny_pure h
theorem kT' (xs:Array Value) (i k:Nat):((List.range k).filterMap fun(m:Nat)=>xs[((i:Int)+(m:Int)*1).toNat]?).toArray=((xs.toList.drop i).take k).toArray:=by
 have e:(fun(m:Nat)=>xs[((i:Int)+(m:Int)*1).toNat]?)=fun m=>xs[i+m]?:=by
  funext m
  have:((i:Int)+(m:Int)*1).toNat=i+m:=by omega
  rw[this]
 rw[e]
 have:=pick_run xs i k
 rw[List.filterMap_map]at this
 have e2:((fun x=>xs[x]?)∘fun x=>i+x)=fun m=>xs[i+m]?:=rfl
 rw[e2]at this
 rw[this]
theorem cs' {t sl:Addr} {items:Array Value} {vl vu:Value} {lo hi:Option Int} {Q:Value->Shared->Prop} (ht:IsTup s.heap t items) (hs:s.heap.IsSliceOf sl vl vu .none) (pl:IsPart vl lo) (pu:IsPart vu hi)
  (hw:¬(sIx items.size 0 lo=0/\sIx items.size items.size hi=items.size))
  (h:Q (.ref s.heap.objs.size) { s with heap:=s.heap.push { cls:=.type "tuple",data:=.seq ((items.toList.drop (sIx items.size 0 lo)).take (sIx items.size items.size hi-sIx items.size 0 lo)).toArray } })
  (hsz:items.size<=sizeLine):wpAny (model prog w) A (getItem (.ref t) (.ref sl)) Q E s:=by
 have htake:sizeOk (.seq ((items.toList.drop (sIx items.size 0 lo)).take (sIx items.size items.size hi-sIx items.size 0 lo)).toArray):=by
  show((items.toList.drop (sIx items.size 0 lo)).take (sIx items.size items.size hi-sIx items.size 0 lo)).toArray.size<=sizeLine
  rw[List.size_toArray,List.length_take,List.length_drop,Array.length_toList]
  omega
 have hj:sIx items.size items.size hi<=items.size:=qA' _ _ (Nat.le_refl _) hi
 obtain⟨os,hos,hcs,hds⟩:=id hs
 have hTs:s.TypeIs (.ref sl) "slice":=⟨os,hos,hcs⟩
 unfold getItem
 try with_reducible refine wpAny_holding ?_
 first|refine wpAny_bind (wpAny_pure ?_)|skip
 refine wpAny_bind (wpAny_sequenceKey ht.typeIs (by decide) ?_)
 refine wpAny_bind (wpAny_callSpecial?_slot (name:=Str.ofString "__getitem__") ht.typeIs PyProof.Rows.slot_tuple_getitem
  (wpAny_call_entry PyProof.Rows.slot_tuple_getitem ht.typeIs entry_tuple_getitem ?_ (args_tuple_getitem _ _)))
 show wpAny _ _ (Builtin.Tuple.tupleItemsOf (.ref t) >>= _) _ _ s
 refine wpAny_bind (tupleItemsOf_ ht ?_)
 refine wpAny_bind (wpAny_typeOf hTs ?_)
 rw[if_pos (by decide)]
 refine wpAny_bind (bF' hs pl pu ?_)
 have hno:¬((((sIx items.size 0 lo:Nat):Int) == 0&&(1:Int) == 1&&(sIx items.size items.size hi-sIx items.size 0 lo) == items.size)=true):=by
  intro q
  rw[Bool.and_eq_true,Bool.and_eq_true]at q
  have q1:((sIx items.size 0 lo:Nat):Int)=0:=eq_of_beq q.1.1
  have q2:sIx items.size items.size hi-sIx items.size 0 lo=items.size:=eq_of_beq q.2
  exact hw ⟨by omega,by omega⟩
 show wpAny _ _ (if(((sIx items.size 0 lo:Nat):Int) == 0&&(1:Int) == 1&&(sIx items.size items.size hi-sIx items.size 0 lo) == items.size)=true then _ else _) _ _ s
 rw[if_neg hno,kT']
 first
  |exact wpAny_bind (m:=Builtin.Tuple.tupleExact _) (wpAny_newObj_type (wpAny_pure ⟨_,rfl,wpAny_pure h⟩) htake)
  |exact wpAny_bind (m:=Builtin.Tuple.tupleExact _) (wpAny_newObj_type (wpAny_bind (wpAny_pure (wpAny_pure ⟨_,rfl,wpAny_pure h⟩))) htake)
  |exact wpAny_bind (wpAny_bind (m:=Builtin.Tuple.tupleExact _) (wpAny_newObj_type (wpAny_pure (wpAny_pure ⟨_,rfl,wpAny_pure h⟩)) htake))
  |exact wpAny_bind (wpAny_bind (m:=Builtin.Tuple.tupleExact _) (wpAny_newObj_type (wpAny_pure ⟨_,rfl,wpAny_pure h⟩) htake))
end
end HT
namespace L2
open PySem PySem.Spec PyProof.Rows
noncomputable abbrev TO:=St->Hp->(Option Int->Hp->Prop)->Prop
def PO (X:Cx) (e:Option Expr) (t:TO):Prop:=
 ∀(pins:List (Addr×Obj)) (s:Shared) (σ:St) (H:Hp) (Q:Option Int->Hp->Prop),Inv X pins σ H s->t σ H Q->
  wpAny (model X.prog X.w) X.A (evalPart e X.env) (fun u s'=>∃o H',Inv X pins σ H' s'/\IsPart u o/\Q o H') X.xe s
noncomputable def fr':TO:=fun _ H Q=>Q none H
noncomputable def oi' (t:TE):TO:=fun σ H Q=>t σ H fun x H1=>∃i,x=.int i/\Q (some i) H1
theorem dJ' {ns:List Int}:∀{us:List Value},az' (ns.map V.int) us->IntsAre us ns:=by
 induction ns with
 |nil=>intro us r;rw[List.map_nil]at r;cases r;exact .nil
 |cons n ns ih=>
  intro us r
  rw[List.map_cons]at r
  cases r with
  |cons r1 r2=>
   obtain⟨t,e⟩:=r1
   subst e
   exact .cons n t (ih r2)
section
variable {X:Cx} {e:Expr} {te:TE} {lo hi:Option Expr} {tl th:TO} {pos p2:Pos}
theorem oj':PO X none fr':=by
 intro pins s σ H Q I h
 rw[evalPart_none]
 exact wpAny_pure ⟨none,H,I,.none,h⟩
theorem ok' (h:PE X e te):PO X (some e) (oi' te):=by
 intro pins s σ H Q I hw
 rw[evalPart_some]
 refine thn (h pins s σ H _ I hw) fun u s1 ⟨x,H1,I1,r1,q1⟩=>?_
 obtain⟨i,rfl,q⟩:=q1
 obtain⟨t,rfl⟩:=r1
 exact⟨some i,H1,I1,.int i t,q⟩
def SlR (X:Cx) (r:V->Option Int->Option Int->Hp->VK->Prop):Prop:=
 ∀(pins:List (Addr×Obj)) (s:Shared) (σ:St) (H:Hp) (x:V) (v vl vu:Value) (lo hi:Option Int) (sl:Addr) (Q:VK),Inv X pins σ H s->ao' x v->s.heap.IsSliceOf sl vl vu .none->IsPart vl lo->IsPart vu hi->r x lo hi H Q->
  ∃T id,typeLookup (.type T) "__getitem__"=pure (some (.builtin id))/\s.TypeIs v T/\wpAny (model X.prog X.w) X.A (getItem v (.ref sl)) (EP X pins σ Q) X.xe s
theorem SlR.or {r r':V->Option Int->Option Int->Hp->VK->Prop} (h:SlR X r) (h':SlR X r'):SlR X (fun x lo hi H Q=>r x lo hi H Q\/r' x lo hi H Q):=by
 intro pins s σ H x v vl vu lo hi sl Q I rx hs pl pu q
 rcases q with q|q
 .exact h pins s σ H x v vl vu lo hi sl Q I rx hs pl pu q
 .exact h' pins s σ H x v vl vu lo hi sl Q I rx hs pl pu q
noncomputable def tSl (r:V->Option Int->Option Int->Hp->VK->Prop) (te:TE) (tl th:TO):TE:=fun σ H Q=>te σ H fun x H1=>tl σ H1 fun l H2=>th σ H2 fun u H3=>r x l u H3 Q
theorem kU' {r:V->Option Int->Option Int->Hp->VK->Prop} (hr:SlR X r) (he:PE X e te) (hl:PO X lo tl) (hu:PO X hi th):PE X (.Subscript e (.Slice lo hi none p2) pos) (tSl r te tl th):=by
 intro pins s σ H Q I h
 refine Subscript_ (thn (he pins s σ H _ I h) fun v s1 ⟨x,H1,I1,r1,q1⟩=>?_)
 refine wpAny_Slice (thn (hl pins s1 σ H1 _ I1 q1) fun vl s2 ⟨l,H2,I2,pl,q2⟩=>thn (hu pins s2 σ H2 _ I2 q2) fun vu s3 ⟨u,H3,I3,pu,q3⟩=>?_)
 rw[evalPart_none]
 refine wpAny_pure ?_
 have I4:Inv X pins σ H3 { s3 with heap:=s3.heap.push { cls:=.type "slice",data:=.fields #[vl,vu,.none] } }:=I3.kept (t':=s3.toks) fun b ob q=>Heap.get?_push_of_some _ q
 obtain⟨T,id,hT,ht,hg⟩:=hr pins { s3 with heap:=s3.heap.push { cls:=.type "slice",data:=.fields #[vl,vu,.none] } } σ H3 x v vl vu l u s3.heap.objs.size Q I4 r1 (Heap.IsSliceOf.new ..) pl pu q3
 show wpAny (model X.prog X.w) X.A (subscriptTail e (.Slice lo hi none p2) v (.ref s3.heap.objs.size)) (EP X pins σ Q) X.xe { s3 with heap:=s3.heap.push { cls:=.type "slice",data:=.fields #[vl,vu,.none] } }
 exact tail_any (ops:=[.ref s3.heap.objs.size,v]) ht hT hg (by with_unfolding_all rfl)
noncomputable def kV' (xs:List V) (lo hi:Option Int):List V:=(xs.drop (HT.sIx xs.length 0 lo)).take (HT.sIx xs.length xs.length hi-HT.sIx xs.length 0 lo)
theorem c0' (xs:List V) (lo hi:Option Int):(kV' xs lo hi).length<=xs.length:=by
 unfold kV'
 rw[List.length_take,List.length_drop]
 omega
noncomputable def tG' (K:W.Frag):V->Option Int->Option Int->Hp->VK->Prop:=fun x lo hi H Q=>∃a xs,x=.ref a/\SqT K H a xs/\
 ¬(HT.sIx xs.length 0 lo=0/\HT.sIx xs.length xs.length hi=xs.length)/\∀p,H p=none->Q (.ref p) (upd H p (.tup (kV' xs lo hi)))
theorem qB':SlR X (tG' X.K):=by
 intro pins s σ H x v vl vu lo hi sl Q I rx hs pl pu h
 obtain⟨a,xs,rfl,hx,hw,q⟩:=h
 cases rx
 obtain⟨its,r,ht,hz⟩:=I.tuple hx
 have hlen:its.toArray.size=xs.length:=by rw[List.size_toArray];exact r.length.symm
 refine⟨"tuple",_,PyProof.Rows.slot_tuple_getitem.lookup,ht.typeIs,?_⟩
 refine HT.cs' ht hs pl pu (by rw[hlen];exact hw) ?_ (by rw[hlen];exact hz)
 rw[hlen]
 refine⟨.ref s.heap.objs.size,_,I.laid (t':=s.toks) (o:=.tup (kV' xs lo hi)) (fun b ob q=>Heap.get?_push_of_some _ q) (Nat.le_refl _) ?_,rfl,q _ (I.hok.fresh (Nat.le_refl _))⟩
 exact⟨Nat.le_trans (c0' xs lo hi) hz,_,(r.drop (HT.sIx xs.length 0 lo)).take (HT.sIx xs.length xs.length hi-HT.sIx xs.length 0 lo),l8'.new _ _⟩
noncomputable def qC' (K:W.Frag):R2:=fun x y H Q=>∃a b xs ys,x=.ref a/\y=.ref b/\SqT K H a xs/\SqT K H b ys/\xs≠[]/\xs.length+ys.length<=sizeLine/\
 (ys=[]->Q (.ref a) H)/\(ys≠[]->∀p,H p=none->Q (.ref p) (upd H p (.tup (xs++ys))))
theorem az'.nil_iff {xs:List V} {us:List Value} (r:az' xs us):us=[]↔xs=[]:=by
 cases r with
 |nil=>simp
 |cons _ _=>simp
theorem ol':OpR X (binaryOp .Add) (qC' X.K):=by
 intro pins s σ H x y v u Q I rx ry h
 obtain⟨a,b,xs,ys,rfl,rfl,ha,hb,hx,hz,q1,q2⟩:=h
 cases rx
 cases ry
 obtain⟨its,r1,p1,_⟩:=I.tuple ha
 obtain⟨its2,r2,p2,_⟩:=I.tuple hb
 refine HT.og' p1 p2 (fun z=>hx (r1.nil_iff.mp z)) (fun z=>⟨.ref a,H,I,rfl,q1 (r2.nil_iff.mp z)⟩) (fun z=>?_) (by rw[<- r1.length,<- r2.length];exact hz)
 refine⟨.ref s.heap.objs.size,_,I.laid (t':=s.toks) (o:=.tup (xs++ys)) (fun b ob q=>Heap.get?_push_of_some _ q) (Nat.le_refl _) ?_,rfl,q2 (fun w=>z (r2.nil_iff.mpr w)) _ (I.hok.fresh (Nat.le_refl _))⟩
 exact⟨by rw[List.length_append];exact hz,_,r1.append r2,l8'.new _ _⟩
end
noncomputable def ixN (n:Nat) (i:Int):Option Nat:=if 0<=i then(if i<n then some i.toNat else none)else if -(n:Int)<=i then some (i+n).toNat else none
noncomputable def atI {α:Type} (xs:List α) (i:Int):Option α:=(ixN xs.length i).bind fun j=>xs[j]?
theorem ix' {n:Nat} {i:Int} {j:Nat} (h:ixN n i=some j):seqIndex? i n=some j/\j<n/\-(n:Int)<=i/\i<n:=by
 unfold ixN at h
 by_cases h0:0<=i
 .rw[if_pos h0]at h
  by_cases h1:i<n
  .rw[if_pos h1]at h
   have e:i.toNat=j:=Option.some.inj h
   exact⟨by rw[seqIndex_of h0 h1,e],by omega,by omega,h1⟩
  .rw[if_neg h1]at h;cases h
 .rw[if_neg h0]at h
  by_cases h1:-(n:Int)<=i
  .rw[if_pos h1]at h
   have e:(i+n).toNat=j:=Option.some.inj h
   exact⟨by rw[seqIndex_neg (by omega) h1,e],by omega,h1,by omega⟩
  .rw[if_neg h1]at h;cases h
theorem ft' {α:Type} {xs:List α} {i:Int} {v:α} (h:atI xs i=some v):∃j,seqIndex? i xs.length=some j/\xs[j]?=some v/\j<xs.length/\-(xs.length:Int)<=i/\i<xs.length:=by
 unfold atI at h
 cases e:ixN xs.length i with
 |none=>rw[e]at h;cases h
 |some j=>
  rw[e]at h
  obtain⟨h1,h2,h3,h4⟩:=ix' e
  exact⟨j,h1,h,h2,h3,h4⟩
theorem fu' {α:Type} {xs:List α} {j:Nat} {v:α} (h:xs[j]?=some v):atI xs (j:Int)=some v:=by
 have hj:j<xs.length:=(List.getElem?_eq_some_iff.mp h).1
 have e:ixN xs.length (j:Int)=some j:=by
  unfold ixN
  rw[if_pos (by omega),if_pos (by omega)];simp
 unfold atI;rw[e];exact h
def iy' (b:Expr):Prop:=∀o i,subscripted b false o i=operate [o,i] (getItem o i)
def IxR (X:Cx) (r:R2):Prop:=
 ∀(value slice:Expr) (pins:List (Addr×Obj)) (s:Shared) (σ:St) (H:Hp) (x y:V) (v u:Value) (Q:VK),Inv X pins σ H s->ao' x v->ao' y u->r x y H Q->
  subscripted slice false v u=operate [v,u] (getItem v u)->wpAny (model X.prog X.w) X.A (subscriptTail value slice v u) (EP X pins σ Q) X.xe s
def MtR (X:Cx) (id:String) (r:V->List V->Hp->VK->Prop):Prop:=
 ∀(pins:List (Addr×Obj)) (s:Shared) (σ:St) (H:Hp) (x:V) (xs:List V) (v:Value) (us:List Value) (Q:VK),Inv X pins σ H s->ao' x v->az' xs us->r x xs H Q->
  wpAny (model X.prog X.w) X.A (call (.builtin id) (v :: us)) (EP X pins σ Q) X.xe s
section
variable {X:Cx} {a b:Expr} {ta tb:TE} {pos:Pos}
theorem IxR.or {r r':R2} (h:IxR X r) (h':IxR X r'):IxR X (fun x y H Q=>r x y H Q\/r' x y H Q):=by
 intro value slice pins s σ H x y v u Q I rx ry q hs
 rcases q with q|q
 .exact h value slice pins s σ H x y v u Q I rx ry q hs
 .exact h' value slice pins s σ H x y v u Q I rx ry q hs
theorem un' {r:R2} (hr:IxR X r) (ha:PE X a ta) (hb:PE X b tb) (hs:iy' b):PE X (.Subscript a b pos) (tOp r ta tb):=by
 intro pins s σ H Q I h
 exact Subscript_ (ua' ha hb I h fun v u s2 x y H2 I2 rx ry q=>hr a b pins s2 σ H2 x y v u Q I2 rx ry q (hs _ _))
noncomputable def h4' (K:W.Frag):R2:=fun x y H Q=>∃p xs i v,x=.ref p/\y=.int i/\SqL K H p xs/\atI xs i=some v/\Q v H
noncomputable def iz' (K:W.Frag):R2:=fun x y H Q=>∃p xs i v,x=.ref p/\y=.int i/\SqT K H p xs/\atI xs i=some v/\Q v H
noncomputable def vJ':R2:=fun x y H Q=>∃z i c,x=.str z/\y=.int i/\z.length<=sizeLine/\atI z.cps.toList i=some c/\Q (.str ⟨#[c]⟩) H
theorem om':IxR X (h4' X.K):=by
 intro value slice pins s σ H x y v u Q I rx ry h hs
 obtain⟨p,xs,i,z,rfl,rfl,hq,he,q⟩:=h
 cases rx
 obtain⟨t,rfl⟩:=ry
 obtain⟨its,r,pl,hz⟩:=I.list hq
 obtain⟨j,h1,h2,h3,h4,h5⟩:=ft' he
 obtain⟨w,ew,rw'⟩:=r.get h2
 have hl:=r.length
 have hn:=dH'
 have fin:EP X pins σ Q w s:=⟨z,H,I,rw',q⟩
 by_cases h0:0<=i
 .have hj:i.toNat=j:=by
   rw[seqIndex_of h0 h5]at h1
   exact Option.some.inj h1
  exact item_listR pl.isList h0 (by omega) (by rw[hj];simpa using ew) fin hs
 .have hj:(i+(its.toArray.size:Int)).toNat=j:=by
   rw[seqIndex_neg (by omega) h4]at h1
   rw[List.size_toArray,<- hl]
   exact Option.some.inj h1
  exact subscriptTail_builtinR (x:=w) pl.isList.typeIs slot_list_getitem.lookup
   (wpAny_getItem_list_neg (Q:=fun r s'=>r=w/\EP X pins σ Q r s') pl.isList (by omega) (by rw[List.size_toArray]<;>omega) (by omega) (by rw[hj];simpa using ew) ⟨rfl,fin⟩) hs
theorem qD':IxR X (iz' X.K):=by
 intro value slice pins s σ H x y v u Q I rx ry h hs
 obtain⟨p,xs,i,z,rfl,rfl,hq,he,q⟩:=h
 cases rx
 obtain⟨t,rfl⟩:=ry
 obtain⟨its,r,pl,hz⟩:=I.tuple hq
 obtain⟨j,h1,h2,h3,h4,h5⟩:=ft' he
 obtain⟨w,ew,rw'⟩:=r.get h2
 have hl:=r.length
 have hn:=dH'
 have fin:EP X pins σ Q w s:=⟨z,H,I,rw',q⟩
 exact subscriptTail_builtinR (x:=w) pl.typeIs slot_tuple_getitem.lookup
  (getItem_tuple (j:=j) (Q:=fun r s'=>r=w/\EP X pins σ Q r s') pl (by omega) (by omega) (by rw[List.size_toArray,<- hl];exact h1) (by simpa using ew) ⟨rfl,fin⟩) hs
theorem qE':IxR X vJ':=by
 intro value slice pins s σ H x y v u Q I rx ry h hs
 obtain⟨z,i,c,rfl,rfl,hz,he,q⟩:=h
 obtain⟨t,rfl⟩:=rx
 obtain⟨t',rfl⟩:=ry
 obtain⟨j,h1,h2,h3,h4,h5⟩:=ft' he
 have hl:z.cps.toList.length=z.length:=by simp[Str.length]
 rw[hl]at h1 h4 h5
 have hn:=dH'
 exact tail_any (typeIs_str s z t) slot_str_getitem.lookup (getItem_str (c:=c) (by
  have e1:decide (i < -(2 ^ 63:Int))=false:=decide_eq_false (by omega)
  have e2:decide (i ≥ 2 ^ 63)=false:=decide_eq_false (by omega)
  rw[e1,e2,Bool.or_false]) (by rw[h1];simpa using h2) ⟨.str ⟨#[c]⟩,H,I.tok _,⟨_,rfl⟩,q⟩) hs
noncomputable def rIx (K:W.Frag):R2:=fun x y H Q=>h4' K x y H Q\/iz' K x y H Q\/vJ' x y H Q
theorem qF':IxR X (rIx X.K):=om'.or (qD'.or qE')
theorem g9' (its:List Value) (n j:Nat) (u:Value):Obj.mapSeq (·.setIfInBounds j u) { cls:=.type "list",data:=.seq its.toArray n }={ cls:=.type "list",data:=.seq (its.set j u).toArray n }:=by
 simp[Obj.mapSeq]
theorem Inv.lst {pins:List (Addr×Obj)} {σ:St} {H:Hp} {s:Shared} {p:Addr} {xs:List V} (I:Inv X pins σ H s) (h:H p=some (.lst xs)):
  ∃(its:List Value) (n:Nat),az' xs its/\s.heap.get? p=some { cls:=.type "list",data:=.seq its.toArray n }/\xs.length<=sizeLine:=by
 obtain⟨z,its,n,r,e⟩:=I.hok p _ h
 exact⟨its,n,r,e,z⟩
theorem Inv.lstUpd {pins:List (Addr×Obj)} {σ:St} {H:Hp} {s:Shared} {p:Addr} {xs ys:List V} {its its':List Value} {n n':Nat} {f:Obj->Obj} (I:Inv X pins σ H s) (h:H p=some (.lst xs))
  (ho:s.heap.get? p=some { cls:=.type "list",data:=.seq its.toArray n }) (hf:f { cls:=.type "list",data:=.seq its.toArray n }={ cls:=.type "list",data:=.seq its'.toArray n' }) (r:az' ys its') (hz:ys.length<=sizeLine) (t:Nat):
  Inv X pins σ (upd H p (.lst ys)) { s with heap:=s.heap.update p f,toks:=t }:=by
 have e:(s.heap.update p f).get? p=some { cls:=.type "list",data:=.seq its'.toArray n' }:=by
  rw[Heap.get?_update_self f ho (by rw[hf]<;>rfl),hf]
 refine I.write (x:=p) (e:=p) (by rw[h];trivial) (.inl rfl) (fun b u hb q=>(Heap.get?_update_other _ _ (Ne.symm hb)).trans q) ⟨_,e⟩ ?_
 exact⟨hz,its',n',r,e⟩
noncomputable def dw':V->V->V->Hp->(Hp->Prop)->Prop:=fun o i v H Q=>∃p xs k j,o=.ref p/\i=.int k/\H p=some (.lst xs)/\ixN xs.length k=some j/\Q (upd H p (.lst (xs.set j v)))
theorem kW':vH' X dw':=by
 intro pins s σ H o i v ov iv u Q I ro ri rv h
 obtain⟨p,xs,k,j,rfl,rfl,hp,hj,q⟩:=h
 cases ro
 obtain⟨t,rfl⟩:=ri
 obtain⟨its,n,r,ho,hz⟩:=I.lst hp
 obtain⟨h1,h2,h3,h4⟩:=ix' hj
 have hl:=r.length
 have hn:=dH'
 have I':Inv X pins σ (upd H p (.lst (xs.set j v))) { s with heap:=s.heap.update p (Obj.mapSeq (·.setIfInBounds j u)) }:=
  I.lstUpd hp ho (g9' its n j u) (r.set rv j) (by rw[List.length_set];exact hz) s.toks
 by_cases h0:0<=k
 .have hk:k.toNat=j:=by
   rw[seqIndex_of h0 h4]at h1
   exact Option.some.inj h1
  exact W.ki_setAt ho h0 (by omega) (by rw[List.size_toArray,<- hl];exact h4) (by rw[hk];exact⟨_,I',q⟩)
 .have hk:(k+(its.toArray.size:Int)).toNat=j:=by
   rw[seqIndex_neg (by omega) h3]at h1
   rw[List.size_toArray,<- hl]
   exact Option.some.inj h1
  exact W.ki_setBack ho (by omega) (by rw[List.size_toArray,<- hl];exact h3) (by omega) (by rw[hk];exact⟨_,I',q⟩)
theorem eG' (lo hi:Option Int) (n:Nat):(sliceBounds lo hi none n).1=((HT.sIx n 0 lo:Nat):Int)/\(sliceBounds lo hi none n).2.1=((HT.sIx n n hi:Nat):Int)/\(sliceBounds lo hi none n).2.2=1:=by
 refine⟨?_,?_,rfl⟩
 .cases lo with
  |none=>simp[sliceBounds,HT.sIx]
  |some i=>
   simp only[sliceBounds,HT.sIx,Option.getD_none,show(1:Int) > 0 by decide,if_true]
   by_cases h:i<0
   .simp only[h,if_true]<;>omega
   .simp only[h,if_false]<;>omega
 .cases hi with
  |none=>simp[sliceBounds,HT.sIx]
  |some i=>
   simp only[sliceBounds,HT.sIx,Option.getD_none,show(1:Int) > 0 by decide,if_true]
   by_cases h:i<0
   .simp only[h,if_true]<;>omega
   .simp only[h,if_false]<;>omega
theorem d1' (its:List Value) (lo hi:Option Int):slicePick its.toArray lo hi none=((its.drop (HT.sIx its.length 0 lo)).take (HT.sIx its.length its.length hi-HT.sIx its.length 0 lo)).toArray:=by
 obtain⟨h1,h2,h3⟩:=eG' lo hi its.toArray.size
 unfold slicePick
 rw[h1,h2,h3]
 simp only[sliceRange_one,pick_run,List.size_toArray]<;>rfl
noncomputable def tH' (K:W.Frag):V->Option Int->Option Int->Hp->VK->Prop:=fun x lo hi H Q=>∃a xs,x=.ref a/\SqL K H a xs/\∀p,H p=none->Q (.ref p) (upd H p (.lst (kV' xs lo hi)))
theorem on':SlR X (tH' X.K):=by
 intro pins s σ H x v vl vu lo hi sl Q I rx hs pl pu h
 obtain⟨a,xs,rfl,hx,q⟩:=h
 cases rx
 obtain⟨its,r,ht,hz⟩:=I.list hx
 have hlen:=r.length
 refine⟨"list",_,slot_list_getitem.lookup,ht.isList.typeIs,?_⟩
 refine wpAny_getItem_list_slice ht.isList hs pl pu .none (by simp) ?_ (by rw[List.size_toArray]<;>omega)
 rw[d1',<- hlen]
 refine⟨.ref s.heap.objs.size,_,I.laid (t':=s.toks) (o:=.lst (kV' xs lo hi)) (fun b ob q=>Heap.get?_push_of_some _ q) (Nat.le_refl _) ?_,rfl,q _ (I.hok.fresh (Nat.le_refl _))⟩
 exact⟨Nat.le_trans (c0' xs lo hi) hz,_,0,(r.drop (HT.sIx xs.length 0 lo)).take (HT.sIx xs.length xs.length hi-HT.sIx xs.length 0 lo),Heap.get?_push_size _ rfl⟩
noncomputable def eH':V->Bool
 | .non=>true
 | .bl _=>true
 | .int _=>true
 | .str _=>true
 |_=>false
noncomputable def eqV:V->V->Bool
 | .non,.non=>true
 | .bl a,.bl b=>a == b
 | .bl a,.int b=>(if a then 1 else 0) == b
 | .int a,.bl b=>a == (if b then 1 else 0)
 | .int a,.int b=>a == b
 | .str a,.str b=>a == b
 |_,_=>false
theorem qG' {A:Around} {s:Shared} {y x:V} {u v:Value} (ry:ao' y u) (rx:ao' x v) (fy:eH' y=true) (fx:eH' x=true):SeqAt.EqAt A s u v (eqV y x):=by
 cases y with
 |non=>
  cases ry
  cases x with
  |non=>cases rx;exact SeqAt.EqAt.same _
  |bl b=>cases rx;exact SeqAt.EqAt.none_bool b
  |int b=>obtain⟨t,rfl⟩:=rx;exact SeqAt.EqAt.none_int b t
  |str b=>obtain⟨t,rfl⟩:=rx;exact SeqAt.EqAt.none_str b t
  |_=>exact absurd (show false=true from fx) Bool.false_ne_true
 |bl a=>
  cases ry
  cases x with
  |non=>cases rx;exact SeqAt.EqAt.bool_none a
  |bl b=>cases rx;exact SeqAt.EqAt.bool_bool a b
  |int b=>obtain⟨t,rfl⟩:=rx;exact SeqAt.EqAt.bool_int a b t
  |str b=>obtain⟨t,rfl⟩:=rx;exact SeqAt.EqAt.bool_str a b t
  |_=>exact absurd (show false=true from fx) Bool.false_ne_true
 |int a=>
  obtain⟨t',rfl⟩:=ry
  cases x with
  |non=>cases rx;exact SeqAt.EqAt.int_none a t'
  |bl b=>cases rx;exact SeqAt.EqAt.int_bool a t' b
  |int b=>obtain⟨t,rfl⟩:=rx;exact SeqAt.EqAt.int_int a t' b t
  |str b=>obtain⟨t,rfl⟩:=rx;exact SeqAt.EqAt.int_str a t' b t
  |_=>exact absurd (show false=true from fx) Bool.false_ne_true
 |str a=>
  obtain⟨t',rfl⟩:=ry
  cases x with
  |non=>cases rx;exact SeqAt.EqAt.str_none a t'
  |bl b=>cases rx;exact SeqAt.EqAt.str_bool a t' b
  |int b=>obtain⟨t,rfl⟩:=rx;exact SeqAt.EqAt.str_int a t' b t
  |str b=>obtain⟨t,rfl⟩:=rx;exact SeqAt.EqAt.str_str a t' b t
  |_=>exact absurd (show false=true from fx) Bool.false_ne_true
 |_=>exact absurd (show false=true from fy) Bool.false_ne_true
noncomputable def eqU (x:V) (u:Value):Bool:=match u with
 | .none=>eqV .non x
 | .bool b=>eqV (.bl b) x
 | .int i _=>eqV (.int i) x
 | .str z _=>eqV (.str z) x
 |_=>false
theorem mh' {x y:V} {u:Value} (r:ao' y u) (f:eH' y=true):eqU x u=eqV y x:=by
 cases y with
 |non=>cases r;rfl
 |bl b=>cases r;rfl
 |int i=>obtain⟨t,rfl⟩:=r;rfl
 |str z=>obtain⟨t,rfl⟩:=r;rfl
 |_=>exact absurd (show false=true from f) Bool.false_ne_true
theorem c1' {x:V}:∀{xs:List V} {us:List Value},az' xs us->xs.all eH'=true->us.any (eqU x)=xs.any fun y=>eqV y x
 |_,_,.nil,_=>rfl
 |y :: xs,u :: us,.cons r t,f=>by
  rw[List.all_cons,Bool.and_eq_true]at f
  rw[List.any_cons,List.any_cons,mh' r f.1,c1' t f.2]
theorem ce' {A:Around} {s:Shared} {x:V} {v:Value} (rx:ao' x v) (fx:eH' x=true):∀{xs:List V} {us:List Value},az' xs us->xs.all eH'=true->∀u∈us,SeqAt.EqAt A s u v (eqU x u)
 |_,_,.nil,_=>fun u hu=>by cases hu
 |y :: xs,u :: us,.cons r t,f=>fun u' hu=>by
  rw[List.all_cons,Bool.and_eq_true]at f
  rcases List.mem_cons.mp hu with rfl|hu
  .rw[mh' r f.1];exact qG' r rx f.1 fx
  .exact ce' rx fx t f.2 u' hu
noncomputable def inV (x:V) (xs:List V):Bool:=xs.any fun y=>eqV y x
noncomputable def rIn (K:W.Frag) (neg:Bool):R2:=fun x y H Q=>∃p xs,y=.ref p/\(SqL K H p xs\/SqT K H p xs)/\eH' x=true/\xs.all eH'=true/\Q (.bl (if neg then !inV x xs else inV x xs)) H
theorem iA':OpR X (compareOp .In) (rIn X.K false):=by
 intro pins s σ H x y v u Q I rx ry h
 obtain⟨p,xs,rfl,hq,fx,fs,q⟩:=h
 cases ry
 rcases hq with hq|hq
 .obtain⟨its,r,pl,hz⟩:=I.list hq
  refine SeqAt.in_listAt (eqU x) pl.isList (fun w hw=>ce' rx fx r fs w (by simpa using hw)) ⟨.bl _,H,I,rfl,?_⟩
  rw[show its.toArray.any (eqU x)=its.any (eqU x) by simp,c1' r fs]
  exact q
 .obtain⟨its,r,pl,hz⟩:=I.tuple hq
  refine SeqAt.in_tupleAt (eqU x) pl (fun w hw=>ce' rx fx r fs w (by simpa using hw)) ⟨.bl _,H,I,rfl,?_⟩
  rw[show its.toArray.any (eqU x)=its.any (eqU x) by simp,c1' r fs]
  exact q
theorem eI':OpR X (compareOp .NotIn) (rIn X.K true):=by
 intro pins s σ H x y v u Q I rx ry h
 obtain⟨p,xs,rfl,hq,fx,fs,q⟩:=h
 cases ry
 rcases hq with hq|hq
 .obtain⟨its,r,pl,hz⟩:=I.list hq
  refine SeqAt.notIn_listAt (eqU x) pl.isList (fun w hw=>ce' rx fx r fs w (by simpa using hw)) ⟨.bl _,H,I,rfl,?_⟩
  rw[show its.toArray.any (eqU x)=its.any (eqU x) by simp,c1' r fs]
  exact q
 .obtain⟨its,r,pl,hz⟩:=I.tuple hq
  refine SeqAt.notIn_tupleAt (eqU x) pl (fun w hw=>ce' rx fx r fs w (by simpa using hw)) ⟨.bl _,H,I,rfl,?_⟩
  rw[show its.toArray.any (eqU x)=its.any (eqU x) by simp,c1' r fs]
  exact q
theorem aH'.or {f:Value} {r r':List V->Hp->VK->Prop} (h:aH' X f r) (h':aH' X f r'):aH' X f (fun xs H Q=>r xs H Q\/r' xs H Q):=by
 intro pins s σ H xs us Q I rs q
 rcases q with q|q
 .exact h pins s σ H xs us Q I rs q
 .exact h' pins s σ H xs us Q I rs q
theorem d2':aH' X (.type "tuple") (fun xs H Q=>∃p ys,xs=[.ref p]/\((SqL X.K H p ys/\∀l,H l=none->Q (.ref l) (upd H l (.tup ys)))\/(SqT X.K H p ys/\Q (.ref p) H))):=by
 intro pins s σ H xs us Q I r h
 obtain⟨p,ys,rfl,h⟩:=h
 obtain⟨u,rfl,rx⟩:=b2' r
 cases rx
 rcases h with⟨hq,q⟩|⟨hq,q⟩
 .obtain⟨its,r',pl,hz⟩:=I.list hq
  have hlen:=r'.length
  refine call_tuple_list pl.isList (fun h' kp=>?_) (by simp only[List.size_toArray]<;>omega)
  have I1:Inv X pins σ H { s with heap:=h' }:=I.kept (t':=s.toks) kp
  have I2:Inv X pins σ (upd H h'.objs.size (.tup ys)) { s with heap:=h'.push { cls:=.type "tuple",data:=.seq its.toArray } }:=
   I1.laid (t':=s.toks) (fun b o e=>Heap.get?_push_of_some _ e) (Nat.le_refl _) (show av' X.prog X.w _ _ _ (.tup ys) from⟨hz,its,r',l8'.new _ _⟩)
  exact⟨.ref h'.objs.size,_,I2,rfl,q _ (I1.hok.fresh (Nat.le_refl _))⟩
 .obtain⟨its,r',pl,hz⟩:=I.tuple hq
  exact call_tuple_same pl ⟨.ref p,H,I,rfl,q⟩
def tyV (K:W.Frag) (T:String) (x:V) (H:Hp):Prop:=match x with
 | .str _=>T="str"
 | .int _=>T="int"
 | .ref p=>(T="list"/\∃xs,SqL K H p xs)\/(T="tuple"/\((∃o,K.lookup p=some o/\o.cls=.type "tuple"/\o.dict=none)\/∃xs,H p=some (.tup xs)))\/
   (T="dict"/\((∃kvs,H p=some (.dK kvs))\/∃kvs,H p=some (.dT kvs)))\/(T="set"/\∃S n,H p=some (.set S n))
 |_=>False
theorem mi' {pins:List (Addr×Obj)} {σ:St} {H:Hp} {s:Shared} {T:String} {x:V} {v:Value} (I:Inv X pins σ H s) (r:ao' x v) (ty:tyV X.K T x H):
  s.TypeIs v T/\∀a,v=.ref a->∃ob,s.heap.get? a=some ob/\ob.dict=none:=by
 cases x with
 |str z=>
  obtain⟨t,rfl⟩:=r
  cases(show T="str" from ty)
  exact⟨typeIs_str s z t,fun _ e=>nomatch e⟩
 |int i=>
  obtain⟨t,rfl⟩:=r
  cases(show T="int" from ty)
  exact⟨typeIs_int s i t,fun _ e=>nomatch e⟩
 |ref p=>
  cases r
  rcases ty with⟨rfl,xs,hq⟩|⟨rfl,⟨o,hk,hc,hd⟩|⟨xs,hk⟩⟩|⟨rfl,hk⟩|⟨rfl,S,n,hk⟩
  .obtain⟨its,_,pl,_⟩:=I.list hq
   refine⟨pl.isList.typeIs,fun a e=>?_⟩
   cases e
   obtain⟨o,n,e,c,hd,_⟩:=pl
   exact⟨o,e,hd⟩
  .refine⟨⟨o,I.kIn p o hk,hc⟩,fun a e=>?_⟩
   cases e
   exact⟨o,I.kIn _ o hk,hd⟩
  .obtain⟨_,_,_,o,e,c,_,hd⟩:=I.hok p _ hk
   refine⟨⟨o,e,c⟩,fun a e2=>?_⟩
   cases e2
   exact⟨o,e,hd⟩
  .have z:∃o,s.heap.get? p=some o/\o.ExactDict:=by
    rcases hk with⟨kvs,hk⟩|⟨kvs,hk⟩
    .obtain⟨_,_,_,_,o,_,_,e,ex,_⟩:=I.hok p _ hk
     exact⟨o,e,ex⟩
    .obtain⟨_,_,_,_,o,_,_,e,ex,_⟩:=I.hok p _ hk
     exact⟨o,e,ex⟩
   obtain⟨o,e,ex⟩:=z
   refine⟨⟨o,e,ex.1⟩,fun a e2=>?_⟩
   cases e2
   exact⟨o,e,ex.2.1⟩
  .obtain⟨o,_,_,_,e,ex,_⟩:=I.hok p _ hk
   refine⟨⟨o,e,ex.1⟩,fun a e2=>?_⟩
   cases e2
   exact⟨o,e,ex.2.1⟩
 |_=>exact False.elim ty
noncomputable def wy' (K:W.Frag) (T:String) (r:V->List V->Hp->VK->Prop) (to:TE):TE:=fun σ H Q=>to σ H fun x H1=>tyV K T x H1/\r x [] H1 Q
noncomputable def tBM (K:W.Frag) (T:String) (r:V->List V->Hp->VK->Prop) (to:TE) (t:TA):TE:=fun σ H Q=>to σ H fun x H1=>tyV K T x H1/\t σ H1 fun xs H2=>r x xs H2 Q
variable {o e:Expr} {es:List Expr} {to:TE} {t:TA} {name:Str} {apos cpos:Pos} {T id:String} {r:V->List V->Hp->VK->Prop}
theorem qH' (pa:PlainAttrs T) (slot:Slot T name id) (hty:typeOf (.builtin id)=pure (.type "method_descriptor")) (hm:MtR X id r) (ho:PE X o to)
  (hbase:attributeBase o name X.env (eval o X.env)=eval o X.env:=by rfl) (hline:(apos.endLine == cpos.line)=true:=by rfl):PE X (.Call (.Attribute o name apos) [] [] cpos) (wy' X.K T r to):=by
 intro pins s σ H Q I h
 refine wpAny_Call_method0_late hbase hline (thn (ho pins s σ H _ I h) fun v s1 ⟨x,H1,I1,r1,ty,q1⟩=>?_)
 obtain⟨h1,h2⟩:=mi' I1 r1 ty
 exact⟨T,id,pa,slot,hty,h1,h2,Calls.callWith_builtin rfl (PySem.evalArgs_none (hm pins s1 σ H1 x [] v [] Q I1 r1 .nil q1))⟩
theorem uo' (pa:PlainAttrs T) (slot:Slot T name id) (hty:typeOf (.builtin id)=pure (.type "method_descriptor")) (hm:MtR X id r) (ho:PE X o to) (ha:PA X (e :: es) t)
  (hbase:attributeBase o name X.env (eval o X.env)=eval o X.env:=by rfl)
  (hfew:((backTo cpos (starEach (e :: es) X.env)).all (fun x=>!x.1)&&(backToKw cpos (keywordEach [] X.env)).all (fun x=>x.1.isSome)
   && decide ((e :: es).length+([]:List Keyword).length+(if([]:List Keyword).isEmpty then 0 else 1)<30))=true:=by rfl)
  (hline:(apos.endLine == cpos.line)=true:=by rfl) (hs:starEach (e :: es) X.env=(false,eval e X.env) :: starEach es X.env:=by rfl) (hplain:(backTo cpos (starEach es X.env)).any (·.1)=false:=by rfl):
  PE X (.Call (.Attribute o name apos) (e :: es) [] cpos) (tBM X.K T r to t):=by
 intro pins s σ H Q I h
 refine wpAny_Call_method_late hbase hfew hline rfl (thn (ho pins s σ H _ I h) fun v s1 ⟨x,H1,I1,r1,ty,q1⟩=>?_)
 obtain⟨h1,h2⟩:=mi' I1 r1 ty
 refine⟨T,id,pa,slot,hty,h1,h2,?_⟩
 have hA:=ha cpos pins s1 σ H1 _ I1 q1
 rw[hs]at hA ⊢
 refine Calls.callWith_builtin (by show(false || (backTo cpos (starEach es X.env)).any (·.1))=false;rw[hplain]<;>rfl) (Calls.evalArgs_plain ?_)
 exact thn hA fun us s2 ⟨vs,H2,I2,r2,q2⟩=>hm pins s2 σ H2 x vs v us Q I2 r1 r2 q2
end
def MtM (X:Cx) (id:String) (r:V->List V->Hp->VK->Prop):Prop:=
 ∀(pins:List (Addr×Obj)) (s:Shared) (σ:St) (H:Hp) (x:V) (xs:List V) (v:Value) (us:List Value) (Q:VK),Inv X pins σ H s->ao' x v->az' xs us->r x xs H Q->
  wpAny (model X.prog X.w) X.A (call (.builtin id) (v :: us)) (EP X pins σ Q) X.xe s
theorem az'.one:∀{x:V} {us:List Value},az' [x] us->∃u,us=[u]/\ao' x u
 |_,_,.cons r .nil=>⟨_,rfl,r⟩
theorem az'.zero:∀{us:List Value},az' [] us->us=[]
 |_,.nil=>rfl
theorem az'.rep {xs:List V} {us:List Value} (h:az' xs us):∀k:Nat,az' (List.replicate k xs).flatten (List.replicate k us).flatten
 |0=>.nil
 |k+1=>by
  rw[List.replicate_succ,List.replicate_succ,List.flatten_cons,List.flatten_cons]
  exact az'.append h (az'.rep h k)
theorem eJ' (its:List Value):∀(k:Nat) (acc:List Value),
  List.foldl (fun x1 x2=>x1++x2) acc.toArray (List.replicate k its.toArray)=(acc++(List.replicate k its).flatten).toArray
 |0,acc=>by simp
 |k+1,acc=>by
  have e:acc.toArray++its.toArray=(acc++its).toArray:=by simp
  have e2:(acc++its)++(List.replicate k its).flatten=acc++(List.replicate (k+1) its).flatten:=by
   rw[List.replicate_succ,List.flatten_cons,List.append_assoc]
  rw[<- e2,<- eJ' its k (acc++its),<- e,List.replicate_succ,List.foldl_cons]
section
variable {X:Cx} {pins:List (Addr×Obj)} {σ:St} {H:Hp} {s:Shared} {l b:Addr} {xs ys zs:List V}
theorem Inv.lset {its its':List Value} {n:Nat} {f:Array Value->Array Value} {t':Nat} (I:Inv X pins σ H s) (hH:H l=some (.lst xs))
  (e:s.heap.get? l=some { cls:=.type "list",data:=.seq its.toArray n }) (hf:f its.toArray=its'.toArray) (hv:az' ys its') (hz:ys.length<=sizeLine):
  Inv X pins σ (upd H l (.lst ys)) { s with heap:=s.heap.update l (Obj.mapSeq f),toks:=t' }:=by
 have q:=PySem.IsL.update e f
 rw[hf]at q
 refine I.write (x:=l) (e:=l) (by rw[hH];exact trivial) (.inl rfl) (fun b' u hb hu=>(Heap.get?_update_other s.heap (Obj.mapSeq f) (Ne.symm hb)).trans hu) ⟨_,q⟩ ?_
 exact⟨hz,its',_,hv,q⟩
theorem Inv.lnew {its:List Value} {t':Nat} (I:Inv X pins σ H s) (hv:az' ys its) (hz:ys.length<=sizeLine):
  Inv X pins σ (upd H s.heap.objs.size (.lst ys)) { s with heap:=s.heap.push { cls:=.type "list",data:=.seq its.toArray },toks:=t' }:=
 I.laid (fun _ _ q=>Heap.get?_push_of_some _ q) (Nat.le_refl _) ⟨hz,its,0,hv,Heap.get?_push_size _ rfl⟩
theorem Inv.fresh (I:Inv X pins σ H s):H s.heap.objs.size=none:=I.hok.fresh (Nat.le_refl _)
theorem Inv.lstM (I:Inv X pins σ H s) (hH:H l=some (.lst xs)):xs.length<=sizeLine/\∃(its:List Value) (n:Nat),az' xs its/\xs.length=its.length/\s.heap.get? l=some { cls:=.type "list",data:=.seq its.toArray n }:=by
 obtain⟨z,its,n,r,e⟩:=I.hok l _ hH
 exact⟨z,its,n,r,r.length,e⟩
theorem kX' {n:Nat} (h:n<=sizeLine):Builtin.List.listTooLong n=false:=by
 unfold Builtin.List.listTooLong
 exact decide_eq_false (by omega)
end
section
variable {X:Cx}
noncomputable def iB':V->List V->Hp->VK->Prop:=fun x vs H Q=>∃l xs y,x=.ref l/\vs=[y]/\H l=some (.lst xs)/\xs.length<sizeLine/\Q .non (upd H l (.lst (xs++[y])))
theorem iC':MtM X "list.append" iB':=by
 intro pins s σ H x vs v us Q I rx rv h
 obtain⟨l,xs,y,rfl,rfl,hH,hz,q⟩:=h
 cases rx
 obtain⟨u,rfl,ru⟩:=rv.one
 obtain⟨z,its,n,r,hl,e⟩:=I.lstM hH
 refine call_meets F.slot_list_append ⟨_,e,rfl⟩ F.entry_list_append (F.args_list_append_2 _ _) (PySem.list_append l its.toArray n u (by rw[List.size_toArray];omega)) ⟨e,?_⟩
 refine⟨.non,_,I.lset (its':=its++[u]) hH e (by simp) (r.append (.cons ru .nil)) ?_,rfl,q⟩
 rw[List.length_append,List.length_singleton]
 omega
noncomputable def vK':R2:=fun x y H Q=>∃l b xs zs,x=.ref l/\y=.ref b/\H l=some (.lst xs)/\H b=some (.lst zs)/\xs.length+zs.length<=sizeLine/\∀p,H p=none->Q (.ref p) (upd H p (.lst (xs++zs)))
theorem qI':OpR X (binaryOp .Add) vK':=by
 intro pins s σ H x y v u Q I rx ry h
 obtain⟨l,b,xs,zs,rfl,rfl,hH,hB,hz,q⟩:=h
 cases rx
 cases ry
 obtain⟨z,its,n,r,hl,e⟩:=I.lstM hH
 obtain⟨z2,its2,n2,r2,hl2,e2⟩:=I.lstM hB
 refine PySem.P.add_list e e2 ?_ (by rw[List.size_toArray,List.size_toArray];omega)
 have ea:its.toArray++its2.toArray=(its++its2).toArray:=by simp
 rw[ea]
 exact⟨.ref _,_,I.lnew (t':=s.toks) (r.append r2) (by rw[List.length_append];omega),rfl,q _ I.fresh⟩
noncomputable def vL':R2:=fun x y H Q=>∃l k xs,x=.ref l/\y=.int k/\H l=some (.lst xs)/\-(2 ^ 63)<=k/\k<2 ^ 63/\xs.length*k.toNat<=sizeLine/\
 ∀p,H p=none->Q (.ref p) (upd H p (.lst (List.replicate k.toNat xs).flatten))
theorem oo' {α:Type} (xs:List α) (k:Nat):(List.replicate k xs).flatten.length=k*xs.length:=by
 induction k with
 |zero=>simp
 |succ k ih=>rw[List.replicate_succ,List.flatten_cons,List.length_append,ih,Nat.succ_mul,Nat.add_comm]
theorem qJ':OpR X (binaryOp .Mult) vL':=by
 intro pins s σ H x y v u Q I rx ry h
 obtain⟨l,k,xs,rfl,rfl,hH,h1,h2,hz,q⟩:=h
 cases rx
 obtain⟨t,rfl⟩:=ry
 obtain⟨z,its,n,r,hl,e⟩:=I.lstM hH
 have hlen:its.toArray.size*k.toNat<=sizeLine:=by rw[List.size_toArray,<- hl];exact hz
 have hcap:¬its.toArray.size*k.toNat > (2 ^ 63-1) / 8:=by
  have:(sizeLine:Nat)<=(2 ^ 63-1) / 8:=by decide
  omega
 have hfit:¬(!Builtin.List.listFitsIndex k)=true:=by
  rw[fitsIndex_both h1 h2]
  exact Bool.false_ne_true
 have hlong:¬Builtin.List.listTooLong (its.toArray.size*k.toNat)=true:=by
  rw[kX' hlen]
  exact Bool.false_ne_true
 have hnew:List.foldl (fun x1 x2=>x1++x2) #[] (List.replicate (if its.toArray.isEmpty=true then 0 else k.toNat) its.toArray)=(List.replicate k.toNat its).flatten.toArray:=by
  have f0:∀m:Nat,List.foldl (fun x1 x2=>x1++x2) #[] (List.replicate m its.toArray)=(List.replicate m its).flatten.toArray:=fun m=>by
   have:=eJ' its m []
   rw[List.nil_append]at this
   exact this
  rw[f0]
  cases its with
  |nil=>simp
  |cons a r'=>rw[if_neg (by simp)]
 refine wpAny_binaryOp_repeat_ref (T:="list") (U:="int") (by decide) ⟨_,e,rfl⟩ (fun s'=>typeIs_int s' k t) noFill_list_mul F.fills_int_mul F.slot_int_rmul repeat_list F.slot_int_index.lookup
  (call_meets F.slot_int_rmul (typeIs_int s k t) F.entry_int_rmul (F.args_int_rmul_2 _ _) (int___rmul___int_list k t l its.toArray n)
   ⟨e,rfl,⟨_,e,rfl⟩,call_meets F.slot_list_mul ⟨_,e,rfl⟩ F.entry_list_mul (F.args_list_mul_2 _ _) (AutoListH.list___mul___list_int_3 l its.toArray n k t hfit hcap hlong) ⟨e,?_⟩⟩)
 rw[hnew]
 exact⟨.ref _,_,I.lnew (t':=s.toks) (r.rep k.toNat) (by rw[oo',Nat.mul_comm];exact hz),rfl,q _ I.fresh⟩
end
section
variable {prog:Program} {w:World} {A:Around} {E:Value->Shared->Prop} {s:Shared}
end
section
variable {X:Cx}
end
end L2
namespace Att
open PySem PySem.W PySem.Calls PyProof.Rows
theorem c2' {P:Params} {h:Heap}:∀(ns:List Int) (vs:List Value),WellAll P h vs (ns.map WData.int)->IntsAre vs ns:=by
 intro ns
 induction ns with
 |nil=>
  intro vs w
  rw[List.map_nil]at w
  cases w
  exact .nil
 |cons n ns ih=>
  intro vs w
  rw[List.map_cons]at w
  cases w with
  |cons a b=>
   cases a
   exact .cons _ _ (ih _ b)
theorem iD' {l:OpenLaw} {n:Nat} (hn:l.most=some n) {P:Params} {h:Heap} {args:List WData} {vals:List Value}
  (hpre:l.row.toRowW.claim.pre args=true) (hwl:WellAll P h vals args):
  ∃a vs ns,vals=[Value.ref a]/\args=[WData.list (ns.map WData.int)]/\h.get? a=some { cls:=.type "list",data:=.seq vs.toArray }/\IntsAre vs ns/\ns.length<=n:=by
 have hsh:WShape.hasAll [] args [.list .int]=true:=(pre_splitW hpre).1
 have hc:l.pre.holds [] { args:=args }=true:=(pre_splitW hpre).2
 obtain⟨d,r,rfl,h1,h2⟩:=hasAllW_cons hsh
 obtain rfl:=hasAllW_nil h2
 obtain⟨xs,rfl,h3⟩:=hasW_list h1
 obtain⟨ns,rfl⟩:=items_int h3
 have hlen:ns.length<=n:=by
  unfold OpenLaw.pre at hc
  have h4:(WTm.not (.lt (.lit (.int (n:Int))) (.len (.arg 0)))).holds [] { args:=[.list (ns.map .int)] }=true:=by
   have h4:=(holds_andW hc).1
   rw[hn]at h4
   exact h4
  have h5:=condW_of h4 (w_not (w_lt w_lit (w_len_list (w_arg rfl))))
  rw[List.length_map]at h5
  refine Nat.le_of_not_lt fun q=>?_
  have q':(n:Int)<((ns.length:Nat):Int):=by omega
  first
   |(rw[decide_eq_true q']at h5;exact absurd h5 (by decide))
   |(simp at h5;omega)
 cases hwl with
 |cons w1 w2=>
  cases w2
  cases w1 with
  |list ho hall=>exact⟨_,_,ns,rfl,rfl,ho,c2' ns _ hall,hlen⟩
theorem iE' (l:OpenLaw) (args:List WData):l.row.toRowW.claim.post args (.bool true) args=true:=
 postW_of (r:=l.row.toRowW) (X:=(true == true))
  (show WShape.has [] (.bool true) .bool=true by first|rfl|decide|simp[WShape.has,WShape.arms,WShape.armsAll])
  (show(WTm.eq .res (.lit (.bool true))).value [] { args:=args,res:=some (.bool true),after:=args }=some (.bool (true == true)) from w_eq_bool (w_res rfl) w_lit) rfl
theorem fv' {l:OpenLaw} {n:Nat} {q:Program} {loose:List Str} {XP:(Str->Option Value)->Heap->Prop} {YP:World->Heap->Prop} {d:DefRec}
  (hn:l.most=some n) (hdf:d.params.defaults=[])
  (call:∀(w:World) (s₀ s₁:Shared) (mg mb:Str->Option Value) (fa:Addr) (o:Obj) (pm cd doc:Value) (a:Addr) (vs:List Value) (ns:List Int),
   Ground q loose [] XP w s₀ mg mb s₁.heap->YP w s₁.heap->
   s₁.heap.get? fa=some o->o.data=.func (docDef d.name d.params d.body d.scope pm cd doc)->s₁.heap.CodeRec cd d.name->mg d.name=some (.ref fa)->
   s₁.heap.get? a=some { cls:=.type "list",data:=.seq vs.toArray }->IntsAre vs ns->ns.length<=n->s₁.gens=#[]->
   codeAny (model l.prog w) callerA (.call (.ref fa) ⟨[.ref a],[]⟩) (fun r s'=>r=.ok (.ret (.bool true))/\OldK s₁.heap s'.heap/\s'.os=s₁.os/\AllBare s'.gens) s₁):
  WalkO q loose XP YP l.row.toRowW d [] (fun f vs=>PySem.call f vs):=by
 intro w s₀ s₁ mg mb G Y fa o pm cd doc dV kV ho hd hcd hD hmg hg args vals as hpre hlay hrd hwl hlo
 obtain rfl:dV=.none:=Dflts.none hD hdf
 obtain rfl:kV=.none:=Dflts.noKw hD
 obtain⟨a,vs,ns,rfl,rfl,hobj,hints,hlen⟩:=iD' hn hpre hwl
 refine enter_call (codeAny_mono (call w s₀ s₁ mg mb fa o pm cd doc a vs ns G Y ho (fd_plain hd) hcd hmg hobj hints hlen hg) fun r s' hq=>?_)
 obtain⟨rfl,h2,h3,h4⟩:=hq
 exact⟨.inl ⟨.bool true,.bool true,[],rfl,fun _=>rfl,.bool true,iE' l _,fun _=>⟨List.Pairwise.nil,fun _ hm=>(nomatch hm)⟩⟩,h2,h3,h4⟩
section
variable {prog:Program} {w:World} {A:Around} {E:Value->Shared->Prop} {s:Shared} {K:Frag}
end
end Att
namespace L2
open PySem PySem.Spec PyProof.Rows
theorem eK':∀{vs:List Value} {ns:List Int},IntsAre vs ns->az' (ns.map V.int) vs
 |_,_,.nil=>.nil
 |_,_,.cons n t h=>.cons ⟨t,rfl⟩ (eK' h)
def up' (H:Hp):Prop:=∀b,H b=none\/∃o xs,H b=some (.frz o (.lst xs))
theorem kY' {P:Program} {w:World} {K:W.Frag} {mg mb:Str->Option Value} {CX:CXT} {k:Nat} {fa a:Addr} {fd:FuncData} {x:Str} {sp:Sp} {s₁:Shared} {vs:List Value} {ns:List Int}
  (KX:K.In s₁.heap) (hns:s₁.heap.Ns mainGlobals mg) (hb:s₁.heap.Ns builtinsNs mb) (hbb:∀x:Str,x≠"__name__"->mb x=bootBuiltins x) (hlim:s₁.heap.NoLimit) (hg:s₁.gens=#[])
  (ha:s₁.heap.get? a=some { cls:=.type "list",data:=.seq vs.toArray }) (hi:IntsAre vs ns) (hl:ns.length<=sizeLine) (hr:Room k callerA)
  (F:∀base:Heap,K.In base->base.Ns mainGlobals mg->FnOk P w K mg base CX k fa fd [x] sp) (hbind:∀(s:Shared) (u:Value),BindsTo s fd ⟨[u],[]⟩ [(x,u)])
  (hsp:∀H:Hp,up' H->SqL K H a (ns.map V.int)->sp [.ref a] H (fun v _=>v=.bl true) fun _ _ _=>False)
  (hCX:∀H e s',CX [] H s₁ (fun _ _ _=>False) e s'->False):
  codeAny (model P w) callerA (.call (.ref fa) ⟨[.ref a],[]⟩) (fun r s'=>r=.ok (.ret (.bool true))/\OldK s₁.heap s'.heap/\s'.os=s₁.os/\AllBare s'.gens) s₁:=by
 have rv:=eK' hi
 have lenV:=hi.length
 have core:∀H:Hp,up' H->SqL K H a (ns.map V.int)->HOk P w H s₁.heap->(∀b,H b≠none->b=a)->(H a≠none->K.lookup a=none)->
   codeAny (model P w) callerA (.call (.ref fa) ⟨[.ref a],[]⟩) (fun r s'=>r=.ok (.ret (.bool true))/\OldK s₁.heap s'.heap/\s'.os=s₁.os/\AllBare s'.gens) s₁:=by
  intro H hO hS hok hA hK
  have base_of:∀{b:Addr} {o:Obj},s₁.heap.get? b=some o->H b=none->(kE' s₁.heap H).get? b=some o:=fun e n=>kF' e n
  have noA:∀{b:Addr} {o:Obj} {es:Array DictEntry} {ep:Nat},s₁.heap.get? b=some o->o.data=.dict es ep->H b=none:=fun {b o es ep} e d=>by
   cases q:H b with
   |none=>rfl
   |some u=>
    have e':b=a:=hA b (by rw[q];simp)
    subst e'
    rw[ha]at e;cases e
    have d':Data.seq vs.toArray _=Data.dict es ep:=d
    cases d'
  have nsK:∀{b:Addr} {m:Str->Option Value},s₁.heap.Ns b m->(kE' s₁.heap H).Ns b m:=fun {b m} ⟨o,es,ep,e,d,r⟩=>⟨o,es,ep,base_of e (noA e d),d,r⟩
  have hKb:K.In (kE' s₁.heap H):=fun b o e=>base_of (KX b o e) (by
   cases q:H b with
   |none=>rfl
   |some u=>
    have e':b=a:=hA b (by rw[q];simp)
    subst e'
    rw[hK (by rw[q];simp)]at e;cases e)
  have hM:Mod K mg (kE' s₁.heap H):=⟨hKb,nsK hns,⟨mb,nsK hb,hbb⟩,let⟨mc,h1,h2⟩:=hlim;⟨mc,nsK h1,h2⟩⟩
  have e0:Env0 P w K mg (kE' s₁.heap H) callerA [] s₁ H:=⟨rfl,hM,fun b o e=>nX' e,Nat.le_of_eq (h8' _ _),trivial,fun b hb=>absurd (show b∈([]:List Addr) from hb) (by simp),hok,.of_eq hg⟩
  refine codeAny_mono ((F _ hKb (nsK hns)).run callerA [] s₁ H ⟨[.ref a],[]⟩ [.ref a] [.ref a] _ _ hr e0 (hbind s₁ (.ref a)) (.cons rfl .nil) (hsp H hO hS)) fun r s' h=>?_
  cases r with
  |error e=>exact(hCX H e s' h).elim
  |ok fl=>
   cases fl with
   |next=>exact False.elim h
   |brk=>exact False.elim h
   |cont=>exact False.elim h
   |ret u=>
    obtain⟨v,H',os,bare,un,hok',r',q⟩:=h
    have q':v=.bl true:=q
    subst q'
    obtain rfl:u=Value.bool true:=r'
    refine⟨rfl,OldK.of_keep fun b o e=>?_,os,bare⟩
    cases q:H b with
    |none=>exact un.keep b o e q (by intro z;exact absurd (show b∈([]:List Addr) from z) (by simp)) (by simp)
    |some u=>
     rcases hO b with z|⟨ob,xs,z⟩
     .rw[q]at z;cases z
     .have z2:=un.frzs b ob _ z
      obtain⟨e1,_⟩:=hok b _ z
      obtain⟨e2,_⟩:=hok' b _ z2
      rw[e]at e1;cases e1
      exact e2
 cases hk:K.lookup a with
 |some o=>
  have e:=KX a o hk
  rw[ha]at e
  cases e
  refine core (fun _=>none) (fun _=>.inl rfl) (.inr ⟨_,vs.toArray,_,hk,rfl,rfl,rfl,by rw[List.size_toArray,lenV];exact hl,by simpa using rv⟩) (fun b u z=>by have z':(none:Option HO)=some u:=z;cases z') (fun b z=>absurd rfl z) fun z=>absurd rfl z
 |none=>
  refine core (fun b=>if b=a then some (.frz { cls:=.type "list",data:=.seq vs.toArray } (.lst (ns.map V.int)))else none) (fun b=>?_) (.inl (.inr ⟨{ cls:=.type "list",data:=.seq vs.toArray },if_pos rfl⟩)) (fun b u z=>?_) (fun b z=>?_) fun _=>hk
  .by_cases hb:b=a
   .exact .inr ⟨_,_,if_pos hb⟩
   .exact .inl (if_neg hb)
  .by_cases hb:b=a
   .have z':=(if_pos hb).symm.trans z
    cases z'
    subst hb
    exact⟨ha,by rw[List.length_map];exact hl,vs,_,rv,ha⟩
   .have z':=(if_neg hb).symm.trans z
    cases z'
  .by_cases hb:b=a
   .exact hb
   .exact absurd (if_neg hb) z
theorem oq' {l:W.OpenLaw} {n k:Nat} {q:Program} {loose:List Str} {XP:(Str->Option Value)->Heap->Prop} {YP:World->Heap->Prop} {d:DefRec} {K:Params->W.Frag} {CX:World->CXT} {sp:World->Sp} {x:Str}
  (hn:l.most=some n) (hn2:n<=sizeLine) (hdf:d.params.defaults=[]) (hr:Room k callerA)
  (hY:∀(w:World) (h:Heap),YP w h->(K w.params).In h)
  (F:∀(w:World) (mg:Str->Option Value) (fa:Addr) (h:Heap),(K w.params).In h->h.Ns mainGlobals mg->mg d.name=some (.ref fa)->
   ∃fd:FuncData,(∀(s:Shared) (u:Value),BindsTo s fd ⟨[u],[]⟩ [(x,u)])/\
    ∀base:Heap,(K w.params).In base->base.Ns mainGlobals mg->FnOk l.prog w (K w.params) mg base (CX w) k fa fd [x] (sp w))
  (hsp:∀(w:World) (H:Hp) (a:Addr) (ns:List Int),ns.length<=n->up' H->SqL (K w.params) H a (ns.map V.int)->sp w [.ref a] H (fun v _=>v=.bl true) fun _ _ _=>False)
  (hCX:∀(w:World) (H:Hp) (s:Shared) (e:Value) (s':Shared),CX w [] H s (fun _ _ _=>False) e s'->False):
  W.WalkO q loose XP YP l.row.toRowW d [] (fun f vs=>PySem.call f vs):=by
 refine Att.fv' hn hdf fun w s₀ s₁ mg mb fa o pm cd doc a vs ns G Y ho hd hcd hmg hobj hints hlen hg=>?_
 have KX:=hY w _ Y
 obtain⟨fd,hb,hF⟩:=F w mg fa _ KX G.T.g hmg
 exact kY' KX G.T.g G.T.b G.T.builtins G.T.nolimit hg hobj hints (Nat.le_trans hlen hn2) hr hF hb (fun H hO hS=>hsp w H a ns hlen hO hS) fun H e s'=>hCX w H s₁ e s'
noncomputable def ct' (s:Stmt):Arguments:=match s with
 | .FunctionDef _ a _ _ _ _ _ _ _ _=>a
 |_=>{ posonlyargs:=[],args:=[],vararg:=none,kwonlyargs:=[],kw_defaults:=[],kwarg:=none,defaults:=[] }
noncomputable def ap' (s:Stmt):List Stmt:=match s with
 | .FunctionDef _ _ b _ _ _ _ _ _ _=>b
 |_=>[]
noncomputable def ac' (s:Stmt):Scope:=match s with
 | .FunctionDef _ _ _ _ _ _ sc _ _ _=>sc
 |_=>{ kind:=.function,names:=[],isGenerator:=false,isCoroutine:=false }
noncomputable abbrev CX0:CXT:=fun _ _ _ _ _ _=>False
noncomputable abbrev E0:XK:=fun _ _ _=>False
structure Fun (K:W.Frag) (x qual:Str) (st:Stmt) (f:Addr) (fd:FuncData):Prop where
 ex:∃(oc:Value) (od:Option Addr) (kV doc pm:Value) (an:Option Addr) (cdv ct:Value) (osl:Array (Option Value)),
  fd=W.fnOf x qual (ct' st) (ap' st) (ac' st) .none kV doc pm an cdv ct/\K.lookup f=some ⟨oc,od,.func fd,osl⟩/\W.codeIn K cdv qual=true
 kp:W.keepIn K (.ref f)=true
section
variable {P:Program} {w:World} {K:W.Frag} {mg:Str->Option Value} {base:Heap}
theorem Fun.ok {x qual:Str} {st:Stmt} {f:Addr} {fd:FuncData} {N ps:List Str} {k:Nat} {sp:Sp} (F:Fun K x qual st f fd) (S:FnScope N ps (ac' st)) (len:∀vs H Q E,sp vs H Q E->vs.length=ps.length)
  (hbody:∀(cdv:Value) (A:Around) (outer:List Env) (s:Shared) (H:Hp) (vs:List V) (Q:VK) (E:XK),Room k (A.deeper (envOfC qual (ac' st) s.heap.objs.size f cdv))->sp vs H Q E->
   ∃t,PSs (pU' CX0 P w K mg base N qual (ac' st) f cdv A outer s H E).nox (ap' st) t/\t { nx:=fun _ H'=>Q .non H',rt:=Q } (aU' N vs) H):FnOk P w K mg base CX0 (k+1) f fd ps sp:=by
 obtain⟨oc,od,kV,doc,pm,an,cdv,ct,osl,rfl,lk,hcd⟩:=F.ex
 refine um' lk hcd S len fun A outer s H vs Q E hr hsp=>?_
 obtain⟨t,h,q⟩:=hbody cdv A outer s H vs Q E hr hsp
 exact⟨t,h.nox,q⟩
theorem Fun.binds {x qual:Str} {st:Stmt} {f:Addr} {fd:FuncData} {ps:List Str} (F:Fun K x qual st f fd)
  (h:∀(kV doc pm:Value) (an:Option Addr) (cdv ct:Value) (us:List Value),us.length=ps.length->bindArgs (W.fnOf x qual (ct' st) (ap' st) (ac' st) .none kV doc pm an cdv ct) ⟨us,[]⟩=pure (ps.zip us)):dv' K fd ps []:=by
 obtain⟨oc,od,kV,doc,pm,an,cdv,ct,osl,rfl,lk,hcd⟩:=F.ex
 exact .all (h kV doc pm an cdv ct)
theorem qK' {x qual:Str} {st:Stmt} {f:Addr} {oc:Value} {od an:Option Addr} {osl:Array (Option Value)} {kV doc pm cdv ct:Value} (l:K.lookup f=some ⟨oc,od,.func (W.fnOf x qual (ct' st) (ap' st) (ac' st) .none kV doc pm an cdv ct),osl⟩)
  (c:W.codeIn K cdv qual=true) (k:W.keepIn K (.ref f)=true):Fun K x qual st f (W.fnOf x qual (ct' st) (ap' st) (ac' st) .none kV doc pm an cdv ct):=⟨⟨oc,od,kV,doc,pm,an,cdv,ct,osl,rfl,l,c⟩,k⟩
end
theorem aI' {n:Nat} (h:n<=1000):n<sizeLine:=Nat.lt_of_le_of_lt h (by decide)
section
variable {X:Cx}
theorem pv (i:Nat) {x:Str} {pos:Pos} (hN:X.N[i]?=some x:=by rfl) (hv:Vis X.env.scope x:=by first|exact Or.inl rfl|exact Or.inr (Or.inl rfl)|exact Or.inr (Or.inr rfl)) (hd:(x == ("__debug__":Str))=false:=by decide)
  (hcd:(x == ("__classdict__":Str))=false:=by decide):PE X (.Name x pos) (tA' i):=l9' hN hv hd hcd
end
def a1' (H H':Hp):Prop:=∀b o,H b=some o->H' b=some o
theorem a1'.refl (H:Hp):a1' H H:=fun _ _ h=>h
theorem a1'.trans {H H1 H2:Hp} (a:a1' H H1) (b:a1' H1 H2):a1' H H2:=fun c o h=>b c o (a c o h)
theorem a1'.free {H H':Hp} (e:a1' H H') {l:Addr} (h:H' l=Option.none):H l=Option.none:=by
 cases q:H l with
 |none=>rfl
 |some o=>
  rw[e l o q]at h
  cases h
theorem a1'.seq {K:W.Frag} {H H':Hp} {a:Addr} {xs:List V} (e:a1' H H') (h:SqL K H a xs):SqL K H' a xs:=by
 rcases h with(h|⟨o,h⟩)|h
 .exact .inl (.inl (e _ _ h))
 .exact .inl (.inr ⟨o,e _ _ h⟩)
 .exact .inr h
noncomputable def by' (cells:List (Str×Addr)):List (Str×NameKind)->List (Str×Addr)->List (Str×Addr)
 | [],acc=>acc
 |(n,k) :: r,acc=>if k == .free then by' cells r ((n,(cells.lookup n).getD 0) :: acc)else by' cells r acc
noncomputable def eL' (env:Env) (x:Str×NameKind) (r:List (Str×Addr)):Sem (ForInStep (List (Str×Addr))):=
 match x with|(name,kind)=>if(kind == .free)=true then(do let a <- cellOf env name;pure (ForInStep.yield ((name,a) :: r)))else pure (ForInStep.yield r)
theorem qL' {env:Env}:∀(names:List (Str×NameKind)) (acc:List (Str×Addr)),(∀n,(n,NameKind.free)∈names->∃c,env.cells.lookup n=some c)->
   forIn names acc (eL' env)=(pure (by' env.cells names acc):Sem _):=by
  intro names
  induction names with
  |nil=>intro acc _;rfl
  |cons x r ih=>
   intro acc hh
   obtain⟨n,k⟩:=x
   rw[List.forIn_cons]
   have hr:=fun m hm=>hh m (List.mem_cons_of_mem _ hm)
   by_cases hk:k=.free
   .subst hk
    obtain⟨c,hc⟩:=hh n List.mem_cons_self
    have e1:cellOf env n=(pure c:Sem Addr):=by unfold cellOf;rw[hc]
    have e2:eL' env (n,NameKind.free) acc=pure (ForInStep.yield ((n,c) :: acc)):=by
     unfold eL'
     dsimp only
     rw[if_pos (by rfl),e1]
     rfl
    rw[e2]
    have e3:=ih ((n,c) :: acc) hr
    have e4:by' env.cells ((n,NameKind.free) :: r) acc=by' env.cells r ((n,c) :: acc):=by
     show(if(NameKind.free == NameKind.free)=true then _ else _)=_
     rw[if_pos (by rfl),hc]
     rfl
    rw[e4,<- e3]
    rfl
   .have hb:(k == NameKind.free)=false:=by simpa using hk
    have e2:eL' env (n,k) acc=pure (ForInStep.yield acc):=by
     unfold eL'
     dsimp only
     rw[if_neg (by rw[hb];exact Bool.false_ne_true)]
    rw[e2]
    have e4:by' env.cells ((n,k) :: r) acc=by' env.cells r acc:=by
     show(if(k == NameKind.free)=true then _ else _)=_
     rw[if_neg (by rw[hb];exact Bool.false_ne_true)]
    rw[e4,<- ih acc hr]
    rfl
theorem iF' {env:Env} {scope:Scope} (h:∀n,(n,NameKind.free)∈scope.names->∃c,env.cells.lookup n=some c):closureFor scope env=pure (by' env.cells scope.names []):=by
 have e:=qL' (env:=env) scope.names [] h
 unfold closureFor
 have q:∀f:Str×NameKind->List (Str×Addr)->Sem (ForInStep (List (Str×Addr))),(∀x r,f x r=eL' env x r)->(forIn scope.names ([]:List (Str×Addr)) f >>= fun r=>pure r)=(pure (by' env.cells scope.names []):Sem _):=by
  intro f hf
  have:f=eL' env:=funext fun x=>funext fun r=>hf x r
  rw[this,e]
  rfl
 refine q _ fun x r=>?_
 obtain⟨n,k⟩:=x
 unfold eL'
 first|done|(dsimp only;done)|(dsimp only;cases hk:k == NameKind.free<;>simp[hk])
set_option tactic.hygienic true in
theorem c3' {cells:List (Str×Addr)}:∀{names:List (Str×NameKind)} {acc:List (Str×Addr)} {n:Str} {c:Addr},(n,c)∈by' cells names acc->(n,c)∈acc\/((n,NameKind.free)∈names/\c=(cells.lookup n).getD 0)
 | [],_,_,_,h=>.inl h
 |(m,k) :: r,acc,n,c,h=>by
  unfold by' at h
  split at h
  .rename_i hk
   have hk':k=.free:=by simpa using hk
   subst hk'
   rcases c3' h with q|⟨q,e⟩
   .rcases List.mem_cons.mp q with q|q
    .cases q;exact .inr ⟨List.mem_cons_self,rfl⟩
    .exact .inl q
   .exact .inr ⟨List.mem_cons_of_mem _ q,e⟩
  .rcases c3' h with q|⟨q,e⟩
   .exact .inl q
   .exact .inr ⟨List.mem_cons_of_mem _ q,e⟩
set_option tactic.hygienic true in
theorem c4' {cells:List (Str×Addr)}:∀{names:List (Str×NameKind)} {acc:List (Str×Addr)} {n:Str},((n,NameKind.free)∈names\/∃c,(n,c)∈acc)->∃c,(n,c)∈by' cells names acc
 | [],_,_,h=>by
  rcases h with h|h
  .simp at h
  .exact h
 |(m,k) :: r,acc,n,h=>by
  unfold by'
  split
  .rename_i hk
   refine c4' ?_
   rcases h with h|⟨c,h⟩
   .rcases List.mem_cons.mp h with h|h
    .cases h;exact .inr ⟨_,List.mem_cons_self⟩
    .exact .inl h
   .exact .inr ⟨c,List.mem_cons_of_mem _ h⟩
  .rename_i hk
   refine c4' ?_
   rcases h with h|h
   .rcases List.mem_cons.mp h with h|h
    .cases h;exact absurd rfl hk
    .exact .inl h
   .exact .inr h
theorem aD':∀(names:List (Str×NameKind)) (n:Nat) (acc:List (Str×Addr)),cellsFrom n names acc=cellsFrom n names []++acc
 | [],_,_=>rfl
 |(x,k) :: r,n,acc=>by
  unfold cellsFrom
  split
  .rw[aD' r (n+1) ((x,n) :: acc),aD' r (n+1) [(x,n)],List.append_assoc]
   rfl
  .exact aD' r n acc
theorem bl' {α:Type}:∀{l:List (Str×α)} {n:Str} {c:α},(n,c)∈l->∃c',l.lookup n=some c'
 |(k,v) :: r,n,c,h=>by
  rw[List.lookup_cons]
  cases hb:n == k with
  |true=>exact⟨v,rfl⟩
  |false=>
   rcases List.mem_cons.mp h with e|h
   .cases e;simp at hb
   .exact bl' h
theorem bu' {env:Env}:∀{names:List (Str×NameKind)} {x:Str} {k':NameKind},
  (names.map fun(n,k)=>if(k == NameKind.free&&env.scope.kind == .function&&env.kindOf n == some .cell)then(n,NameKind.cell)else(n,k)).lookup x=some k'->∃k,names.lookup x=some k/\(k'=k\/(k=.free/\k'=.cell))
 | [],_,_,h=>by simp at h
 |(n,k) :: r,x,k',h=>by
  have ih:=@bu' env r x k'
  rw[List.map_cons]at h
  by_cases hc:(k == NameKind.free&&env.scope.kind == .function&&env.kindOf n == some .cell)=true
  .have e1:(match ((n,k):Str×NameKind)with|(n,k)=>if(k == NameKind.free&&env.scope.kind == .function&&env.kindOf n == some .cell)=true then(n,NameKind.cell)else(n,k))=(n,NameKind.cell):=if_pos hc
   rw[e1,List.lookup_cons]at h
   rw[List.lookup_cons]
   cases hx:x == n with
   |true=>
    rw[hx]at h
    cases h
    refine⟨k,rfl,.inr ⟨?_,rfl⟩⟩
    simp only[Bool.and_eq_true]at hc
    exact beq_iff_eq.mp hc.1.1
   |false=>rw[hx]at h;exact ih h
  .have e1:(match ((n,k):Str×NameKind)with|(n,k)=>if(k == NameKind.free&&env.scope.kind == .function&&env.kindOf n == some .cell)=true then(n,NameKind.cell)else(n,k))=(n,k):=if_neg hc
   rw[e1,List.lookup_cons]at h
   rw[List.lookup_cons]
   cases hx:x == n with
   |true=>rw[hx]at h;cases h;exact⟨k,rfl,.inl rfl⟩
   |false=>rw[hx]at h;exact ih h
theorem aV' {env:Env}:∀{names:List (Str×NameKind)} {x:Str} {k:NameKind},names.lookup x=some k ->
  ∃k',(names.map fun(n,k)=>if(k == NameKind.free&&env.scope.kind == .function&&env.kindOf n == some .cell)then(n,NameKind.cell)else(n,k)).lookup x=some k'/\(k'=k\/(k=.free/\k'=.cell))
 | [],_,_,h=>by simp at h
 |(n,k0) :: r,x,k,h=>by
  have ih:=@aV' env r x k
  rw[List.map_cons]
  by_cases hc:(k0 == NameKind.free&&env.scope.kind == .function&&env.kindOf n == some .cell)=true
  .have e1:(match ((n,k0):Str×NameKind)with|(n,k)=>if(k == NameKind.free&&env.scope.kind == .function&&env.kindOf n == some .cell)=true then(n,NameKind.cell)else(n,k))=(n,NameKind.cell):=if_pos hc
   rw[e1,List.lookup_cons]
   rw[List.lookup_cons]at h
   cases hx:x == n with
   |true=>
    rw[hx]at h
    cases h
    refine⟨_,rfl,.inr ⟨?_,rfl⟩⟩
    simp only[Bool.and_eq_true]at hc
    exact beq_iff_eq.mp hc.1.1
   |false=>rw[hx]at h;exact ih h
  .have e1:(match ((n,k0):Str×NameKind)with|(n,k)=>if(k == NameKind.free&&env.scope.kind == .function&&env.kindOf n == some .cell)=true then(n,NameKind.cell)else(n,k))=(n,k0):=if_neg hc
   rw[e1,List.lookup_cons]
   rw[List.lookup_cons]at h
   cases hx:x == n with
   |true=>rw[hx]at h;cases h;exact⟨_,rfl,.inl rfl⟩
   |false=>rw[hx]at h;exact ih h
section
variable {M:Model} {A:Around} {E:Value->Shared->Prop} {s:Shared}
noncomputable abbrev aO' (h:Heap) (names:List (Str×NameKind)):Heap:=pushCells (h.push { cls:=.type "dict",data:=.dict #[] }) names
theorem cf' {scope:Scope} {globals:Addr} {cl:List (Str×Addr)} {qual:Str} {env:Env} {Q:Env->Shared->Prop}
  (h:Q (newEnv scope s.heap.objs.size globals (cellsFrom (s.heap.objs.size+1) scope.names cl) qual none .none (some env) builtinsNs) { s with heap:=aO' s.heap scope.names }):
  wpAny M A (newFunctionEnv scope globals cl [] qual none .none (some env)) Q E s:=by
 simp only[newFunctionEnv,Option.isSome_some,if_true]
 refine wpAny_bind (wpAny_alloc ?_)
 refine wpAny_bind (wpAny_layCells _ (fun name kind cells=>by cases hkc:kind == NameKind.cell<;>simp[hkc]) _ _ _ _ ?_)
 rw[show({ s with heap:=s.heap.push { cls:=.type "dict",data:=.dict #[] } }:Shared).heap.objs.size=s.heap.objs.size+1 from Heap.size_push ..]
 exact wpAny_bind (wpAny_pure (wpAny_pure h))
end
noncomputable def Cx.comp (X:Cx) (scope:Scope) (s₀:Shared) (H₀:Hp) (ex:List Addr):Cx:=
 { X with
  s₀:=s₀,H₀:=H₀
  env:={ newEnv scope s₀.heap.objs.size X.env.globals (cellsFrom (s₀.heap.objs.size+1) scope.names (by' X.env.cells scope.names [])) X.env.qual none .none (some X.env) builtinsNs with scope:=relabel scope X.env }
  outer:=X.stack,ex:=ex,fn:=fun x=>((cellsFrom (s₀.heap.objs.size+1) scope.names []).lookup x).isSome,pn:=[],xe:=fun _ _=>False }
structure CompSc (X:Cx) (scope:Scope):Prop where
 kind:scope.kind=.function
 names:∀x∈scope.names,x.2=.local->scope.names.lookup x.1=some .local
 one:∀n,(n,NameKind.cell)∈scope.names->scope.names.lookup n=some .cell
 free:∀n,(n,NameKind.free)∈scope.names->X.env.kindOf n=some .cell\/X.env.kindOf n=some .free
set_option tactic.hygienic true in
theorem bB':∀{names:List (Str×NameKind)} {n:Nat} {x:Str} {c:Addr},(x,c)∈cellsFrom n names []->(x,NameKind.cell)∈names
 | [],_,_,_,h=>by simp[cellsFrom]at h
 |(y,k) :: r,n,x,c,h=>by
  unfold cellsFrom at h
  split at h
  .rename_i hk
   have hk':k=.cell:=by simpa using hk
   subst hk'
   rw[aD']at h
   rcases List.mem_append.mp h with h|h
   .exact List.mem_cons_of_mem _ (bB' h)
   .have h':(x,c)=(y,n):=by simpa using h
    cases h'
    exact List.mem_cons_self
  .exact List.mem_cons_of_mem _ (bB' h)
noncomputable def clr (own:List Nat) (σ:St):St:=own.foldl (fun σ i=>σ.set i none) σ
theorem c5':∀(own:List Nat) (σ:St),(clr own σ).length=σ.length
 | [],_=>rfl
 |i :: r,σ=>by
  show(clr r (σ.set i none)).length=_
  rw[c5' r,List.length_set]
theorem c6':∀{own:List Nat} {σ:St} {i:Nat} {v:V},(clr own σ)[i]?=some (some v)->σ[i]?=some (some v)/\i∉own
 | [],_,_,_,h=>⟨h,by simp⟩
 |j :: r,σ,i,v,h=>by
  obtain⟨h1,h2⟩:=c6' (own:=r) (σ:=σ.set j none) h
  by_cases e:j=i
  .subst e
   rw[List.getElem?_set]at h1
   simp at h1
  .rw[List.getElem?_set_ne e]at h1
   exact⟨h1,by simp;exact⟨fun z=>e z.symm,h2⟩⟩
theorem fw':∀{own:List Nat} {σ:St} {i:Nat},i∉own->(clr own σ)[i]?=σ[i]?
 | [],_,_,_=>rfl
 |j :: r,σ,i,h=>by
  have h1:i≠j:=fun z=>h (by simp[z])
  have h2:i∉r:=fun z=>h (by simp[z])
  show(clr r (σ.set j none))[i]?=_
  rw[fw' h2,List.getElem?_set_ne (Ne.symm h1)]
section
variable {X:Cx} {pins:List (Addr×Obj)} {σ:St} {H H':Hp} {s s':Shared} {scope:Scope} {ex:List Addr} {own:List Nat}
theorem hh' (I:Inv X pins σ H s) (S:CompSc X scope):
  (∀x c,(by' X.env.cells scope.names []).lookup x=some c->X.env.cells.lookup x=some c)/\
  (∀x,(x,NameKind.free)∈scope.names->∃c,(by' X.env.cells scope.names []).lookup x=some c)/\
  CellsOk (aO' s.heap scope.names) (s.heap.objs.size+1) (cellsFrom (s.heap.objs.size+1) scope.names []):=by
 have hc:∀x c,(x,c)∈by' X.env.cells scope.names []->X.env.cells.lookup x=some c:=fun x c h=>by
  rcases c3' h with z|⟨z,e⟩
  .simp at z
  .obtain⟨c',e'⟩:=I.ok.has x (S.free x z)
   rw[e',Option.getD_some]at e
   rw[e',e]
 refine⟨fun x c h=>hc x c (PySem.mem_of_lookup h),fun x h=>?_,?_⟩
 .obtain⟨c,q⟩:=c4' (cells:=X.env.cells) (acc:=[]) (.inl h)
  exact bl' q
 .have q:=cellsFrom_ok scope.names (s.heap.push { cls:=.type "dict",data:=.dict #[] }) (s.heap.objs.size+1) [] ⟨fun _ _ hm=>(nomatch hm),List.Pairwise.nil⟩ (by rw[Heap.size_push];exact Nat.le_refl _)
  rw[Heap.size_push]at q
  exact q
theorem dK' (I:Inv X pins σ H s) (hex:∀b∈ex,cr' X pins H b) (hlt:∀b∈ex,b<s.heap.objs.size) (S:CompSc X scope)
  (hown:∀i x,X.N[i]?=some x->(scope.names.lookup x=some .local\/scope.names.lookup x=some .cell)->i∈own):
  Inv (X.comp scope s H ex) [] (clr own σ) H { s with heap:=aO' s.heap scope.names }:=by
 obtain⟨hcl,hcf,ok⟩:=hh' I S
 have lk:∀x c,(X.comp scope s H ex).env.cells.lookup x=some c->(cellsFrom (s.heap.objs.size+1) scope.names []).lookup x=some c\/((cellsFrom (s.heap.objs.size+1) scope.names []).lookup x=none/\X.env.cells.lookup x=some c):=fun x c h=>by
  have h':(cellsFrom (s.heap.objs.size+1) scope.names (by' X.env.cells scope.names [])).lookup x=some c:=h
  rw[aD',List.lookup_append]at h'
  cases q:(cellsFrom (s.heap.objs.size+1) scope.names []).lookup x with
  |some d=>rw[q]at h';exact .inl h'
  |none=>rw[q]at h';exact .inr ⟨rfl,hcl x c h'⟩
 have newC:∀x c,(cellsFrom (s.heap.objs.size+1) scope.names []).lookup x=some c->(aO' s.heap scope.names).IsCell c none/\s.heap.objs.size+1<=c:=fun x c h=>ok.empty x c (PySem.mem_of_lookup h)
 have oldC:∀x c,X.env.cells.lookup x=some c->c<s.heap.objs.size:=fun x c h=>let⟨_,q⟩:=I.cell x c h;q.lt
 have keep:∀b o,s.heap.get? b=some o->(aO' s.heap scope.names).get? b=some o:=fun b o e=>pushCells_keeps _ _ b o (Heap.get?_push_of_some _ e)
 have fresh:∀b,s.heap.objs.size<=b->H b=none:=fun b hb=>I.hok.fresh hb
 have loc0:(X.comp scope s H ex).env.locals=s.heap.objs.size:=rfl
 refine⟨⟨I.ok.mod,S.kind,I.ok.glob,?_,Nat.le_refl _,fun x y c h1 h2=>?_,fun x hx=>?_,fun x c hf h=>?_,I.ok.hd,I.ok.frames,.inl rfl,fun b hb=>?_,I.bs,Nat.le_trans I.ok.bsz I.sz,fun b o e hb=>?_,fun b hb=>?_,I.stack,I.stkFree⟩,
  rfl,I.bare,Un.kept keep,⟨fun _=>none,?_,fun i x v h1 h2 h3=>?_⟩,fun x c h=>?_,fresh _ (Nat.le_refl _),fun x c h=>?_,fun p hp=>absurd (show p∈([]:List (Addr×Obj)) from hp) (by simp),I.hok.kept keep,?_⟩
 .show X.env.builtins=_
  exact I.ok.blt
 .rcases lk x c h1 with q1|⟨_,q1⟩<;>rcases lk y c h2 with q2|⟨_,q2⟩
  .exact name_of_addr ok.apart (PySem.mem_of_lookup q1) (PySem.mem_of_lookup q2)
  .exact absurd (Nat.lt_of_lt_of_le (oldC y c q2) (Nat.le_trans (Nat.le_succ _) (newC x c q1).2)) (Nat.lt_irrefl _)
  .exact absurd (Nat.lt_of_lt_of_le (oldC x c q1) (Nat.le_trans (Nat.le_succ _) (newC y c q2).2)) (Nat.lt_irrefl _)
  .exact I.ok.inj x y c q1 q2
 .have hx':(relabel scope X.env).names.lookup x=some .cell\/(relabel scope X.env).names.lookup x=some .free:=hx
  have fin:∀k,scope.names.lookup x=some k->(k=.cell\/k=.free)->∃c,(cellsFrom (s.heap.objs.size+1) scope.names (by' X.env.cells scope.names [])).lookup x=some c:=fun k hk hkk=>by
   rw[aD',List.lookup_append]
   rcases hkk with rfl|rfl
   .obtain⟨c,q⟩:=d0' (n:=s.heap.objs.size+1) hk
    exact⟨c,by rw[q];rfl⟩
   .obtain⟨c,q⟩:=hcf x (PySem.mem_of_lookup hk)
    cases z:(cellsFrom (s.heap.objs.size+1) scope.names []).lookup x with
    |some d=>exact⟨d,rfl⟩
    |none=>exact⟨c,by rw[q];rfl⟩
  rcases hx' with hx'|hx'<;>obtain⟨k,hk,e⟩:=bu' hx'
  .rcases e with e|⟨e,_⟩
   .exact fin k hk (.inl e.symm)
   .exact fin k hk (.inr e)
  .rcases e with e|⟨e,_⟩
   .exact fin k hk (.inr e.symm)
   .exact fin k hk (.inr e)
 .rcases lk x c h with q|⟨q,_⟩
  .have:=(newC x c q).2
   show s.heap.objs.size<=c
   omega
  .have hf':((cellsFrom (s.heap.objs.size+1) scope.names []).lookup x).isSome=true:=hf
   rw[q]at hf'
   cases hf'
 .refine⟨?_,fun x c h=>?_⟩
  .show b≠s.heap.objs.size
   exact Nat.ne_of_lt (hlt b hb)
  .rcases lk x c h with q|⟨_,q⟩
   .intro e
    rw[e]at q
    exact absurd (Nat.lt_of_lt_of_le (hlt b hb) (Nat.le_trans (Nat.le_succ _) (newC x b q).2)) (Nat.lt_irrefl _)
   .exact(hex b hb).2.2.2.2.1 x c q
 .rcases(hex b hb).2.2.2.1 with z|z
  .exact I.ok.noex b o e z
  .exact absurd (Nat.lt_of_lt_of_le (Heap.lt_size e) (Nat.le_trans I.ok.bsz z)) (Nat.lt_irrefl _)
 .intro z
  rcases List.mem_cons.mp (I.stkSub b z)with e|e
  .exact(hex b hb).2.1 e
  .exact(hex b hb).2.2.1 e
 .show(aO' s.heap scope.names).Ns s.heap.objs.size _
  exact(Heap.Ns.new s.heap (.type "dict")).keeps (pushCells_keeps _ _)
 .obtain⟨h2,hno⟩:=c6' h2
  have h3':(relabel scope X.env).names.lookup x=some .local\/(relabel scope X.env).names.lookup x=some .cell\/(relabel scope X.env).names.lookup x=some .free:=h3
  have h3k:∃k',(relabel scope X.env).names.lookup x=some k'/\(k'=.local\/k'=.cell\/k'=.free):=by
   rcases h3' with z|z|z
   .exact⟨_,z,.inl rfl⟩
   .exact⟨_,z,.inr (.inl rfl)⟩
   .exact⟨_,z,.inr (.inr rfl)⟩
  obtain⟨k',hk',hkk⟩:=h3k
  obtain⟨k,hk,e⟩:=bu' hk'
  have hfree:k=.free:=by
   rcases e with e|⟨e,_⟩
   .subst e
    rcases hkk with z|z|z
    .subst z;exact absurd (hown i x h1 (.inl hk)) hno
    .subst z;exact absurd (hown i x h1 (.inr hk)) hno
    .exact z
   .exact e
  subst hfree
  have hm:=PySem.mem_of_lookup hk
  have hv:Vis X.env.scope x:=by
   rcases S.free x hm with z|z
   .exact .inr (.inl z)
   .exact .inr (.inr z)
  obtain⟨m,hn,hl⟩:=I.loc
  obtain⟨u,r,l⟩:=hl i x v h1 h2 hv
  refine⟨u,r,?_⟩
  have hkind:(X.comp scope s H ex).env.kindOf x=some .cell\/(X.comp scope s H ex).env.kindOf x=some .free:=by
   show(relabel scope X.env).names.lookup x=some .cell\/(relabel scope X.env).names.lookup x=some .free
   rcases e with e|⟨_,e⟩
   .subst e;exact .inr hk'
   .subst e;exact .inl hk'
  have hcc:∃c,X.env.cells.lookup x=some c/\s.heap.IsCell c (some u):=by
   rcases l with⟨kk,_⟩|⟨_,c,e1,e2⟩
   .rcases S.free x hm with z|z
    .rw[z]at kk;cases kk
    .rw[z]at kk;cases kk
   .exact⟨c,e1,e2⟩
  obtain⟨c,e1,e2⟩:=hcc
  refine .inr ⟨hkind,c,?_,e2.keeps keep⟩
  show(cellsFrom (s.heap.objs.size+1) scope.names (by' X.env.cells scope.names [])).lookup x=some c
  rw[aD',List.lookup_append]
  have hnone:(cellsFrom (s.heap.objs.size+1) scope.names []).lookup x=none:=by
   cases z:(cellsFrom (s.heap.objs.size+1) scope.names []).lookup x with
   |none=>rfl
   |some d=>
    exfalso
    have q1:=S.one x (bB' (PySem.mem_of_lookup z))
    rw[hk]at q1
    cases q1
  obtain⟨c',q⟩:=hcf x hm
  have q':=hcl x c' q
  rw[e1]at q'
  cases q'
  rw[hnone,q]
  rfl
 .rcases lk x c h with q|⟨_,q⟩
  .exact⟨_,(newC x c q).1⟩
  .obtain⟨v,z⟩:=I.cell x c q
   exact⟨v,z.keeps keep⟩
 .rcases lk x c h with q|⟨_,q⟩
  .have:=(newC x c q).2
   exact fresh c (by omega)
  .exact I.freeC x c q
 .rw[c5']
  exact I.len
end
section
variable {X:Cx} {pins:List (Addr×Obj)} {σ:St} {H H':Hp} {s s':Shared} {scope:Scope} {ex:List Addr} {own:List Nat}
theorem or' {P:Program} {w:World} {h h':Heap} {a:Addr} (x:HOk P w H h) (hn:H a=none) (hs:∀b o,b≠a->h.get? b=some o->h'.get? b=some o):HOk P w H h':=fun b ob e=>
 (x b ob e).stay (fun c w' hc q=>hs c w' (by
  rintro rfl
  rcases hc with rfl|hc
  .rw[hn]at e;cases e
  .rw[hn]at hc;cases hc) q) (fun _ q=>q) fun _ _ q=>q
theorem cM' {σ':St} {pins':List (Addr×Obj)} {h':Heap} (I:Inv X pins σ H s) (hex:∀b∈ex,cr' X pins H b) (J:Inv (X.comp scope s H ex) pins' σ' H' s') (hs:Heap.SameBut s.heap.objs.size s'.heap h'):
  Inv X pins σ H' { s' with heap:=h' }:=by
 have ne:∀b o,s.heap.get? b=some o->b≠s.heap.objs.size:=fun b o e=>Nat.ne_of_lt (Heap.lt_size e)
 have u:Un (frs X.stack) ex H H' s.heap s'.heap:=J.base
 have hf:H' s.heap.objs.size=none:=J.free
 refine I.call' (s':={ s' with heap:=h' }) (ch:=ex) J.os ⟨fun b o e n hb hx=>?_,fun b o e n hb hx=>?_,u.free,fun b o e hx=>?_,u.tups,u.frzs,u.tbls⟩ (or' J.hok hf fun b o hb e=>(hs.2 b hb).trans e) J.bare fun b hb=>?_
 .exact(hs.2 b (ne b o e)).trans (u.keep b o e n hb hx)
 .obtain⟨sl,q⟩:=u.slot b o e n hb hx
  exact⟨sl,(hs.2 b (ne b o e)).trans q⟩
 .obtain⟨o',q⟩:=u.there b o e hx
  exact⟨o',(hs.2 b (ne b o e)).trans q⟩
 .obtain⟨f0,f1,f2,f3,f4,f5⟩:=hex b hb
  exact⟨f3,f1,f4,f5⟩
end
def PTs (X:Cx) (ifs:List Expr) (t:TT):Prop:=∀(pins:List (Addr×Obj)) (s:Shared) (σ:St) (H:Hp) (Q:Bool->Hp->Prop),Inv X pins σ H s->t σ H Q->
 wpAny (model X.prog X.w) X.A (forIn ifs true fun c r=>if r=true then do let ok <- isTrue c X.env (eval c X.env);pure (ForInStep.yield ok)else pure (ForInStep.yield r)) (TP X pins σ Q) X.xe s
theorem ot' {X:Cx}:PTs X [] (fun _ H Q=>Q true H):=fun pins s σ H Q I h=>wpAny_tests_nil ⟨H,I,h⟩
theorem ou' {X:Cx} {c:Expr} {t:TT} (hc:PT X c t):PTs X [c] t:=fun pins s σ H Q I h=>wpAny_tests_one (hc pins s σ H Q I h)
def Ext (ws:List Nat) (σ σ':St):Prop:=σ'.length=σ.length/\∀j,j∉ws->σ'[j]?=σ[j]?
theorem Ext.refl {ws:List Nat} {σ:St}:Ext ws σ σ:=⟨rfl,fun _ _=>rfl⟩
theorem Ext.trans {ws:List Nat} {σ σ1 σ2:St} (a:Ext ws σ σ1) (b:Ext ws σ1 σ2):Ext ws σ σ2:=⟨b.1.trans a.1,fun j hj=>(b.2 j hj).trans (a.2 j hj)⟩
theorem Ext.mono {ws ws':List Nat} {σ σ1:St} (a:Ext ws σ σ1) (h:∀j∈ws,j∈ws'):Ext ws' σ σ1:=⟨a.1,fun j hj=>a.2 j fun z=>hj (h j z)⟩
theorem Ext.clr {ws:List Nat} {σ:St}:Ext ws σ (clr ws σ):=⟨c5' _ _,fun j hj=>fw' hj⟩
theorem Ext.back {ws:List Nat} {σ σ':St} (a:Ext ws (L2.clr ws σ) σ') (i:Nat) (v:V) (h:(L2.clr ws σ)[i]?=some (some v)):σ'[i]?=some (some v):=by
 obtain⟨_,q⟩:=c6' h
 rw[a.2 i q]
 exact h
def pV' (ws:List Nat) (g:TG):Prop:=∀(x:V) (σ:St) (H:Hp) (Q:St->Hp->Prop),g x σ H Q->g x σ H fun σ2 H2=>Q σ2 H2/\Ext ws σ σ2
theorem iG' {i:Nat} {ws:List Nat} (h:i∈ws):pV' ws (h9' i):=fun x σ H Q q=>⟨q,by simp,fun j hj=>by
 have:i≠j:=fun z=>hj (z ▸ h)
 rw[List.getElem?_set_ne this]⟩
noncomputable def aW' (e:Expr) (d:Nat) (tg iter:Expr) (ifs:List Expr) (nx:Sem Unit) (it acc:Value) (env:Env):Sem Fin:=do
 standAt iter.pos
 match <- pyNext it with
 |none=>pure (.done .next)
 |some v=>
  letOwnedTupleGo tg it v
  assign tg env v
  let mut ok:=true
  for c in ifs do
   if ok then ok <- isTrue c env (eval c env)
  if ok then nx
  again (.compLoop e d it acc env)
noncomputable abbrev TL (α:Type):=St->α->Hp->(α->Hp->Prop)->Prop
def bG' {α:Type} (X:Cx) (D:Addr) (Is:α->Obj->Prop) (ws:List Nat) (code:Sem Unit) (t:TL α):Prop:=
 ∀(pins:List (Addr×Obj)) (s:Shared) (σ:St) (H:Hp) (a:α) (o:Obj) (N:α->Hp->Prop),Inv X pins σ H s->cr' X pins H D->s.heap.get? D=some o->Is a o->t σ a H N->
  wpAny (model X.prog X.w) X.A code (fun _ s'=>∃σ' a' o' H',Inv X pins σ' H' s'/\Ext ws σ σ'/\s'.heap.get? D=some o'/\Is a' o'/\H' D=none/\N a' H') (fun _ _=>False) s
noncomputable def aE' {α:Type} (ws:List Nat) (g:TG) (tc:TT) (au':TL α) (J:It):TL α:=fun σ a H1 N=>
 ∃W:Nat->Nat->α->Hp->Prop,(∃m,W 0 m a H1)/\∀i m b H,W i m b H->
  (J.stop i H/\N b H)\/(J.go i H/\∀x H',J.yld i H x H'->g x (clr ws σ) H' fun σ2 H2=>tc σ2 H2 fun ok H3=>
   if ok=true then au' σ2 b H3 (fun c H4=>∃m',m'<m/\W (i+1) m' c H4)else ∃m',m'<m/\W (i+1) m' b H3)
theorem c7' {α:Type} {Is:α->Obj->Prop} {X:Cx} {e:Expr} {d:Nat} {tg iter:Expr} {ifs:List Expr} {nx:Sem Unit} {it D:Addr} {fp:List Addr} {tn:Nat->Heap->Prop} {J:It} {g:TG} {tc:TT} {au':TL α} {ws ws':List Nat}
  (hxe:X.xe=fun _ _=>False) (hcalm:X.calm=true)
  (hq:(Code.compLoop e d (.ref it) (.ref D) X.env).quiet=true) (hu:X.A.under (Code.compLoop e d (.ref it) (.ref D) X.env)=X.A)
  (hT:(model X.prog X.w).den (.compLoop e d (.ref it) (.ref D) X.env)=(aW' e d tg iter ifs nx (.ref it) (.ref D) X.env).onRaise (fun x=>do noteFrame x X.env;theTreesLotGoes x))
  (T:Turn X.prog X.w X.K tg J fp it tn) (hg:PG X tg g) (hge:pV' ws g) (ht:PTs X ifs tc) (hn:bG' X D Is ws' nx au') (hws:∀j∈ws',j∈ws) (hIs:∀a o,Is a o->∀v,o.data≠.cell v) (hDf:D∉fp)
  {pins:List (Addr×Obj)} {s:Shared} {σ:St} {H:Hp} {a:α} {o:Obj} {N:α->Hp->Prop} (I:Inv X pins σ H s) (hf:∀b∈fp,cr' X pins H b) (hD:cr' X pins H D) (ho:s.heap.get? D=some o) (ha:Is a o) (h0:tn 0 s.heap)
  (hw:aE' ws g tc au' J σ a H N):
  codeAny (model X.prog X.w) X.A (.compLoop e d (.ref it) (.ref D) X.env) (fun r s'=>r=.ok .next/\∃a' o' H',Inv X pins (clr ws σ) H' s'/\s'.heap.get? D=some o'/\Is a' o'/\H' D=none/\N a' H') s:=by
 obtain⟨W,⟨m0,w0⟩,turn⟩:=hw
 have stat:∀{H':Hp} {pl:List (Addr×Obj)},(∀b∈D :: fp,H' b=none)->(∀b∈D :: fp,cr' X pins H' b):=fun {H' pl} hn b hb=>by
  rcases List.mem_cons.mp hb with rfl|hb'
  .exact⟨hn _ List.mem_cons_self,hD.2⟩
  .exact⟨hn b hb,(hf b hb').2⟩
 refine codeAny_loop hq (fun n s'=>∃i b ob H',Inv X pins (clr ws σ) H' s'/\tn i s'.heap/\(∀b∈D :: fp,H' b=none)/\s'.heap.get? D=some ob/\Is b ob/\W i n b H') ?_ m0
  ⟨0,a,o,H,I.weak (c5' _ _) (fun i v q=>(c6' q).1),h0,fun b hb=>by
   rcases List.mem_cons.mp hb with rfl|hb'
   .exact hD.1
   .exact(hf b hb').1,ho,ha,w0⟩
 rintro n s3 ⟨i,b,ob,H3,I3,st3,fr3,o3,is3,w3⟩
 rw[hu,hT]
 refine wpAny_noted ?_
 have hE:∀{β:Type} {c:Sem β} {Q:β->Shared->Prop} {s:Shared} {E:Value->Shared->Prop},wpAny (model X.prog X.w) X.A c Q (fun _ _=>False) s->wpAny (model X.prog X.w) X.A c Q E s:=fun h=>wpAny_mono h (fun _ _ q=>q) fun _ _ q=>q.elim
 refine hE ?_
 unfold aW'
 refine wpAny_bind (wpAny_standAt (wpAny_bind ?_))
 have hxeE:∀{β:Type} {c:Sem β} {Q:β->Shared->Prop} {s:Shared},wpAny (model X.prog X.w) X.A c Q X.xe s->wpAny (model X.prog X.w) X.A c Q (fun _ _=>False) s:=fun h=>by rw[hxe]at h;exact h
 have pD:Inv X (pins++bx' [D] s3.heap) (clr ws σ) H3 s3:=I3.pinned (fun b hb=>by
  have e:b=D:=by simpa using hb
  subst e
  exact stat (pl:=[]) fr3 b List.mem_cons_self) (fun b hb=>by
  have e:b=D:=by simpa using hb
  subst e
  exact⟨ob,o3,hIs _ _ is3⟩)
 have mD:(D,ob)∈bx' [D] s3.heap:=aK' (by simp) o3
 have fpD:∀{H':Hp},(∀b∈fp,H' b=none)->∀b∈fp,cr' X (pins++bx' [D] s3.heap) H' b:=fun {H'} hn b hb=>by
  obtain⟨_,f1,f2,f3,f4,f5⟩:=hf b hb
  refine⟨hn b hb,f1,f2,f3,f4,fun p hp=>?_⟩
  rcases List.mem_append.mp hp with q|q
  .exact f5 p (List.mem_append_left _ q)
  .rcases List.mem_append.mp q with q|q
   .exact f5 p (List.mem_append_right _ q)
   .have e:p.1=D:=by simpa using(cY' q).1
    rw[e]
    rintro rfl
    exact hDf hb
 have fr3':∀b∈fp,H3 b=none:=fun b hb=>fr3 b (List.mem_cons_of_mem _ hb)
 rcases turn i n b H3 w3 with⟨stop,qn⟩|⟨go,step⟩
 .refine thn (T.done X rfl rfl rfl hcalm i _ s3 _ H3 _ pD (fpD fr3') st3 stop) fun r s4 ⟨hr,I4⟩=>?_
  subst hr
  have q4:=I4.pin (D,ob) (List.mem_append_right _ (List.mem_append_right _ mD))
  exact wpAny_pure ⟨rfl,b,ob,H3,I4.unpinned,q4.1,is3,q4.2.1,qn⟩
 .refine thn (T.item X rfl rfl rfl hcalm i _ s3 _ H3 _ pD (fpD fr3') st3 go) fun r s4 ⟨u,hr,h4⟩=>?_
  subst hr
  refine wpAny_bind (thn h4 fun _ s5 ⟨x,H5,I5,r5,y5,st5,fr5⟩=>?_)
  have I5':=I5.pinned (fpD fr5) (T.obj _ _ st5)
  refine wpAny_bind (thn (hxeE (hg _ s5 _ H5 x u _ I5' r5 (hge x _ H5 _ (step x H5 y5)))) fun _ s6 ⟨σ6,H6,I6,q6,x6⟩=>?_)
  refine wpAny_bind (thn (hxeE (ht _ s6 σ6 H6 _ I6 q6)) fun ok s7 ⟨H7,I7,q7⟩=>?_)
  have q7D:=I7.pin (D,ob) (List.mem_append_right _ (List.mem_append_left _ (List.mem_append_right _ mD)))
  have q7f:∀b∈fp,∀o,s5.heap.get? b=some o->s7.heap.get? b=some o/\H7 b=none:=fun b hb o e =>
   let q:=I7.pin (b,o) (List.mem_append_right _ (List.mem_append_right _ (aK' hb e)))
   ⟨q.1,q.2.1⟩
  have st7:tn (i+1) s7.heap:=T.keep _ _ _ st5 fun b hb o e=>(q7f b hb o e).1
  have fr7:∀b∈fp,H7 b=none:=fun b hb=>by
   obtain⟨o,e,_⟩:=T.obj _ _ st5 b hb
   exact(q7f b hb o e).2
  have I7':Inv X pins σ6 H7 s7:=I7.unpinned.unpinned
  cases ok with
  |false=>
   have q7':∃m',m'<n/\W (i+1) m' b H7:=q7
   obtain⟨m',hm,w7⟩:=q7'
   refine wpAny_pure ⟨rfl,m',hm,i+1,b,ob,H7,I7'.weak ?_ x6.back,st7,fun c hc=>?_,q7D.1,is3,w7⟩
   .rw[x6.1]
   .rcases List.mem_cons.mp hc with rfl|hc'
    .exact q7D.2.1
    .exact fr7 c hc'
  |true=>
   have I7p:=I7'.pinned (fun b hb=>stat (pl:=[]) (fun c hc=>by
    rcases List.mem_cons.mp hc with rfl|hc'
    .exact q7D.2.1
    .exact fr7 c hc') b (List.mem_cons_of_mem _ hb)) (T.obj _ _ st7)
   have fD:cr' X (pins++bx' fp s7.heap) H7 D:=by
    obtain⟨_,f1,f2,f3,f4,f5⟩:=hD
    refine⟨q7D.2.1,f1,f2,f3,f4,fun p hp=>?_⟩
    rcases List.mem_append.mp hp with q|q
    .exact f5 p (List.mem_append_left _ q)
    .rcases List.mem_append.mp q with q|q
     .exact f5 p (List.mem_append_right _ q)
     .intro z
      exact hDf (z ▸ (cY' q).1)
   refine wpAny_bind (thn (hn _ s7 σ6 H7 b ob _ I7p fD q7D.1 is3 q7) fun _ s8 ⟨σ8,b8,o8,H8,I8,x8,e8,is8,n8,m',hm,w8⟩=>?_)
   have q8f:∀b∈fp,∀o,s7.heap.get? b=some o->s8.heap.get? b=some o/\H8 b=none:=fun b hb o e =>
    let q:=I8.pin (b,o) (List.mem_append_right _ (List.mem_append_right _ (aK' hb e)))
    ⟨q.1,q.2.1⟩
   have x8':Ext ws (clr ws σ) σ8:=x6.trans (x8.mono hws)
   refine wpAny_pure ⟨rfl,m',hm,i+1,b8,o8,H8,I8.unpinned.weak (by rw[x8'.1]) x8'.back,T.keep _ _ _ st7 fun b hb o e=>(q8f b hb o e).1,fun c hc=>?_,e8,is8,w8⟩
   rcases List.mem_cons.mp hc with rfl|hc'
   .exact n8
   .obtain⟨o,e,_⟩:=T.obj _ _ st7 c hc'
    exact(q8f c hc' o e).2
def IsL (xs:List V) (o:Obj):Prop:=xs.length<=sizeLine/\∃(its:List Value) (n:Nat),az' xs its/\o={ cls:=.type "list",data:=.seq its.toArray n }
theorem d3' (xs:List V) (o:Obj) (h:IsL xs o) (v:Option Value):o.data≠.cell v:=by
 obtain⟨_,its,n,_,rfl⟩:=h
 intro z
 cases z
noncomputable def dx' (te:TE):TL (List V):=fun σ xs H N=>te σ H fun v H'=>xs.length<sizeLine/\N (xs++[v]) H'
theorem f6' {X:Cx} {D:Addr} {elt:Expr} {te:TE} (hxe:X.xe=fun _ _=>False) (he:PE X elt te):bG' X D IsL [] (do let _ <- call (.builtin "list.append") [.ref D,<- eval elt X.env]) (dx' te):=by
 intro pins s σ H xs o N I hD ho hi hq
 have I1:Inv X (pins++bx' [D] s.heap) σ H s:=I.pinned (fun b hb=>by
  have e:b=D:=by simpa using hb
  subst e
  exact hD) (fun b hb=>by
  have e:b=D:=by simpa using hb
  subst e
  exact⟨o,ho,d3' _ _ hi⟩)
 have h1:=he _ s σ H _ I1 hq
 rw[hxe]at h1
 refine wpAny_bind (thn h1 fun u s1 ⟨v,H1,J1,r1,z1,n1⟩=>?_)
 have q1:=J1.pin (D,o) (List.mem_append_right _ (List.mem_append_right _ (aK' (by simp) ho)))
 obtain⟨zx,its,n,rv,rfl⟩:=hi
 have hl:=rv.length
 refine wpAny_bind (wpAny_list_append_plain (items:=its.toArray) ⟨n,q1.1⟩ (fun h' hp hs=>?_) (by rw[List.size_toArray,<- hl];exact zx))
 obtain⟨_,f1,f2,f3,f4,f5⟩:=hD
 have J2:Inv X pins σ H1 { s1 with heap:=h' }:=J1.unpinned.turned (it:=D) (t':=s1.toks) (fun b o hb e=>(hs.2 b hb).trans e) q1.2.1 f1 f3 f4 f5
 obtain⟨n',hp⟩:=hp
 refine wpAny_pure ⟨σ,xs++[v],_,H1,J2,Ext.refl,hp,⟨?_,its++[u],n',rv.append (.cons r1 .nil),?_⟩,q1.2.1,n1⟩
 .rw[List.length_append];exact z1
 .simp
noncomputable def aX' (e:Expr) (d:Nat) (iter:Expr) (acc:Value) (env:Env):Sem Unit:=do
 let x <- eval iter env
 standAt iter.pos
 let x <- foldedSetIterable iter env x
 let _ <- runOwn (.compStart e (d+1) (<- holding [x] (pyIter x)) acc env) env
theorem d4' {M:Model} {A:Around} {e:Expr} {d:Nat} {it acc:Value} {env:Env} {R:Result->Shared->Prop} {s:Shared}
  (hq:(Code.compStart e d it acc env).quiet=true) (hu:A.under (Code.compStart e d it acc env)=A) (hql:∀it',(Code.compLoop e d it' acc env).quiet=true)
  (hden:M.den (.compStart e d it acc env)=(compStart e d it acc env).onRaise (fun x=>do noteFrame x env;standAt theWindowsPlace)) (hg:∃g,(clausesOf e)[d]?=some g/\g.is_async=0)
  (h0:codeAny M A (.compLoop e d it acc env) R s) (h1:∀E,wpAny M A (pyIter it) (fun it' s'=>it'=it/\s'=s) E s):codeAny M A (.compStart e d it acc env) R s:=by
 refine codeAny_of_tree ?_
 rw[hu,hden]
 refine wpAny_notedAt ?_
 obtain⟨g,eg,ea⟩:=hg
 unfold compStart
 rw[eg]
 have e1:((some g:Option Comprehension).elim false (fun x=>x.is_async != 0))=false:=by
  show(g.is_async != 0)=false
  rw[ea];rfl
 rw[e1]
 show wpAny _ _ (ask >>= _) _ _ s
 refine wpAny_bind (wpAny_askSetting (wpAny_ite ?_))
 have fin:wpAny M A (again (.compLoop e d it acc env)) (fun fin s'=>match fin with | .done f=>R (.ok f) s' | .again c=>c.quiet=true/\codeAny M A c R s') (notedBy M A env fun x s'=>R (.error x) s') s:=wpAny_pure ⟨hql it,h0⟩
 split
 .first
   |exact fin
   |exact wpAny_bind fin
   |exact wpAny_bind (wpAny_pure fin)
 .refine wpAny_bind (wpAny_rule ?_)
  refine wpAny_bind (wpAny_standAt ?_)
  refine wpAny_bind (wpAny_mono (h1 _) (fun it' s' q=>?_) fun _ _ q=>q)
  obtain⟨rfl,rfl⟩:=q
  exact fin
theorem f7' (own:List Nat) (σ:St):clr own (clr own σ)=clr own σ:=by
 apply List.ext_getElem?
 intro i
 by_cases h:i∈own
 .have z:∀τ:St,(clr own τ)[i]?=none\/(clr own τ)[i]?=some none:=fun τ=>by
   cases q:(clr own τ)[i]? with
   |none=>exact .inl rfl
   |some o=>
    cases o with
    |none=>exact .inr rfl
    |some v=>exact absurd h (c6' q).2
  have hl:(clr own (clr own σ)).length=(clr own σ).length:=c5' _ _
  rcases z (clr own σ)with a|a<;>rcases z σ with b|b<;>rw[a,b]
  .have q1:=List.getElem?_eq_none_iff.mp a
   have q2:=(List.getElem?_eq_some_iff.mp b).1
   omega
  .have q1:=List.getElem?_eq_none_iff.mp b
   have q2:=(List.getElem?_eq_some_iff.mp a).1
   omega
 .rw[fw' h]
noncomputable def dy' {α:Type} (wi:TI) (c:It->TL α):TL α:=fun σ a H N=>wi σ H fun J H1=>c J σ a H1 N
theorem d5' {α:Type} {Is:α->Obj->Prop} {X:Cx} {e:Expr} {d:Nat} {tg iter:Expr} {ifs:List Expr} {nx:Sem Unit} {D:Addr} {wi:TI} {g:TG} {tc:TT} {au':TL α} {ws ws':List Nat}
  (hxe:X.xe=fun _ _=>False) (hcalm:X.calm=true)
  (hq:∀it,(Code.compLoop e (d+1) it (.ref D) X.env).quiet=true) (hu:∀it,X.A.under (Code.compLoop e (d+1) it (.ref D) X.env)=X.A)
  (hq':∀it,(Code.compStart e (d+1) it (.ref D) X.env).quiet=true) (hu':∀it,X.A.under (Code.compStart e (d+1) it (.ref D) X.env)=X.A)
  (hT:∀it,(model X.prog X.w).den (.compLoop e (d+1) it (.ref D) X.env)=(aW' e (d+1) tg iter ifs nx it (.ref D) X.env).onRaise (fun x=>do noteFrame x X.env;theTreesLotGoes x))
  (hS:∀it,(model X.prog X.w).den (.compStart e (d+1) it (.ref D) X.env)=(compStart e (d+1) it (.ref D) X.env).onRaise (fun x=>do noteFrame x X.env;standAt theWindowsPlace))
  (hcl:∃g,(clausesOf e)[d+1]?=some g/\g.is_async=0) (hfs:∀x,foldedSetIterable iter X.env x=pure x)
  (hi:PI X tg iter wi) (hg:PG X tg g) (hge:pV' ws g) (ht:PTs X ifs tc) (hn:bG' X D Is ws' nx au') (hws:∀j∈ws',j∈ws) (hIs:∀a o,Is a o->∀v,o.data≠.cell v):
  bG' X D Is ws (aX' e d iter (.ref D) X.env) (dy' wi (aE' ws g tc au')):=by
 intro pins s σ H a o N I hD ho ha hw
 have I1:Inv X (pins++bx' [D] s.heap) σ H s:=I.pinned (fun b hb=>by
  have e:b=D:=by simpa using hb
  subst e
  exact hD) (fun b hb=>by
  have e:b=D:=by simpa using hb
  subst e
  exact⟨o,ho,hIs _ _ ha⟩)
 have h1:=hi _ s σ H _ I1 hw
 rw[hxe]at h1
 unfold aX'
 refine wpAny_bind (thn h1 fun v s1 h2=>?_)
 refine wpAny_bind (wpAny_standAt (wpAny_bind (wpAny_of_eq (hfs v) ?_)))
 refine wpAny_bind (wpAny_holding (thn h2 fun itv s2 h3=>?_))
 obtain⟨it,fp,tn,J,H2,rfl,I2,T,st2,f2,hc⟩:=h3
 have mD:(D,o)∈bx' [D] s.heap:=aK' (by simp) ho
 have q2:=I2.pin (D,o) (List.mem_append_right _ (List.mem_append_right _ mD))
 have hDf:D∉fp:=fun z=>(f2 D z).2.2.2.2.2 (D,o) (List.mem_append_right _ (List.mem_append_right _ mD)) rfl
 have f2':∀b∈fp,cr' X pins H2 b:=fun b hb=>by
  obtain⟨f0,f1,f2,f3,f4,f5⟩:=f2 b hb
  exact⟨f0,f1,f2,f3,f4,fun p hp=>f5 p (by
   rcases List.mem_append.mp hp with z|z
   .exact List.mem_append_left _ z
   .exact List.mem_append_right _ (List.mem_append_left _ z))⟩
 have L:=c7' (Is:=Is) (D:=D) hxe hcalm (hq _) (hu _) (hT _) T hg hge ht hn hws hIs hDf I2.unpinned f2' ⟨q2.2.1,hD.2⟩ q2.1 ha st2 hc
 have L2:=d4' (hq' _) (hu' _) hq (hS _) hcl L (fun E=>T.self X.A 0 s2 _ E st2 ⟨rfl,rfl⟩)
 refine wpAny_bind (wpAny_runOwn (codeAny_mono L2 fun r s3 h3=>?_))
 obtain⟨rfl,a',o',H',J',e',is',n',hN⟩:=h3
 exact wpAny_pure ⟨_,a',o',H',J',Ext.clr,e',is',n',hN⟩
noncomputable def hr' (own:List Nat) (wi:TI) (g:TG) (tc:TT) (au':TL (List V)):TE:=fun σ H Q=>wi σ H fun J H1=>aE' own g tc au' J σ [] H1 fun xs H2=>∀p,H2 p=none->Q (.ref p) (upd H2 p (.lst xs))
structure CompIn (X:Cx) (e:Expr) (scope:Scope) (tg:Expr) (iter:Expr) (ifs:List Expr) (nx:Addr->Env->Sem Unit) (g:TG) (tc:TT) (au':TL (List V)) (own:List Nat):Prop where
 sc:CompSc X scope
 ow:∀i x,X.N[i]?=some x->(scope.names.lookup x=some .local\/scope.names.lookup x=some .cell)->i∈own
 cl:∃gs,clausesOf e=⟨tg,iter,ifs,0⟩ :: gs
 fs:∀x,foldedSetIterable iter X.env x=pure x
 calm:X.calm=true
 q:∀it D env,(Code.compLoop e 0 it (.ref D) env).quiet=true/\(Code.compStart e 0 it (.ref D) env).quiet=true
 u:∀A it D env,Around.under A (Code.compLoop e 0 it (.ref D) env)=A/\Around.under A (Code.compStart e 0 it (.ref D) env)=A
 T:∀P w it D env,(model P w).den (.compLoop e 0 it (.ref D) env)=(aW' e 0 tg iter ifs (nx D env) it (.ref D) env).onRaise (fun x=>do noteFrame x env;theTreesLotGoes x)
 S:∀P w it D env,(model P w).den (.compStart e 0 it (.ref D) env)=(compStart e 0 it (.ref D) env).onRaise (fun x=>do noteFrame x env;standAt theWindowsPlace)
 ge:pV' own g
 inn:∀s0 H0 ex D,PG (X.comp scope s0 H0 ex) tg g/\PTs (X.comp scope s0 H0 ex) ifs tc/\∃ws',(∀j∈ws',j∈own)/\bG' (X.comp scope s0 H0 ex) D IsL ws' (nx D (X.comp scope s0 H0 ex).env) au'
section
variable {X:Cx} {e:Expr} {scope:Scope} {tg iter:Expr} {ifs:List Expr} {nx:Addr->Env->Sem Unit} {g:TG} {tc:TT} {au':TL (List V)} {own:List Nat} {wi:TI}
theorem f8' (C:CompIn X e scope tg iter ifs nx g tc au' own) (hi:PI X tg iter wi) {pins:List (Addr×Obj)} {s:Shared} {σ:St} {H:Hp} {R:V->Hp->Prop} (I:Inv X pins σ H s) (hw:hr' own wi g tc au' σ H R)
  {use:Option (Value->Sem Unit)} {Q:Value->Shared->Prop} {pos:Pos}
  (fin:∀(s3 s':Shared) (H0 H':Hp) (ex:List Addr) (D:Addr) (xs:List V) (o:Obj) (σ':St),Inv X pins σ H0 s3->(∀b∈ex,cr' X pins H0 b)->Inv (X.comp scope s3 H0 ex) [] σ' H' s'->s'.heap.get? D=some o->D<s3.heap.objs.size->X.s₀.heap.objs.size<=D->cr' X pins H0 D->IsL xs o->H' D=none->R (.ref D) (upd H' D (.lst xs))->
   compPost (model X.prog X.w) X.A X.xe use Q (.ref D) s3.heap.objs.size (.ok .next) s'):
  wpAny (model X.prog X.w) X.A (comprehension e scope X.env pos (newList []) false (eval iter X.env) use) Q X.xe s:=by
 obtain⟨gs,hcl⟩:=C.cl
 refine wpAny_comprehension_free hcl C.fs (iF' fun n hn=>I.ok.has n (C.sc.free n hn)) C.sc.kind C.sc.names ?_
 refine thn (hi pins s σ H _ I hw) fun v s1 h1=>thn h1 fun itv s2 h2=>?_
 obtain⟨it,fp,tn,J,H2,rfl,I2,T,st2,f2,hc⟩:=h2
 refine wpAny_newObj_type (cf' ?_)
 have keep:∀b o,s2.heap.get? b=some o->(s2.heap.push { cls:=.type "list",dict:=none,data:=.seq ([]:List Value).toArray }).get? b=some o:=fun b o e=>Heap.get?_push_of_some _ e
 have I3:Inv X pins σ H2 { s2 with heap:=s2.heap.push { cls:=.type "list",dict:=none,data:=.seq ([]:List Value).toArray } }:=I2.kept (t':=s2.toks) keep
 have hsz:(s2.heap.push { cls:=.type "list",dict:=none,data:=.seq ([]:List Value).toArray }).objs.size=s2.heap.objs.size+1:=Heap.size_push ..
 have fD:cr' X pins H2 s2.heap.objs.size:=I2.fpOk (Nat.le_refl _) (I2.hok.fresh (Nat.le_refl _))
 have hlt:∀b∈fp,b<s2.heap.objs.size:=fun b hb=>by
  obtain⟨o,e,_⟩:=T.obj _ _ st2 b hb
  exact Heap.lt_size e
 have hDf:s2.heap.objs.size∉fp:=fun z=>Nat.lt_irrefl _ (hlt _ z)
 have hex:∀b∈s2.heap.objs.size :: fp,cr' X pins H2 b:=fun b hb=>by
  rcases List.mem_cons.mp hb with rfl|hb
  .exact fD
  .exact f2 b hb
 generalize hs3:({ s2 with heap:=s2.heap.push { cls:=.type "list",dict:=none,data:=.seq ([]:List Value).toArray } }:Shared)=s3 at *
 have hs3s:s3.heap.objs.size=s2.heap.objs.size+1:=by rw[<- hs3];exact hsz
 have hlt3:∀b∈s2.heap.objs.size :: fp,b<s3.heap.objs.size:=fun b hb=>by
  rw[hs3s]
  rcases List.mem_cons.mp hb with rfl|hb
  .exact Nat.lt_succ_self _
  .exact Nat.lt_succ_of_lt (hlt b hb)
 have J0:=dK' (own:=own) I3 hex hlt3 C.sc C.ow
 obtain⟨c1,c2,ws',c4,c5⟩:=C.inn s3 H2 (s2.heap.objs.size :: fp) s2.heap.objs.size
 have kp:∀b o,s2.heap.get? b=some o->(aO' s3.heap scope.names).get? b=some o:=fun b o e=>pushCells_keeps _ _ b o (Heap.get?_push_of_some _ (by rw[<- hs3];exact keep b o e))
 have oD:(aO' s3.heap scope.names).get? s2.heap.objs.size=some { cls:=.type "list",dict:=none,data:=.seq ([]:List Value).toArray }:=pushCells_keeps _ _ _ _ (Heap.get?_push_of_some _ (by rw[<- hs3];exact Heap.get?_push_size _ rfl))
 have stat:∀b∈s2.heap.objs.size :: fp,cr' (X.comp scope s3 H2 (s2.heap.objs.size :: fp)) [] H2 b:=fun b hb=>
  ⟨(hex b hb).1,(J0.ok.exf b hb).1,J0.ok.exfs b hb,.inl hb,(J0.ok.exf b hb).2,fun p hp=>absurd (show p∈([]:List (Addr×Obj)) from hp) (by simp)⟩
 have T':Turn (X.comp scope s3 H2 (s2.heap.objs.size :: fp)).prog (X.comp scope s3 H2 (s2.heap.objs.size :: fp)).w (X.comp scope s3 H2 (s2.heap.objs.size :: fp)).K tg J fp it tn:=T
 have hc':aE' own g tc au' J (clr own σ) [] H2 (fun xs H2=>∀p,H2 p=none->R (.ref p) (upd H2 p (.lst xs))):=by
  obtain⟨W,w0,turn⟩:=hc
  refine⟨W,w0,?_⟩
  rw[f7']
  exact turn
 have st3:tn 0 ({ s3 with heap:=aO' s3.heap scope.names }:Shared).heap:=T.keep _ _ _ st2 fun b hb o e=>kp b o e
 have L:=c7' (X:=X.comp scope s3 H2 (s2.heap.objs.size :: fp)) (Is:=IsL) (D:=s2.heap.objs.size) rfl C.calm (C.q _ _ _).1 (C.u _ _ _ _).1 (C.T _ _ _ _ _) T' c1 C.ge c2 c5 c4 d3' hDf J0
  (fun b hb=>stat b (List.mem_cons_of_mem _ hb)) (stat _ List.mem_cons_self) oD ⟨Nat.zero_le _,[],0,.nil,rfl⟩ st3 hc'
 have L2:=d4' (C.q _ _ _).2 (C.u _ _ _ _).2 (fun it'=>(C.q it' _ _).1) (C.S _ _ _ _ _) ⟨_,by rw[hcl];rfl,rfl⟩ L (fun E=>T.self _ 0 _ _ E st3 ⟨rfl,rfl⟩)
 refine codeAny_mono L2 fun r s' h=>?_
 obtain⟨rfl,xs,o',H',J',e',is',n',hN⟩:=h
 exact fin s3 s' H2 H' _ _ xs o' _ I3 hex J' e' (hlt3 _ List.mem_cons_self) I2.sz fD is' n' (hN _ n')
end
section
variable {X:Cx} {pins:List (Addr×Obj)} {σ:St} {H H':Hp} {s s':Shared} {D:Addr} {o:HO}
theorem Inv.track (I:Inv X pins σ H s) (f:cr' X pins H D) (h0:X.s₀.heap.objs.size<=D) (new:av' X.prog X.w (upd H D o) s.heap D o):Inv X pins σ (upd H D o) s:=by
 obtain⟨f0,f1,f2,f3,f4,f5⟩:=f
 have ne:∀b ob,X.s₀.heap.get? b=some ob->b≠D:=fun b ob e=>Nat.ne_of_lt (Nat.lt_of_lt_of_le (Heap.lt_size e) h0)
 have neT:∀b u,H b=some u->b≠D:=fun b u e z=>by rw[z,f0]at e;cases e
 refine⟨I.ok,I.os,I.bare,⟨I.base.keep,I.base.slot,fun b ob e n hx=>by rw[ab' (ne b ob e)];exact I.base.free b ob e n hx,I.base.there,fun b xs e=>?_,fun b ob u e=>?_,fun b ps e=>?_⟩,I.loc,I.cell,?_,fun x c e=>?_,fun p hp=>?_,fun b u e=>?_,I.len⟩
 .have q:=I.base.tups b xs e
  rw[ab' (neT b _ q)];exact q
 .have q:=I.base.frzs b ob u e
  rw[ab' (neT b _ q)];exact q
 .obtain⟨m,q⟩:=I.base.tbls b ps e
  exact⟨m,by rw[ab' (neT b _ q)];exact q⟩
 .rw[ab' (Ne.symm f1)];exact I.free
 .rw[ab' (f4 x c e)];exact I.freeC x c e
 .obtain⟨e,n,r⟩:=I.pin p hp
  refine⟨e,?_,r⟩
  rw[ab' (f5 p hp)];exact n
 .by_cases hb:b=D
  .subst hb
   rw[aa']at e;cases e
   exact new
  .rw[ab' hb]at e
   exact(I.hok b u e).stay (fun _ _ _ q=>q) (fun c q=>by rw[ab' (neT c _ q)];exact q) fun c xs q=>by rw[ab' (neT c _ q)];exact q
end
section
variable {X:Cx} {e:Expr} {scope:Scope} {tg iter:Expr} {ifs:List Expr} {nx:Addr->Env->Sem Unit} {g:TG} {tc:TT} {au':TL (List V)} {own:List Nat} {wi:TI}
theorem iH' (C:CompIn X e scope tg iter ifs nx g tc au' own) (hi:PI X tg iter wi) {pos:Pos} (he:eval e X.env=comprehension e scope X.env pos (newList []) false (eval iter X.env)):PE X e (hr' own wi g tc au'):=by
 intro pins s σ H Q I hw
 rw[he]
 refine f8' C hi I hw fun s3 s' H0 H' ex D xs o σ' I3 hex J e' hlt h0 fD is' n' hR=>?_
 obtain⟨m,hn,_⟩:=J.loc
 refine⟨m,hn,fun h' hs=>?_⟩
 have J2:=cM' I3 hex J hs
 obtain⟨z,its,n,rv,rfl⟩:=is'
 have neC:D≠s3.heap.objs.size:=Nat.ne_of_lt hlt
 refine⟨.ref D,upd H' D (.lst xs),J2.track (o:=.lst xs) ⟨n',fD.2⟩ h0 ⟨z,its,n,rv,(hs.2 D neC).trans e'⟩,rfl,hR⟩
theorem ht' (C:CompIn X e scope tg iter ifs nx g tc au' own) (hi:PI X tg iter wi) {i:Nat} {y:Str} {py pos pos2:Pos} (hN:X.N.Nodup) (hy:X.N[i]?=some y) (hx:Loc X.env.scope y) (hf:X.fn y=true\/X.env.scope.names.lookup y=some .local)
  (he:evalThenUse e X.env (assign (.Name y py) X.env)=(do let _ <- comprehension e scope X.env pos2 (newList []) false (eval iter X.env) (some (assign (.Name y py) X.env))))
  (hsw:swapsWith e (some (.Name y py)) pos.line X.env=pure true):PS X (.Assign [.Name y py] e pos) (tD' (hr' own wi g tc au') (h9' i)):=by
 intro pins s σ H D I hw
 rw[exec_Assign_Name_used _ _ _ _ hsw]
 refine wpAny_bind (wpAny_standAt (wpAny_bind ?_))
 rw[he]
 refine wpAny_bind (thn (Q:=fun _ s'=>SP X pins D .next s') (f8' C hi I hw fun s3 s' H0 H' ex D' xs o σ' I3 hex J e' hlt h0 fD is' n' hR=>?_) fun _ s' q=>wpAny_pure (wpAny_pure q))
 obtain⟨m,hn,_⟩:=J.loc
 have J2:Inv X pins σ H' s':=cM' I3 hex J (Heap.SameBut.refl ..)
 obtain⟨z,its,n,rv,rfl⟩:=is'
 have neC:D'≠s3.heap.objs.size:=Nat.ne_of_lt hlt
 have J3:Inv X pins σ (upd H' D' (.lst xs)) s':=J2.track ⟨n',fD.2⟩ h0 ⟨z,its,n,rv,e'⟩
 have fC:cr' X pins H0 s3.heap.objs.size:=I3.fpOk (Nat.le_refl _) (I3.hok.fresh (Nat.le_refl _))
 refine wpAny_assign_Name (eA' J3 hN hy hx (v:=.ref D') rfl (fun s'' J4 hs=>?_) hf)
 obtain⟨a,hsa,ha⟩:=hs
 have haC:s3.heap.objs.size≠a:=by
  rcases ha with rfl|ha
  .exact fC.2.1
  .exact fun q=>fC.2.2.2.2.1 _ _ ha q.symm
 have hn':s'.heap.Ns s3.heap.objs.size m:=hn
 refine⟨m,hn'.sameBut hsa haC,fun h' hs'=>?_⟩
 have J5:Inv X pins (σ.set i (some (.ref D'))) (upd H' D' (.lst xs)) { s'' with heap:=h' }:=J4.turned (it:=s3.heap.objs.size) (t':=s''.toks) (fun b ob hb q=>(hs'.2 b hb).trans q) (by rw[ab' (Ne.symm neC)];exact J.free) fC.2.1 fC.2.2.2.1 fC.2.2.2.2.1 fC.2.2.2.2.2
 exact⟨_,_,J5,hR⟩
end
noncomputable def iI':Bool->Heap->Addr->Addr->Nat->Prop
 |true,h,it,a,i=>h.IsTupleIter it a i
 |false,h,it,a,i=>h.IsListIter it a i
noncomputable def pW':Bool->Heap->Addr->Array Value->Prop
 |true,h,a,xs=>h.IsTuple a xs
 |false,h,a,xs=>h.IsList a xs
theorem iI'.obj {k:Bool} {h:Heap} {it a:Addr} {i:Nat} (x:iI' k h it a i):∃o,h.get? it=some o/\o.data=.fields #[.ref a,.int i 0]:=by
 cases k
 .obtain⟨o,e,_,d⟩:=x;exact⟨o,e,d⟩
 .obtain⟨o,e,_,d⟩:=x;exact⟨o,e,d⟩
theorem iI'.at {k:Bool} {h h':Heap} {it a:Addr} {i:Nat} (x:iI' k h it a i) (hk:∀o,h.get? it=some o->h'.get? it=some o):iI' k h' it a i:=by
 cases k
 .obtain⟨o,e,r⟩:=x;exact⟨o,hk o e,r⟩
 .obtain⟨o,e,r⟩:=x;exact⟨o,hk o e,r⟩
theorem pW'.at {k:Bool} {h h':Heap} {a:Addr} {xs:Array Value} (x:pW' k h a xs) (hk:∀o,h.get? a=some o->h'.get? a=some o):pW' k h' a xs:=by
 cases k
 .obtain⟨o,e,r⟩:=x;exact⟨o,hk o e,r⟩
 .obtain⟨o,e,r⟩:=x;exact⟨o,hk o e,r⟩
section
variable {prog:Program} {w:World} {A:Around} {E:Value->Shared->Prop} {s:Shared}
theorem fx' {k:Bool} {it l:Addr} {i:Nat} {items:Array Value} {x:Value} {Q:Value->Shared->Prop} (hit:iI' k s.heap it l i) (hl:pW' k s.heap l items) (hx:items[i]?=some x)
  (hQ:∀h',iI' k h' it l (i+1)->Heap.SameBut it s.heap h'->Q x { s with heap:=h' }):wpAny (model prog w) A (Builtin.SmallTypes.nextOf (.ref it)) Q E s:=by
 cases k
 .exact wpAny_nextOf_list_item hit hl hx hQ
 .have hit:s.heap.IsTupleIter it l i:=hit
  have hl:s.heap.IsTuple l items:=hl
  obtain⟨o,ho,hc,hd⟩:=id hit
  obtain⟨ol,hol,_,nl,hdl⟩:=hl
  unfold Builtin.SmallTypes.nextOf
  refine wpAny_bind (wpAny_callSpecial?_slot (name:=Str.ofString "__next__") hit.typeIs F.slot_tuple_iterator_next
   (wpAny_call_entry F.slot_tuple_iterator_next hit.typeIs F.entry_tuple_iterator_next ?_ (F.args_tuple_iterator_next_1 _)))
  show wpAny _ _ (field (.ref it) 0 >>= _) _ _ s
  refine wpAny_bind (wpAny_field ho hd (x:=.ref l) rfl ?_)
  show wpAny _ _ (if(Value.ref l == Value.none)=true then _ else _) _ _ s
  rw[if_neg (show ¬((Value.ref l == Value.none)=true) from Bool.false_ne_true)]
  show wpAny _ _ (field (.ref it) 1 >>= _) _ _ s
  refine wpAny_bind (wpAny_field ho hd (x:=.int i 0) rfl ?_)
  show wpAny _ _ (seqItems? (.ref l) >>= _) _ _ s
  refine wpAny_bind (wpAny_seqItems hol hdl ?_)
  simp only[Int.toNat_natCast,hx]
  refine wpAny_bind (wpAny_setField ho hd (by simp) (wpAny_pure ⟨x,rfl,wpAny_pure (hQ _ ?_ (Heap.SameBut.update ..))⟩))
  exact⟨_,Heap.get?_update_self _ ho (Obj.isFreed_of_fields (Obj.data_mapFields hd _)),(Obj.cls_mapFields ..).trans hc,by
   rw[Obj.data_mapFields hd];simp[rawInt]⟩
theorem hv' {k:Bool} {it l:Addr} {i:Nat} {items:Array Value} {Q:Value->Shared->Prop} (hh:A.handled=none) (hit:iI' k s.heap it l i) (hl:pW' k s.heap l items) (hx:items[i]?=none)
  (hE:∀h' e,Heap.ExtBut it s.heap h'->(∃o,h'.get? e=some o/\o.cls=.type "StopIteration")->E (.ref e) { s with heap:=h' }):wpAny (model prog w) A (Builtin.SmallTypes.nextOf (.ref it)) Q E s:=by
 cases k
 .exact wpAny_nextOf_list_end hh hit hl hx hE
 .have hit:s.heap.IsTupleIter it l i:=hit
  have hl:s.heap.IsTuple l items:=hl
  obtain⟨o,ho,hc,hd⟩:=id hit
  obtain⟨ol,hol,_,nl,hdl⟩:=hl
  unfold Builtin.SmallTypes.nextOf
  refine wpAny_bind (wpAny_callSpecial?_slot (name:=Str.ofString "__next__") hit.typeIs F.slot_tuple_iterator_next
   (wpAny_call_entry F.slot_tuple_iterator_next hit.typeIs F.entry_tuple_iterator_next ?_ (F.args_tuple_iterator_next_1 _)))
  show wpAny _ _ (field (.ref it) 0 >>= _) _ _ s
  refine wpAny_bind (wpAny_field ho hd (x:=.ref l) rfl ?_)
  show wpAny _ _ (if(Value.ref l == Value.none)=true then _ else _) _ _ s
  rw[if_neg (show ¬((Value.ref l == Value.none)=true) from Bool.false_ne_true)]
  show wpAny _ _ (field (.ref it) 1 >>= _) _ _ s
  refine wpAny_bind (wpAny_field ho hd (x:=.int i 0) rfl ?_)
  show wpAny _ _ (seqItems? (.ref l) >>= _) _ _ s
  refine wpAny_bind (wpAny_seqItems hol hdl ?_)
  simp only[Int.toNat_natCast,hx]
  refine wpAny_bind (wpAny_rule (wpAny_bind (wpAny_setField ho hd (by simp) ?_)))
  show wpAny _ _ (newExc (.type "StopIteration") [] >>= _) _ _ _
  refine wpAny_bind ?_
  simp only[newExc,newTuple]
  refine wpAny_bind (wpAny_newObj_type ?_ (by size_fits))
  refine wpAny_bind (m:=firstArgMember _ _) (wpAny_of_eq (a:=Value.none) (by first|rfl|(simp only[firstArgMember];rfl)) ?_)
  refine wpAny_newObj_type ?_ (by size_fits)
  simp only[raiseNew]
  refine wpAny_bind (wpAny_handled ?_)
  first|rw[show A.in1.handled=none from hh]|rw[hh]
  refine wpAny_bind (wpAny_pure (wpAny_throw ?_))
  exact hE _ _ (((Heap.SameBut.update ..).extBut.push _).push _) ⟨_,Heap.get?_push_size _ rfl,rfl⟩
end
section
variable {prog:Program} {w:World} {A:Around} {E:Value->Shared->Prop} {s:Shared}
end
noncomputable def Its (x:Str):It:=⟨fun i _=>i<x.cps.size,fun i H v H'=>H'=H/\∃c,x.cps[i]?=some c/\v=.str ⟨#[c]⟩,fun i _=>x.cps.size<=i⟩
theorem kZ' {P:Program} {w:World} {K:W.Frag} {tg:Expr} (it:Addr) (x:Str) (ty:String) (t:Tok) (hty:ty="str_ascii_iterator"\/ty="str_iterator"):
  Turn P w K tg (Its x) [it] it (fun i h=>h.IsStrIter it ty x t i) where
 mem:=by simp
 obj:=fun i h st b hb=>by
  have e:b=it:=by simpa using hb
  subst e
  obtain⟨o,e,c,d⟩:=st
  exact⟨o,e,fun v z=>by rw[d]at z;cases z⟩
 keep:=fun i h h' st k=>by
  obtain⟨o,e,r⟩:=st
  exact⟨o,k it (by simp) o e,r⟩
 item:=by
  intro X hP hw hK hc i pins s σ H E I hf st hg
  subst hP hw hK
  obtain⟨f0,f1,f2,f3,f4,f5⟩:=hf it (by simp)
  have hg':i<x.cps.size:=hg
  have hx:x.cps[i]?=some x.cps[i]:=by simp[hg']
  have fin:∀h',h'.IsStrIter it ty x t (i+1)->Heap.SameBut it s.heap h'->∃u,some (Value.str ⟨#[x.cps[i]]⟩ s.toks)=some u/\
    wpAny (model X.prog X.w) X.A (letOwnedTupleGo tg (.ref it) u) (fun _ s2=>∃y H',Inv X pins σ H' s2/\ao' y u/\(Its x).yld i H y H'/\s2.heap.IsStrIter it ty x t (i+1)/\∀b∈[it],H' b=none) E { s with heap:=h',toks:=s.toks+1 }:=fun h' st' sb=>by
   have I1:Inv X pins σ H { s with heap:=h',toks:=s.toks+1 }:=I.turned (fun b o hb e=>(sb.2 b hb).trans e) f0 f1 f3 f4 f5
   obtain⟨o,e,c,d⟩:=id st'
   refine⟨_,rfl,ic' (s:={ s with heap:=h',toks:=s.toks+1 }) e c d ?_ ⟨.str ⟨#[x.cps[i]]⟩,H,I1,⟨_,rfl⟩,⟨rfl,_,hx,rfl⟩,st',fun b hb=>(hf b hb).1⟩⟩
   rcases hty with rfl|rfl<;>decide
  rcases hty with rfl|rfl
  .exact wpAny_pyNext_ascii_item st hx fin
  .exact wpAny_pyNext_wide_item st hx fin
 done:=by
  intro X hP hw hK hc i pins s σ H E I hf st hg
  subst hP hw hK
  obtain⟨f0,f1,f2,f3,f4,f5⟩:=hf it (by simp)
  have hg':x.cps.size<=i:=hg
  have hx:x.cps[i]?=none:=by simp[hg']
  have fin:∀h',Heap.ExtBut it s.heap h'->(none:Option Value)=none/\Inv X pins σ H { s with heap:=h' }:=fun h' eb=>⟨rfl,I.turned (t':=s.toks) (fun b o hb e=>eb b o hb e) f0 f1 f3 f4 f5⟩
  rcases hty with rfl|rfl
  .exact wpAny_pyNext_ascii_end (I.ok.hd hc) st hx fin
  .exact wpAny_pyNext_wide_end (I.ok.hd hc) st hx fin
 self:=fun _ _ _ _ _ st h=>by
  rcases hty with rfl|rfl
  .exact wpAny_pyIter_striter_ascii st h
  .exact wpAny_pyIter_striter_wide st h
def Sq (k:Bool) (K:W.Frag) (H:Hp) (a:Addr) (xs:List V):Prop:=match k with
 |true=>SqT K H a xs
 |false=>SqL K H a xs
noncomputable def wz' (k j:Bool) (K:W.Frag) (a b:Addr):It:=
 ⟨fun i H=>∃xs ys x y,Sq k K H a xs/\Sq j K H b ys/\xs[i]?=some x/\ys[i]?=some y,
  fun i H v H'=>∃p x y,v=.ref p/\H p=none/\(∀xs,Sq k K H a xs->xs[i]?=some x)/\(∀ys,Sq j K H b ys->ys[i]?=some y)/\H'=upd H p (.tup [x,y]),
  fun i H=>∃xs ys,Sq k K H a xs/\Sq j K H b ys/\(xs.length<=i\/ys.length<=i)⟩
section
variable {X:Cx} {tg:Expr}
noncomputable def uq' (K:W.Frag) (tl:TE):TI:=fun σ H R=>tl σ H fun x H1=>
 (∃a,x=.ref a/\(∃xs,SqL K H1 a xs)/\R (Itl K a) H1)\/(∃a,x=.ref a/\(∃xs,SqT K H1 a xs)/\R (Itt K a) H1)\/∃z,x=.str z/\R (Its z) H1
theorem qM' {l:Expr} {tl:TE} (hl:PE X l tl):PI X tg l (uq' X.K tl):=by
 intro pins s σ H R I h
 refine thn (hl pins s σ H _ I h) fun v s1 ⟨x,H1,I1,r1,q1⟩=>?_
 rcases q1 with⟨a,e,⟨xs,hq⟩,q⟩|⟨a,e,⟨xs,hq⟩,q⟩|⟨z,e,q⟩
 .subst e
  cases r1
  obtain⟨its,rv,p,hz⟩:=I1.list hq
  refine wpAny_pyIter_list p.isList ?_
  refine⟨s1.heap.objs.size,[s1.heap.objs.size],_,_,H1,rfl,I1.kept (t':=s1.toks) fun b o e=>Heap.get?_push_of_some _ e,ie' a _,⟨_,Heap.get?_push_size _ rfl,rfl,rfl⟩,fun b hb=>?_,q⟩
  have e:b=s1.heap.objs.size:=by simpa using hb
  subst e
  exact I1.fpOk (Nat.le_refl _) (I1.hok.fresh (Nat.le_refl _))
 .subst e
  cases r1
  obtain⟨its,rv,p,hz⟩:=I1.tuple hq
  refine wpAny_pyIter_tuple (show s1.heap.IsTuple a its.toArray from p) ?_
  refine⟨s1.heap.objs.size,[s1.heap.objs.size],_,_,H1,rfl,I1.kept (t':=s1.toks) fun b o e=>Heap.get?_push_of_some _ e,gZ' a _,⟨_,Heap.get?_push_size _ rfl,rfl,rfl⟩,fun b hb=>?_,q⟩
  have e:b=s1.heap.objs.size:=by simpa using hb
  subst e
  exact I1.fpOk (Nat.le_refl _) (I1.hok.fresh (Nat.le_refl _))
 .subst e
  obtain⟨t,rfl⟩:=r1
  have fin:∀(ty:String),(ty="str_ascii_iterator"\/ty="str_iterator")->PIE X pins σ tg R (.ref s1.heap.objs.size) { s1 with heap:=s1.heap.push { cls:=.type ty,data:=.fields #[.str z t,.int 0 0] } }:=fun ty hty=>by
   refine⟨s1.heap.objs.size,[s1.heap.objs.size],_,_,H1,rfl,I1.kept (t':=s1.toks) fun b o e=>Heap.get?_push_of_some _ e,kZ' _ z ty t hty,⟨_,Heap.get?_push_size _ rfl,rfl,rfl⟩,fun b hb=>?_,q⟩
   have e:b=s1.heap.objs.size:=by simpa using hb
   subst e
   exact I1.fpOk (Nat.le_refl _) (I1.hok.fresh (Nat.le_refl _))
  cases ha:z.cps.all (· < 128)
  .exact wpAny_pyIter_wide ha (fin _ (.inr rfl))
  .exact wpAny_pyIter_ascii ha (fin _ (.inl rfl))
end
noncomputable def Itd (go:Nat->Hp->Prop) (val:Nat->Hp->V->Prop) (stop:Nat->Hp->Prop):It:=
 ⟨go,fun i H v H'=>∃p x,v=.ref p/\H p=none/\val i H x/\H'=upd H p (.tup [.int i,x]),stop⟩
structure EnSrc (P:Program) (w:World) (K:W.Frag) (e it:Addr) (Sx:Nat->Heap->Prop) (go:Nat->Hp->Prop) (val:Nat->Hp->V->Prop) (stop:Nat->Hp->Prop):Prop where
 ne:e≠it
 obj:∀i h,Sx i h->∃o,h.get? it=some o/\∀v,o.data≠.cell v
 keep:∀i h h',Sx i h->(∀o,h.get? it=some o->h'.get? it=some o)->Sx i h'
 item:∀(X:Cx),X.prog=P->X.w=w->X.K=K->X.calm=true->∀(i:Nat) (pins:List (Addr×Obj)) (s:Shared) (σ:St) (H:Hp),Inv X pins σ H s->H e=none->H it=none->e<s.heap.objs.size->(∃old,IsEnum s.heap e it i old)->Sx i s.heap->go i H->
  ∃n Pd Sd fp,Draws P w X.A.in1 it fp n Pd Sd/\e∉fp/\i<n/\Sd i s.heap/\(∀j h,Sd j h->Sx j h)/\∀u,Pd i u->∃x,ao' x u/\val i H x
 done:∀(X:Cx),X.prog=P->X.w=w->X.K=K->X.calm=true->∀(i:Nat) (pins:List (Addr×Obj)) (s:Shared) (σ:St) (H:Hp),Inv X pins σ H s->H e=none->H it=none->(∃old,IsEnum s.heap e it i old)->Sx i s.heap->stop i H->
  ∃Pd Sd fp,Draws P w X.A.in1 it fp i Pd Sd/\Sd i s.heap
theorem c8' {P:Program} {w:World} {K:W.Frag} {elts:List Expr} {kt:Nat} {pt:Pos} {e it:Addr} {Sx:Nat->Heap->Prop} {go:Nat->Hp->Prop} {val:Nat->Hp->V->Prop} {stop:Nat->Hp->Prop} (S:EnSrc P w K e it Sx go val stop):
  Turn P w K (.Tuple elts kt pt) (Itd go val stop) [e,it] e (fun i h=>(∃old,IsEnum h e it i old)/\Sx i h) where
 mem:=by simp
 obj:=fun i h st b hb=>by
  obtain⟨⟨old,he⟩,hs⟩:=st
  simp only[List.mem_cons,List.not_mem_nil,or_false]at hb
  rcases hb with rfl|rfl
  .exact⟨_,he,fun v=>(nomatch ·)⟩
  .exact S.obj i h hs
 keep:=fun i h h' st kk=>by
  obtain⟨⟨old,he⟩,hs⟩:=st
  exact⟨⟨old,kk e (by simp) _ he⟩,S.keep i h h' hs fun o q=>kk it (by simp) o q⟩
 item:=by
  intro X hP hw hK hc i pins s σ H E I hf st hg
  have hfe:=hf e (by simp)
  have hfi:=hf it (by simp)
  obtain⟨n,Pd,Sd,fp,D,hefp,hin,hsd,hsub,hval⟩:=S.item X hP hw hK hc i pins s σ H I hfe.1 hfi.1 (Heap.lt_size st.1.choose_spec) st.1 st.2 hg
  obtain⟨⟨old,he⟩,hs⟩:=st
  subst hP hw hK
  refine wpAny_pyNext_enum_itemD D he hsd hin S.ne hefp fun u h' tk hPu ho hs' hT hsz hk=>?_
  obtain⟨x,rx,vx⟩:=hval u hPu
  refine⟨_,rfl,wpAny_letOwnedTupleGo_enum (s:={ s with heap:=h',toks:=tk+1 }) ho fun h'' he'' hb=>?_⟩
  have hb':Heap.SameBut e h' h'':=hb
  have elt:e<s.heap.objs.size:=Heap.lt_size he
  have neT:s.heap.objs.size≠e:=Nat.ne_of_gt elt
  have hTn:H s.heap.objs.size=none:=I.hok.fresh (Nat.le_refl _)
  have hkk:∀c o,c∉[e,it]->s.heap.get? c=some o->h''.get? c=some o:=fun c o hc q=>by
   simp only[List.mem_cons,List.not_mem_nil,or_false,not_or]at hc
   exact(hb'.2 c hc.1).trans (hk c o hc.1 hc.2 q)
  have trk:∀c o,H c=some o->c∉[e,it]:=fun c o q hc=>by rw[(hf c hc).1]at q;cases q
  have I1:Inv X pins σ (upd H s.heap.objs.size (.tup [.int i,x])) { s with heap:=h'',toks:=tk+1 }:=by
   refine I.step (g':=s.gens) (d':=s.drawn) (t':=tk+1) (ch:=[e,it]) (fun c hc=>?_) (fun c o _ _ hc q _=>hkk c o hc q) (fun c o _ _ hc q _=>⟨o.slots,hkk c o hc q⟩)
    (fun c o _ q n=>by rw[ab' (Nat.ne_of_lt (Heap.lt_size q))];exact n) (fun c o hc q=>⟨o,hkk c o hc q⟩) (fun c ps q=>by rw[ab' (ag' q hTn)];exact q) (fun c o p q=>by rw[ab' (ag' q hTn)];exact q)
    (fun c ps q=>⟨#[],by rw[ab' (ag' q hTn),q];simp⟩) (fun m hm=>?_) (fun c o q=>?_) I.bare
   .obtain⟨f0,f1,f2,f3,f4,f5⟩:=hf c hc
    exact⟨f3,f1,f4,f5⟩
   .obtain⟨oo,es,ep,ho,r⟩:=hm
    exact⟨oo,es,ep,hkk _ oo (fun hc=>(hf _ hc).2.1 rfl) ho,r⟩
   .by_cases hb:c=s.heap.objs.size
    .subst hb
     rw[aa']at q;cases q
     exact⟨by show 2<=sizeLine;decide,[.int i tk,u],.cons ⟨_,rfl⟩ (.cons rx .nil),⟨_,(hb'.2 _ neT).trans hT,rfl,⟨_,rfl⟩,rfl⟩⟩
    .rw[ab' hb]at q
     refine(I.hok c o q).stay (fun d q hd eq=>hkk d q ?_ eq) (fun d q=>by rw[ab' (ag' q hTn)];exact q) fun d qs q=>by rw[ab' (ag' q hTn)];exact q
     rcases hd with rfl|hd
     .exact trk _ _ (by assumption)
     .exact trk _ _ hd
  refine⟨.ref s.heap.objs.size,_,I1,rfl,⟨s.heap.objs.size,x,rfl,hTn,vx,rfl⟩,⟨⟨_,he''⟩,S.keep _ _ _ (hsub _ _ hs') fun o q=>(hb'.2 it (Ne.symm S.ne)).trans q⟩,fun c hc=>?_⟩
  rw[ab']
  .exact(hf c hc).1
  .intro q
   subst q
   simp only[List.mem_cons,List.not_mem_nil,or_false]at hc
   rcases hc with q|q
   .exact neT q
   .obtain⟨o,e1,_⟩:=S.obj _ _ hs
    exact Nat.lt_irrefl _ (q ▸ Heap.lt_size e1)
 done:=by
  intro X hP hw hK hc i pins s σ H E I hf st hg
  have hfe:=hf e (by simp)
  have hfi:=hf it (by simp)
  obtain⟨Pd,Sd,fp,D,hsd⟩:=S.done X hP hw hK hc i pins s σ H I hfe.1 hfi.1 st.1 st.2 hg
  obtain⟨⟨old,he⟩,hs⟩:=st
  subst hP hw hK
  refine wpAny_pyNext_enum_endD D he hsd fun h' hx=>⟨rfl,?_⟩
  obtain⟨f0,f1,f2,f3,f4,f5⟩:=hfi
  exact I.turned (t':=s.toks) (fun b o hb q=>hx b o hb q) f0 f1 f3 f4 f5
 self:=fun _ _ _ _ _ st h=>by
  obtain⟨⟨old,he⟩,_⟩:=st
  exact wpAny_pyIter_enum he h
noncomputable def Ite (K:W.Frag) (a:Addr):It:=Itd (fun i H=>∃xs x,SqL K H a xs/\xs[i]?=some x) (fun i H x=>∀xs,SqL K H a xs->xs[i]?=some x) (fun i H=>∃xs,SqL K H a xs/\xs.length=i)
theorem ov' {P:Program} {w:World} {K:W.Frag} {e it a:Addr} (ne:e≠it) (na:a≠e) (nai:a≠it):EnSrc P w K e it (fun i h=>h.IsListIter it a i) (fun i H=>∃xs x,SqL K H a xs/\xs[i]?=some x) (fun i H x=>∀xs,SqL K H a xs->xs[i]?=some x) (fun i H=>∃xs,SqL K H a xs/\xs.length=i) where
 ne:=ne
 obj:=fun i h st=>by
  obtain⟨o,q,c,d⟩:=st
  exact⟨o,q,fun v z=>by rw[d]at z;cases z⟩
 keep:=fun i h h' st k=>st.at k
 item:=by
  intro X hP hw hK hc i pins s σ H I _ _ _ _ st hg
  obtain⟨xs,x,hxs,hx⟩:=hg
  subst hP hw hK
  obtain⟨its,rv,p,hz⟩:=I.list hxs
  have hl:=rv.length
  obtain⟨u,hu,ru⟩:=rv.get hx
  refine⟨_,_,_,_,Draws.list (show X.A.in1.handled=none from I.ok.hd hc) it a nai its.toArray,?_,?_,⟨st,p.isList⟩,fun j h q=>q.1,fun u' hu'=>⟨x,?_,fun ys hys=>by rw[I.list_inj hys hxs];exact hx⟩⟩
  .simp only[List.mem_cons,List.not_mem_nil,or_false,not_or]
   exact⟨ne,Ne.symm na⟩
  .have:=(List.getElem?_eq_some_iff.mp hx).1
   simp;omega
  .have e2:its[i]?=some u':=by simpa using hu'
   rw[hu]at e2
   cases e2
   exact ru
 done:=by
  intro X hP hw hK hc i pins s σ H I _ _ _ st hg
  obtain⟨xs,hxs,hx⟩:=hg
  subst hP hw hK
  obtain⟨its,rv,p,hz⟩:=I.list hxs
  have hl:=rv.length
  have e:i=its.toArray.size:=by simp;omega
  subst e
  exact⟨_,_,_,Draws.list (show X.A.in1.handled=none from I.ok.hd hc) it a nai its.toArray,st,p.isList⟩
noncomputable def tI' (z:Str):It:=Itd (fun i _=>i<z.cps.size) (fun i _ v=>∃c,z.cps[i]?=some c/\v=.str ⟨#[c]⟩) (fun i _=>z.cps.size=i)
theorem qN' {P:Program} {w:World} {K:W.Frag} {e it:Addr} {z:Str} {t:Tok} {ty:String} (hty:ty="str_ascii_iterator"\/ty="str_iterator") (ne:e≠it):EnSrc P w K e it (fun i h=>h.IsStrIter it ty z t i) (fun i _=>i<z.cps.size) (fun i _ v=>∃c,z.cps[i]?=some c/\v=.str ⟨#[c]⟩) (fun i _=>z.cps.size=i) where
 ne:=ne
 obj:=fun i h st=>by
  obtain⟨o,q,c,d⟩:=st
  exact⟨o,q,fun v z=>by rw[d]at z;cases z⟩
 keep:=fun i h h' st k=>by
  obtain⟨o,q,r⟩:=st
  exact⟨o,k o q,r⟩
 item:=by
  intro X hP hw hK hc i pins s σ H I _ _ _ _ st hg
  subst hP hw hK
  have hh:X.A.in1.handled=none:=I.ok.hd hc
  rcases hty with rfl|rfl
  .refine⟨_,_,_,_,Draws.strAscii hh it z t,by simpa using ne,hg,st,fun j h q=>q,fun u hu=>?_⟩
   obtain⟨c,t',hc',rfl⟩:=hu
   exact⟨.str ⟨#[c]⟩,⟨_,rfl⟩,c,hc',rfl⟩
  .refine⟨_,_,_,_,Draws.strWide hh it z t,by simpa using ne,hg,st,fun j h q=>q,fun u hu=>?_⟩
   obtain⟨c,t',hc',rfl⟩:=hu
   exact⟨.str ⟨#[c]⟩,⟨_,rfl⟩,c,hc',rfl⟩
 done:=by
  intro X hP hw hK hc i pins s σ H I _ _ _ st hg
  subst hP hw hK
  have hh:X.A.in1.handled=none:=I.ok.hd hc
  have hg':z.cps.size=i:=hg
  subst hg'
  rcases hty with rfl|rfl
  .exact⟨_,_,_,Draws.strAscii hh it z t,st⟩
  .exact⟨_,_,_,Draws.strWide hh it z t,st⟩
theorem eM' {prog:Program} {w:World} {A:Around} (hh:A.handled=none) (it l:Addr) (hne:l≠it) (items:Array Value):
  Draws prog w A it [it,l] items.size (fun i v=>items[i]?=some v) (fun i h=>iI' true h it l i/\pW' true h l items) where
 live:=fun _ _ st=>let⟨o,ho,_⟩:=st.1.obj;⟨o,ho⟩
 frame:=fun _ _ _ st hk=>⟨st.1.at fun o e=>hk it (by simp) o e,st.2.at fun o e=>hk l (by simp) o e⟩
 item:=fun i s Q E hi st hQ=>by
  refine fx' st.1 st.2 (x:=items[i]) (by simp[hi]) fun h' hit' hs'=>?_
  exact hQ _ h' s.toks (by simp[hi]) ⟨hit',st.2.at fun o e=>hs'.extBut l o hne e⟩ hs'
 done:=fun s Q E st hE=>hv' hh st.1 st.2 (by simp) hE
set_option tactic.hygienic true in
open AutoSeq1 (wpAny_loadPart') in
theorem bW' (l:Addr) (items:Array Value) (n:Nat) (dct:Option Addr) (sl:Array (Option Value)):
  Meets (Builtin.«enumerate.__new__» ⟨[.type "enumerate",.ref l],[]⟩) (fun _ R s=>s.heap.get? l=some { cls:=.type "tuple",dict:=dct,data:=.seq items n,slots:=sl }/\
   R (.ok (.ret (.ref (s.heap.push { cls:=.type "tuple_iterator",data:=.fields #[.ref l,.int 0 0] }).objs.size)))
    { s with heap:=(s.heap.push { cls:=.type "tuple_iterator",data:=.fields #[.ref l,.int 0 0] }).push { cls:=.type "enumerate",data:=.fields #[.none,.bool false,.ref s.heap.objs.size,rawInt 0,.none,.none] } }):=
 .of_wp fun prog w A R s h=>by
  obtain⟨hp,g,d,tk,os⟩:=s;obtain⟨hl,h⟩:=h
  have hsub:=sub_enumerate
  have hL:Heap.IsTuple (Shared.heap ⟨hp,g,d,tk,os⟩) l items:=⟨_,hl,rfl,n,rfl⟩
  wp_walk using wpAny_loadPart' hl
  refine wpAny_stack_any fun st=>wpAny_pure ?_
  split
  .rename_i c _ _ _ _ _
   cases(c == Value.type "enumerate")
   .wp_walk using wpAny_loadPart' hl,wpAny_pyIter_tuple hL
    exact⟨_,rfl,h⟩
   .wp_walk using wpAny_loadPart' hl,wpAny_pyIter_tuple hL
    exact⟨_,rfl,h⟩
  .wp_walk using wpAny_loadPart' hl,wpAny_pyIter_tuple hL
   exact⟨_,rfl,h⟩
theorem bX' {prog:Program} {w:World} {A:Around} {E:Value->Shared->Prop} {s:Shared} {l:Addr} {items:Array Value} {Q:Value->Shared->Prop} (hL:s.heap.IsTuple l items)
  (h:∀h',IsEnum h' (s.heap.objs.size+1) s.heap.objs.size 0 .none->iI' true h' s.heap.objs.size l 0->h'.objs.size=s.heap.objs.size+2->
   (∀b o,s.heap.get? b=some o->h'.get? b=some o)->Q (.ref (s.heap.objs.size+1)) { s with heap:=h' }):
  wpAny (model prog w) A (call (.type "enumerate") [.ref l]) Q E s:=by
 obtain⟨⟨c,dct,dt,sl⟩,hl,hc,n,hd⟩:=hL
 replace hc:c=.type "tuple":=hc
 replace hd:dt=.seq items n:=hd
 subst hc hd
 refine callType_new F.called_enumerate (by decide) (F.typeCall_enumerate_1 _) (F.newCall_enumerate_1 _) (fun obj=>F.args_object_init_2 obj _) F.entry_enumerate_new
  (bW' l items n dct sl) ⟨hl,?_⟩
 have hz:(s.heap.push { cls:=.type "tuple_iterator",data:=.fields #[.ref l,.int 0 0] }).objs.size=s.heap.objs.size+1:=Heap.size_push ..
 show _/\_
 rw[hz]
 have he:IsEnum ((s.heap.push { cls:=.type "tuple_iterator",data:=.fields #[.ref l,.int 0 0] }).push
   { cls:=.type "enumerate",data:=.fields #[.none,.bool false,.ref s.heap.objs.size,rawInt 0,.none,.none] }) (s.heap.objs.size+1) s.heap.objs.size 0 .none:=by
  have:=Heap.get?_push_size (s.heap.push { cls:=.type "tuple_iterator",data:=.fields #[.ref l,.int 0 0] })
   (o:={ cls:=.type "enumerate",data:=.fields #[.none,.bool false,.ref s.heap.objs.size,rawInt 0,.none,.none] }) rfl
  rw[hz]at this;exact this
 refine⟨⟨_,he,rfl⟩,h _ he ⟨_,Heap.get?_push_of_some _ (Heap.get?_push_size _ rfl),rfl,rfl⟩ (by rw[Heap.size_push,hz]) fun b o x=>Heap.get?_push_of_some _ (Heap.get?_push_of_some _ x)⟩
noncomputable def ox' (K:W.Frag) (a:Addr):It:=Itd (fun i H=>∃xs x,SqT K H a xs/\xs[i]?=some x) (fun i H x=>∀xs,SqT K H a xs->xs[i]?=some x) (fun i H=>∃xs,SqT K H a xs/\xs.length=i)
theorem qO' {P:Program} {w:World} {K:W.Frag} {e it a:Addr} (ne:e≠it) (na:a≠e) (nai:a≠it):EnSrc P w K e it (fun i h=>iI' true h it a i) (fun i H=>∃xs x,SqT K H a xs/\xs[i]?=some x) (fun i H x=>∀xs,SqT K H a xs->xs[i]?=some x) (fun i H=>∃xs,SqT K H a xs/\xs.length=i) where
 ne:=ne
 obj:=fun i h st=>by
  obtain⟨o,q,d⟩:=st.obj
  exact⟨o,q,fun v z=>by rw[d]at z;cases z⟩
 keep:=fun i h h' st k=>st.at k
 item:=by
  intro X hP hw hK hc i pins s σ H I _ _ _ _ st hg
  obtain⟨xs,x,hxs,hx⟩:=hg
  subst hP hw hK
  obtain⟨its,rv,p,hz⟩:=I.tuple hxs
  have hl:=rv.length
  obtain⟨u,hu,ru⟩:=rv.get hx
  refine⟨_,_,_,_,eM' (show X.A.in1.handled=none from I.ok.hd hc) it a nai its.toArray,?_,?_,⟨st,p⟩,fun j h q=>q.1,fun u' hu'=>⟨x,?_,fun ys hys=>by rw[I.tuple_inj hys hxs];exact hx⟩⟩
  .simp only[List.mem_cons,List.not_mem_nil,or_false,not_or]
   exact⟨ne,Ne.symm na⟩
  .have:=(List.getElem?_eq_some_iff.mp hx).1
   simp;omega
  .have e2:its[i]?=some u':=by simpa using hu'
   rw[hu]at e2
   cases e2
   exact ru
 done:=by
  intro X hP hw hK hc i pins s σ H I _ _ _ st hg
  obtain⟨xs,hxs,hx⟩:=hg
  subst hP hw hK
  obtain⟨its,rv,p,hz⟩:=I.tuple hxs
  have hl:=rv.length
  have e:i=its.toArray.size:=by simp;omega
  subst e
  exact⟨_,_,_,eM' (show X.A.in1.handled=none from I.ok.hd hc) it a nai its.toArray,st,p⟩
section
variable {X:Cx}
noncomputable def oy' (K:W.Frag) (tl:TE):TI:=fun σ H R=>cJ' tl kA' σ H fun vs H1=>∃x,vs=[x]/\
 ((∃a,x=.ref a/\(∃xs,SqL K H1 a xs)/\R (Ite K a) H1)\/(∃z,x=.str z/\R (tI' z) H1)\/∃a,x=.ref a/\(∃xs,SqT K H1 a xs)/\R (ox' K a) H1)
theorem dz':bootBuiltins "enumerate"=some (.type "enumerate"):=by decide +kernel
theorem oz' {a:Expr} {tl:TE} {p pos:Pos} {elts:List Expr} {kt:Nat} {pt:Pos} (hg:Gl X "enumerate") (hm:X.mg "enumerate"=none) (ha:PA X [a] (cJ' tl kA')) (hs:starEach [a] X.env=[(false,eval a X.env)]):
  PI X (.Tuple elts kt pt) (.Call (.Name "enumerate" p) [a] [] pos) (oy' X.K tl):=by
 intro pins s σ H R I h
 have h':cJ' tl kA' σ H (fun vs H1=>∃x,vs=[x]/\((∃a,x=.ref a/\(∃xs,SqL X.K H1 a xs)/\R (Ite X.K a) H1)\/(∃z,x=.str z/\R (tI' z) H1)\/∃a,x=.ref a/\(∃xs,SqT X.K H1 a xs)/\R (ox' X.K a) H1)):=h
 refine Call_ (dE' I hg hm dz' (PyProof.Rows.callWith_type1 (thn (ha pos pins s σ H _ I h') fun us s1 ⟨vs,H1,I1,r1,q1⟩=>?_) (by rw[hs];rfl) (by rfl)))
 obtain⟨x,e,q1⟩:=q1
 subst e
 cases r1 with
 |cons r rr=>
  cases rr
  rcases q1 with⟨a,rfl,⟨xs,hxs⟩,q⟩|⟨z,rfl,q⟩|⟨a,rfl,⟨xs,hxs⟩,q⟩
  .cases r
   obtain⟨its,rv,pl,hz⟩:=I1.list hxs
   refine call_enumerate_list pl.isList fun h' he hit hsz hk=>wpAny_pyIter_enum he ?_
   have la:a<s1.heap.objs.size:=by
    obtain⟨o,q,_⟩:=pl.isList
    exact Heap.lt_size q
   refine⟨s1.heap.objs.size+1,[s1.heap.objs.size+1,s1.heap.objs.size],_,_,H1,rfl,I1.kept (t':=s1.toks) hk,c8' (ov' (Nat.succ_ne_self _) (Nat.ne_of_lt (Nat.lt_succ_of_lt la)) (Nat.ne_of_lt la)),⟨⟨_,he⟩,hit⟩,fun c hc=>?_,q⟩
   have hle:s1.heap.objs.size<=c:=by
    simp only[List.mem_cons,List.not_mem_nil,or_false]at hc
    rcases hc with rfl|rfl<;>omega
   exact I1.fpOk hle (I1.hok.fresh hle)
  .obtain⟨t,rfl⟩:=r
   refine call_enumerate_str fun h' he hit hsz hk=>wpAny_pyIter_enum he ?_
   have hty:strIterType z="str_ascii_iterator"\/strIterType z="str_iterator":=by
    unfold strIterType
    split
    .exact .inl rfl
    .exact .inr rfl
   refine⟨s1.heap.objs.size+1,[s1.heap.objs.size+1,s1.heap.objs.size],_,_,H1,rfl,I1.kept (t':=s1.toks) hk,c8' (qN' hty (Nat.succ_ne_self _)),⟨⟨_,he⟩,hit⟩,fun c hc=>?_,q⟩
   have hle:s1.heap.objs.size<=c:=by
    simp only[List.mem_cons,List.not_mem_nil,or_false]at hc
    rcases hc with rfl|rfl<;>omega
   exact I1.fpOk hle (I1.hok.fresh hle)
  .cases r
   obtain⟨its,rv,pl,hz⟩:=I1.tuple hxs
   refine bX' (show s1.heap.IsTuple a its.toArray from pl) fun h' he hit hsz hk=>wpAny_pyIter_enum he ?_
   have la:a<s1.heap.objs.size:=by
    obtain⟨o,q,_⟩:=pl
    exact Heap.lt_size q
   refine⟨s1.heap.objs.size+1,[s1.heap.objs.size+1,s1.heap.objs.size],_,_,H1,rfl,I1.kept (t':=s1.toks) hk,c8' (qO' (Nat.succ_ne_self _) (Nat.ne_of_lt (Nat.lt_succ_of_lt la)) (Nat.ne_of_lt la)),⟨⟨_,he⟩,hit⟩,fun c hc=>?_,q⟩
   have hle:s1.heap.objs.size<=c:=by
    simp only[List.mem_cons,List.not_mem_nil,or_false]at hc
    rcases hc with rfl|rfl<;>omega
   exact I1.fpOk hle (I1.hok.fresh hle)
end
section
variable {X:Cx}
theorem d6':aH' X (.type "int") (fun xs H Q=>∃x n,xs=[.str x]/\PySem.intText? x=some n/\x.length<=640/\Q (.int n) H):=by
 intro pins s σ H xs us Q I r h
 obtain⟨x,n,rfl,hn,hl,q⟩:=h
 obtain⟨u,rfl,t,rfl⟩:=b2' r
 exact W.KIN.call_text hn hl ⟨.int n,H,I.tok _,⟨_,rfl⟩,q⟩
noncomputable def vM':List V->Hp->VK->Prop:=fun xs H Q=>((∃i,xs=[.int i]/\Q (.int i) H)\/∃k,xs=[.bl k]/\Q (.int (if k then 1 else 0)) H)\/∃x n,xs=[.str x]/\PySem.intText? x=some n/\x.length<=640/\Q (.int n) H
theorem iJ':aH' X (.type "int") vM':=ip'.or d6'
noncomputable def ur':R2:=fun x y H Q=>∃a n,x=.str a/\y=.int n/\-1000000<=n/\n<=1000000/\a.length*n.toNat<=1000000/\Q (.str (Txt.mul a n)) H
theorem hw':OpR X (binaryOp .Mult) ur':=by
 intro pins s σ H x y v u Q I rx ry h
 obtain⟨a,n,rfl,rfl,h1,h2,h3,q⟩:=h
 obtain⟨t,rfl⟩:=rx
 obtain⟨t',rfl⟩:=ry
 refine SB.mul ⟨?_,fun hn hc=>?_,fun hn hc=>?_⟩ fun t' k=>⟨.str (Txt.mul a n),H,I.tok _,⟨_,rfl⟩,q⟩
 .have e1:¬n < -(2 ^ 63:Int):=by omega
  have e2:¬n ≥ 2 ^ 63:=by omega
  simp[e1,e2]
  omega
 .have hn0:0<n:=by omega
  intro hgt
  have h4:(a.length:Int)*n<=1000000:=by
   have:((a.length*n.toNat:Nat):Int)<=1000000:=by omega
   rw[Int.natCast_mul,Int.toNat_of_nonneg (by omega)]at this
   exact this
  have h5:=(Int.ediv_lt_iff_lt_mul hn0).mp hgt
  omega
 .have e:Builtin.Str.tooLong (a.length*n.toNat)=false:=by
   unfold Builtin.Str.tooLong
   have:sizeLine=16777216:=sizeLine_eq
   simp
   omega
  exact e
noncomputable def qP' (K:W.Frag):V->List V->Hp->VK->Prop:=fun x xs H Q=>∃(sep:Str) (p:Addr) (ys:List Str),x=.str sep/\xs=[.ref p]/\(SqL K H p (ys.map V.str)\/SqT K H p (ys.map V.str))/\(ys.map (·.length)).sum+ys.length*sep.length<=16777216/\Q (.str (Txt.join sep ys)) H
theorem cu':∀{ys:List Str} {us:List Value},az' (ys.map V.str) us->StrsAre us ys
 | [],us,h=>by
  have e:=h.zero
  subst e
  exact .nil
 |y :: ys,_,.cons r t=>by
  obtain⟨k,rfl⟩:=r
  exact .cons y k (cu' t)
theorem oA':MtR X "str.join" (qP' X.K):=by
 intro pins s σ H x xs v us Q I rx rv h
 obtain⟨sep,p,ys,rfl,rfl,hs,hz,q⟩:=h
 obtain⟨t,rfl⟩:=rx
 obtain⟨u,rfl,ru⟩:=rv.one
 cases ru
 rcases hs with hs|hs
 .obtain⟨its,r,pl,_⟩:=I.list hs
  exact join_list pl.isList (cu' r) hz fun t' k=>⟨.str _,H,I.tok _,⟨_,rfl⟩,q⟩
 .obtain⟨its,r,pl,_⟩:=I.tuple hs
  exact join_tuple pl (cu' r) hz fun t' k=>⟨.str _,H,I.tok _,⟨_,rfl⟩,q⟩
noncomputable def wA':V->Option Int->Option Int->Hp->VK->Prop:=fun x lo hi H Q=>∃a,x=.str a/\a.length<=sizeLine/\Q (.str (Txt.slice a lo hi)) H
theorem qQ':SlR X wA':=by
 intro pins s σ H x v vl vu lo hi sl Q I rx hs pl pu h
 obtain⟨a,rfl,hz,q⟩:=h
 obtain⟨t,rfl⟩:=rx
 have fin:∀(l u:Option (Int×Tok)),l.map (·.1)=lo->u.map (·.1)=hi->s.heap.IsSlice sl l u none->wpAny (model X.prog X.w) X.A (getItem (.str a t) (.ref sl)) (EP X pins σ Q) X.xe s:=by
  intro l u e1 e2 hsl
  refine wpAny_getItem_str_slice (l:=l) (u:=u) (st:=none) hsl rfl ?_
  refine post_val_or_str ?_
  subst e1 e2
  exact⟨Nat.le_trans (Txt.slice_le a _ _) hz,fun t' k=>⟨.str _,H,I.tok _,⟨_,rfl⟩,q⟩⟩
 refine⟨"str",_,F.slot_str_getitem.lookup,typeIs_str _ _ _,?_⟩
 cases pl with
 |none=>
  cases pu with
  |none=>exact fin none none rfl rfl hs
  |int j u=>exact fin none (some (j,u)) rfl rfl hs
 |int i t1=>
  cases pu with
  |none=>exact fin (some (i,t1)) none rfl rfl hs
  |int j u=>exact fin (some (i,t1)) (some (j,u)) rfl rfl hs
noncomputable def dL' (H:Hp):V->Option String
 | .non=>some "NoneType"
 | .bl _=>some "bool"
 | .int _=>some "int"
 | .str _=>some "str"
 | .ref a=>match H a with
  |some (.lst _)=>some "list"
  |some (.tup _)=>some "tuple"
  |some (.dK _)=>some "dict"
  |some (.dT _)=>some "dict"
  |some (.frz _ (.lst _))=>some "list"
  |_=>none
 |_=>none
set_option tactic.hygienic true in
theorem iK' {K:W.Frag} {H:Hp} {x:V} {T:String} (h:dL' H x=some T):TyOf K H x (.type T):=by
 cases x with
 |non=>cases h;exact .non
 |bl b=>cases h;exact .bl b
 |int i=>cases h;exact .int i
 |str y=>cases h;exact .str y
 |byt _=>cases h
 |flt _=>cases h
 |ty _=>cases h
 |ref a=>
  have h:(match H a with
   |some (.lst _)=>some "list"
   |some (.tup _)=>some "tuple"
   |some (.dK _)=>some "dict"
   |some (.dT _)=>some "dict"
   |some (.frz _ (.lst _))=>some "list"
   |_=>none)=some T:=h
  split at h
  .rename_i e;cases h;exact .lst e
  .rename_i e;cases h;exact .tup e
  .rename_i e;cases h;exact .dK e
  .rename_i e;cases h;exact .dT e
  .rename_i e;cases h;exact .frz e
  .cases h
noncomputable def isT (T c:String):Bool:=T == c || (T == "bool"&&c == "int")
noncomputable def b3':List String:=["NoneType","bool","int","str","list","tuple","dict"]
theorem cA' (K:W.Frag):∀T∈b3',∀c∈["bool","int","str","list","tuple","dict"],W.kitOne K (.type T) (.type c)=some (isT T c):=by
 intro T hT c hc
 simp only[b3',List.mem_cons,List.not_mem_nil,or_false]at hT hc
 rcases hT with rfl|rfl|rfl|rfl|rfl|rfl|rfl<;>rcases hc with rfl|rfl|rfl|rfl|rfl|rfl<;>rfl
noncomputable def vN':List V->Hp->VK->Prop:=fun xs H Q=>
 (∃x T c,xs=[x,.ty c]/\dL' H x=some T/\T∈b3'/\c∈["bool","int","str","list","tuple","dict"]/\Q (.bl (isT T c)) H)\/
 (∃(x:V) (T:String) (p:Addr) (cs:List String),xs=[x,.ref p]/\dL' H x=some T/\T∈b3'/\H p=some (.tup (cs.map V.ty))/\(∀c∈cs,c∈["bool","int","str","list","tuple","dict"])/\Q (.bl (cs.any (isT T))) H)
theorem iL':∀{cs:List String} {us:List Value},az' (cs.map V.ty) us->us=cs.map Value.type
 | [],us,h=>h.zero
 |c :: cs,_,.cons r t=>by
  have r':_=Value.type c:=r
  rw[r',iL' t]
  rfl
theorem cB' (K:W.Frag) {T:String} (hT:T∈b3'):∀{cs:List String},(∀c∈cs,c∈["bool","int","str","list","tuple","dict"])->W.kitAny K (.type T) (cs.map Value.type)=some (cs.any (isT T))
 | [],_=>rfl
 |c :: cs,h=>by
  have h1:=cA' K T hT c (h c List.mem_cons_self)
  have h2:=cB' K hT (cs:=cs) fun c' hc'=>h c' (List.mem_cons_of_mem _ hc')
  show(match W.kitOne K (.type T) (.type c)with|some true=>some true|some false=>W.kitAny K (.type T) (cs.map Value.type)|none=>none)=_
  rw[h1]
  cases hb:isT T c
  .rw[List.any_cons,hb]
   exact h2
  .rw[List.any_cons,hb]
   rfl
set_option tactic.hygienic true in
theorem hz' {pins:List (Addr×Obj)} {σ:St} {H:Hp} {s:Shared} {Q:Value->Shared->Prop} {E:Value->Shared->Prop} {b:Bool} {x:V} {u:Value} {T:String} {p:Addr} {dd:Option Addr} {its:List Value} {n:Nat} {sl:Array (Option Value)} (I:Inv X pins σ H s) (rx:ao' x u) (ty:dL' H x=some T)
  (hp:s.heap.get? p=some ⟨.type "tuple",dd,.seq its.toArray n,sl⟩) (e:W.kitAny X.K (.type T) its=some b) (h:∀tk,Q (.bool b) { s with toks:=tk }):
  wpAny (model X.prog X.w) X.A (call (.builtin "isinstance") [u,.ref p]) Q E s:=by
 cases x with
 |non=>cases ty;cases(show u=Value.none from rx);exact W.kia_tup W.kitx_none I.kIn True.intro hp e (fun z=>nomatch z) h
 |bl y=>cases ty;cases(show u=Value.bool y from rx);exact W.kia_tup W.kitx_bool I.kIn True.intro hp e (fun z=>nomatch z) h
 |int i=>cases ty;obtain⟨t,q⟩:=(show ∃t,u=Value.int i t from rx);cases q;exact W.kia_tup W.kitx_int I.kIn True.intro hp e (fun z=>nomatch z) h
 |str y=>cases ty;obtain⟨t,q⟩:=(show ∃t,u=Value.str y t from rx);cases q;exact W.kia_tup W.kitx_str I.kIn True.intro hp e (fun z=>nomatch z) h
 |byt _=>cases ty
 |flt _=>cases ty
 |ty _=>cases ty
 |ref a=>
  cases(show u=Value.ref a from rx)
  have ty:(match H a with
   |some (.lst _)=>some "list"
   |some (.tup _)=>some "tuple"
   |some (.dK _)=>some "dict"
   |some (.dT _)=>some "dict"
   |some (.frz _ (.lst _))=>some "list"
   |_=>none)=some T:=ty
  split at ty
  .rename_i xs ea
   cases ty
   obtain⟨_,_,n,_,h1⟩:=(show av' X.prog X.w H s.heap a (.lst xs) from I.hok a _ ea)
   exact W.kia_tup W.kitx_list I.kIn ⟨_,h1,rfl⟩ hp e (fun z=>nomatch z) h
  .rename_i xs ea
   cases ty
   obtain⟨_,_,_,o,h1,h2,_⟩:=(show av' X.prog X.w H s.heap a (.tup xs) from I.hok a _ ea)
   exact W.kia_tup W.kitx_tuple I.kIn ⟨o,h1,h2⟩ hp e (fun z=>nomatch z) h
  .rename_i kvs ea
   cases ty
   obtain⟨_,_,vs,_,o,es,ep,h1,h2,_⟩:=(show av' X.prog X.w H s.heap a (.dK kvs) from I.hok a _ ea)
   exact W.kia_tup W.kitx_dict I.kIn ⟨o,h1,h2.1⟩ hp e (fun z=>nomatch z) h
  .rename_i kvs ea
   cases ty
   obtain⟨_,_,xs,_,o,es,ep,h1,h2,_⟩:=(show av' X.prog X.w H s.heap a (.dT kvs) from I.hok a _ ea)
   exact W.kia_tup W.kitx_dict I.kIn ⟨o,h1,h2.1⟩ hp e (fun z=>nomatch z) h
  .rename_i ob xs ea
   cases ty
   obtain⟨_,_,_,n,_,h1⟩:=(show av' X.prog X.w H s.heap a (.frz ob (.lst xs)) from I.hok a _ ea)
   exact W.kia_tup W.kitx_list I.kIn ⟨_,h1,rfl⟩ hp e (fun z=>nomatch z) h
  .cases ty
theorem k0':aH' X (.builtin "isinstance") vN':=by
 intro pins s σ H xs us Q I r h
 rcases h with⟨x,T,c,rfl,hT,hk,hc,q⟩|⟨x,T,p,cs,rfl,hT,hk,hp,hc,q⟩
 .obtain⟨u,w',rfl,r1,r2⟩:=im' r
  have r2:w'=Value.type c:=r2
  subst r2
  exact ir' I r1 (iK' hT) (cA' X.K T hk c hc) fun tk=>⟨.bl _,H,I.tok _,rfl,q⟩
 .obtain⟨u,w',rfl,r1,r2⟩:=im' r
  have r2:w'=Value.ref p:=r2
  subst r2
  obtain⟨_,its,rv,o,h1,h2,⟨n,h3⟩,_⟩:=(show av' X.prog X.w H s.heap p (.tup (cs.map V.ty)) from I.hok p _ hp)
  have e:=iL' rv
  subst e
  obtain⟨oc,od,dat,osl⟩:=o
  have h2:oc=_:=h2
  have h3:dat=_:=h3
  subst h2 h3
  exact hz' I r1 hT h1 (cB' X.K hk hc) fun tk=>⟨.bl _,H,I.tok _,rfl,q⟩
noncomputable def vO' (K:W.Frag) (any:Bool):List V->Hp->VK->Prop:=fun xs H Q=>∃(p:Addr) (bs:List Bool),xs=[.ref p]/\SqL K H p (bs.map V.bl)/\Q (.bl (if any then bs.any id else bs.all id)) H
theorem eN':∀{bs:List Bool} {us:List Value} {i:Nat} {v:Value},az' (bs.map V.bl) us->us[i]?=some v->∃b,bs[i]?=some b/\v=.bool b
 | [],us,i,v,h,e=>by rw[h.zero]at e;simp at e
 |b :: bs,_,0,v,.cons r t,e=>by
  have r:_=Value.bool b:=r
  simp at e
  exact⟨b,rfl,by rw[<- e];exact r⟩
 |b :: bs,_,i+1,v,.cons r t,e=>by
  obtain⟨b',h1,h2⟩:=eN' (i:=i) t (by simpa using e)
  exact⟨b',by simpa using h1,h2⟩
theorem iM' (bs:List Bool):(List.range bs.length).any (fun i=>bs.getD i false)=bs.any id:=by
 rw[Bool.eq_iff_iff,List.any_eq_true,List.any_eq_true]
 constructor
 .rintro⟨i,hi,h⟩
  have hi:=List.mem_range.mp hi
  exact⟨bs[i],List.getElem_mem hi,by simpa[List.getD_eq_getElem?_getD,hi]using h⟩
 .rintro⟨b,hb,h⟩
  obtain⟨i,hi,rfl⟩:=List.mem_iff_getElem.mp hb
  exact⟨i,List.mem_range.mpr hi,by simpa[List.getD_eq_getElem?_getD,hi]using h⟩
theorem iN' (hc:X.calm=true):aH' X (.builtin "any") (vO' X.K true):=by
 intro pins s σ H xs us Q I r h
 obtain⟨p,bs,rfl,hs,q⟩:=h
 obtain⟨u,rfl,ru⟩:=b2' r
 cases ru
 obtain⟨its,rv,pl,hz⟩:=I.list hs
 have hlen:its.toArray.size=bs.length:=by
  have:=rv.length
  rw[List.length_map]at this
  rw[List.size_toArray,this]
 refine call_any_walk (wpAny_pyIter_list pl.isList ?_)
 have hlt:p<s.heap.objs.size:=by obtain⟨o,n,e,_⟩:=pl;exact Heap.lt_size e
 refine⟨s.heap.objs.size,_,_,_,_,_,fun i=>bs.getD i false,rfl,Walks.list (A:=X.A.in1) (I.ok.hd hc) _ p (Nat.ne_of_lt hlt) its.toArray,⟨⟨_,Heap.get?_push_size _ rfl,rfl,rfl⟩,Heap.IsList.push pl.isList _⟩,?_,fun h' tk hk=>?_⟩
 .intro i v s' Q' E' hv hq
  obtain⟨b,hb,rfl⟩:=eN' rv (i:=i) (by simpa using hv)
  refine wpAny_truthy_bool ?_
  have e:bs.getD i false=b:=by rw[List.getD_eq_getElem?_getD,hb];rfl
  have hq':Q' (bs.getD i false) s':=hq
  rw[e]at hq'
  exact hq'
 .rw[hlen,iM']
  exact⟨.bl _,H,I.kept fun b o e=>hk b o (by simp;exact Nat.ne_of_lt (Heap.lt_size e)) (Heap.get?_push_of_some _ e),rfl,q⟩
noncomputable def k1' (K:W.Frag) (mx:Bool):List V->Hp->VK->Prop:=fun xs H Q=>∃(p:Addr) (ns:List Int),xs=[.ref p]/\SqL K H p (ns.map V.int)/\ns≠[]/\∀M,M∈ns->(∀a∈ns,if mx then a<=M else M<=a)->Q (.int M) H
theorem iO' (hc:X.calm=true):aH' X (.builtin "max") (k1' X.K true):=by
 intro pins s σ H xs us Q I r h
 obtain⟨p,ns,rfl,hs,hne,q⟩:=h
 obtain⟨u,rfl,ru⟩:=b2' r
 cases ru
 obtain⟨its,rv,pl,hz⟩:=I.list hs
 have hi:=dJ' rv
 obtain⟨xs,e⟩:=hi.allInts.items
 have hns:ns=xs.toList.map (·.1):=by
  rw[<- hi.numsOf,<- nums_intItems,<- e]
 have hsz:0<xs.size:=by
  have h3:=List.length_pos_iff.mpr hne
  rw[hns,List.length_map,Array.length_toList]at h3
  exact h3
 have hl:=pl.isList
 rw[e]at hl
 refine max_intList (I.ok.hd hc) hl hsz fun v h' tk hv hk=>?_
 obtain⟨t,rfl⟩:=intItems_at hv
 obtain⟨h1,h2⟩:=argBest_gt (numAt xs) (xs.size-1)
 refine⟨.int _,H,I.kept hk,⟨t,rfl⟩,q _ ?_ fun a ha=>?_⟩
 .rw[hns,numAt_eq];exact getD_mem (by rw[List.length_map,Array.length_toList];omega)
 .rw[hns]at ha
  obtain⟨j,hj,rfl⟩:=mem_getD ha
  rw[List.length_map,Array.length_toList]at hj
  rw[if_pos rfl,<- numAt_eq];exact h2 j (by omega)
theorem iP' (hc:X.calm=true):aH' X (.builtin "min") (k1' X.K false):=by
 intro pins s σ H xs us Q I r h
 obtain⟨p,ns,rfl,hs,hne,q⟩:=h
 obtain⟨u,rfl,ru⟩:=b2' r
 cases ru
 obtain⟨its,rv,pl,hz⟩:=I.list hs
 have hi:=dJ' rv
 obtain⟨xs,e⟩:=hi.allInts.items
 have hns:ns=xs.toList.map (·.1):=by
  rw[<- hi.numsOf,<- nums_intItems,<- e]
 have hsz:0<xs.size:=by
  have h3:=List.length_pos_iff.mpr hne
  rw[hns,List.length_map,Array.length_toList]at h3
  exact h3
 have hl:=pl.isList
 rw[e]at hl
 refine min_intList (I.ok.hd hc) hl hsz fun v h' tk hv hk=>?_
 obtain⟨t,rfl⟩:=intItems_at hv
 obtain⟨h1,h2⟩:=argBest_lt (numAt xs) (xs.size-1)
 refine⟨.int _,H,I.kept hk,⟨t,rfl⟩,q _ ?_ fun a ha=>?_⟩
 .rw[hns,numAt_eq];exact getD_mem (by rw[List.length_map,Array.length_toList];omega)
 .rw[hns]at ha
  obtain⟨j,hj,rfl⟩:=mem_getD ha
  rw[List.length_map,Array.length_toList]at hj
  rw[if_neg (by decide),<- numAt_eq];exact h2 j (by omega)
end
section
variable {X:Cx}
open PySem.SeqAt in
theorem c9' {A:Around} {s:Shared} {x y:V} {u v:Value} (rx:ao' x u) (ry:ao' y v) (h:qu' x y=true/\(∀b,x≠.byt b)\/x=y/\∃a,x=.ref a):EqAt A s u v (decide (x=y)):=by
 rcases h with⟨h,hb⟩|⟨rfl,a,rfl⟩
 .cases x with
  |non=>cases y with
   |non=>cases rx;cases ry;exact EqAt.same _
   |bl b=>cases rx;cases ry;exact EqAt.none_bool _
   |int b=>cases rx;obtain⟨t,rfl⟩:=ry;exact EqAt.none_int _ _
   |str b=>cases rx;obtain⟨t,rfl⟩:=ry;exact EqAt.none_str _ _
   |_=>cases h
  |bl a=>cases y with
   |non=>cases rx;cases ry;exact EqAt.bool_none _
   |bl b=>cases rx;cases ry;have:=EqAt.bool_bool (A:=A) (s:=s) a b;cases a<;>cases b<;>exact this
   |str b=>cases rx;obtain⟨t,rfl⟩:=ry;exact EqAt.bool_str _ _ _
   |_=>cases h
  |int a=>cases y with
   |non=>obtain⟨t,rfl⟩:=rx;cases ry;exact EqAt.int_none _ _
   |int b=>obtain⟨t,rfl⟩:=rx;obtain⟨t',rfl⟩:=ry;rw[fp'];exact EqAt.int_int _ _ _ _
   |str b=>obtain⟨t,rfl⟩:=rx;obtain⟨t',rfl⟩:=ry;exact EqAt.int_str _ _ _ _
   |_=>cases h
  |str a=>cases y with
   |non=>obtain⟨t,rfl⟩:=rx;cases ry;exact EqAt.str_none _ _
   |bl b=>obtain⟨t,rfl⟩:=rx;cases ry;exact EqAt.str_bool _ _ _
   |int b=>obtain⟨t,rfl⟩:=rx;obtain⟨t',rfl⟩:=ry;exact EqAt.str_int _ _ _ _
   |str b=>
    obtain⟨t,rfl⟩:=rx
    obtain⟨t',rfl⟩:=ry
    have e:decide (V.str a=V.str b)=(a == b):=by
     by_cases hab:a=b
     .subst hab;simp
     .rw[decide_eq_false (by intro z;cases z;exact hab rfl)];simp[hab]
    rw[e]
    exact EqAt.str_str _ _ _ _
   |_=>cases h
  |byt b=>exact absurd rfl (hb b)
  |_=>cases y<;>cases h
 .cases rx
  cases ry
  rw[decide_eq_true rfl]
  exact EqAt.same _
def LEq (xs ys:List V):Prop:=∀(i:Nat) x y,xs[i]?=some x->ys[i]?=some y->qu' x y=true/\(∀b,x≠.byt b)\/x=y/\∃a,x=.ref a
noncomputable def tJ' (K:W.Frag) (neg:Bool):V->V->Hp->VK->Prop:=fun x y H Q=>∃p q xs ys,x=.ref p/\y=.ref q/\SqL K H p xs/\SqL K H q ys/\(xs.length=ys.length->LEq xs ys)/\Q (.bl (if neg then !decide (xs=ys)else decide (xs=ys))) H
theorem mj' {xs ys:List V} (h:xs.length=ys.length):(List.range xs.length).all (fun i=>decide (xs[i]?=ys[i]?))=decide (xs=ys):=by
 by_cases e:xs=ys
 .subst e
  simp
 .rw[decide_eq_false e,Bool.eq_false_iff]
  intro q
  rw[List.all_eq_true]at q
  apply e
  apply List.ext_getElem?
  intro i
  rcases Nat.lt_or_ge i xs.length with hi|hi
  .exact of_decide_eq_true (q i (List.mem_range.mpr hi))
  .rw[List.getElem?_eq_none_iff.mpr hi,List.getElem?_eq_none_iff.mpr (by omega)]
open PySem.SeqAt in
theorem qR' (hu:X.A.units<cLine):OpR X (compareOp .Eq) (tJ' X.K false):=by
 intro pins s σ H x y v u Q I rx ry h
 obtain⟨p,q,xs,ys,rfl,rfl,hp,hq,he,k⟩:=h
 cases rx
 cases ry
 obtain⟨its,r1,pl1,_⟩:=I.list hp
 obtain⟨its2,r2,pl2,_⟩:=I.list hq
 have l1:=r1.length
 have l2:=r2.length
 by_cases hl:xs.length=ys.length
 .refine eq_listAt (e:=fun i=>decide (xs[i]?=ys[i]?)) pl1.isList pl2.isList (by simp;omega) hu (fun j h1 h2=>?_) ?_
  .have j1:j<xs.length:=by simp at h1;omega
   have j2:j<ys.length:=by omega
   have g1:xs[j]?=some xs[j]:=List.getElem?_eq_getElem j1
   have g2:ys[j]?=some ys[j]:=List.getElem?_eq_getElem j2
   obtain⟨u1,e1,ru1⟩:=r1.get g1
   obtain⟨u2,e2,ru2⟩:=r2.get g2
   have f1:its.toArray[j]=u1:=by simp at h1 ⊢;rw[List.getElem?_eq_getElem h1]at e1;exact Option.some.inj e1
   have f2:its2.toArray[j]=u2:=by simp at h2 ⊢;rw[List.getElem?_eq_getElem h2]at e2;exact Option.some.inj e2
   rw[f1,f2,g1,g2]
   have e3:decide (some xs[j]=some ys[j])=decide (xs[j]=ys[j]):=by simp
   rw[e3]
   exact c9' ru1 ru2 (he hl j _ _ g1 g2)
  .have e4:(List.range its.toArray.size).all (fun i=>decide (xs[i]?=ys[i]?))=decide (xs=ys):=by
    rw[List.size_toArray,<- l1];exact mj' hl
   rw[e4]
   exact⟨.bl _,H,I,rfl,k⟩
 .refine eq_list_lengthsAt pl1.isList pl2.isList (by simp;omega) hu ?_
  rw[decide_eq_false (fun z=>hl (by rw[z]))]at k
  exact⟨.bl false,H,I,rfl,k⟩
open PySem.SeqAt in
theorem qS' (hu:X.A.units<cLine):OpR X (compareOp .NotEq) (tJ' X.K true):=by
 intro pins s σ H x y v u Q I rx ry h
 obtain⟨p,q,xs,ys,rfl,rfl,hp,hq,he,k⟩:=h
 cases rx
 cases ry
 obtain⟨its,r1,pl1,_⟩:=I.list hp
 obtain⟨its2,r2,pl2,_⟩:=I.list hq
 have l1:=r1.length
 have l2:=r2.length
 obtain⟨⟨cls,dd,data,sl⟩,ho,hc,n,hd⟩:=pl1.isList
 obtain⟨⟨cls2,dd2,data2,sl2⟩,ho2,hc2,n2,hd2⟩:=pl2.isList
 simp only at hc hd hc2 hd2
 subst hc hd hc2 hd2
 by_cases hl:xs.length=ys.length
 .refine richCompare_meets_room (op:=.NotEq) ⟨_,ho,rfl⟩ ⟨_,ho2,rfl⟩ F.slot_list_ne F.entry_list_ne (F.args_list_ne_2 _ _) (list_neAt p q its.toArray its2.toArray n n2 dd dd2 sl sl2 (by simp;omega) (fun i=>decide (xs[i]?=ys[i]?))) ⟨ho,ho2,fun j h1 h2=>?_,?_⟩ hu
  .have j1:j<xs.length:=by simp at h1;omega
   have j2:j<ys.length:=by omega
   have g1:xs[j]?=some xs[j]:=List.getElem?_eq_getElem j1
   have g2:ys[j]?=some ys[j]:=List.getElem?_eq_getElem j2
   obtain⟨u1,e1,ru1⟩:=r1.get g1
   obtain⟨u2,e2,ru2⟩:=r2.get g2
   have f1:its.toArray[j]=u1:=by simp at h1 ⊢;rw[List.getElem?_eq_getElem h1]at e1;exact Option.some.inj e1
   have f2:its2.toArray[j]=u2:=by simp at h2 ⊢;rw[List.getElem?_eq_getElem h2]at e2;exact Option.some.inj e2
   rw[f1,f2,g1,g2]
   have e3:decide (some xs[j]=some ys[j])=decide (xs[j]=ys[j]):=by simp
   rw[e3]
   exact c9' ru1 ru2 (he hl j _ _ g1 g2)
  .have e4:(List.range its.toArray.size).all (fun i=>decide (xs[i]?=ys[i]?))=decide (xs=ys):=by
    rw[List.size_toArray,<- l1];exact mj' hl
   rw[e4]
   exact(show Value.bool (!decide (xs=ys))≠Value.notImplemented/\EP X pins σ Q (Value.bool (!decide (xs=ys))) s from⟨(fun x=>nomatch x),⟨.bl _,H,I,rfl,k⟩⟩)
 .refine richCompare_meets_room (op:=.NotEq) ⟨_,ho,rfl⟩ ⟨_,ho2,rfl⟩ F.slot_list_ne F.entry_list_ne (F.args_list_ne_2 _ _) (list_ne_lengthsAt p q its.toArray its2.toArray n n2 dd dd2 sl sl2 (by simp;omega)) ⟨ho,ho2,?_⟩ hu
  rw[decide_eq_false (fun z=>hl (by rw[z]))]at k
  exact(show Value.bool true≠Value.notImplemented/\EP X pins σ Q (Value.bool true) s from⟨(fun x=>nomatch x),⟨.bl true,H,I,rfl,k⟩⟩)
end
section
variable {X:Cx}
theorem oB':OpR X (binaryOp .Mult) (rI IntMulOk fun i j=>.int (i*j)):=opI fun _ _ _ _ _ _ _ hc q=>mul_int q hc
noncomputable def vP':V->Bool
 | .ty _=>false
 | .byt _=>false
 | .flt _=>false
 |_=>true
noncomputable def tK' (neg:Bool):R2:=fun x y H Q=>∃b,y=.bl b/\vP' x=true/\Q (.bl (if neg then !decide (x=.bl b)else decide (x=.bl b))) H
theorem qT' {x:V} {v:Value} {b:Bool} (r:ao' x v) (h:vP' x=true):plainIs v (.bool b)=true/\(v == Value.bool b)=decide (x=.bl b):=by
 cases x with
 |non=>cases r;exact⟨rfl,rfl⟩
 |bl a=>cases r;refine⟨rfl,?_⟩;cases a<;>cases b<;>rfl
 |int i=>obtain⟨t,rfl⟩:=r;exact⟨rfl,rfl⟩
 |str i=>obtain⟨t,rfl⟩:=r;exact⟨rfl,rfl⟩
 |ref a=>cases r;exact⟨rfl,rfl⟩
 |_=>cases h
theorem qU':OpR X (compareOp .Is) (tK' false):=by
 intro pins s σ H x y v u Q I rx ry h
 obtain⟨b,rfl,hp,q⟩:=h
 cases ry
 obtain⟨h1,h2⟩:=qT' (b:=b) rx hp
 exact wpAny_is_plain h1 ⟨.bl _,H,I,by rw[h2];rfl,q⟩
theorem iQ':OpR X (compareOp .IsNot) (tK' true):=by
 intro pins s σ H x y v u Q I rx ry h
 obtain⟨b,rfl,hp,q⟩:=h
 cases ry
 obtain⟨h1,h2⟩:=qT' (b:=b) rx hp
 exact wpAny_isNot_plain h1 ⟨.bl _,H,I,by rw[h2];rfl,q⟩
theorem k2':OpR X (binaryOp .FloorDiv) (rI (fun _ j=>0<j/\j.natAbs.log2<9000) fun i j=>.int (i / j)):=opI fun i j _ _ _ _ _ hc q=>by
 refine floordiv_int (by omega) ?_ (.inl (PyProof.noPylong_of_log2 hc.2))
 rw[Int.fdiv_eq_ediv_of_nonneg i (by omega)]
 exact q
end
section
variable {κ:Type} [DecidableEq κ]
noncomputable def fy' (kvs:List (κ×V)) (k:κ):Option V:=(kvs.find? fun kv=>decide (kv.1=k)).map (·.2)
noncomputable def fz' (kvs:List (κ×V)) (k:κ) (v:V):List (κ×V):=
 if(kvs.any fun kv=>decide (kv.1=k))=true then kvs.map (fun kv=>if kv.1=k then(kv.1,v)else kv)else kvs++[(k,v)]
theorem cN' {p:κ×V} {r:List (κ×V)} {k:κ} (e:p.1=k):fy' (p :: r) k=some p.2:=by simp[fy',List.find?_cons,e]
theorem cO' {p:κ×V} {r:List (κ×V)} {k:κ} (e:¬p.1=k):fy' (p :: r) k=fy' r k:=by simp[fy',List.find?_cons,e]
theorem d7' (k:κ):∀kvs:List (κ×V),(kvs.any fun kv=>decide (kv.1=k))=(fy' kvs k).isSome
 | []=>rfl
 |p :: r=>by
  rw[List.any_cons]
  by_cases e:p.1=k
  .simp only[cN' e,decide_eq_true e,Bool.true_or,Option.isSome_some]
  .rw[cO' e,decide_eq_false e,Bool.false_or];exact d7' k r
theorem da' (kvs:List (κ×V)) (k:κ) (v:V):(fz' kvs k v).length<=kvs.length+1:=by
 unfold fz'
 split
 .rw[List.length_map];omega
 .rw[List.length_append,List.length_cons,List.length_nil];omega
theorem h7'.isSome_eq {o:Option V} {u:Option Value} (r:h7' o u):o.isSome=u.isSome:=by
 cases o with
 |none=>cases u with
  |none=>rfl
  |some _=>exact(show False from r).elim
 |some _=>cases u with
  |none=>exact(show False from r).elim
  |some _=>rfl
theorem KV.val {kvs:List (κ×V)} {vs:List (κ×Value)} (r:KV kvs vs) (k:κ):h7' (fy' kvs k) (valueAt vs k):=by
 unfold KV at r
 induction r with
 |nil=>exact True.intro
 | @cons p q ps qs h t ih=>
  obtain⟨h1,h2⟩:=h
  by_cases e:p.1=k
  .have e':q.1=k:=h1.symm.trans e
   have b:valueAt (q :: qs) k=some q.2:=by simp[valueAt,List.find?_cons,e']
   rw[cN' e,b];exact h2
  .have e':¬q.1=k:=fun z=>e (h1.trans z)
   have b:valueAt (q :: qs) k=valueAt qs k:=by simp[valueAt,List.find?_cons,e']
   rw[cO' e,b];exact ih
theorem KV.any {kvs:List (κ×V)} {vs:List (κ×Value)} (r:KV kvs vs) (k:κ):(kvs.any fun kv=>decide (kv.1=k))=vs.any fun kv=>decide (kv.1=k):=by
 unfold KV at r
 induction r with
 |nil=>rfl
 |cons h t ih=>rw[List.any_cons,List.any_cons,ih,h.1]
theorem KV.repl {kvs:List (κ×V)} {vs:List (κ×Value)} (r:KV kvs vs) (k:κ) {y:V} {u:Value} (ry:ao' y u):
  KV (kvs.map fun kv=>if kv.1=k then(kv.1,y)else kv) (vs.map fun kv=>if kv.1=k then(kv.1,u)else kv):=by
 unfold KV at r ⊢
 induction r with
 |nil=>exact .nil
 | @cons p q ps qs h t ih=>
  rw[List.map_cons,List.map_cons]
  refine .cons ?_ ih
  obtain⟨h1,h2⟩:=h
  by_cases e:p.1=k
  .rw[if_pos e,if_pos (h1.symm.trans e)];exact⟨h1,ry⟩
  .rw[if_neg e,if_neg (fun z=>e (h1.trans z))];exact⟨h1,h2⟩
theorem KV.put {kvs:List (κ×V)} {vs:List (κ×Value)} (r:KV kvs vs) (k:κ) {y:V} {u:Value} (ry:ao' y u):KV (fz' kvs k y) (stored vs k u):=by
 unfold fz' stored
 rw[r.any k]
 by_cases e:(vs.any fun kv=>decide (kv.1=k))=true
 .rw[if_pos e,if_pos e];exact r.repl k ry
 .rw[if_neg e,if_neg e];exact Paired.snoc r ⟨rfl,ry⟩
theorem KV.length {kvs:List (κ×V)} {vs:List (κ×Value)} (r:KV kvs vs):kvs.length=vs.length:=Paired.length r
end
theorem iR' {P:Program} {w:World} {k:Key} {u:Value} (r:ao' (kV k) u):(aC' P w).is k u=true:=by
 cases k with
 |inl i=>obtain⟨t,e⟩:=(show ∃t,u=Value.int i t from r);subst e;exact fm' P w i t
 |inr x=>obtain⟨t,e⟩:=(show ∃t,u=Value.str x t from r);subst e;exact fn' P w x t
 |non=>obtain rfl:u=Value.none:=r;rfl
theorem eO' {P:Program} {w:World}:∀{ks:List Key} {us:List Value},az' (ks.map kV) us->ItemsAre (aC' P w) ks us
 | [],_,r=>by rw[List.map_nil]at r;cases r;exact .nil
 |k :: ks,_,r=>by
  rw[List.map_cons]at r
  cases r with
  |cons h t=>exact .cons (iR' h) (eO' t)
noncomputable abbrev KT (H:Hp):List (List Key×V)->List (List Key×Addr×Value)->Prop:=Paired fun p q=>p.1=q.1/\H q.2.1=some (.tup (p.1.map kV))/\ao' p.2 q.2.2
theorem KT.val {H:Hp} {kvs:List (List Key×V)} {xs:List (List Key×Addr×Value)} (r:KT H kvs xs) (k:List Key):h7' (fy' kvs k) ((atKey xs k).map (·.2)):=by
 induction r with
 |nil=>exact True.intro
 | @cons p q ps qs h t ih=>
  obtain⟨h1,_,h2⟩:=h
  by_cases e:p.1=k
  .have e':q.1=k:=h1.symm.trans e
   have b:atKey (q :: qs) k=some q.2:=by simp[atKey,List.find?_cons,e']
   rw[cN' e,b];exact h2
  .have e':¬q.1=k:=fun z=>e (h1.trans z)
   have b:atKey (q :: qs) k=atKey qs k:=by simp[atKey,List.find?_cons,e']
   rw[cO' e,b];exact ih
theorem KT.repl {H:Hp} {kvs:List (List Key×V)} {xs:List (List Key×Addr×Value)} (r:KT H kvs xs) (k:List Key) {y:V} {u:Value} (ry:ao' y u):
  KT H (kvs.map fun kv=>if kv.1=k then(kv.1,y)else kv) (xs.map (putAt k u)):=by
 induction r with
 |nil=>exact .nil
 | @cons p q ps qs h t ih=>
  rw[List.map_cons,List.map_cons]
  refine .cons ?_ ih
  obtain⟨h1,h2,h3⟩:=h
  unfold putAt
  by_cases e:p.1=k
  .rw[if_pos e,if_pos (h1.symm.trans e)];exact⟨h1,h2,ry⟩
  .rw[if_neg e,if_neg (fun z=>e (h1.trans z))];exact⟨h1,h2,h3⟩
theorem KT.put {H:Hp} {kvs:List (List Key×V)} {xs:List (List Key×Addr×Value)} (r:KT H kvs xs) (k:List Key) {b:Addr} {y:V} {u:Value} (hb:H b=some (.tup (k.map kV))) (ry:ao' y u):
  KT H (fz' kvs k y) (storedH xs k b u):=by
 have e:(kvs.any fun kv=>decide (kv.1=k))=(atKey xs k).isSome:=by
  rw[d7',(r.val k).isSome_eq,Option.isSome_map]
 unfold fz' storedH
 rw[e]
 by_cases q:(atKey xs k).isSome=true
 .rw[if_pos q,if_pos q];exact r.repl k ry
 .rw[if_neg q,if_neg q];exact Paired.snoc r ⟨rfl,hb,ry⟩
theorem KT.keeps {H H':Hp} {kvs:List (List Key×V)} {xs:List (List Key×Addr×Value)} (r:KT H kvs xs) (ht:∀b ys,H b=some (.tup ys)->H' b=some (.tup ys)):KT H' kvs xs:=
 Paired.mapP r fun _ _ z=>⟨z.1,ht _ _ z.2.1,z.2.2⟩
section
variable {P:Program} {w:World} {H:Hp} {h:Heap} {a:Addr}
theorem qV' {u:HO} (ok:HOk P w H h) (e:Rd H a u):av' P w H h a u:=e.ok ok
theorem hA' {kvs:List (Key×V)} (ok:HOk P w H h) (e:Rd H a (.dK kvs)):kvs.length<=sizeLine/\(a == sysModules)=false/\∃vs,KV kvs vs/\h.DictOf (aC' P w) a vs:=
 show av' P w H h a (.dK kvs) from qV' ok e
theorem qW' {kvs:List (Key×V)} (ok:HOk P w H h) (e:H a=some (.dK kvs)):kvs.length<=sizeLine/\(a == sysModules)=false/\∃vs,KV kvs vs/\h.DictOf (aC' P w) a vs:=hA' ok (.inl e)
theorem db' {ks:List Key} (ok:HOk P w H h) (e:H a=some (.tup (ks.map kV))):(tupleKind (aC' P w)).is h ks a:=by
 obtain⟨_,its,r,o,h1,h2,⟨n,h3⟩,_⟩:=(show av' P w H h a (.tup (ks.map kV)) from ok a _ e)
 exact⟨o,its.toArray,n,h1,h2,h3,by simpa using eO' r⟩
theorem fA' {kvs:List (List Key×V)} (ok:HOk P w H h) (e:Rd H a (.dT kvs)):kvs.length<=sizeLine/\(a == sysModules)=false/\
  ∃xs,KT H kvs xs/\h.DictOfH (tupleKind (aC' P w)) a xs:=by
 obtain⟨z,y,xs,r,o,es,ep,h1,h2,h3,h4,h5⟩:=(show av' P w H h a (.dT kvs) from qV' ok e)
 refine⟨z,y,xs,r,o,es,ep,h1,h2,h3,h4,fun x hx=>?_,h5⟩
 have all:∀{l:List (List Key×V)} {m:List (List Key×Addr×Value)},KT H l m->∀x∈m,(tupleKind (aC' P w)).is h x.1 x.2.1:=by
  intro l m q
  induction q with
  |nil=>intro x hx;exact nomatch hx
  | @cons p q ps qs hq t ih=>
   intro x hx
   rcases List.mem_cons.mp hx with e|hx
   .subst e
    exact db' ok (by rw[<- hq.1];exact hq.2.1)
   .exact ih x hx
 exact all r x hx
theorem us' {kvs:List (List Key×V)} (ok:HOk P w H h) (e:H a=some (.dT kvs)):kvs.length<=sizeLine/\(a == sysModules)=false/\
  ∃xs,KT H kvs xs/\h.DictOfH (tupleKind (aC' P w)) a xs:=fA' ok (.inl e)
end
def kB' (H:Hp) (a:Addr) (y:V) (r:Option V):Prop:=
 (∃kvs k,Rd H a (.dK kvs)/\y=kV k/\r=fy' kvs k)\/∃kvs k b,Rd H a (.dT kvs)/\y=.ref b/\H b=some (.tup (k.map kV))/\r=fy' kvs k
def pX' (H:Hp) (a:Addr) (y v:V) (H':Hp):Prop:=
 (∃kvs k,H a=some (.dK kvs)/\y=kV k/\kvs.length<sizeLine/\H'=upd H a (.dK (fz' kvs k v)))\/
 ∃kvs k b,H a=some (.dT kvs)/\y=.ref b/\H b=some (.tup (k.map kV))/\kvs.length<sizeLine/\H'=upd H a (.dT (fz' kvs k v))
theorem pX'.t {H:Hp} {a b:Addr} {kvs:List (List Key×V)} {k:List Key} {v:V} (e:H a=some (.dT kvs)) (eb:H b=some (.tup (k.map kV))) (hl:kvs.length<sizeLine):
  pX' H a (.ref b) v (upd H a (.dT (fz' kvs k v))):=.inr ⟨kvs,k,b,e,rfl,eb,hl,rfl⟩
section
variable {X:Cx} {pins:List (Addr×Obj)} {σ:St} {H:Hp} {s:Shared} {a:Addr} {y v:V} {u r:Value} {o:Option V} {A:Around} {E:Value->Shared->Prop}
theorem Inv.big (I:Inv X pins σ H s):sysModules<s.heap.objs.size:=by
 have h:mainGlobals<s.heap.objs.size:=(I.mod.glob.keeps I.bk).lt
 exact Nat.lt_trans (by decide) h
theorem iS' {Q:Value->Shared->Prop} (hu:A.units+1<cLine) (I:Inv X pins σ H s) (g:kB' H a y (some v)) (ry:ao' y u) (h:∀w' s',Inv X pins σ H s'->ao' v w'->Q w' s'):
  wpAny (model X.prog X.w) A (getItem (.ref a) u) Q E s:=by
 rcases g with⟨kvs,k,e,ey,l⟩|⟨kvs,k,b,e,ey,eb,l⟩
 .subst ey
  obtain⟨z,hd,vs,rel,dd⟩:=hA' I.hok e
  obtain⟨w',hw,rw'⟩:=h7'.some_of (v:=v) (o:=valueAt vs k) (by rw[l];exact rel.val k)
  exact wpAny_getItem_of (iR' ry) dd.mapOf hw (h w' _ (I.tok _) rw')
 .subst ey
  cases(show u=Value.ref b from ry)
  obtain⟨z,hd,xs,rel,dd⟩:=fA' I.hok e
  obtain⟨w',hw,rw'⟩:=h7'.some_of (v:=v) (o:=(atKey xs k).map (·.2)) (by rw[l];exact rel.val k)
  obtain⟨p,hp,hp2⟩:=Option.map_eq_some_iff.mp hw
  refine wpAny_getItem_heap (tupleKind_room_in1 hu) (db' I.hok eb) dd hp ?_
  rw[hp2]
  exact h w' _ (I.tok _) rw'
theorem wB' {Q:Value->Shared->Prop} (hu:A.units+1<cLine) (I:Inv X pins σ H s) (g:kB' H a y o) (ry:ao' y u) (h:∀s',Inv X pins σ H s'->Q (.bool o.isSome) s'):
  wpAny (model X.prog X.w) A (compareOp .In u (.ref a)) Q E s:=by
 rcases g with⟨kvs,k,e,ey,l⟩|⟨kvs,k,b,e,ey,eb,l⟩
 .subst ey
  obtain⟨z,hd,vs,rel,dd⟩:=hA' I.hok e
  refine wpAny_in_of (iR' ry) hd dd.mapOf ?_
  rw[<- (rel.val k).isSome_eq,<- l]
  exact h _ (I.tok _)
 .subst ey
  cases(show u=Value.ref b from ry)
  obtain⟨z,hd,xs,rel,dd⟩:=fA' I.hok e
  refine wpAny_in_heap (tupleKind_room_in1 hu) (db' I.hok eb) hd dd ?_
  have q:=(rel.val k).isSome_eq
  rw[Option.isSome_map]at q
  rw[<- q,<- l]
  exact h _ (I.tok _)
theorem oC' {Q:Value->Shared->Prop} (hu:A.units+1<cLine) (I:Inv X pins σ H s) (g:kB' H a y o) (ry:ao' y u) (h:∀s',Inv X pins σ H s'->Q (.bool (!o.isSome)) s'):
  wpAny (model X.prog X.w) A (compareOp .NotIn u (.ref a)) Q E s:=by
 rcases g with⟨kvs,k,e,ey,l⟩|⟨kvs,k,b,e,ey,eb,l⟩
 .subst ey
  obtain⟨z,hd,vs,rel,dd⟩:=hA' I.hok e
  refine wpAny_notIn_of (iR' ry) hd dd.mapOf ?_
  rw[<- (rel.val k).isSome_eq,<- l]
  exact h _ (I.tok _)
 .subst ey
  cases(show u=Value.ref b from ry)
  obtain⟨z,hd,xs,rel,dd⟩:=fA' I.hok e
  refine wpAny_notIn_heap (tupleKind_room_in1 hu) (db' I.hok eb) hd dd ?_
  have q:=(rel.val k).isSome_eq
  rw[Option.isSome_map]at q
  rw[<- q,<- l]
  exact h _ (I.tok _)
theorem iT' {h':Heap} {t':Nat} {ob:HO} (I:Inv X pins σ H s) (mu:Mut (H a)) (hs:Heap.SameBut a s.heap h') (he:∃q,h'.get? a=some q) (new:av' X.prog X.w (upd H a ob) h' a ob):
  Inv X pins σ (upd H a ob) { s with heap:=h',toks:=t' }:=
 I.write (x:=a) (e:=a) mu (.inl rfl) (fun b q hb z=>(hs.2 b hb).trans z) he new
theorem qX' {P:Program} {w:World} {H':Hp} {h':Heap} {kvs:List (Key×V)} {vs:List (Key×Value)} (z:kvs.length<=sizeLine) (hd:(a == sysModules)=false) (rel:KV kvs vs) (dd:h'.DictOf (aC' P w) a vs):
  av' P w H' h' a (.dK kvs):=⟨z,hd,vs,rel,dd⟩
theorem iU' {H':Hp} {Q:Unit->Shared->Prop} (hu:A.units+1<cLine) (I:Inv X pins σ H s) (g:pX' H a y v H') (ry:ao' y u) (rv:ao' v r) (h:∀s',Inv X pins σ H' s'->Q () s'):
  wpAny (model X.prog X.w) A (setItem (.ref a) u r) Q E s:=by
 rcases g with⟨kvs,k,e,ey,l,eH⟩|⟨kvs,k,b,e,ey,eb,l,eH⟩
 .subst ey eH
  obtain⟨z,hd,vs,rel,dd⟩:=qW' I.hok e
  have hz:vs.length<=sizeLine:=by rw[<- rel.length];exact z
  have hl:(fz' kvs k v).length<=sizeLine:=by have:=da' kvs k v;omega
  refine wpAny_setItem_pairs (hsz:=hz) (iR' ry) dd fun h' dd' hs=>h _ ?_
  have he:∃q,h'.get? a=some q:=let⟨q,_,_,hq,_⟩:=dd';⟨q,hq⟩
  exact iT' I (by rw[e];exact True.intro) hs he (qX' hl hd (rel.put k rv) dd')
 .subst ey eH
  cases(show u=Value.ref b from ry)
  obtain⟨z,hd,xs,rel,dd⟩:=us' I.hok e
  have hz:xs.length<=sizeLine:=by rw[<- Paired.length rel];exact z
  have hl:(fz' kvs k v).length<=sizeLine:=by have:=da' kvs k v;omega
  refine wpAny_setItem_heap (hsz:=hz) (tupleKind_room_in1 hu) (db' I.hok eb) dd fun h' dd' hs=>h _ ?_
  obtain⟨q,es,ep,hq,h2,h3,h4,_,h5⟩:=dd'
  refine iT' I (by rw[e];exact True.intro) hs ⟨q,hq⟩ ⟨hl,hd,_,(rel.put k eb rv).keeps fun c ys ec=>?_,q,es,ep,hq,h2,h3,h4,h5⟩
  rw[ab' (tX' ec e (fun z=>nomatch z))]
  exact ec
end
section
variable {X:Cx} {pins:List (Addr×Obj)} {σ:St} {H:Hp} {s:Shared} {a:Addr} {kvs:List (Key×V)} {k:Key} {u:Value} {A:Around} {E:Value->Shared->Prop}
theorem ut' {Q:Value->Shared->Prop} (I:Inv X pins σ H s) (e:Rd H a (.dK kvs)) (h:∀t s',Inv X pins σ H s'->Q (.int kvs.length t) s'):wpAny (model X.prog X.w) A (call (.builtin "len") [.ref a]) Q E s:=by
 obtain⟨z,hd,vs,rel,dd⟩:=hA' I.hok e
 refine call_len_dict hd dd (by rw[<- rel.length];rw[sizeLine_eq]at z;omega) ?_
 rw[<- rel.length]
 exact h _ _ (I.tok _)
end
def vQ' (i:Expr):Prop:=∀ov iv,subscripted i false ov iv=operate [ov,iv] (getItem ov iv)
theorem oD' {prog:Program} {w:World} {A:Around} {E:Value->Shared->Prop} {s:Shared} {env:Env} {value slice:Expr} {pos:Pos} {T id:String} {Q:Value->Shared->Prop}
  (hl:typeLookup (.type T) "__getitem__"=pure (some (.builtin id))) (hs:vQ' slice)
  (h:wpAny (model prog w) A (eval value env) (fun o s₁=>wpAny (model prog w) A (eval slice env) (fun i s₂=>s₂.TypeIs o T/\wpAny (model prog w) A (getItem o i) Q E s₂) E s₁) E s):
  wpAny (model prog w) A (eval (.Subscript value slice pos) env) Q E s:=by
 refine Subscript_ (wpAny_mono h (fun o s₁ h₁=>wpAny_mono h₁ (fun i s₂ h₂=>?_) fun _ _ x=>x) fun _ _ x=>x)
 obtain⟨hT,h₂⟩:=h₂
 unfold subscriptTail
 refine wpAny_bind ?_
 rw[getitemInPython_of_ne hT.not_modules]
 refine wpAny_bind (wpAny_specialOf hT hl ?_)
 have fin:wpAny (model prog w) A (subscripted slice false o i) (fun r s₃=>wpAny (model prog w) A (letTemporaryGo value o r >>= fun _=>pure r) Q E s₃) E s₂:=by
  rw[hs o i]
  exact wpAny_operating (wpAny_mono h₂ (fun r s₃ h₃=>wpAny_bind (wpAny_letTemporaryGo (wpAny_pure h₃))) fun _ _ x=>x)
 first
  |exact wpAny_pure (wpAny_bind fin)
  |exact wpAny_bind (wpAny_pure (wpAny_bind fin))
  |exact wpAny_bind fin
theorem fB' {X:Cx} {pins:List (Addr×Obj)} {σ:St} {H:Hp} {s:Shared} {a:Addr} {y:V} {o:Option V} (I:Inv X pins σ H s) (g:kB' H a y o):s.TypeIs (.ref a) "dict":=by
 rcases g with⟨kvs,k,e,_,_⟩|⟨kvs,k,b,e,_,_,_⟩
 .obtain⟨_,_,vs,_,dd⟩:=hA' I.hok e
  exact dd.typeIs
 .obtain⟨_,_,xs,_,dd⟩:=fA' I.hok e
  exact dd.typeIs
noncomputable def oE' (td ty:TE):TE:=fun σ H Q=>td σ H fun x H1=>ty σ H1 fun y H2=>∃a v,x=.ref a/\kB' H2 a y (some v)/\Q v H2
noncomputable def oF' (td ty tv:TE):TS:=fun D σ H=>tv σ H fun v H1=>td σ H1 fun x H2=>ty σ H2 fun y H3=>∃a H4,x=.ref a/\pX' H3 a y v H4/\D.nx σ H4
section
variable {X:Cx} {o i e value:Expr} {pos pos' tpos:Pos} {td ty tv:TE}
theorem oG' (hu:X.A.units+1<cLine) (ho:PE X o td) (hi:PE X i ty) (hs:vQ' i):PE X (.Subscript o i pos) (oE' td ty):=by
 intro pins s σ H Q I h
 refine oD' PySem.F.slot_dict_getitem.lookup hs (thn (ho pins s σ H _ I h) fun u s1 ⟨x,H1,I1,rx,q1⟩=>thn (hi pins s1 σ H1 _ I1 q1) fun iv s2 ⟨y,H2,I2,ry,a,v,ex,g,q2⟩=>?_)
 subst ex
 obtain rfl:u=Value.ref a:=rx
 exact⟨fB' I2 g,iS' hu I2 g ry fun w' s3 I3 rw'=>⟨v,H2,I3,rw',q2⟩⟩
theorem oH' (hu:X.A.units+1<cLine) (ho:PE X o td) (hi:PE X i ty) (hv:PE X value tv) (hs:swapsWith value (some (.Subscript o i pos')) pos.line X.env=pure false):
  PS X (.Assign [.Subscript o i pos'] value pos) (oF' td ty tv):=by
 intro pins s σ H D I h
 refine wpAny_Assign_Subscript (thn (hv pins s σ H _ I h) fun r s1 ⟨v,H1,I1,rv,q1⟩=>thn (ho pins s1 σ H1 _ I1 q1) fun u s2 ⟨x,H2,I2,rx,q2⟩=>thn (hi pins s2 σ H2 _ I2 q2) fun iv s3 ⟨y,H3,I3,ry,a,H4,ex,g,q3⟩=>?_) hs
 subst ex
 obtain rfl:u=Value.ref a:=rx
 exact iU' hu I3 g ry rv fun s4 I4=>⟨σ,H4,I4,q3⟩
end
theorem k3' {P:Program} {w:World} {H:Hp} (h:Heap) (hb:sysModules<h.objs.size):av' P w H (h.push { cls:=.type "dict",data:=.dict #[] }) h.objs.size (.dT []):=
 ⟨Nat.zero_le _,beq_eq_false_iff_ne.mpr (Ne.symm (Nat.ne_of_lt hb)),[],.nil,_,#[],0,Heap.get?_push_size _ rfl,⟨rfl,rfl,rfl⟩,rfl,rfl,List.nodup_nil⟩
noncomputable def iV':TE:=fun _ H Q=>∀p,H p=none->Q (.ref p) (upd H p (.dT []))
section
variable {X:Cx} {pos:Pos}
theorem k4':PE X (.Dict [] [] pos) iV':=fun pins s σ H Q I h=>
 wpAny_Dict_empty ⟨.ref s.heap.objs.size,_,I.laid (a:=s.heap.objs.size) (o:=.dT []) (t':=s.toks) (fun _ _ q=>Heap.get?_push_of_some _ q) (Nat.le_refl _) (k3' s.heap I.big),rfl,h _ (I.hok.fresh (Nat.le_refl _))⟩
end
structure M1 (X:Cx) (o:Expr) (m:Str) (apos:Pos) (e:Expr) (cpos:Pos):Prop where
 base:attributeBase o m X.env (eval o X.env)=eval o X.env
 few:((backTo cpos (starEach [e] X.env)).all (fun x=>!x.1)&&(backToKw cpos (keywordEach [] X.env)).all (fun x=>x.1.isSome)
  && decide (([e]:List Expr).length+([]:List Keyword).length+(if([]:List Keyword).isEmpty then 0 else 1)<30))=true
 line:(apos.endLine == cpos.line)=true
 trees:backTo cpos (starEach [e] X.env)=[(false,eval e X.env)]
structure M2 (X:Cx) (o:Expr) (m:Str) (apos:Pos) (e f:Expr) (cpos:Pos):Prop where
 base:attributeBase o m X.env (eval o X.env)=eval o X.env
 few:((backTo cpos (starEach [e,f] X.env)).all (fun x=>!x.1)&&(backToKw cpos (keywordEach [] X.env)).all (fun x=>x.1.isSome)
  && decide (([e,f]:List Expr).length+([]:List Keyword).length+(if([]:List Keyword).isEmpty then 0 else 1)<30))=true
 line:(apos.endLine == cpos.line)=true
 trees:backTo cpos (starEach [e,f] X.env)=[(false,eval e X.env),(false,eval f X.env)]
section
variable {X:Cx} {pins:List (Addr×Obj)} {σ:St} {H:Hp} {s:Shared} {a:Addr} {y d:V} {u r:Value} {o:Option V} {A:Around} {E:Value->Shared->Prop}
end
section
variable {X:Cx} {o e f:Expr} {apos cpos:Pos} {td ty tx:TE}
end
section
variable {X:Cx} {pins:List (Addr×Obj)} {σ:St} {H:Hp} {s:Shared} {a:Addr} {kvs:List (Key×V)} {A:Around} {E:Value->Shared->Prop}
end
section
variable {X:Cx} {pins:List (Addr×Obj)} {σ:St} {H:Hp} {s:Shared} {a:Addr} {y:V} {u:Value} {A:Around} {E:Value->Shared->Prop}
end
section
variable {X:Cx}
theorem iW':aH' X (.builtin "len") (fun xs H Q=>∃a kvs,xs=[V.ref a]/\H a=some (.dK kvs)/\Q (.int kvs.length) H):=by
 intro pins s σ H xs us Q I r h
 obtain⟨a,kvs,rfl,ha,q⟩:=h
 obtain⟨u,rfl,ru⟩:=b2' r
 cases ru
 exact ut' I (.inl ha) fun t s' I'=>⟨.int kvs.length,H,I',⟨t,rfl⟩,q⟩
end
section
variable {κ:Type} [DecidableEq κ]
end
noncomputable def Itc (lo c:Int) (n:Nat):It:=⟨fun i _=>i<n,fun i H x H'=>H'=H/\x=.int (lo+i*c),fun i _=>n<=i⟩
section
variable {prog:Program} {w:World} {A:Around} {E:Value->Shared->Prop} {s:Shared}
end
section
variable {X:Cx} {tg:Expr}
noncomputable def uu' (i j c:Int):Nat:=if i<j then((j-i-1) / c+1).toNat else 0
noncomputable def uv' (i j c:Int):Nat:=if c=-1 then(i-j).toNat else uu' i j c
end
section
variable {X:Cx}
theorem oI' {i:Int} (h:0<=i):Builtin.bitAnd i 1=i % 2:=by
 rw[PyProof.Rows.bitAnd_pp h (by decide)]
 have e:(1:Int).toNat=1:=rfl
 rw[e,Nat.and_one_is_mod]
 omega
theorem oJ':OpR X (binaryOp .BitAnd) (rI (fun i j=>0<=i/\j=1) fun i _=>.int (i % 2)):=by
 intro pins s σ H x y v u Q I rx ry h
 obtain⟨i,j,rfl,rfl,⟨h0,rfl⟩,q⟩:=h
 refine qt' pins s σ H _ _ v u Q I rx ry ⟨i,1,rfl,rfl,?_⟩
 have q':Q (.int (i % 2)) H:=q
 rw[<- oI' h0]at q'
 exact q'
noncomputable def inT (x y:Str):Bool:=!(Builtin.Str.occurrences x y 0 x.length 1).isEmpty
noncomputable def tL' (neg:Bool):R2:=fun x y H Q=>∃a b,x=.str a/\y=.str b/\Q (.bl (if neg then !inT b a else inT b a)) H
theorem qY':OpR X (compareOp .In) (tL' false):=by
 intro pins s σ H x y v u Q I rx ry h
 obtain⟨a,b,rfl,rfl,q⟩:=h
 obtain⟨t,rfl⟩:=rx
 obtain⟨t',rfl⟩:=ry
 exact in_str ⟨.bl _,H,I,rfl,q⟩
theorem iX':OpR X (compareOp .NotIn) (tL' true):=by
 intro pins s σ H x y v u Q I rx ry h
 obtain⟨a,b,rfl,rfl,q⟩:=h
 obtain⟨t,rfl⟩:=rx
 obtain⟨t',rfl⟩:=ry
 have q':Q (.bl (!inT b a)) H:=q
 refine notIn_str ⟨.bl (!inT b a),H,I,?_,q'⟩
 show Value.bool _=Value.bool _
 simp[inT]
end
section
variable {X:Cx}
noncomputable def wC' (x y:Str):Bool:=decide (y.cps.toList<x.cps.toList)
noncomputable def vR':R2:=fun x y H Q=>∃a b,x=.str a/\y=.str b/\Q (.bl (wC' a b)) H
theorem qZ':OpR X (compareOp .Gt) vR':=by
 intro pins s σ H x y v u Q I rx ry h
 obtain⟨a,b,rfl,rfl,k⟩:=h
 obtain⟨t,rfl⟩:=rx
 obtain⟨t',rfl⟩:=ry
 exact PySem.P.gt_str ⟨.bl _,H,I,rfl,k⟩
noncomputable def dSc:V->Bool
 | .int _=>true
 | .str _=>true
 | .bl _=>true
 | .non=>true
 |_=>false
noncomputable def Dq (H:Hp):Nat->V->V->Prop
 |0,v,w=>v=w/\dSc v=true
 |n+1,v,w=>(v=w/\dSc v=true)\/∃a b xs ys,v=.ref a/\w=.ref b/\((H a=some (.lst xs)/\H b=some (.lst ys))\/(H a=some (.tup xs)/\H b=some (.tup ys)))/\xs.length=ys.length/\∀(i:Nat) x y,xs[i]?=some x->ys[i]?=some y->Dq H n x y
open PySem.SeqAt in
theorem q0' {A:Around} {s:Shared} {x:V} {u v:Value} (h:dSc x=true) (r1:ao' x u) (r2:ao' x v):EqAt A s u v true:=by
 have:=c9' (A:=A) (s:=s) r1 r2 (.inl (by cases x<;>first|(cases h;done)|exact⟨rfl,fun b=>by intro z;cases z⟩))
 rw[decide_eq_true rfl]at this
 exact this
theorem bR' {n:Nat}:(List.range n).all (fun _=>true)=true:=by simp
theorem bY' {its:List Value} {j:Nat} {u:Value} (e:its[j]?=some u) (h:j<its.toArray.size):its.toArray[j]=u:=by
 simp at h ⊢
 rw[List.getElem?_eq_getElem h]at e
 exact Option.some.inj e
open PySem.SeqAt in
theorem bS' {n:Nat} {H:Hp} {A:Around} {s:Shared} {xs ys:List V} {its its2:List Value} (ih:∀x y u v,Dq H n x y->ao' x u->ao' y v->EqAt A.in1 s u v true) (hl:xs.length=ys.length) (r1:az' xs its) (r2:az' ys its2)
  (he:∀(i:Nat) x y,xs[i]?=some x->ys[i]?=some y->Dq H n x y):∀j (h1:j<its.toArray.size) (h2:j<its2.toArray.size),EqAt A.in1 s its.toArray[j] its2.toArray[j] ((fun _=>true) j):=by
 intro j h1 h2
 have l1:=r1.length
 have j1:j<xs.length:=by simp at h1;omega
 have j2:j<ys.length:=by omega
 have g1:xs[j]?=some xs[j]:=List.getElem?_eq_getElem j1
 have g2:ys[j]?=some ys[j]:=List.getElem?_eq_getElem j2
 obtain⟨u1,e1,ru1⟩:=r1.get g1
 obtain⟨u2,e2,ru2⟩:=r2.get g2
 rw[bY' e1 h1,bY' e2 h2]
 exact ih _ _ _ _ (he j _ _ g1 g2) ru1 ru2
open PySem.SeqAt in
theorem q1' {pins:List (Addr×Obj)} {σ:L2.St} {H:Hp} {s:Shared} (I:Inv X pins σ H s):∀(n:Nat) (A:Around) (x y:V) (u v:Value),A.units+n<cLine->Dq H n x y->ao' x u->ao' y v->EqAt A s u v true:=by
 intro n
 induction n with
 |zero=>
  rintro A x y u v hu ⟨rfl,hs⟩ r1 r2
  exact q0' hs r1 r2
 |succ n ih=>
  rintro A x y u v hu h rx ry
  rcases h with⟨rfl,hs⟩|⟨a,b,xs,ys,rfl,rfl,hab,hl,he⟩
  .exact q0' hs rx ry
  cases rx
  cases ry
  by_cases hne:a=b
  .subst hne;exact EqAt.same _
  have ih':∀x y u v,Dq H n x y->ao' x u->ao' y v->EqAt A.in1 s u v true:=fun x y u v=>ih A.in1 x y u v (by show A.units+1+n<cLine;omega)
  rcases hab with⟨h1,h2⟩|⟨h1,h2⟩
  .obtain⟨its,r1,pl1,_⟩:=I.list (SqL.of h1)
   obtain⟨its2,r2,pl2,_⟩:=I.list (SqL.of h2)
   have l1:=r1.length
   have l2:=r2.length
   have:=RcAt.lists pl1.isList pl2.isList (by simp;omega) (by omega) (bS' ih' hl r1 r2 he)
   rw[bR']at this
   exact EqAt.of_refs hne this
  .obtain⟨its,r1,pl1,_⟩:=I.tuple (SqT.of h1)
   obtain⟨its2,r2,pl2,_⟩:=I.tuple (SqT.of h2)
   have l1:=r1.length
   have l2:=r2.length
   have:=RcAt.tuples pl1 pl2 (by omega) (bS' ih' hl r1 r2 he)
   rw[bR']at this
   have e:(true&&its.toArray.size == its2.toArray.size)=true:=by simp;omega
   rw[e]at this
   exact EqAt.of_refs hne this
noncomputable def tM' (neg:Bool):R2:=fun x y H Q=>∃n,n<=8/\Dq H n x y/\(∃a b,x=.ref a/\y=.ref b)/\Q (.bl (!neg)) H
theorem Dq.open {H:Hp} {n:Nat} {a b:Addr} (h:Dq H n (.ref a) (.ref b)):∃m xs ys,n=m+1/\((H a=some (.lst xs)/\H b=some (.lst ys))\/(H a=some (.tup xs)/\H b=some (.tup ys)))/\xs.length=ys.length/\∀(i:Nat) x y,xs[i]?=some x->ys[i]?=some y->Dq H m x y:=by
 cases n with
 |zero=>exact(Bool.false_ne_true h.2).elim
 |succ m=>
  rcases h with⟨_,hs⟩|⟨a',b',xs,ys,e1,e2,hab,hl,he⟩
  .cases hs
  .cases e1;cases e2;exact⟨m,xs,ys,rfl,hab,hl,he⟩
open PySem.SeqAt in
theorem q2' (hu:X.A.units+64<cLine):OpR X (compareOp .Eq) (tM' false):=by
 intro pins s σ H x y v u Q I rx ry h
 obtain⟨n,hn,hd,⟨a,b,rfl,rfl⟩,k⟩:=h
 cases rx
 cases ry
 obtain⟨m,xs,ys,rfl,hab,hl,he⟩:=hd.open
 have ih':∀x y u v,Dq H m x y->ao' x u->ao' y v->EqAt X.A.in1 s u v true:=fun x y u v=>q1' I m X.A.in1 x y u v (by show X.A.units+1+m<cLine;omega)
 rcases hab with⟨h1,h2⟩|⟨h1,h2⟩
 .obtain⟨its,r1,pl1,_⟩:=I.list (SqL.of h1)
  obtain⟨its2,r2,pl2,_⟩:=I.list (SqL.of h2)
  have l1:=r1.length
  have l2:=r2.length
  refine eq_listAt pl1.isList pl2.isList (by simp;omega) (by omega) (bS' ih' hl r1 r2 he) ?_
  rw[bR']
  exact⟨.bl true,H,I,rfl,k⟩
 .obtain⟨its,r1,pl1,_⟩:=I.tuple (SqT.of h1)
  obtain⟨its2,r2,pl2,_⟩:=I.tuple (SqT.of h2)
  have l1:=r1.length
  have l2:=r2.length
  refine eq_tupleAt pl1 pl2 (by omega) (bS' ih' hl r1 r2 he) ?_
  have e:(true&&its.toArray.size == its2.toArray.size)=true:=by simp;omega
  rw[bR',e]
  exact⟨.bl true,H,I,rfl,k⟩
open PySem.SeqAt in
theorem q3' (hu:X.A.units+64<cLine):OpR X (compareOp .NotEq) (tM' true):=by
 intro pins s σ H x y v u Q I rx ry h
 obtain⟨n,hn,hd,⟨a,b,rfl,rfl⟩,k⟩:=h
 cases rx
 cases ry
 obtain⟨m,xs,ys,rfl,hab,hl,he⟩:=hd.open
 have ih':∀x y u v,Dq H m x y->ao' x u->ao' y v->EqAt X.A.in1 s u v true:=fun x y u v=>q1' I m X.A.in1 x y u v (by show X.A.units+1+m<cLine;omega)
 have hend:EP X pins σ Q (Value.bool false) s:=⟨.bl false,H,I,rfl,k⟩
 rcases hab with⟨h1,h2⟩|⟨h1,h2⟩
 .obtain⟨its,r1,pl1,_⟩:=I.list (SqL.of h1)
  obtain⟨its2,r2,pl2,_⟩:=I.list (SqL.of h2)
  have l1:=r1.length
  have l2:=r2.length
  obtain⟨⟨cls,dd,data,sl⟩,ho,hc,n1,hd1⟩:=pl1.isList
  obtain⟨⟨cls2,dd2,data2,sl2⟩,ho2,hc2,n2,hd2⟩:=pl2.isList
  simp only at hc hd1 hc2 hd2
  subst hc hd1 hc2 hd2
  refine richCompare_meets_room (op:=.NotEq) ⟨_,ho,rfl⟩ ⟨_,ho2,rfl⟩ F.slot_list_ne F.entry_list_ne (F.args_list_ne_2 _ _) (list_neAt a b its.toArray its2.toArray n1 n2 dd dd2 sl sl2 (by simp;omega) (fun _=>true)) ⟨ho,ho2,bS' ih' hl r1 r2 he,?_⟩ (by omega)
  rw[bR']
  exact(show Value.bool false≠Value.notImplemented/\EP X pins σ Q (Value.bool false) s from⟨(fun x=>nomatch x),hend⟩)
 .obtain⟨its,r1,pl1,_⟩:=I.tuple (SqT.of h1)
  obtain⟨its2,r2,pl2,_⟩:=I.tuple (SqT.of h2)
  have l1:=r1.length
  have l2:=r2.length
  obtain⟨⟨cls,dd,data,sl⟩,ho,hc,n1,hd1⟩:=id pl1
  obtain⟨⟨cls2,dd2,data2,sl2⟩,ho2,hc2,n2,hd2⟩:=id pl2
  simp only at hc hd1 hc2 hd2
  subst hc hd1 hc2 hd2
  refine richCompare_meets_room (op:=.NotEq) ⟨_,ho,rfl⟩ ⟨_,ho2,rfl⟩ F.slot_tuple_ne F.entry_tuple_ne (F.args_tuple_ne_2 _ _) (tuple_neAt a b its.toArray its2.toArray n1 n2 dd dd2 sl sl2 (fun _=>true)) ⟨ho,ho2,bS' ih' hl r1 r2 he,?_⟩ (by omega)
  have e:(true&&its.toArray.size == its2.toArray.size)=true:=by simp;omega
  rw[bR',e]
  exact(show Value.bool false≠Value.notImplemented/\EP X pins σ Q (Value.bool false) s from⟨(fun x=>nomatch x),hend⟩)
end
end L2
namespace HT
open PySem PyProof.Rows
open PySem.SeqAt
open PySem.MeetsSeq PySem.MeetsSeq2 PySem.MeetsSeq3
section
variable {prog:Program} {w:World} {A:Around} {E:Value->Shared->Prop} {s:Shared}
theorem k5' {t b:Addr} {ws:List Value} {Q:Value->Shared->Prop} (ht:IsTup s.heap t #[]) (hb:IsTup s.heap b ws.toArray) (h0:Q (.ref b) s):wpAny (model prog w) A (binaryOp .Add (.ref t) (.ref b)) Q E s:=by
 obtain⟨⟨cls,dd,data,sl⟩,ho,hc,n,hd⟩:=id ht
 obtain⟨⟨cls2,dd2,data2,sl2⟩,ho2,hc2,n2,hd2⟩:=id hb
 simp only at hc hd hc2 hd2
 subst hc hd hc2 hd2
 exact concat_meets ⟨_,ho,rfl⟩ ⟨_,ho2,rfl⟩ noFill_tuple_add seq_tuple_add PySem.F.slot_tuple_add PySem.F.entry_tuple_add (PySem.F.args_tuple_add_2 _ _)
  (tuple_addW0 t b #[] ws.toArray n n2 dd dd2 sl sl2 rfl) ⟨ho,ho2,h0⟩
end
end HT
namespace L2
open PySem PySem.Spec PyProof.Rows
section
variable {X:Cx}
noncomputable def ml' (K:W.Frag):R2:=fun x y H Q=>∃a b ys,x=.ref a/\y=.ref b/\SqT K H a []/\SqT K H b ys/\Q (.ref b) H
theorem k7':OpR X (binaryOp .Add) (ml' X.K):=by
 intro pins s σ H x y v u Q I rx ry h
 obtain⟨a,b,ys,rfl,rfl,ha,hb,q⟩:=h
 cases rx
 cases ry
 obtain⟨its,r1,p1,_⟩:=I.tuple ha
 obtain⟨its2,r2,p2,_⟩:=I.tuple hb
 have e:its=[]:=r1.nil_iff.mpr rfl
 subst e
 exact HT.k5' p1 p2 ⟨.ref b,H,I,rfl,q⟩
end
end L2
namespace L2
open PySem PySem.Spec PyProof.Rows PySem.Calls PySem.NumText
def B2 (x:PySem.Str) (n:Int):Prop:=(x.cps.all (· < 128))=true/\(x.cps.toList.takeWhile (· != 0)).length<=640/\(int_private% "readNumeral") 0 2 (x.cps.toList.takeWhile (· != 0))=(int_private% "Numeral.value") n/\((x.cps.toList.takeWhile (· != 0)).length == x.cps.toList.length)=true
theorem k8' {M:Model} {A:Around} {E:Value->Shared->Prop} {s:Shared} {Q:Value->Shared->Prop} {v:Value} {text:List Nat} {n:Int}
  (hs:(text.takeWhile (· != 0)).length<=640) (hr:(int_private% "readNumeral") 0 2 (text.takeWhile (· != 0))=(int_private% "Numeral.value") n)
  (ha:((text.takeWhile (· != 0)).length == text.length)=true) (h:Q (.int n s.toks) { s with toks:=s.toks+1 }):
  wpAny M A ((int_private% "intFromText") v text 2) Q E s:=by
 obtain⟨hp,g,d,tk,os⟩:=s
 repeat (any_goals (first
  |assumption
  |(with_reducible refine wpAny_ite_true (decide_eq_true hs) ?_)
  |(with_reducible refine wpAny_ite_true (decide_eq_true ha) ?_)
  |wp_step))
 all_goals (try rw[hr])
 all_goals (try dsimp only)
 repeat (any_goals (first
  |assumption
  |(with_reducible refine wpAny_ite_true (decide_eq_true hs) ?_)
  |(with_reducible refine wpAny_ite_true (decide_eq_true ha) ?_)
  |wp_step))
set_option maxHeartbeats 4000000 in
theorem fC' {x:PySem.Str} {u v:Tok} {n:Int} (hb:B2 x n):Gives (Builtin.«int.__new__» ⟨[.type "int",.str x u,.int 2 v],[]⟩) (.int n):=
 .of_wp fun M A E s Q h=>by
  obtain⟨hp,g,d,tk,os⟩:=s
  have f1:=F.conv_sub_int
  have f2:=F.madeHere_int
  have f6:typeOf (.str x u)=pure (.type "str"):=rfl
  have hk:=W.KIN.Hid.mk hb
  clear hb
  repeat (any_goals (first
   |assumption
   |((with_reducible show wpAny _ _ ((int_private% "intFromText") _ _ _) _ _ _);rw[if_pos hk.out.1];refine k8' hk.out.2.1 hk.out.2.2.1 hk.out.2.2.2 ?_)
   |wp_step))
  all_goals first|exact⟨_,rfl,h⟩|skip
theorem dA' (a b:Value):checkTypeCall "int" ⟨[a,b],[]⟩=pure ():=by kernel_rfl
theorem d8' (a b:Value):checkBuiltinCall "int.__new__" ⟨[.type "int",a,b],[]⟩=pure ():=by kernel_rfl
section
variable {X:Cx}
noncomputable def q4':List V->Hp->VK->Prop:=fun xs H Q=>∃x n,xs=[.str x,.int 2]/\B2 x n/\Q (.int n) H
theorem iY':aH' X (.type "int") q4':=by
 intro pins s σ H xs us Q I r h
 obtain⟨x,n,rfl,hb,q⟩:=h
 obtain⟨u,v,rfl,⟨t,rfl⟩,⟨t',rfl⟩⟩:=im' r
 exact callType_new F.called_int F.newNe_int (dA' _ _) (d8' _ _) (fun obj=>F.args_object_init_3 obj _ _) F.entry_int_new (fC' hb).meets (show(Made.int n).post _ s from⟨rfl,⟨.int n,H,I.tok _,⟨_,rfl⟩,q⟩⟩)
theorem iZ':aH' X (.type "int") (fun xs H Q=>vM' xs H Q\/q4' xs H Q):=iJ'.or iY'
end
section
variable {X:Cx}
end
end L2
namespace PySem
open PyProof.Rows
section
variable {prog:Program} {w:World} {A:Around} {E:Value->Shared->Prop} {s:Shared}
end
theorem mm' {h h':Heap} {t:Addr} {items:Array Value} (x:IsTup h t items) (k:∀o,h.get? t=some o->h'.get? t=some o):IsTup h' t items:=let⟨o,ho,r⟩:=x;⟨o,k o ho,r⟩
section
variable {prog:Program} {w:World} {A:Around} {E:Value->Shared->Prop} {s:Shared}
end
section
variable {prog:Program} {w:World} {A:Around} {E:Value->Shared->Prop} {s:Shared}
end
end PySem
namespace L2
open PySem PySem.Spec PyProof.Rows
section
variable {X:Cx}
end
end L2
namespace HT
open PySem PyProof.Rows
section
variable {prog:Program} {w:World} {A:Around} {E:Value->Shared->Prop} {s:Shared}
theorem b4' {t sl:Addr} {items:Array Value} {vl vu:Value} {lo hi:Option Int} {Q:Value->Shared->Prop} (ht:IsTup s.heap t items) (hs:s.heap.IsSliceOf sl vl vu .none) (pl:IsPart vl lo) (pu:IsPart vu hi)
  (hw:sIx items.size 0 lo=0/\sIx items.size items.size hi=items.size)
  (h:Q (.ref t) s):wpAny (model prog w) A (getItem (.ref t) (.ref sl)) Q E s:=by
 obtain⟨os,hos,hcs,hds⟩:=id hs
 have hTs:s.TypeIs (.ref sl) "slice":=⟨os,hos,hcs⟩
 unfold getItem
 try with_reducible refine wpAny_holding ?_
 first|refine wpAny_bind (wpAny_pure ?_)|skip
 refine wpAny_bind (wpAny_sequenceKey ht.typeIs (by decide) ?_)
 refine wpAny_bind (wpAny_callSpecial?_slot (name:=Str.ofString "__getitem__") ht.typeIs PyProof.Rows.slot_tuple_getitem
  (wpAny_call_entry PyProof.Rows.slot_tuple_getitem ht.typeIs entry_tuple_getitem ?_ (args_tuple_getitem _ _)))
 show wpAny _ _ (Builtin.Tuple.tupleItemsOf (.ref t) >>= _) _ _ s
 refine wpAny_bind (tupleItemsOf_ ht ?_)
 refine wpAny_bind (wpAny_typeOf hTs ?_)
 rw[if_pos (by decide)]
 refine wpAny_bind (bF' hs pl pu ?_)
 have hyes:(((sIx items.size 0 lo:Nat):Int) == 0&&(1:Int) == 1&&(sIx items.size items.size hi-sIx items.size 0 lo) == items.size)=true:=by
  rw[hw.1,hw.2]
  simp
 show wpAny _ _ (if(((sIx items.size 0 lo:Nat):Int) == 0&&(1:Int) == 1&&(sIx items.size items.size hi-sIx items.size 0 lo) == items.size)=true then _ else _) _ _ s
 rw[if_pos hyes]
 obtain⟨ot,hot,hct,nt,hdt⟩:=id ht
 refine wpAny_bind (wpAny_mono (Q:=fun b s'=>b=true/\s'=s) (E:=E) ?_ ?_ (fun _ _ z=>z))
 .unfold Builtin.Tuple.tupleIsExact
  exact wpAny_bind (wpAny_typeOf ht.typeIs (wpAny_pure ⟨rfl,rfl⟩))
 .rintro b s' ⟨rfl,rfl⟩
  rw[if_pos rfl]
  exact wpAny_bind (wpAny_rule (wpAny_pure ⟨_,rfl,wpAny_pure h⟩))
end
end HT
namespace L2
open PySem PySem.Spec PyProof.Rows
section
variable {X:Cx}
noncomputable def tN' (K:W.Frag):V->Option Int->Option Int->Hp->VK->Prop:=fun x lo hi H Q=>∃a xs,x=.ref a/\SqT K H a xs/\(HT.sIx xs.length 0 lo=0/\HT.sIx xs.length xs.length hi=xs.length)/\Q (.ref a) H
theorem k9':SlR X (tN' X.K):=by
 intro pins s σ H x v vl vu lo hi sl Q I rx hs pl pu h
 obtain⟨a,xs,rfl,hx,hw,q⟩:=h
 cases rx
 obtain⟨its,r,ht,hz⟩:=I.tuple hx
 have hlen:its.toArray.size=xs.length:=by rw[List.size_toArray];exact r.length.symm
 refine⟨"tuple",_,PyProof.Rows.slot_tuple_getitem.lookup,ht.typeIs,?_⟩
 exact HT.b4' ht hs pl pu (by rw[hlen];exact hw) ⟨.ref a,H,I,rfl,q⟩
end
section
variable {X:Cx} {pins:List (Addr×Obj)} {σ:St} {H:Hp} {s:Shared}
variable {X:Cx}
end
end L2
namespace HT
open PySem PyProof.Rows
section
variable {prog:Program} {w:World} {A:Around} {E:Value->Shared->Prop} {s:Shared}
end
end HT
namespace L2
open PySem PySem.Spec PyProof.Rows
section
variable {X:Cx} {e st:Expr} {te:TE} {p2 pos:Pos}
end
section
variable {prog:Program} {w:World} {A:Around} {E:Value->Shared->Prop} {s:Shared} {b0:Array Keyed} {κ:PyProof.Rows.KeyKind}
end
section
variable {X:Cx}
end
end L2
namespace L2
open PySem PySem.Spec PyProof.Rows PySem.SeqAt
def Ls1 (H:Hp) (v:V) (ns:List Int):Prop:=∃p,v=.ref p/\H p=some (.lst (ns.map V.int))
def LL (H:Hp) (a:Addr) (L:List (List Int)):Prop:=∃vs,H a=some (.lst vs)/\vs.length=L.length/\∀(i:Nat) v ns,vs[i]?=some v->L[i]?=some ns->Ls1 H v ns
theorem a2':∀{a b:List Int},a.map V.int=b.map V.int->a=b
 | [],[],_=>rfl
 | [],_ :: _,h=>by cases h
 |_ :: _,[],h=>by cases h
 |x :: a,y :: b,h=>by
  rw[List.map_cons,List.map_cons]at h
  injection h with h1 h2
  injection h1 with h1
  rw[h1,a2' h2]
theorem d9' {α:Type} [DecidableEq α] {a b:List α} (h:a.length=b.length):(List.range a.length).all (fun i=>decide (a[i]?=b[i]?))=decide (a=b):=by
 by_cases e:a=b
 .subst e;simp
 .rw[decide_eq_false e,Bool.eq_false_iff]
  intro z
  apply e
  apply List.ext_getElem?
  intro i
  rw[List.all_eq_true]at z
  by_cases hi:i<a.length
  .exact of_decide_eq_true (z i (List.mem_range.mpr hi))
  .rw[List.getElem?_eq_none (by omega),List.getElem?_eq_none (by omega)]
section
variable {X:Cx} {pins:List (Addr×Obj)} {σ:L2.St} {H:Hp} {s:Shared}
theorem mn' (I:Inv X pins σ H s) {A:Around} {v w:V} {u u':Value} {ns ms:List Int} (hu:A.units+1<cLine) (h1:Ls1 H v ns) (h2:Ls1 H w ms) (r1:ao' v u) (r2:ao' w u'):EqAt A s u u' (decide (ns=ms)):=by
 obtain⟨p,rfl,e1⟩:=h1
 obtain⟨q,rfl,e2⟩:=h2
 cases r1
 cases r2
 by_cases hpq:p=q
 .subst hpq
  rw[e1]at e2
  have:ns=ms:=a2' (by injection e2 with e2;injection e2 with e2)
  rw[decide_eq_true this]
  exact EqAt.same _
 obtain⟨its,v1,pl1,_⟩:=I.list (SqL.of e1)
 obtain⟨its2,v2,pl2,_⟩:=I.list (SqL.of e2)
 have l1:=v1.length
 have l2:=v2.length
 rw[List.length_map]at l1 l2
 by_cases hl:ns.length=ms.length
 .have:=RcAt.lists (e:=fun j=>decide (ns[j]?=ms[j]?)) pl1.isList pl2.isList (by simp;omega) (by omega) (A:=A) (fun j h1 h2=>?_)
  .rw[List.size_toArray,<- l1,d9' hl]at this
   exact EqAt.of_refs hpq this
  .have j1:j<ns.length:=by simp at h1;omega
   have j2:j<ms.length:=by omega
   obtain⟨u1,f1,ru1⟩:=v1.get (i:=j) (by rw[List.getElem?_map,List.getElem?_eq_getElem j1];rfl)
   obtain⟨u2,f2,ru2⟩:=v2.get (i:=j) (by rw[List.getElem?_map,List.getElem?_eq_getElem j2];rfl)
   rw[bY' f1 h1,bY' f2 h2]
   have:=c9' (A:=A.in1) (s:=s) ru1 ru2 (.inl ⟨rfl,fun b z=>by cases z⟩)
   rw[show decide (V.int ns[j]=V.int ms[j])=decide (ns[j]?=ms[j]?) by
    rw[List.getElem?_eq_getElem j1,List.getElem?_eq_getElem j2]
    simp]at this
   exact this
 .rw[decide_eq_false (fun z=>hl (by rw[z]))]
  exact EqAt.of_refs hpq (RcAt.lists_lengths pl1.isList pl2.isList (by simp;omega) (by omega))
noncomputable def vS' (neg:Bool):R2:=fun x y H Q=>∃a b L M,x=.ref a/\y=.ref b/\LL H a L/\LL H b M/\Q (.bl (decide (L=M))) H
theorem q5' (hu:X.A.units+64<cLine):OpR X (compareOp .Eq) (vS' false):=by
 intro pins s σ H x y v u Q I rx ry h
 obtain⟨a,b,L,M,rfl,rfl,⟨vs,ea,hla,ga⟩,⟨ws,eb,hlb,gb⟩,q⟩:=h
 cases rx
 cases ry
 obtain⟨its,v1,pl1,_⟩:=I.list (SqL.of ea)
 obtain⟨its2,v2,pl2,_⟩:=I.list (SqL.of eb)
 have l1:=v1.length
 have l2:=v2.length
 by_cases hl:L.length=M.length
 .refine eq_listAt (e:=fun j=>decide (L[j]?=M[j]?)) pl1.isList pl2.isList (by simp;omega) (by omega) (fun j h1 h2=>?_) ?_
  .have j1:j<L.length:=by simp at h1;omega
   have j2:j<M.length:=by omega
   obtain⟨u1,f1,ru1⟩:=v1.get (List.getElem?_eq_getElem (show j<vs.length by omega))
   obtain⟨u2,f2,ru2⟩:=v2.get (List.getElem?_eq_getElem (show j<ws.length by omega))
   rw[bY' f1 h1,bY' f2 h2]
   have:=mn' I (A:=X.A.in1) (show X.A.units+1+1<cLine by omega) (ga j _ _ (List.getElem?_eq_getElem (by omega)) (List.getElem?_eq_getElem j1)) (gb j _ _ (List.getElem?_eq_getElem (by omega)) (List.getElem?_eq_getElem j2)) ru1 ru2
   rw[show decide (L[j]=M[j])=decide (L[j]?=M[j]?) by rw[List.getElem?_eq_getElem j1,List.getElem?_eq_getElem j2];simp]at this
   exact this
  .rw[List.size_toArray,<- l1,hla,d9' hl]
   exact⟨.bl _,H,I,rfl,q⟩
 .refine eq_list_lengthsAt pl1.isList pl2.isList (by simp;omega) (by omega) ?_
  rw[decide_eq_false (fun z=>hl (by rw[z]))]at q
  exact⟨.bl _,H,I,rfl,q⟩
noncomputable def q6':R2:=fun x y H Q=>∃b L ns,Ls1 H x ns/\y=.ref b/\LL H b L/\Q (.bl (!decide (ns∈L))) H
open Classical in
theorem oK' (hu:X.A.units+64<cLine):OpR X (compareOp .NotIn) q6':=by
 intro pins s σ H x y v u Q I rx ry h
 obtain⟨b,L,ns,hx,rfl,⟨ws,eb,hlb,gb⟩,q⟩:=h
 cases ry
 obtain⟨its,v1,pl1,_⟩:=I.list (SqL.of eb)
 have l1:=v1.length
 refine notIn_listAt (fun u=>decide (∃p,u=Value.ref p/\H p=some (.lst (ns.map V.int)))) pl1.isList (fun w hw=>?_) ?_
 .obtain⟨i,hi⟩:=List.getElem?_of_mem (show w∈its by simpa using hw)
  have hi':i<its.length:=(List.getElem?_eq_some_iff.mp hi).1
  obtain⟨u1,f1,ru1⟩:=v1.get (List.getElem?_eq_getElem (show i<ws.length by omega))
  rw[hi]at f1
  cases f1
  have g:=gb i _ _ (List.getElem?_eq_getElem (by omega)) (List.getElem?_eq_getElem (show i<L.length by omega))
  have:=mn' I (A:=X.A.in1) (show X.A.units+1+1<cLine by omega) g hx ru1 rx
  obtain⟨p,ep,hp⟩:=g
  rw[ep]at ru1
  cases ru1
  have e:decide (L[i]=ns)=decide (∃p',Value.ref p=Value.ref p'/\H p'=some (.lst (ns.map V.int))):=by
   apply decide_eq_decide.mpr
   constructor
   .intro z;exact⟨p,rfl,by rw[<- z];exact hp⟩
   .rintro⟨p',z,hp'⟩
    cases z
    rw[hp]at hp'
    exact a2' (by injection hp' with hp';injection hp' with hp')
  rw[e]at this
  exact this
 .have e:(its.toArray.any fun u=>decide (∃p,u=Value.ref p/\H p=some (.lst (ns.map V.int))))=decide (ns∈L):=by
   rw[Bool.eq_iff_iff,List.any_toArray,List.any_eq_true]
   constructor
   .rintro⟨w,hw,hd⟩
    obtain⟨p,rfl,hp⟩:=of_decide_eq_true hd
    obtain⟨i,hi⟩:=List.getElem?_of_mem hw
    have hi':i<its.length:=(List.getElem?_eq_some_iff.mp hi).1
    obtain⟨u1,f1,ru1⟩:=v1.get (List.getElem?_eq_getElem (show i<ws.length by omega))
    rw[hi]at f1
    cases f1
    obtain⟨p',ep,hp'⟩:=gb i _ _ (List.getElem?_eq_getElem (by omega)) (List.getElem?_eq_getElem (show i<L.length by omega))
    rw[ep]at ru1
    cases ru1
    rw[hp]at hp'
    have:ns=L[i]:=a2' (by injection hp' with hp';injection hp' with hp')
    rw[this]
    exact decide_eq_true (List.getElem_mem _)
   .intro z
    obtain⟨i,hi⟩:=List.getElem?_of_mem (of_decide_eq_true z)
    have hi':i<L.length:=(List.getElem?_eq_some_iff.mp hi).1
    obtain⟨u1,f1,ru1⟩:=v1.get (List.getElem?_eq_getElem (show i<ws.length by omega))
    obtain⟨p',ep,hp'⟩:=gb i _ _ (List.getElem?_eq_getElem (by omega)) hi
    rw[ep]at ru1
    cases ru1
    exact⟨_,List.mem_of_getElem? f1,decide_eq_true ⟨p',rfl,hp'⟩⟩
  rw[e]
  exact⟨.bl _,H,I,rfl,q⟩
end
section
variable {X:Cx}
end
section
variable {X:Cx} {env:Env}
def Fr {α:Type} (t:Sem α):Prop:=∀(M:Model) (Γ:PySem.Ctx) (Q:α->Pos->Shared->Prop) (E:Value->Pos->Shared->Prop) (p:Pos) (s:Shared),Sem.wp M Γ t Q E p s->Sem.wp M Γ t (fun a p' s'=>1<=s'.toks/\Q a p' s') E p s
end
theorem q8' {P:Program} {w:World} {k:Key} {u:Value} (h:(aC' P w).is k u=true):ao' (kV k) u:=by
 rcases ay' (show fl' k u=true from h)with⟨i,t,rfl,rfl⟩|⟨x,t,rfl,rfl⟩|⟨rfl,rfl⟩
 .exact⟨t,rfl⟩
 .exact⟨t,rfl⟩
 .exact rfl
theorem dc':∀{xs:List V} {us:List Value},xs.length=us.length->(∀(i:Nat) x u,xs[i]?=some x->us[i]?=some u->ao' x u)->az' xs us
 | [],[],_,_=>.nil
 |x :: xs,u :: us,hl,h=>.cons (h 0 x u rfl rfl) (dc' (by simpa using hl) fun i x' u' h1 h2=>h (i+1) x' u' (by simpa using h1) (by simpa using h2))
 | [],_ :: _,hl,_=>by simp at hl
 |_ :: _,[],hl,_=>by simp at hl
theorem q9' {kvs:List (Key×V)} {vs:List (Key×Value)} (r:KV kvs vs):∀{i:Nat} {kv:Key×V} {p:Key×Value},kvs[i]?=some kv->vs[i]?=some p->kv.1=p.1/\ao' kv.2 p.2:=by
 induction r with
 |nil=>intro i kv p h;simp at h
 |cons h r ih=>
  intro i kv p h1 h2
  cases i with
  |zero=>cases h1;cases h2;exact h
  |succ i=>exact ih (by simpa using h1) (by simpa using h2)
section
variable {X:Cx}
noncomputable def mo':List V->Hp->VK->Prop:=fun xs H Q=>∃(a:Addr) (kvs:List (Key×V)),xs=[.ref a]/\H a=some (.dK kvs)/\∀l,H l=none->Q (.ref l) (upd H l (.lst (kvs.map fun kv=>kV kv.1)))
theorem hB' (hc:X.calm=true):aH' X (.type "list") mo':=by
 intro pins s σ H xs us Q I rv h
 obtain⟨a,kvs,rfl,hH,q⟩:=h
 obtain⟨u,rfl,r1⟩:=b2' rv
 cases r1
 obtain⟨z,hd,vs,rel,dd⟩:=qW' I.hok hH
 obtain⟨ep,hat⟩:=dd.dictAt
 have hlen:=rel.length
 refine W.kdl_call (W.kdl_dict (knd:=aC' X.prog X.w) hd) (I.ok.hd hc) hat (by rw[<- hlen];exact z) fun h' tk acc c hk hS hacc=>?_
 have hn:H s.heap.objs.size=none:=I.hok.fresh (Nat.le_refl _)
 refine⟨.ref s.heap.objs.size,_,I.laid (a:=s.heap.objs.size) (o:=.lst (kvs.map fun kv=>kV kv.1)) (h':=h') (t':=tk) (fun b o e=>hk b o e) (Nat.le_refl _) ⟨by rw[List.length_map];exact z,acc.toList,c,dc' (by rw[List.length_map,hlen];exact hacc.1.symm.trans Array.length_toList.symm) fun i x v hx hv=>?_,by rw[hS]⟩,rfl,q _ hn⟩
 rw[List.getElem?_map]at hx
 obtain⟨kv,hkv,rfl⟩:=Option.map_eq_some_iff.mp hx
 obtain⟨k,y,hp,hi⟩:=hacc.2 i v (by rw[<- Array.getElem?_toList];exact hv)
 have e:=(q9' rel hkv hp).1
 rw[e]
 exact q8' hi
noncomputable def ra':List V->Hp->VK->Prop:=fun xs H Q=>∃a kvs,xs=[V.ref a]/\H a=some (.dK kvs)/\Q (.int kvs.length) H
theorem hC':aH' X (.builtin "len") ra':=iW'
end
section
variable {prog:Program} {w:World} {A:Around} {E:Value->Shared->Prop} {s:Shared} {b0:Array Keyed} {κ:SortKind}
end
section
variable {X:Cx}
end
end L2
namespace So
open PySem PySem.Spec PyProof.Rows
noncomputable def aY':Bool->Keyed->Array Keyed->Nat->Nat->Nat->StateT SortSt Sem (Option Nat):=sortPriv% PySem.Builtin.gallop
noncomputable def cP':Array Keyed->Array Keyed->StateT SortSt Sem (Array Keyed):=sortPriv% PySem.Builtin.mergeLo
noncomputable def cQ':Array Keyed->Array Keyed->StateT SortSt Sem (Array Keyed):=sortPriv% PySem.Builtin.mergeHi
section
variable {M:Model} {A:Around} {E:Value->Shared->Prop} {s:Shared} {O:KeyOrd} {ky:Keyed->O.α} {P:Keyed->Prop} {kd:SortKind}
structure Cmp (M:Model) (A:Around) (E:Value->Shared->Prop) (s:Shared) (O:KeyOrd) (ky:Keyed->O.α) (P:Keyed->Prop) (kd:SortKind):Prop where
 lt:∀{x y:Keyed} {st:SortSt} {Q:Option Bool->SortSt->Prop},P x->P y->kindOf st=kd->Q (some (O.blt (ky x) (ky y))) st->wpS M A E s (lt' x y) Q st
theorem aM' {σ β γ:Type} {a b:Nat} {f:Nat->β->StateT σ Sem (ForInStep β)} {g:β->StateT σ Sem γ} {Q:γ->σ->Prop} {c:β} {st:σ} (I:Nat->β->σ->Prop) (D:β->σ->Prop) (init:I a c st)
  (step:∀i c st,a<=i->i<b->I i c st->wpS M A E s (f i c) (fun r st'=>match r with | .done c'=>D c' st' | .yield c'=>I (i+1) c' st') st)
  (last:∀c st,I (max a b) c st->D c st) (post:∀c st,D c st->wpS M A E s (g c) Q st):wpS M A E s (forIn [a:b] c f >>= g) Q st:=
 wpS_bind (wpS_mono (wpS_forRange I step last init) post)
theorem al' {a:Array Keyed} {i:Nat} {x:Keyed} {Q:Keyed->SortSt->Prop} {st:SortSt} (e:a[i]?=some x) (h:Q x st):wpS M A E s (elem' a i) Q st:=by
 rw[elem'_eq,e];exact wpS_pure h
noncomputable def bey (left:Bool) (key:Keyed) (arr:Array Keyed) (i:Nat):StateT SortSt Sem (Option Bool):=do
  let x <- elem' arr i
  if left then lt' x key else return (<- lt' key x).map (!·)
noncomputable def tO' (left:Bool) (key:Keyed) (arr:Array Keyed) (base n l h:Nat):StateT SortSt Sem (Option Nat):=do
 let mut lo:=l
 let mut hi:=h
 for _ in [0:n] do
  if lo ≥ hi then break
  let m:=lo+(hi-lo) / 2
  let some more <- bey left key arr (base+m)|return none
  if more then lo:=m+1 else hi:=m
 return some hi
theorem i0' (left:Bool) (key:Keyed) (arr:Array Keyed) (base n hint:Nat):aY' left key arr base n hint=(do
 let mut u:=0
 let mut v:=1
 let some right <- bey left key arr (base+hint)|return none
 if right then
  for _ in [0:n] do
   if v ≥ n-hint then break
   let some more <- bey left key arr (base+(hint+v))|return none
   if !more then break
   u:=v
   v:=2*v+1
  tO' left key arr base n (hint+u+1) (hint+min v (n-hint))
 else
  for _ in [0:n] do
   if v ≥ hint+1 then break
   let some found <- bey left key arr (base+(hint-v))|return none
   if found then break
   u:=v
   v:=2*v+1
  tO' left key arr base n (hint+1-min v (hint+1)) (hint-u)):=rfl
theorem i1' {left:Bool} {key:Keyed} {arr:Array Keyed} {base n lo hi:Nat} {B:Nat->Bool} {st:SortSt} {Q:Option Nat->SortSt->Prop}
  (hb:∀i,i<n->∀{Q:Option Bool->SortSt->Prop},Q (some (B i)) st->wpS M A E s (bey left key arr (base+i)) Q st)
  (hm:∀i j,i<=j->j<n->B j=true->B i=true) (hm':∀i j,i<=j->j<n->B i=false->B j=false)
  (h1:lo<=hi) (h2:hi<=n) (h3:∀i,i<lo->B i=true) (h4:∀i,hi<=i->i<n->B i=false)
  (h:∀k,k<=n->(∀i,i<k->B i=true)->(∀i,k<=i->i<n->B i=false)->Q (some k) st):wpS M A E s (tO' left key arr base n lo hi) Q st:=by
 unfold tO'
 refine aM' (fun x c st'=>st=st'/\∃l r,c=(none,l,r)/\l<=r/\r<=n/\r-l<=n-x/\(∀i,i<l->B i=true)/\(∀i,r<=i->i<n->B i=false))
  (fun c st'=>st=st'/\∃l,c=(none,l,l)/\l<=n/\(∀i,i<l->B i=true)/\(∀i,l<=i->i<n->B i=false)) ⟨rfl,lo,hi,rfl,h1,h2,by omega,h3,h4⟩ ?_ ?_ ?_
 .rintro x c st' _ hx ⟨rfl,l,r,rfl,a1,a2,a3,a4,a5⟩
  dsimp only
  by_cases g:l ≥ r
  .rw[if_pos g]
   have e:l=r:=by omega
   subst e
   exact wpS_pure ⟨rfl,l,rfl,a2,a4,a5⟩
  .rw[if_neg g]
   refine wpS_bind (hb _ (by omega) ?_)
   cases hv:B (l+(r-l) / 2)
   .exact wpS_pure ⟨rfl,l,_,rfl,by omega,by omega,by omega,a4,fun i q1 q2=>hm' _ i q1 q2 hv⟩
   .exact wpS_pure ⟨rfl,_,r,rfl,by omega,a2,by omega,fun i q1=>hm i _ (by omega) (by omega) hv,a5⟩
 .rintro c st' ⟨rfl,l,r,rfl,a1,a2,a3,a4,a5⟩
  have e:l=r:=by omega
  subst e
  exact⟨rfl,l,rfl,a2,a4,a5⟩
 .rintro c st' ⟨rfl,l,rfl,a2,a4,a5⟩
  exact wpS_pure (h l a2 a4 a5)
theorem eP' {left:Bool} {key:Keyed} {arr:Array Keyed} {base n hint:Nat} {B:Nat->Bool} {st:SortSt} {Q:Option Nat->SortSt->Prop} (hh:hint<n)
  (hb:∀i,i<n->∀{Q:Option Bool->SortSt->Prop},Q (some (B i)) st->wpS M A E s (bey left key arr (base+i)) Q st)
  (hm:∀i j,i<=j->j<n->B j=true->B i=true)
  (h:∀k,k<=n->(∀i,i<k->B i=true)->(∀i,k<=i->i<n->B i=false)->Q (some k) st):wpS M A E s (aY' left key arr base n hint) Q st:=by
 have hm':∀i j,i<=j->j<n->B i=false->B j=false:=fun i j a b c=>by
  cases e:B j
  .rfl
  .rw[hm i j a b e]at c;cases c
 rw[i0']
 refine wpS_bind (hb hint hh ?_)
 cases hr:B hint
 .dsimp only
  simp only[Bool.false_eq_true,if_false]
  refine aM' (fun x c st'=>st=st'/\∃l o,c=(none,l,o)/\l<o/\x+1<=o/\l<=hint/\B (hint-l)=false)
   (fun c st'=>st=st'/\∃l o,c=(none,l,o)/\l<o/\l<=hint/\B (hint-l)=false/\(o ≥ hint+1\/(o<hint+1/\B (hint-o)=true))) ⟨rfl,0,1,rfl,by omega,by omega,by omega,hr⟩ ?_ ?_ ?_
  .rintro x c st' _ hx ⟨rfl,l,o,rfl,a1,a2,a3,a4⟩
   dsimp only
   by_cases g:o ≥ hint+1
   .rw[if_pos g]
    exact wpS_pure ⟨rfl,l,o,rfl,a1,a3,a4,.inl g⟩
   .rw[if_neg g]
    refine wpS_bind (hb _ (by omega) ?_)
    cases hv:B (hint-o)
    .exact wpS_pure ⟨rfl,o,2*o+1,rfl,by omega,by omega,by omega,hv⟩
    .exact wpS_pure ⟨rfl,l,o,rfl,a1,a3,a4,.inr ⟨by omega,hv⟩⟩
  .rintro c st' ⟨rfl,l,o,rfl,a1,a2,a3,a4⟩
   exact⟨rfl,l,o,rfl,a1,a3,a4,.inl (by omega)⟩
  .rintro c st' ⟨rfl,l,o,rfl,a1,a3,a4,a5⟩
   dsimp only
   refine i1' hb hm hm' (by omega) (by omega) (fun i q=>?_) (fun i q1 q2=>hm' _ i q1 q2 a4) h
   rcases a5 with a5|⟨a5,a6⟩
   .omega
   .exact hm i _ (by omega) (by omega) a6
 .dsimp only
  simp only[if_true]
  refine aM' (fun x c st'=>st=st'/\∃l o,c=(none,l,o)/\l<o/\x+1<=o/\hint+l<n/\B (hint+l)=true)
   (fun c st'=>st=st'/\∃l o,c=(none,l,o)/\l<o/\hint+l<n/\B (hint+l)=true/\(o ≥ n-hint\/(o<n-hint/\B (hint+o)=false))) ⟨rfl,0,1,rfl,by omega,by omega,by omega,hr⟩ ?_ ?_ ?_
  .rintro x c st' _ hx ⟨rfl,l,o,rfl,a1,a2,a3,a4⟩
   dsimp only
   by_cases g:o ≥ n-hint
   .rw[if_pos g]
    exact wpS_pure ⟨rfl,l,o,rfl,a1,a3,a4,.inl g⟩
   .rw[if_neg g]
    refine wpS_bind (hb _ (by omega) ?_)
    cases hv:B (hint+o)
    .exact wpS_pure ⟨rfl,l,o,rfl,a1,a3,a4,.inr ⟨by omega,hv⟩⟩
    .exact wpS_pure ⟨rfl,o,2*o+1,rfl,by omega,by omega,by omega,hv⟩
  .rintro c st' ⟨rfl,l,o,rfl,a1,a2,a3,a4⟩
   exact⟨rfl,l,o,rfl,a1,a3,a4,.inl (by omega)⟩
  .rintro c st' ⟨rfl,l,o,rfl,a1,a3,a4,a5⟩
   dsimp only
   refine i1' hb hm hm' (by omega) (by omega) (fun i q=>hm i _ (by omega) a3 a4) (fun i q1 q2=>?_) h
   rcases a5 with a5|⟨a5,a6⟩
   .omega
   .exact hm' _ i (by omega) q2 a6
end
end So
namespace So
open PySem PySem.Spec PyProof.Rows
structure Mg (R:Keyed->Keyed->Prop) (T o ra rb:List Keyed):Prop where
 pm:(o++(ra++rb)).Perm T
 so:o.Pairwise R
 sa:ra.Pairwise R
 sb:rb.Pairwise R
 oa:∀x∈o,∀y∈ra,R x y
 ob:∀x∈o,∀y∈rb,R x y
section
variable {R:Keyed->Keyed->Prop} {T o ra rb:List Keyed}
theorem Mg.swap (m:Mg R T o ra rb):Mg R T o rb ra:=⟨(List.Perm.append_left o List.perm_append_comm).trans m.pm,m.so,m.sb,m.sa,m.ob,m.oa⟩
theorem Mg.put {u:List Keyed} (m:Mg R T o (u++ra) rb) (h:∀y∈u,∀z∈rb,R y z):Mg R T (o++u) ra rb:=by
 have⟨s1,s2,s3⟩:=List.pairwise_append.mp m.sa
 refine⟨?_,List.pairwise_append.mpr ⟨m.so,s1,fun x hx y hy=>m.oa x hx y (List.mem_append_left _ hy)⟩,s2,m.sb,?_,?_⟩
 .have:=m.pm;simpa[List.append_assoc]using this
 .intro x hx y hy
  rcases List.mem_append.mp hx with hx|hx
  .exact m.oa x hx y (List.mem_append_right _ hy)
  .exact s3 x hx y hy
 .intro x hx y hy
  rcases List.mem_append.mp hx with hx|hx
  .exact m.ob x hx y hy
  .exact h x hx y hy
theorem Mg.put1 {u:Keyed} (m:Mg R T o (u :: ra) rb) (h:∀z∈rb,R u z):Mg R T (o++[u]) ra rb:=
 Mg.put (u:=[u]) m fun y hy=>by rw[List.mem_singleton]at hy;subst hy;exact h
theorem Mg.putB {u:List Keyed} (m:Mg R T o ra (u++rb)) (h:∀y∈u,∀z∈ra,R y z):Mg R T (o++u) ra rb:=(m.swap.put h).swap
theorem Mg.putB1 {u:Keyed} (m:Mg R T o ra (u :: rb)) (h:∀z∈ra,R u z):Mg R T (o++[u]) ra rb:=(m.swap.put1 h).swap
theorem Mg.fin (m:Mg R T o ra rb) (h:∀y∈ra,∀z∈rb,R y z):(o++(ra++rb)).Perm T/\(o++(ra++rb)).Pairwise R:=by
 refine⟨m.pm,List.pairwise_append.mpr ⟨m.so,List.pairwise_append.mpr ⟨m.sa,m.sb,h⟩,fun x hx y hy=>?_⟩⟩
 rcases List.mem_append.mp hy with hy|hy
 .exact m.oa x hx y hy
 .exact m.ob x hx y hy
end
end So
namespace So
open PySem PySem.Spec PyProof.Rows
section
variable {M:Model} {A:Around} {E:Value->Shared->Prop} {s:Shared} {O:KeyOrd} {ky:Keyed->O.α} {P:Keyed->Prop} {kd:SortKind}
def ar' (st st':SortSt):Prop:=kindOf st'=kindOf st/\arrOf st'=arrOf st/\pendingOf st'=pendingOf st/\failedOf st'=failedOf st
theorem ar'.rfl' (st:SortSt):ar' st st:=⟨rfl,rfl,rfl,rfl⟩
theorem ar'.trans {a b c:SortSt} (h:ar' a b) (g:ar' b c):ar' a c:=⟨g.1.trans h.1,g.2.1.trans h.2.1,g.2.2.1.trans h.2.2.1,g.2.2.2.trans h.2.2.2⟩
theorem ar'.set (st:SortSt) (m:Nat):ar' st (SortSt.mk' (kindOf st) (arrOf st) (pendingOf st) m (failedOf st)):=⟨rfl,rfl,rfl,rfl⟩
def Rk (O:KeyOrd) (ky:Keyed->O.α) (p q:Keyed):Prop:=O.kle (ky p) (ky q)
theorem mp' (C:Cmp M A E s O ky P kd) {left:Bool} {key x:Keyed} {arr:Array Keyed} {i:Nat} {st:SortSt} {Q:Option Bool->SortSt->Prop} (hk:P key) (hx:P x) (e:arr[i]?=some x) (k:kindOf st=kd)
  (h:Q (some (if left then O.blt (ky x) (ky key)else !O.blt (ky key) (ky x))) st):wpS M A E s (bey left key arr i) Q st:=by
 unfold bey
 refine wpS_bind (al' e ?_)
 cases left
 .simp only[Bool.false_eq_true,if_false]at h ⊢
  exact wpS_bind (C.lt hk hx k (wpS_pure h))
 .simp only[if_true]at h ⊢
  exact C.lt hx hk k h
theorem am' {a:Array Keyed} {i:Nat} (h:i<a.size):∃p,a[i]?=some p/\p∈a.toList:=⟨a[i],by simp,by simp⟩
theorem de' (C:Cmp M A E s O ky P kd) {key:Keyed} {arr:Array Keyed} {base n hint:Nat} {st:SortSt} {Q:Option Nat->SortSt->Prop} (hk:P key) (k:kindOf st=kd) (hh:hint<n) (hn:base+n<=arr.size)
  (ha:∀p∈arr.toList,P p) (hs:∀i j p q,i<=j->j<n->arr[base+i]?=some p->arr[base+j]?=some q->O.kle (ky p) (ky q))
  (h:∀m,m<=n->(∀i p,i<m->arr[base+i]?=some p->O.kle (ky p) (ky key))->(∀i p,m<=i->i<n->arr[base+i]?=some p->O.klt (ky key) (ky p))->Q (some m) st):
  wpS M A E s (aY' false key arr base n hint) Q st:=by
 refine eP' (B:=fun i=>match arr[base+i]? with|some p=>!O.blt (ky key) (ky p)|none=>false) hh ?_ ?_ ?_
 .intro i hi Q h
  obtain⟨p,e,m⟩:=am' (a:=arr) (i:=base+i) (by omega)
  refine mp' C hk (ha p m) e k ?_
  simp only[e]at h
  simpa using h
 .intro i j hij hj hb
  obtain⟨p,e,m⟩:=am' (a:=arr) (i:=base+i) (by omega)
  obtain⟨q,e2,m2⟩:=am' (a:=arr) (i:=base+j) (by omega)
  simp only[e,e2]at hb ⊢
  have:=hs i j p q hij hj e e2
  have h2:O.kle (ky q) (ky key):=by simpa[KeyOrd.kle]using hb
  have:=KeyOrd.kle_trans this h2
  simpa[KeyOrd.kle]using this
 .intro m hm h1 h2
  refine h m hm ?_ ?_
  .intro i p hi e
   have:=h1 i hi
   simp only[e]at this
   simpa[KeyOrd.kle]using this
  .intro i p h3 h4 e
   have:=h2 i h3 h4
   simp only[e]at this
   simpa[KeyOrd.klt]using this
theorem b5' (C:Cmp M A E s O ky P kd) {key:Keyed} {arr:Array Keyed} {base n hint:Nat} {st:SortSt} {Q:Option Nat->SortSt->Prop} (hk:P key) (k:kindOf st=kd) (hh:hint<n) (hn:base+n<=arr.size)
  (ha:∀p∈arr.toList,P p) (hs:∀i j p q,i<=j->j<n->arr[base+i]?=some p->arr[base+j]?=some q->O.kle (ky p) (ky q))
  (h:∀m,m<=n->(∀i p,i<m->arr[base+i]?=some p->O.klt (ky p) (ky key))->(∀i p,m<=i->i<n->arr[base+i]?=some p->O.kle (ky key) (ky p))->Q (some m) st):
  wpS M A E s (aY' true key arr base n hint) Q st:=by
 refine eP' (B:=fun i=>match arr[base+i]? with|some p=>O.blt (ky p) (ky key)|none=>false) hh ?_ ?_ ?_
 .intro i hi Q h
  obtain⟨p,e,m⟩:=am' (a:=arr) (i:=base+i) (by omega)
  refine mp' C hk (ha p m) e k ?_
  simp only[e]at h
  simpa using h
 .intro i j hij hj hb
  obtain⟨p,e,m⟩:=am' (a:=arr) (i:=base+i) (by omega)
  obtain⟨q,e2,m2⟩:=am' (a:=arr) (i:=base+j) (by omega)
  simp only[e,e2]at hb ⊢
  exact KeyOrd.klt_of_kle_of_klt (hs i j p q hij hj e e2) hb
 .intro m hm h1 h2
  refine h m hm ?_ ?_
  .intro i p hi e
   have:=h1 i hi
   simp only[e]at this
   exact this
  .intro i p h3 h4 e
   have:=h2 i h3 h4
   simp only[e]at this
   exact this
theorem i2' {a:Array Keyed} {i:Nat} {p:Keyed} (e:a[i]?=some p):a.toList.drop i=p :: a.toList.drop (i+1):=by
 have hi:i<a.size:=by
  rcases Nat.lt_or_ge i a.size with h|h
  .exact h
  .rw[Array.getElem?_eq_none h]at e;cases e
 have:a[i]=p:=by rw[Array.getElem?_eq_getElem hi]at e;exact Option.some.inj e
 rw[List.drop_eq_getElem_cons (by simpa using hi)]
 simp[this]
theorem aJ' (a:Array Keyed) (i j:Nat):(a.extract i j).toList=(a.toList.drop i).take (j-i):=by
 simp[Array.toList_extract,List.extract_eq_take_drop]
theorem cg' (a:Array Keyed) (i:Nat):(a.extract i a.size).toList=a.toList.drop i:=by
 rw[aJ',List.take_of_length_le];simp
theorem i3' (l:List Keyed) (i k:Nat):l.drop i=(l.drop i).take k++l.drop (i+k):=by
 rw[<- List.drop_drop,List.take_append_drop]
theorem be' {a:Array Keyed} {i k:Nat} {p:Keyed} (h:p∈(a.toList.drop i).take k):∃n,n<k/\a[i+n]?=some p:=by
 obtain⟨n,hn,e⟩:=List.getElem_of_mem h
 have hl:n<k:=by simp at hn;omega
 refine⟨n,hl,?_⟩
 rw[List.getElem_take,List.getElem_drop]at e
 simp at hn
 rw[Array.getElem?_eq_getElem (by omega)]
 simpa using e
theorem bf' {a:Array Keyed} {i:Nat} {p:Keyed} (h:p∈a.toList.drop i):∃n,i<=n/\a[n]?=some p:=by
 obtain⟨n,hn,e⟩:=List.getElem_of_mem h
 refine⟨i+n,by omega,?_⟩
 rw[List.getElem_drop]at e
 simp at hn
 rw[Array.getElem?_eq_getElem (by omega)]
 simpa using e
theorem uw' {R:Keyed->Keyed->Prop} {a:Array Keyed} (h:a.toList.Pairwise R) {i j:Nat} {p q:Keyed} (hij:i<j) (e:a[i]?=some p) (e2:a[j]?=some q):R p q:=by
 have hj:j<a.size:=by
  rcases Nat.lt_or_ge j a.size with h|h
  .exact h
  .rw[Array.getElem?_eq_none h]at e2;cases e2
 have h1:a[i]=p:=by rw[Array.getElem?_eq_getElem (by omega)]at e;exact Option.some.inj e
 have h2:a[j]=q:=by rw[Array.getElem?_eq_getElem hj]at e2;exact Option.some.inj e2
 have:=List.pairwise_iff_getElem.mp h i j (by simp;omega) (by simp;omega) hij
 simpa[h1,h2]using this
theorem cv' {a:Array Keyed} (h:a.toList.Pairwise (Rk O ky)) {i j:Nat} {p q:Keyed} (hij:i<=j) (e:a[i]?=some p) (e2:a[j]?=some q):O.kle (ky p) (ky q):=by
 by_cases g:i=j
 .subst g;rw[e]at e2;cases e2;exact KeyOrd.kle_refl _
 .exact uw' h (by omega) e e2
end
end So
namespace So
open PySem PySem.Spec PyProof.Rows
section
variable {M:Model} {A:Around} {E:Value->Shared->Prop} {s:Shared} {O:KeyOrd} {ky:Keyed->O.α} {P:Keyed->Prop} {kd:SortKind} {x y:Array Keyed}
def ea' (O:KeyOrd) (ky:Keyed->O.α) (x y r:Array Keyed):Prop:=r.toList.Perm (x.toList++y.toList)/\r.toList.Pairwise (Rk O ky)
def Wk (O:KeyOrd) (ky:Keyed->O.α) (x y o:Array Keyed) (i j:Nat):Prop:=Mg (Rk O ky) (x.toList++y.toList) o.toList (x.toList.drop i) (y.toList.drop j)/\i<=x.size/\j<=y.size
theorem Wk.dn {o:Array Keyed} {i j:Nat} (w:Wk O ky x y o i j) (e:j=y.size):ea' O ky x y (o++x.extract i x.size++y.extract j y.size):=by
 subst e
 have:=w.1.fin (fun p _ q hq=>by rw[List.drop_eq_nil_of_le (by simp)]at hq;cases hq)
 unfold ea'
 rw[Array.toList_append,Array.toList_append,cg',cg',List.append_assoc]
 exact this
theorem Wk.la {o:Array Keyed} {i j:Nat} (w:Wk O ky x y o i j) (e:i+1=x.size) (hl:∀p q,x[x.size-1]?=some p->q∈y.toList->O.klt (ky q) (ky p)):ea' O ky x y (o++y.extract j y.size++x.extract i x.size):=by
 have:=w.1.swap.fin (fun q hq p hp=>by
  obtain⟨n,hn,e2⟩:=bf' hp
  have:n<x.size:=by
   rcases Nat.lt_or_ge n x.size with h|h
   .exact h
   .rw[Array.getElem?_eq_none h]at e2;cases e2
  have:n=x.size-1:=by omega
  subst this
  exact KeyOrd.kle_of_klt (hl p q e2 (List.mem_of_mem_drop hq)))
 unfold ea'
 rw[Array.toList_append,Array.toList_append,cg',cg',List.append_assoc]
 exact this
theorem Wk.putB {o:Array Keyed} {i j:Nat} {p q:Keyed} (w:Wk O ky x y o i j) (e1:x[i]?=some p) (e2:y[j]?=some q) (h:O.kle (ky q) (ky p)) (hj:j<y.size) (sx:x.toList.Pairwise (Rk O ky)):Wk O ky x y (o.push q) i (j+1):=by
 refine⟨?_,w.2.1,hj⟩
 have m:=w.1
 rw[i2' e2]at m
 rw[Array.toList_push]
 refine m.putB1 fun z hz=>?_
 obtain⟨n,hn,e3⟩:=bf' hz
 exact KeyOrd.kle_trans h (cv' sx hn e1 e3)
theorem Wk.putA {o:Array Keyed} {i j:Nat} {p q:Keyed} (w:Wk O ky x y o i j) (e1:x[i]?=some p) (e2:y[j]?=some q) (h:O.kle (ky p) (ky q)) (hi:i<x.size) (sy:y.toList.Pairwise (Rk O ky)):Wk O ky x y (o.push p) (i+1) j:=by
 refine⟨?_,hi,w.2.2⟩
 have m:=w.1
 rw[i2' e1]at m
 rw[Array.toList_push]
 refine m.put1 fun z hz=>?_
 obtain⟨n,hn,e3⟩:=bf' hz
 exact KeyOrd.kle_trans h (cv' sy hn e2 e3)
theorem Wk.manyA {o:Array Keyed} {i j k:Nat} {q:Keyed} (w:Wk O ky x y o i j) (e2:y[j]?=some q) (h:∀n p,n<k->x[i+n]?=some p->O.kle (ky p) (ky q)) (hi:i+k<=x.size) (sy:y.toList.Pairwise (Rk O ky)):
  Wk O ky x y (o++x.extract i (i+k)) (i+k) j:=by
 refine⟨?_,hi,w.2.2⟩
 have m:=w.1
 rw[i3' _ i k]at m
 rw[Array.toList_append,aJ',Nat.add_sub_cancel_left]
 refine m.put fun p hp z hz=>?_
 obtain⟨n,hn,e3⟩:=be' hp
 obtain⟨n2,hn2,e4⟩:=bf' hz
 exact KeyOrd.kle_trans (h n p hn e3) (cv' sy hn2 e2 e4)
theorem Wk.manyB {o:Array Keyed} {i j k:Nat} {p:Keyed} (w:Wk O ky x y o i j) (e1:x[i]?=some p) (h:∀n q,n<k->y[j+n]?=some q->O.klt (ky q) (ky p)) (hj:j+k<=y.size) (sx:x.toList.Pairwise (Rk O ky)):
  Wk O ky x y (o++y.extract j (j+k)) i (j+k):=by
 refine⟨?_,w.2.1,hj⟩
 have m:=w.1
 rw[i3' _ j k]at m
 rw[Array.toList_append,aJ',Nat.add_sub_cancel_left]
 refine m.putB fun q hq z hz=>?_
 obtain⟨n,hn,e3⟩:=be' hq
 obtain⟨n2,hn2,e4⟩:=bf' hz
 exact KeyOrd.kle_trans (KeyOrd.kle_of_klt (h n q hn e3)) (cv' sx hn2 e1 e4)
theorem f9' {m:Nat} {st:SortSt} {Q:PUnit->SortSt->Prop} (h:∀st',ar' st st'->Q ⟨⟩ st'):wpS M A E s (modify fun st=>SortSt.mk' (kindOf st) (arrOf st) (pendingOf st) m (failedOf st)) Q st:=
 wpS_modify (h _ (ar'.set _ _))
noncomputable def dnL (x y o:Array Keyed) (i j:Nat):Array Keyed:=o++x.extract i x.size++y.extract j y.size
noncomputable def laL (x y o:Array Keyed) (i j:Nat):Array Keyed:=o++y.extract j y.size++x.extract i x.size
noncomputable abbrev SG:Type:=Option (Array Keyed)×Array Keyed×Nat×Nat×Nat×Nat×Nat
noncomputable def lo3 (x y o:Array Keyed) (i j mg ca cb:Nat):StateT SortSt Sem (ForInStep SG):=do
 let p <- elem' x i
 if(i+1+1 == x.size)=true then pure (.done (some (laL x y (o.push p) (i+1) j),o.push p,i+1,j,mg,ca,cb))
 else if(decide (ca<7)&&decide (cb<7))=true then pure (.done (none,o.push p,i+1,j,mg,ca,cb))else pure (.yield (none,o.push p,i+1,j,mg,ca,cb))
noncomputable def lo2 (x y o:Array Keyed) (i j mg ca cb:Nat):StateT SortSt Sem (ForInStep SG):=do
 let q <- elem' y j
 if(j+1 == y.size)=true then pure (.done (some (dnL x y (o.push q) i (j+1)),o.push q,i,j+1,mg,ca,cb))
 else do
  let p <- elem' x i
  let r <- aY' true p y (j+1) (y.size-(j+1)) 0
  match r with
  |some k=>
   if k > 0 then
    if(j+1+k == y.size)=true then pure (.done (some (dnL x y (o.push q++y.extract (j+1) (j+1+k)) i (j+1+k)),o.push q++y.extract (j+1) (j+1+k),i,j+1+k,mg,ca,k))
    else lo3 x y (o.push q++y.extract (j+1) (j+1+k)) i (j+1+k) mg ca k
   else lo3 x y (o.push q) i (j+1) mg ca k
  |_=>pure (.done (some (dnL x y (o.push q) i (j+1)),o.push q,i,j+1,mg,ca,cb))
noncomputable def lo1 (x y o:Array Keyed) (i j mg ca cb:Nat):StateT SortSt Sem (ForInStep SG):=do
 modify fun st=>SortSt.mk' (kindOf st) (arrOf st) (pendingOf st) mg (failedOf st)
 let q <- elem' y j
 let r <- aY' false q x i (x.size-i) 0
 match r with
 |some k=>
  if k > 0 then
   if(i+k+1 == x.size)=true then pure (.done (some (laL x y (o++x.extract i (i+k)) (i+k) j),o++x.extract i (i+k),i+k,j,mg,k,cb))
   else if(i+k == x.size)=true then pure (.done (some (dnL x y (o++x.extract i (i+k)) (i+k) j),o++x.extract i (i+k),i+k,j,mg,k,cb))
   else lo2 x y (o++x.extract i (i+k)) (i+k) j mg k cb
  else lo2 x y o i j mg k cb
 |_=>pure (.done (some (dnL x y o i j),o,i,j,mg,ca,cb))
noncomputable abbrev SI:Type:=Option (Array Keyed)×Array Keyed×Nat×Nat×Nat×Nat
noncomputable abbrev SO:Type:=Option (Array Keyed)×Array Keyed×Nat×Nat×Nat
noncomputable def loI (x y:Array Keyed) (o:Array Keyed) (i j mg ca cb:Nat):StateT SortSt Sem (ForInStep SI):=do
 let q <- elem' y j
 let p <- elem' x i
 let r <- lt' q p
 match r with
 |some b=>
  if b=true then do
   let q <- elem' y j
   if(j+1 == y.size)=true then pure (.done (some (dnL x y (o.push q) i (j+1)),o.push q,i,j+1,0,cb+1))
   else if cb+1 ≥ mg then pure (.done (none,o.push q,i,j+1,0,cb+1))else pure (.yield (none,o.push q,i,j+1,0,cb+1))
  else do
   let p <- elem' x i
   if(i+1+1 == x.size)=true then pure (.done (some (laL x y (o.push p) (i+1) j),o.push p,i+1,j,ca+1,0))
   else if ca+1 ≥ mg then pure (.done (none,o.push p,i+1,j,ca+1,0))else pure (.yield (none,o.push p,i+1,j,ca+1,0))
 |_=>pure (.done (some (dnL x y o i j),o,i,j,ca,cb))
noncomputable def loG (x y:Array Keyed) (u:SG):StateT SortSt Sem (ForInStep SG):=
 if u.2.2.2.2.1 > 1 then lo1 x y u.2.1 u.2.2.1 u.2.2.2.1 (u.2.2.2.2.1-1) u.2.2.2.2.2.1 u.2.2.2.2.2.2 else lo1 x y u.2.1 u.2.2.1 u.2.2.2.1 u.2.2.2.2.1 u.2.2.2.2.2.1 u.2.2.2.2.2.2
noncomputable def loO (x y:Array Keyed) (c:SO):StateT SortSt Sem (ForInStep SO):=do
 let r <- forIn [0:x.size+y.size] ((none,c.2.1,c.2.2.1,c.2.2.2.1,0,0):SI) fun _ r=>loI x y r.2.1 r.2.2.1 r.2.2.2.1 c.2.2.2.2 r.2.2.2.2.1 r.2.2.2.2.2
 match r.1 with
 |some v=>pure (.done (some v,r.2.1,r.2.2.1,r.2.2.2.1,c.2.2.2.2))
 |none=>do
  liftM (rule "list.sort.gallop")
  let u <- forIn [0:x.size+y.size] ((none,r.2.1,r.2.2.1,r.2.2.2.1,c.2.2.2.2+1,r.2.2.2.2.1,r.2.2.2.2.2):SG) fun _ u=>loG x y u
  match u.1 with
  |some v=>pure (.done (some v,u.2.1,u.2.2.1,u.2.2.2.1,u.2.2.2.2.1))
  |none=>do
   modify fun st=>SortSt.mk' (kindOf st) (arrOf st) (pendingOf st) (u.2.2.2.2.1+1) (failedOf st)
   pure (.yield (none,u.2.1,u.2.2.1,u.2.2.2.1,u.2.2.2.2.1+1))
theorem hD' (x y:Array Keyed):cP' x y=(do
 rule "list.sort.merge-lo"
 let t:=x.size+y.size
 let dn (o:Array Keyed) (i j:Nat):=o++x.extract i x.size++y.extract j y.size
 let la (o:Array Keyed) (i j:Nat):=o++y.extract j y.size++x.extract i x.size
 let mut o:Array Keyed:=#[<- elem' y 0]
 let mut i:=0
 let mut j:=1
 if j == y.size then return dn o i j
 if i+1 == x.size then return la o i j
 let mut mg:=gallopOf (<- get)
 for _ in [0:t] do
  let mut ca:=0
  let mut cb:=0
  for _ in [0:t] do
   let some bw <- lt' (<- elem' y j) (<- elem' x i)|return dn o i j
   if bw then
    o:=o.push (<- elem' y j);j:=j+1;cb:=cb+1;ca:=0
    if j == y.size then return dn o i j
    if cb ≥ mg then break
   else
    o:=o.push (<- elem' x i);i:=i+1;ca:=ca+1;cb:=0
    if i+1 == x.size then return la o i j
    if ca ≥ mg then break
  rule "list.sort.gallop"
  mg:=mg+1
  for _ in [0:t] do
   if mg > 1 then mg:=mg-1
   modify fun st=>SortSt.mk' (kindOf st) (arrOf st) (pendingOf st) mg (failedOf st)
   let some k <- aY' false (<- elem' y j) x i (x.size-i) 0|return dn o i j
   ca:=k
   if k > 0 then
    o:=o++x.extract i (i+k);i:=i+k
    if i+1 == x.size then return la o i j
    if i == x.size then return dn o i j
   o:=o.push (<- elem' y j);j:=j+1
   if j == y.size then return dn o i j
   let some k <- aY' true (<- elem' x i) y j (y.size-j) 0|return dn o i j
   cb:=k
   if k > 0 then
    o:=o++y.extract j (j+k);j:=j+k
    if j == y.size then return dn o i j
   o:=o.push (<- elem' x i);i:=i+1
   if i+1 == x.size then return la o i j
   if ca<7&&cb<7 then break
  mg:=mg+1
  modify fun st=>SortSt.mk' (kindOf st) (arrOf st) (pendingOf st) mg (failedOf st)
 unsupported "internal:list.sort.merge-bound"):=rfl
theorem aw' {β γ:Type} {t:Std.Legacy.Range} {c:β} {f g:Nat->β->StateT SortSt Sem (ForInStep β)} {u v:β->StateT SortSt Sem γ} (h:∀n c,f n c=g n c) (k:∀c,u c=v c):(forIn t c f >>= u)=(forIn t c g >>= v):=by
 rw[show f=g from funext fun n=>funext fun c=>h n c,show u=v from funext k]
theorem ae' {α β:Type} {m:StateT SortSt Sem α} {u v:α->StateT SortSt Sem β} (h:∀a,u a=v a):(m >>= u)=(m >>= v):=by rw[show u=v from funext h]
theorem aF' {α:Type} {c:Prop} [Decidable c] {a b d e:α} (h:a=d) (k:b=e):(if c then a else b)=(if c then d else e):=by rw[h,k]
noncomputable def loM (x y:Array Keyed):StateT SortSt Sem (Array Keyed):=do
 liftM (rule "list.sort.merge-lo")
 let q <- elem' y 0
 if(1 == y.size)=true then pure (dnL x y #[q] 0 1)
 else if(0+1 == x.size)=true then pure (laL x y #[q] 0 1)
 else do
  let st <- get
  let r <- forIn [0:x.size+y.size] ((none,#[q],0,1,gallopOf st):SO) fun _ r=>loO x y r
  match r.1 with
  |some v=>pure v
  |none=>unsupported "internal:list.sort.merge-bound"
theorem fD' (x y:Array Keyed):cP' x y=loM x y:=by
 refine(hD' x y).trans ?_
 refine ae' fun _=>ae' fun q=>aF' rfl (aF' rfl (ae' fun st=>aw' (fun n c=>?_) fun c=>by obtain⟨c0,c1⟩:=c;cases c0<;>rfl))
 refine aw' (fun n c=>rfl) fun c=>?_
 obtain⟨c0,o,i,j,ca,cb⟩:=c
 cases c0
 .refine ae' fun _=>aw' (fun n c=>rfl) fun c=>?_
  obtain⟨c0,o,i,j,mg,ca,cb⟩:=c
  cases c0
  .rfl
  .rfl
 .rfl
noncomputable def Stp (O:KeyOrd) (ky:Keyed->O.α) (st:SortSt) (x y:Array Keyed) (b:Nat):ForInStep SG->SortSt->Prop:=fun r st'=>match r with
 | .done c=>ar' st st'/\((∃r,c.1=some r/\ea' O ky x y r)\/∃o i j mg ca cb,c=(none,o,i,j,mg,ca,cb)/\Wk O ky x y o i j/\i+1<x.size/\j<y.size/\b<=i+j)
 | .yield c=>ar' st st'/\∃o i j mg ca cb,c=(none,o,i,j,mg,ca,cb)/\Wk O ky x y o i j/\i+1<x.size/\j<y.size/\b<=i+j
theorem mq' {st st4:SortSt} {o:Array Keyed} {i j mg ca cb b:Nat} {p q:Keyed} (g4:ar' st st4) (w:Wk O ky x y o i j) (ep:x[i]?=some p) (eq:y[j]?=some q) (h:O.kle (ky p) (ky q)) (sy:y.toList.Pairwise (Rk O ky)) (hi:i+1<x.size) (hj:j<y.size) (hc:b<=i+j)
  (hl:∀p q,x[x.size-1]?=some p->q∈y.toList->O.klt (ky q) (ky p)):wpS M A E s (lo3 x y o i j mg ca cb) (Stp O ky st x y b) st4:=by
 have w6:=w.putA ep eq h (by omega) sy
 unfold lo3
 refine wpS_bind (al' ep ?_)
 by_cases c6:i+1+1=x.size
 .rw[if_pos (by simpa using c6)]
  exact wpS_pure ⟨g4,.inl ⟨_,rfl,w6.la c6 hl⟩⟩
 rw[if_neg (by simpa using c6)]
 split
 .exact wpS_pure ⟨g4,.inr ⟨_,_,_,_,_,_,rfl,w6,by omega,by omega,by omega⟩⟩
 .exact wpS_pure ⟨g4,_,_,_,_,_,_,rfl,w6,by omega,by omega,by omega⟩
theorem mr' (C:Cmp M A E s O ky P kd) {st st4:SortSt} {o:Array Keyed} {i j mg ca cb b:Nat} {p q:Keyed} (g4:ar' st st4) (w:Wk O ky x y o i j) (ep:x[i]?=some p) (eq:y[j]?=some q) (h:O.klt (ky q) (ky p)) (kst:kindOf st=kd) (px:∀p∈x.toList,P p) (py:∀p∈y.toList,P p) (sx:x.toList.Pairwise (Rk O ky)) (sy:y.toList.Pairwise (Rk O ky)) (hi:i+1<x.size) (hj:j<y.size) (hc:b<=i+j)
  (hl:∀p q,x[x.size-1]?=some p->q∈y.toList->O.klt (ky q) (ky p)):wpS M A E s (lo2 x y o i j mg ca cb) (Stp O ky st x y b) st4:=by
 unfold lo2
 refine wpS_bind (al' eq ?_)
 have w4:=w.putB ep eq (KeyOrd.kle_of_klt h) hj sx
 by_cases c4:j+1=y.size
 .rw[if_pos (by simpa using c4)]
  exact wpS_pure ⟨g4,.inl ⟨_,rfl,w4.dn c4⟩⟩
 rw[if_neg (by simpa using c4)]
 refine wpS_bind (al' ep (wpS_bind (b5' C (px p (by simpa using Array.mem_of_getElem? ep)) (g4.1.trans kst) (by omega) (by omega) py (fun a b u v hab hb e1 e2=>cv' sy (by omega) e1 e2) fun k2 hk3 l3 l4=>?_)))
 dsimp only
 by_cases hk4:k2 > 0
 .have w5:=w4.manyB ep l3 (by omega) sx
  rw[if_pos hk4]
  by_cases c5:j+1+k2=y.size
  .rw[if_pos (by simpa using c5)]
   exact wpS_pure ⟨g4,.inl ⟨_,rfl,w5.dn c5⟩⟩
  rw[if_neg (by simpa using c5)]
  obtain⟨q2,eq2,_⟩:=am' (a:=y) (i:=j+1+k2) (by omega)
  exact mq' g4 w5 ep eq2 (l4 k2 q2 (Nat.le_refl _) (by omega) eq2) sy hi (by omega) (by omega) hl
 .rw[if_neg hk4]
  obtain⟨q2,eq2,_⟩:=am' (a:=y) (i:=j+1) (by omega)
  exact mq' g4 w4 ep eq2 (l4 0 q2 (by omega) (by omega) eq2) sy hi (by omega) (by omega) hl
theorem rb' (C:Cmp M A E s O ky P kd) {st st3:SortSt} {o:Array Keyed} {i j mg ca cb b:Nat} (g3:ar' st st3) (w:Wk O ky x y o i j) (kst:kindOf st=kd) (px:∀p∈x.toList,P p) (py:∀p∈y.toList,P p) (sx:x.toList.Pairwise (Rk O ky)) (sy:y.toList.Pairwise (Rk O ky)) (hi:i+1<x.size) (hj:j<y.size) (hc:b<=i+j)
  (hl:∀p q,x[x.size-1]?=some p->q∈y.toList->O.klt (ky q) (ky p)):wpS M A E s (lo1 x y o i j mg ca cb) (Stp O ky st x y b) st3:=by
 obtain⟨q,eq,mq⟩:=am' hj
 unfold lo1
 refine wpS_bind (f9' fun st4 g0=>?_)
 have g4:=g3.trans g0
 refine wpS_bind (al' eq (wpS_bind (de' C (py q mq) (g4.1.trans kst) (by omega) (by omega) px (fun a b u v hab hb e1 e2=>cv' sx (by omega) e1 e2) fun k1 hk1 l1 l2=>?_)))
 dsimp only
 have hk2:i+k1<x.size:=by
  rcases Nat.lt_or_ge (i+k1) x.size with u|u
  .exact u
  .obtain⟨pl,epl,_⟩:=am' (a:=x) (i:=x.size-1) (by omega)
   have b1:=hl pl q epl mq
   have b2:=l1 (x.size-1-i) pl (by omega) (by rw[show i+(x.size-1-i)=x.size-1 by omega];exact epl)
   exact absurd b1 (KeyOrd.not_klt_of_kle b2)
 by_cases hk0:k1 > 0
 .have w2:=w.manyA eq l1 (by omega) sy
  rw[if_pos hk0]
  by_cases c3:i+k1+1=x.size
  .rw[if_pos (by simpa using c3)]
   exact wpS_pure ⟨g4,.inl ⟨_,rfl,w2.la c3 hl⟩⟩
  rw[if_neg (by simpa using c3),if_neg (by simp;omega)]
  obtain⟨p,ep,mp⟩:=am' (a:=x) (i:=i+k1) (by omega)
  exact mr' C g4 w2 ep eq (l2 k1 p (Nat.le_refl _) (by omega) ep) kst px py sx sy (by omega) hj (by omega) hl
 .rw[if_neg hk0]
  obtain⟨p,ep,mp⟩:=am' (a:=x) (i:=i) (by omega)
  exact mr' C g4 w ep eq (l2 0 p (by omega) (by omega) ep) kst px py sx sy (by omega) hj (by omega) hl
noncomputable def vT' (O:KeyOrd) (ky:Keyed->O.α) (st:SortSt) (x y:Array Keyed) (n:Nat):ForInStep SI->SortSt->Prop:=fun r st'=>match r with
 | .done c=>ar' st st'/\((∃r,c.1=some r/\ea' O ky x y r)\/∃o i j ca cb,c=(none,o,i,j,ca,cb)/\Wk O ky x y o i j/\i+1<x.size/\j<y.size/\n+2<=i+j)
 | .yield c=>ar' st st'/\∃o i j ca cb,c=(none,o,i,j,ca,cb)/\Wk O ky x y o i j/\i+1<x.size/\j<y.size/\n+2<=i+j
theorem rc' (C:Cmp M A E s O ky P kd) {st st2:SortSt} {o:Array Keyed} {i j mg ca cb n:Nat} (g2:ar' st st2) (w:Wk O ky x y o i j) (kst:kindOf st=kd) (px:∀p∈x.toList,P p) (py:∀p∈y.toList,P p) (sx:x.toList.Pairwise (Rk O ky)) (sy:y.toList.Pairwise (Rk O ky)) (hi:i+1<x.size) (hj:j<y.size) (hc:n+1<=i+j)
  (hl:∀p q,x[x.size-1]?=some p->q∈y.toList->O.klt (ky q) (ky p)):wpS M A E s (loI x y o i j mg ca cb) (vT' O ky st x y n) st2:=by
 obtain⟨q,eq,mq⟩:=am' hj
 obtain⟨p,ep,mp⟩:=am' (a:=x) (i:=i) (by omega)
 refine wpS_bind (al' eq (wpS_bind (al' ep (wpS_bind (C.lt (py q mq) (px p mp) (g2.1.trans kst) ?_)))))
 cases hb:O.blt (ky q) (ky p)
 .have w2:=w.putA ep eq hb (by omega) sy
  refine wpS_bind (al' ep ?_)
  by_cases c3:i+1+1=x.size
  .rw[if_pos (by simpa using c3)]
   exact wpS_pure ⟨g2,.inl ⟨_,rfl,w2.la c3 hl⟩⟩
  .rw[if_neg (by simpa using c3)]
   split
   .exact wpS_pure ⟨g2,.inr ⟨_,_,_,_,_,rfl,w2,by omega,hj,by omega⟩⟩
   .exact wpS_pure ⟨g2,_,_,_,_,_,rfl,w2,by omega,hj,by omega⟩
 .have w2:=w.putB ep eq (KeyOrd.kle_of_klt hb) hj sx
  refine wpS_bind (al' eq ?_)
  by_cases c3:j+1=y.size
  .rw[if_pos (by simpa using c3)]
   exact wpS_pure ⟨g2,.inl ⟨_,rfl,w2.dn c3⟩⟩
  .rw[if_neg (by simpa using c3)]
   split
   .exact wpS_pure ⟨g2,.inr ⟨_,_,_,_,_,rfl,w2,hi,by omega,by omega⟩⟩
   .exact wpS_pure ⟨g2,_,_,_,_,_,rfl,w2,hi,by omega,by omega⟩
noncomputable def wD' (O:KeyOrd) (ky:Keyed->O.α) (st:SortSt) (x y:Array Keyed) (n:Nat):ForInStep SO->SortSt->Prop:=fun r st'=>match r with
 | .done c=>ar' st st'/\∃r,c.1=some r/\ea' O ky x y r
 | .yield c=>ar' st st'/\∃o i j mg,c=(none,o,i,j,mg)/\Wk O ky x y o i j/\i+1<x.size/\j<y.size/\n+2<=i+j
theorem rd' (C:Cmp M A E s O ky P kd) {st st1:SortSt} {o:Array Keyed} {i j mg n:Nat} (g1:ar' st st1) (w:Wk O ky x y o i j) (kst:kindOf st=kd) (px:∀p∈x.toList,P p) (py:∀p∈y.toList,P p) (sx:x.toList.Pairwise (Rk O ky)) (sy:y.toList.Pairwise (Rk O ky)) (hi:i+1<x.size) (hj:j<y.size) (hc:n+1<=i+j)
  (hl:∀p q,x[x.size-1]?=some p->q∈y.toList->O.klt (ky q) (ky p)):wpS M A E s (loO x y (none,o,i,j,mg)) (wD' O ky st x y n) st1:=by
 refine aM' (fun k c st'=>ar' st st'/\∃o i j ca cb,c=(none,o,i,j,ca,cb)/\Wk O ky x y o i j/\i+1<x.size/\j<y.size/\n+1+min k 1<=i+j)
  (fun c st'=>vT' O ky st x y n (.done c) st') ⟨g1,o,i,j,0,0,rfl,w,hi,hj,by omega⟩ ?_ ?_ ?_
 .rintro k c st2 _ hk ⟨g2,o,i,j,ca,cb,rfl,w,hi,hj,hc⟩
  refine wpS_mono (rc' (o:=o) (i:=i) (j:=j) (ca:=ca) (cb:=cb) (mg:=mg) (n:=n) C g2 w kst px py sx sy hi hj (by omega) hl) fun r st' hh=>?_
  cases r with
  |done c=>exact hh
  |yield c=>
   obtain⟨g,o,i,j,ca,cb,e,a1,a2,a3,a4⟩:=hh
   exact⟨g,o,i,j,ca,cb,e,a1,a2,a3,by omega⟩
 .rintro c st2 ⟨g2,o,i,j,ca,cb,rfl,w,hi,hj,hc⟩
  exact⟨g2,.inr ⟨_,_,_,_,_,rfl,w,hi,hj,by omega⟩⟩
 .rintro⟨c0,c1⟩ st2 ⟨g2,⟨r,e,G⟩|⟨o,i,j,ca,cb,e,w,hi,hj,hc⟩⟩
  .cases e
   exact wpS_pure ⟨g2,r,rfl,G⟩
  cases e
  refine wpS_bind (wpS_lift (wpAny_rule ⟨rfl,?_⟩))
  refine aM' (fun k c st'=>Stp O ky st x y (n+2) (.yield c) st') (fun c st'=>Stp O ky st x y (n+2) (.done c) st') ⟨g2,o,i,j,_,_,_,rfl,w,hi,hj,hc⟩ ?_ ?_ ?_
  .rintro k c st3 _ hk ⟨g3,o,i,j,mg,ca,cb,rfl,w,hi,hj,hc⟩
   refine wpS_mono (Q:=Stp O ky st x y (n+2)) ?_ fun r st' hh=>by cases r<;>exact hh
   have go:∀m,wpS M A E s (lo1 x y o i j m ca cb) (Stp O ky st x y (n+2)) st3:=fun m=>rb' (b:=n+2) C g3 w kst px py sx sy hi hj hc hl
   unfold loG
   split
   .exact go (mg-1)
   .exact go mg
  .rintro c st3 ⟨g3,o,i,j,mg,ca,cb,rfl,w,hi,hj,hc⟩
   exact⟨g3,.inr ⟨_,_,_,_,_,_,rfl,w,hi,hj,hc⟩⟩
  .rintro⟨c0,c1⟩ st3 ⟨g3,⟨r,e,G⟩|⟨o,i,j,mg,ca,cb,e,w,hi,hj,hc⟩⟩
   .cases e
    exact wpS_pure ⟨g3,r,rfl,G⟩
   cases e
   exact wpS_bind (wpS_modify (wpS_pure ⟨g3.trans (ar'.set _ _),_,_,_,_,rfl,w,hi,hj,by omega⟩))
theorem hE' (C:Cmp M A E s O ky P kd) {st:SortSt} {Q:Array Keyed->SortSt->Prop} (kst:kindOf st=kd) (px:∀p∈x.toList,P p) (py:∀p∈y.toList,P p) (sx:x.toList.Pairwise (Rk O ky)) (sy:y.toList.Pairwise (Rk O ky))
  (hx:0<x.size) (hy:0<y.size) (h0:∀p q,x[0]?=some p->y[0]?=some q->O.klt (ky q) (ky p)) (hl:∀p q,x[x.size-1]?=some p->q∈y.toList->O.klt (ky q) (ky p))
  (h:∀r st',ea' O ky x y r->ar' st st'->Q r st'):wpS M A E s (cP' x y) Q st:=by
 rw[fD']
 refine wpS_bind (wpS_lift (wpAny_rule ⟨rfl,?_⟩))
 obtain⟨q0,e0,m0⟩:=am' hy
 obtain⟨p0,d0,n0⟩:=am' hx
 have w0:Wk O ky x y #[] 0 0:=⟨⟨by simp,List.Pairwise.nil,by simpa using sx,by simpa using sy,by simp,by simp⟩,Nat.zero_le _,Nat.zero_le _⟩
 have w1:Wk O ky x y #[q0] 0 1:=w0.putB d0 e0 (KeyOrd.kle_of_klt (h0 p0 q0 d0 e0)) hy sx
 refine wpS_bind (al' e0 ?_)
 by_cases c1:1=y.size
 .rw[if_pos (by simpa using c1)]
  exact wpS_pure (h _ _ (w1.dn c1) (ar'.rfl' _))
 rw[if_neg (by simpa using c1)]
 by_cases c2:0+1=x.size
 .rw[if_pos (by simpa using c2)]
  exact wpS_pure (h _ _ (w1.la c2 hl) (ar'.rfl' _))
 rw[if_neg (by simpa using c2)]
 refine wpS_bind (wpS_get ?_)
 refine aM' (fun n c st'=>ar' st st'/\∃o i j mg,c=(none,o,i,j,mg)/\Wk O ky x y o i j/\i+1<x.size/\j<y.size/\n+1<=i+j)
  (fun c st'=>ar' st st'/\∃r,c.1=some r/\ea' O ky x y r) ⟨ar'.rfl' _,_,_,_,_,rfl,w1,by omega,by omega,by omega⟩ ?_ ?_ ?_
 .rintro n c st1 _ hn ⟨g1,o,i,j,mg,rfl,w,hi,hj,hc⟩
  exact wpS_mono (rd' (n:=n) C g1 w kst px py sx sy hi hj hc hl) fun r st' hh=>by cases r<;>exact hh
 .rintro c st1 ⟨g1,o,i,j,mg,rfl,w,hi,hj,hc⟩
  omega
 .rintro⟨c0,c1⟩ st1 ⟨g1,r,e,G⟩
  cases e
  exact wpS_pure (h r st1 G g1)
end
end So
namespace So
open PySem PySem.Spec PyProof.Rows
noncomputable def dnH (x y o:Array Keyed) (i j:Nat):Array Keyed:=x.extract 0 i++y.extract 0 j++o.reverse
noncomputable def fbH (x y o:Array Keyed) (i j:Nat):Array Keyed:=y.extract 0 j++x.extract 0 i++o.reverse
noncomputable abbrev TG:Type:=Option (Array Keyed)×Nat×Nat×Array Keyed×Nat×Nat×Nat
noncomputable abbrev TI:Type:=Option (Array Keyed)×Nat×Nat×Array Keyed×Nat×Nat
noncomputable abbrev TO:Type:=Option (Array Keyed)×Nat×Nat×Array Keyed×Nat
noncomputable def hi3 (x y:Array Keyed) (i j:Nat) (o:Array Keyed) (mg ca cb:Nat):StateT SortSt Sem (ForInStep TG):=do
 let p <- elem' x (i-1)
 if(i-1 == 0)=true then pure (.done (some (dnH x y (o.push p) (i-1) j),i-1,j,o.push p,mg,ca,cb))
 else if(decide (ca<7)&&decide (cb<7))=true then pure (.done (none,i-1,j,o.push p,mg,ca,cb))else pure (.yield (none,i-1,j,o.push p,mg,ca,cb))
noncomputable def hi2 (x y:Array Keyed) (i j:Nat) (o:Array Keyed) (mg ca cb:Nat):StateT SortSt Sem (ForInStep TG):=do
 let q <- elem' y (j-1)
 if(j-1 == 1)=true then pure (.done (some (fbH x y (o.push q) i (j-1)),i,j-1,o.push q,mg,ca,cb))
 else do
  let p <- elem' x (i-1)
  let r <- aY' true p y 0 (j-1) (j-1-1)
  match r with
  |some z=>
   if j-1-z > 0 then
    if(z == 1)=true then pure (.done (some (fbH x y (o.push q++(y.extract z (j-1)).reverse) i z),i,z,o.push q++(y.extract z (j-1)).reverse,mg,ca,j-1-z))
    else if(z == 0)=true then pure (.done (some (dnH x y (o.push q++(y.extract z (j-1)).reverse) i z),i,z,o.push q++(y.extract z (j-1)).reverse,mg,ca,j-1-z))
    else hi3 x y i z (o.push q++(y.extract z (j-1)).reverse) mg ca (j-1-z)
   else hi3 x y i (j-1) (o.push q) mg ca (j-1-z)
  |_=>pure (.done (some (dnH x y (o.push q) i (j-1)),i,j-1,o.push q,mg,ca,cb))
noncomputable def hi1 (x y:Array Keyed) (i j:Nat) (o:Array Keyed) (mg ca cb:Nat):StateT SortSt Sem (ForInStep TG):=do
 modify fun st=>SortSt.mk' (kindOf st) (arrOf st) (pendingOf st) mg (failedOf st)
 let q <- elem' y (j-1)
 let r <- aY' false q x 0 i (i-1)
 match r with
 |some z=>
  if i-z > 0 then
   if(z == 0)=true then pure (.done (some (dnH x y (o++(x.extract z i).reverse) z j),z,j,o++(x.extract z i).reverse,mg,i-z,cb))
   else hi2 x y z j (o++(x.extract z i).reverse) mg (i-z) cb
  else hi2 x y i j o mg (i-z) cb
 |_=>pure (.done (some (dnH x y o i j),i,j,o,mg,ca,cb))
noncomputable def hiI (x y:Array Keyed) (i j:Nat) (o:Array Keyed) (mg ca cb:Nat):StateT SortSt Sem (ForInStep TI):=do
 let q <- elem' y (j-1)
 let p <- elem' x (i-1)
 let r <- lt' q p
 match r with
 |some b=>
  if b=true then do
   let p <- elem' x (i-1)
   if(i-1 == 0)=true then pure (.done (some (dnH x y (o.push p) (i-1) j),i-1,j,o.push p,ca+1,0))
   else if ca+1 ≥ mg then pure (.done (none,i-1,j,o.push p,ca+1,0))else pure (.yield (none,i-1,j,o.push p,ca+1,0))
  else do
   let q <- elem' y (j-1)
   if(j-1 == 1)=true then pure (.done (some (fbH x y (o.push q) i (j-1)),i,j-1,o.push q,0,cb+1))
   else if cb+1 ≥ mg then pure (.done (none,i,j-1,o.push q,0,cb+1))else pure (.yield (none,i,j-1,o.push q,0,cb+1))
 |_=>pure (.done (some (dnH x y o i j),i,j,o,ca,cb))
noncomputable def hiG (x y:Array Keyed) (u:TG):StateT SortSt Sem (ForInStep TG):=
 if u.2.2.2.2.1 > 1 then hi1 x y u.2.1 u.2.2.1 u.2.2.2.1 (u.2.2.2.2.1-1) u.2.2.2.2.2.1 u.2.2.2.2.2.2 else hi1 x y u.2.1 u.2.2.1 u.2.2.2.1 u.2.2.2.2.1 u.2.2.2.2.2.1 u.2.2.2.2.2.2
noncomputable def hiO (x y:Array Keyed) (c:TO):StateT SortSt Sem (ForInStep TO):=do
 let r <- forIn [0:x.size+y.size] ((none,c.2.1,c.2.2.1,c.2.2.2.1,0,0):TI) fun _ r=>hiI x y r.2.1 r.2.2.1 r.2.2.2.1 c.2.2.2.2 r.2.2.2.2.1 r.2.2.2.2.2
 match r.1 with
 |some v=>pure (.done (some v,r.2.1,r.2.2.1,r.2.2.2.1,c.2.2.2.2))
 |none=>do
  liftM (rule "list.sort.gallop")
  let u <- forIn [0:x.size+y.size] ((none,r.2.1,r.2.2.1,r.2.2.2.1,c.2.2.2.2+1,r.2.2.2.2.1,r.2.2.2.2.2):TG) fun _ u=>hiG x y u
  match u.1 with
  |some v=>pure (.done (some v,u.2.1,u.2.2.1,u.2.2.2.1,u.2.2.2.2.1))
  |none=>do
   modify fun st=>SortSt.mk' (kindOf st) (arrOf st) (pendingOf st) (u.2.2.2.2.1+1) (failedOf st)
   pure (.yield (none,u.2.1,u.2.2.1,u.2.2.2.1,u.2.2.2.2.1+1))
theorem hF' (x y:Array Keyed):cQ' x y=(do
 rule "list.sort.merge-hi"
 let t:=x.size+y.size
 let dn (o:Array Keyed) (i j:Nat):=x.extract 0 i++y.extract 0 j++o.reverse
 let fb (o:Array Keyed) (i j:Nat):=y.extract 0 j++x.extract 0 i++o.reverse
 let mut i:=x.size-1
 let mut j:=y.size
 let mut o:Array Keyed:=#[<- elem' x i]
 if i == 0 then return dn o i j
 if j == 1 then return fb o i j
 let mut mg:=gallopOf (<- get)
 for _ in [0:t] do
  let mut ca:=0
  let mut cb:=0
  for _ in [0:t] do
   let some aw <- lt' (<- elem' y (j-1)) (<- elem' x (i-1))|return dn o i j
   if aw then
    i:=i-1;o:=o.push (<- elem' x i);ca:=ca+1;cb:=0
    if i == 0 then return dn o i j
    if ca ≥ mg then break
   else
    j:=j-1;o:=o.push (<- elem' y j);cb:=cb+1;ca:=0
    if j == 1 then return fb o i j
    if cb ≥ mg then break
  rule "list.sort.gallop"
  mg:=mg+1
  for _ in [0:t] do
   if mg > 1 then mg:=mg-1
   modify fun st=>SortSt.mk' (kindOf st) (arrOf st) (pendingOf st) mg (failedOf st)
   let some z <- aY' false (<- elem' y (j-1)) x 0 i (i-1)|return dn o i j
   let k:=i-z
   ca:=k
   if k > 0 then
    o:=o++(x.extract z i).reverse;i:=z
    if i == 0 then return dn o i j
   j:=j-1;o:=o.push (<- elem' y j)
   if j == 1 then return fb o i j
   let some z <- aY' true (<- elem' x (i-1)) y 0 j (j-1)|return dn o i j
   let k:=j-z
   cb:=k
   if k > 0 then
    o:=o++(y.extract z j).reverse;j:=z
    if j == 1 then return fb o i j
    if j == 0 then return dn o i j
   i:=i-1;o:=o.push (<- elem' x i)
   if i == 0 then return dn o i j
   if ca<7&&cb<7 then break
  mg:=mg+1
  modify fun st=>SortSt.mk' (kindOf st) (arrOf st) (pendingOf st) mg (failedOf st)
 unsupported "internal:list.sort.merge-bound"):=rfl
noncomputable def hiM (x y:Array Keyed):StateT SortSt Sem (Array Keyed):=do
 liftM (rule "list.sort.merge-hi")
 let p <- elem' x (x.size-1)
 if(x.size-1 == 0)=true then pure (dnH x y #[p] (x.size-1) y.size)
 else if(y.size == 1)=true then pure (fbH x y #[p] (x.size-1) y.size)
 else do
  let st <- get
  let r <- forIn [0:x.size+y.size] ((none,x.size-1,y.size,#[p],gallopOf st):TO) fun _ r=>hiO x y r
  match r.1 with
  |some v=>pure v
  |none=>unsupported "internal:list.sort.merge-bound"
theorem fE' (x y:Array Keyed):cQ' x y=hiM x y:=by
 refine(hF' x y).trans ?_
 refine ae' fun _=>ae' fun q=>aF' rfl (aF' rfl (ae' fun st=>aw' (fun n c=>?_) fun c=>by obtain⟨c0,c1⟩:=c;cases c0<;>rfl))
 refine aw' (fun n c=>rfl) fun c=>?_
 obtain⟨c0,o,i,j,ca,cb⟩:=c
 cases c0
 .refine ae' fun _=>aw' (fun n c=>rfl) fun c=>?_
  obtain⟨c0,o,i,j,mg,ca,cb⟩:=c
  cases c0
  .rfl
  .rfl
 .rfl
section
variable {M:Model} {A:Around} {E:Value->Shared->Prop} {s:Shared} {O:KeyOrd} {ky:Keyed->O.α} {P:Keyed->Prop} {kd:SortKind} {x y:Array Keyed}
theorem aR' {a:Array Keyed} {i:Nat} {p:Keyed} (e:a[i]?=some p):(a.toList.take (i+1)).reverse=p :: (a.toList.take i).reverse:=by
 have:a.toList[i]?=some p:=by simpa using e
 rw[List.take_add_one,this];simp
theorem bT' (a:Array Keyed) (i:Nat):(a.extract 0 i).toList=a.toList.take i:=by rw[aJ'];simp
theorem ms' (l:List Keyed) {z i:Nat} (h:z<=i):(l.take i).reverse=((l.drop z).take (i-z)).reverse++(l.take z).reverse:=by
 rw[<- List.reverse_append]
 congr 1
 rw[<- List.take_append_drop z (l.take i),List.take_take,List.drop_take]
 congr 2
 omega
theorem a9' {a:Array Keyed} {i:Nat} {p:Keyed} (h:p∈(a.toList.take i).reverse):∃n,n<i/\a[n]?=some p:=by
 obtain⟨n,hn,e⟩:=be' (a:=a) (i:=0) (k:=i) (p:=p) (by simpa using h)
 exact⟨n,hn,by simpa using e⟩
def Wh (O:KeyOrd) (ky:Keyed->O.α) (x y o:Array Keyed) (i j:Nat):Prop:=Mg (fun p q=>Rk O ky q p) (x.toList++y.toList) o.toList (x.toList.take i).reverse (y.toList.take j).reverse/\i<=x.size/\j<=y.size
theorem Wh.dn {o:Array Keyed} {i j:Nat} (w:Wh O ky x y o i j) (e:i=0):ea' O ky x y (x.extract 0 i++y.extract 0 j++o.reverse):=by
 subst e
 have⟨h1,h2⟩:=w.1.swap.fin (fun q _ p hp=>by simp at hp)
 unfold ea'
 have e:(x.extract 0 0++y.extract 0 j++o.reverse).toList=(o.toList++((y.toList.take j).reverse++(x.toList.take 0).reverse)).reverse:=by
  rw[Array.toList_append,Array.toList_append,bT',bT'];simp
 rw[e]
 exact⟨(List.reverse_perm _).trans h1,List.pairwise_reverse.mpr h2⟩
theorem Wh.fb {o:Array Keyed} {i j:Nat} (w:Wh O ky x y o i j) (e:j=1) (hf:∀p q,p∈x.toList->y[0]?=some q->O.klt (ky q) (ky p)):ea' O ky x y (y.extract 0 j++x.extract 0 i++o.reverse):=by
 subst e
 have⟨h1,h2⟩:=w.1.fin (fun p hp q hq=>by
  obtain⟨n,hn,e2⟩:=a9' hq
  have:n=0:=by omega
  subst this
  exact KeyOrd.kle_of_klt (hf p q (List.mem_of_mem_take (List.mem_reverse.mp hp)) e2))
 unfold ea'
 have e:(y.extract 0 1++x.extract 0 i++o.reverse).toList=(o.toList++((x.toList.take i).reverse++(y.toList.take 1).reverse)).reverse:=by
  rw[Array.toList_append,Array.toList_append,bT',bT'];simp
 rw[e]
 exact⟨(List.reverse_perm _).trans h1,List.pairwise_reverse.mpr h2⟩
theorem Wh.putA {o:Array Keyed} {i j:Nat} {p:Keyed} (w:Wh O ky x y o (i+1) j) (e1:x[i]?=some p) (h:∀n q,n<j->y[n]?=some q->O.kle (ky q) (ky p)):Wh O ky x y (o.push p) i j:=by
 refine⟨?_,by have:=w.2.1;omega,w.2.2⟩
 have m:=w.1
 rw[aR' e1]at m
 rw[Array.toList_push]
 refine m.put1 fun z hz=>?_
 obtain⟨n,hn,e3⟩:=a9' hz
 exact h n z hn e3
theorem Wh.putB {o:Array Keyed} {i j:Nat} {q:Keyed} (w:Wh O ky x y o i (j+1)) (e2:y[j]?=some q) (h:∀n p,n<i->x[n]?=some p->O.kle (ky p) (ky q)):Wh O ky x y (o.push q) i j:=by
 refine⟨?_,w.2.1,by have:=w.2.2;omega⟩
 have m:=w.1
 rw[aR' e2]at m
 rw[Array.toList_push]
 refine m.putB1 fun z hz=>?_
 obtain⟨n,hn,e3⟩:=a9' hz
 exact h n z hn e3
theorem Wh.manyA {o:Array Keyed} {i j z:Nat} (w:Wh O ky x y o i j) (hz:z<=i) (h:∀n p m q,z<=n->n<i->x[n]?=some p->m<j->y[m]?=some q->O.kle (ky q) (ky p)):Wh O ky x y (o++(x.extract z i).reverse) z j:=by
 refine⟨?_,by have:=w.2.1;omega,w.2.2⟩
 have m:=w.1
 rw[ms' _ hz]at m
 rw[Array.toList_append,Array.toList_reverse,aJ']
 refine m.put fun p hp q hq=>?_
 obtain⟨n,hn,e3⟩:=be' (List.mem_reverse.mp hp)
 obtain⟨n2,hn2,e4⟩:=a9' hq
 exact h _ p n2 q (by omega) (by omega) e3 hn2 e4
theorem Wh.manyB {o:Array Keyed} {i j z:Nat} (w:Wh O ky x y o i j) (hz:z<=j) (h:∀n q m p,z<=n->n<j->y[n]?=some q->m<i->x[m]?=some p->O.kle (ky p) (ky q)):Wh O ky x y (o++(y.extract z j).reverse) i z:=by
 refine⟨?_,w.2.1,by have:=w.2.2;omega⟩
 have m:=w.1
 rw[ms' _ hz]at m
 rw[Array.toList_append,Array.toList_reverse,aJ']
 refine m.putB fun q hq p hp=>?_
 obtain⟨n,hn,e3⟩:=be' (List.mem_reverse.mp hq)
 obtain⟨n2,hn2,e4⟩:=a9' hp
 exact h _ q n2 p (by omega) (by omega) e3 hn2 e4
noncomputable def HtG (O:KeyOrd) (ky:Keyed->O.α) (st:SortSt) (x y:Array Keyed) (b:Nat):ForInStep TG->SortSt->Prop:=fun r st'=>match r with
 | .done c=>ar' st st'/\((∃r,c.1=some r/\ea' O ky x y r)\/∃o i j mg ca cb,c=(none,i,j,o,mg,ca,cb)/\Wh O ky x y o i j/\1<=i/\2<=j/\b+i+j<=x.size+y.size)
 | .yield c=>ar' st st'/\∃o i j mg ca cb,c=(none,i,j,o,mg,ca,cb)/\Wh O ky x y o i j/\1<=i/\2<=j/\b+i+j<=x.size+y.size
theorem mt' {st st4:SortSt} {o:Array Keyed} {i j mg ca cb b:Nat} {p:Keyed} (g4:ar' st st4) (w:Wh O ky x y o (i+1) j) (ep:x[i]?=some p) (h:∀n q,n<j->y[n]?=some q->O.klt (ky q) (ky p)) (hj:2<=j) (hc:b+i+j<=x.size+y.size):
  wpS M A E s (hi3 x y (i+1) j o mg ca cb) (HtG O ky st x y b) st4:=by
 have w6:=w.putA ep fun n q' h1 h2=>KeyOrd.kle_of_klt (h n q' h1 h2)
 unfold hi3
 simp only[Nat.add_sub_cancel]
 refine wpS_bind (al' ep ?_)
 by_cases c6:i=0
 .rw[if_pos (by simpa using c6)]
  exact wpS_pure ⟨g4,.inl ⟨_,rfl,w6.dn c6⟩⟩
 rw[if_neg (by simpa using c6)]
 split
 .exact wpS_pure ⟨g4,.inr ⟨_,_,_,_,_,_,rfl,w6,by omega,hj,hc⟩⟩
 .exact wpS_pure ⟨g4,_,_,_,_,_,_,rfl,w6,by omega,hj,hc⟩
theorem mu' (C:Cmp M A E s O ky P kd) {st st4:SortSt} {o:Array Keyed} {i j mg ca cb b:Nat} {q:Keyed} (g4:ar' st st4) (w:Wh O ky x y o (i+1) (j+1)) (eq:y[j]?=some q) (h:∀n p,n<i+1->x[n]?=some p->O.kle (ky p) (ky q)) (kst:kindOf st=kd) (px:∀p∈x.toList,P p) (py:∀p∈y.toList,P p) (sx:x.toList.Pairwise (Rk O ky)) (sy:y.toList.Pairwise (Rk O ky)) (hf:∀p q,p∈x.toList->y[0]?=some q->O.klt (ky q) (ky p)) (hj:1<=j) (hc:b+(i+1)+(j+1)<=x.size+y.size):
  wpS M A E s (hi2 x y (i+1) (j+1) o mg ca cb) (HtG O ky st x y b) st4:=by
 have w4:=w.putB eq h
 have b1:=w.2.1;have b2:=w.2.2
 obtain⟨p,ep,mp⟩:=am' (a:=x) (i:=i) (by omega)
 obtain⟨q0,e0,m0⟩:=am' (a:=y) (i:=0) (by omega)
 unfold hi2
 simp only[Nat.add_sub_cancel]
 refine wpS_bind (al' eq ?_)
 by_cases c4:j=1
 .rw[if_pos (by simpa using c4)]
  exact wpS_pure ⟨g4,.inl ⟨_,rfl,w4.fb c4 hf⟩⟩
 rw[if_neg (by simpa using c4)]
 refine wpS_bind (al' ep (wpS_bind (b5' C (px p mp) (g4.1.trans kst) (by omega) (by omega) py (fun a b u v hab hb e1 e2=>cv' sy (by omega) e1 e2) fun z hz l3 l4=>?_)))
 dsimp only
 simp only[Nat.zero_add]at l3 l4
 have hz3:0<z:=by
  rcases Nat.eq_zero_or_pos z with u|u
  .subst u
   exact absurd (hf p q0 mp e0) (KeyOrd.not_klt_of_kle (l4 0 q0 (Nat.le_refl _) (by omega) e0))
  .exact u
 by_cases hk4:j-z > 0
 .have w5:=w4.manyB hz fun n q' m p' h1 h2 h3 h4 h5=>KeyOrd.kle_trans (cv' sx (by omega) h5 ep) (l4 n q' h1 h2 h3)
  rw[if_pos hk4]
  by_cases c5:z=1
  .rw[if_pos (by simpa using c5)]
   exact wpS_pure ⟨g4,.inl ⟨_,rfl,w5.fb c5 hf⟩⟩
  rw[if_neg (by simpa using c5),if_neg (by simp;omega)]
  exact mt' g4 w5 ep l3 (by omega) (by omega)
 .rw[if_neg hk4]
  exact mt' g4 w4 ep (fun n q' h1 h2=>l3 n q' (by omega) h2) (by omega) (by omega)
theorem re' (C:Cmp M A E s O ky P kd) {st st3:SortSt} {o:Array Keyed} {i j mg ca cb b:Nat} (g3:ar' st st3) (w:Wh O ky x y o i (j+1)) (kst:kindOf st=kd) (px:∀p∈x.toList,P p) (py:∀p∈y.toList,P p) (sx:x.toList.Pairwise (Rk O ky)) (sy:y.toList.Pairwise (Rk O ky)) (hf:∀p q,p∈x.toList->y[0]?=some q->O.klt (ky q) (ky p)) (hi:1<=i) (hj:1<=j) (hc:b+i+(j+1)<=x.size+y.size):
  wpS M A E s (hi1 x y i (j+1) o mg ca cb) (HtG O ky st x y b) st3:=by
 have b1:=w.2.1;have b2:=w.2.2
 obtain⟨q,eq,mq⟩:=am' (a:=y) (i:=j) (by omega)
 unfold hi1
 simp only[Nat.add_sub_cancel]
 refine wpS_bind (f9' fun st4 g0=>?_)
 have g4:=g3.trans g0
 refine wpS_bind (al' eq (wpS_bind (de' C (py q mq) (g4.1.trans kst) (by omega) (by omega) px (fun a b u v hab hb e1 e2=>cv' sx (by omega) e1 e2) fun z hz l1 l2=>?_)))
 dsimp only
 simp only[Nat.zero_add]at l1 l2
 by_cases hk0:i-z > 0
 .have w2:=w.manyA hz fun n p' m q' h1 h2 h3 h4 h5=>KeyOrd.kle_trans (cv' sy (by omega) h5 eq) (KeyOrd.kle_of_klt (l2 n p' h1 h2 h3))
  rw[if_pos hk0]
  by_cases c3:z=0
  .rw[if_pos (by simpa using c3)]
   exact wpS_pure ⟨g4,.inl ⟨_,rfl,w2.dn c3⟩⟩
  rw[if_neg (by simpa using c3)]
  obtain⟨z,rfl⟩:∃z0,z=z0+1:=⟨z-1,by omega⟩
  exact mu' C g4 w2 eq l1 kst px py sx sy hf hj (by omega)
 .rw[if_neg hk0]
  obtain⟨i,rfl⟩:∃i0,i=i0+1:=⟨i-1,by omega⟩
  exact mu' C g4 w eq (fun n p h1 h2=>l1 n p (by omega) h2) kst px py sx sy hf hj hc
noncomputable def HtI (O:KeyOrd) (ky:Keyed->O.α) (st:SortSt) (x y:Array Keyed) (n:Nat):ForInStep TI->SortSt->Prop:=fun r st'=>match r with
 | .done c=>ar' st st'/\((∃r,c.1=some r/\ea' O ky x y r)\/∃o i j ca cb,c=(none,i,j,o,ca,cb)/\Wh O ky x y o i j/\1<=i/\2<=j/\n+2+i+j<=x.size+y.size)
 | .yield c=>ar' st st'/\∃o i j ca cb,c=(none,i,j,o,ca,cb)/\Wh O ky x y o i j/\1<=i/\2<=j/\n+2+i+j<=x.size+y.size
theorem rf' (C:Cmp M A E s O ky P kd) {st st2:SortSt} {o:Array Keyed} {i j mg ca cb n:Nat} (g2:ar' st st2) (w:Wh O ky x y o (i+1) (j+1)) (kst:kindOf st=kd) (px:∀p∈x.toList,P p) (py:∀p∈y.toList,P p) (sx:x.toList.Pairwise (Rk O ky)) (sy:y.toList.Pairwise (Rk O ky)) (hf:∀p q,p∈x.toList->y[0]?=some q->O.klt (ky q) (ky p)) (hj:1<=j) (hc:n+1+(i+1)+(j+1)<=x.size+y.size):
  wpS M A E s (hiI x y (i+1) (j+1) o mg ca cb) (HtI O ky st x y n) st2:=by
 have b1:=w.2.1;have b2:=w.2.2
 obtain⟨q,eq,mq⟩:=am' (a:=y) (i:=j) (by omega)
 obtain⟨p,ep,mp⟩:=am' (a:=x) (i:=i) (by omega)
 unfold hiI
 simp only[Nat.add_sub_cancel]
 refine wpS_bind (al' eq (wpS_bind (al' ep (wpS_bind (C.lt (py q mq) (px p mp) (g2.1.trans kst) ?_)))))
 cases hb:O.blt (ky q) (ky p)
 .have w2:=w.putB eq fun n p' hn e=>KeyOrd.kle_trans (cv' sx (by omega) e ep) hb
  refine wpS_bind (al' eq ?_)
  by_cases c3:j=1
  .rw[if_pos (by simpa using c3)]
   exact wpS_pure ⟨g2,.inl ⟨_,rfl,w2.fb c3 hf⟩⟩
  .rw[if_neg (by simpa using c3)]
   split
   .exact wpS_pure ⟨g2,.inr ⟨_,_,_,_,_,rfl,w2,by omega,by omega,by omega⟩⟩
   .exact wpS_pure ⟨g2,_,_,_,_,_,rfl,w2,by omega,by omega,by omega⟩
 .have w2:=w.putA ep fun n q' hn e=>KeyOrd.kle_trans (cv' sy (by omega) e eq) (KeyOrd.kle_of_klt hb)
  refine wpS_bind (al' ep ?_)
  by_cases c3:i=0
  .rw[if_pos (by simpa using c3)]
   exact wpS_pure ⟨g2,.inl ⟨_,rfl,w2.dn c3⟩⟩
  .rw[if_neg (by simpa using c3)]
   split
   .exact wpS_pure ⟨g2,.inr ⟨_,_,_,_,_,rfl,w2,by omega,by omega,by omega⟩⟩
   .exact wpS_pure ⟨g2,_,_,_,_,_,rfl,w2,by omega,by omega,by omega⟩
noncomputable def HtO (O:KeyOrd) (ky:Keyed->O.α) (st:SortSt) (x y:Array Keyed) (n:Nat):ForInStep TO->SortSt->Prop:=fun r st'=>match r with
 | .done c=>ar' st st'/\∃r,c.1=some r/\ea' O ky x y r
 | .yield c=>ar' st st'/\∃o i j mg,c=(none,i,j,o,mg)/\Wh O ky x y o i j/\1<=i/\2<=j/\n+2+i+j<=x.size+y.size
theorem rg' (C:Cmp M A E s O ky P kd) {st st1:SortSt} {o:Array Keyed} {i j mg n:Nat} (g1:ar' st st1) (w:Wh O ky x y o i j) (kst:kindOf st=kd) (px:∀p∈x.toList,P p) (py:∀p∈y.toList,P p) (sx:x.toList.Pairwise (Rk O ky)) (sy:y.toList.Pairwise (Rk O ky)) (hf:∀p q,p∈x.toList->y[0]?=some q->O.klt (ky q) (ky p)) (hi:1<=i) (hj:2<=j) (hc:n+1+i+j<=x.size+y.size):
  wpS M A E s (hiO x y (none,i,j,o,mg)) (HtO O ky st x y n) st1:=by
 refine aM' (fun k c st'=>ar' st st'/\∃o i j ca cb,c=(none,i,j,o,ca,cb)/\Wh O ky x y o i j/\1<=i/\2<=j/\n+1+min k 1+i+j<=x.size+y.size)
  (fun c st'=>HtI O ky st x y n (.done c) st') ⟨g1,o,i,j,0,0,rfl,w,hi,hj,by omega⟩ ?_ ?_ ?_
 .rintro k c st2 _ hk ⟨g2,o,i,j,ca,cb,rfl,w,hi,hj,hc⟩
  obtain⟨i,rfl⟩:∃i0,i=i0+1:=⟨i-1,by omega⟩
  obtain⟨j,rfl⟩:∃j0,j=j0+1:=⟨j-1,by omega⟩
  refine wpS_mono (rf' (o:=o) (i:=i) (j:=j) (ca:=ca) (cb:=cb) (mg:=mg) (n:=n) C g2 w kst px py sx sy hf (by omega) (by omega)) fun r st' hh=>?_
  cases r with
  |done c=>exact hh
  |yield c=>
   obtain⟨g,o,i,j,ca,cb,e,a1,a2,a3,a4⟩:=hh
   exact⟨g,o,i,j,ca,cb,e,a1,a2,a3,by omega⟩
 .rintro c st2 ⟨g2,o,i,j,ca,cb,rfl,w,hi,hj,hc⟩
  exact⟨g2,.inr ⟨_,_,_,_,_,rfl,w,hi,hj,by omega⟩⟩
 .rintro⟨c0,c1⟩ st2 ⟨g2,⟨r,e,G⟩|⟨o,i,j,ca,cb,e,w,hi,hj,hc⟩⟩
  .cases e
   exact wpS_pure ⟨g2,r,rfl,G⟩
  cases e
  refine wpS_bind (wpS_lift (wpAny_rule ⟨rfl,?_⟩))
  refine aM' (fun k c st'=>HtG O ky st x y (n+2) (.yield c) st') (fun c st'=>HtG O ky st x y (n+2) (.done c) st') ⟨g2,o,i,j,_,_,_,rfl,w,hi,hj,hc⟩ ?_ ?_ ?_
  .rintro k c st3 _ hk ⟨g3,o,i,j,mg,ca,cb,rfl,w,hi,hj,hc⟩
   refine wpS_mono (Q:=HtG O ky st x y (n+2)) ?_ fun r st' hh=>by cases r<;>exact hh
   obtain⟨j,rfl⟩:∃j0,j=j0+1:=⟨j-1,by omega⟩
   have go:∀m,wpS M A E s (hi1 x y i (j+1) o m ca cb) (HtG O ky st x y (n+2)) st3:=fun m=>re' (b:=n+2) C g3 w kst px py sx sy hf hi (by omega) hc
   unfold hiG
   split
   .exact go (mg-1)
   .exact go mg
  .rintro c st3 ⟨g3,o,i,j,mg,ca,cb,rfl,w,hi,hj,hc⟩
   exact⟨g3,.inr ⟨_,_,_,_,_,_,rfl,w,hi,hj,hc⟩⟩
  .rintro⟨c0,c1⟩ st3 ⟨g3,⟨r,e,G⟩|⟨o,i,j,mg,ca,cb,e,w,hi,hj,hc⟩⟩
   .cases e
    exact wpS_pure ⟨g3,r,rfl,G⟩
   cases e
   exact wpS_bind (wpS_modify (wpS_pure ⟨g3.trans (ar'.set _ _),_,_,_,_,rfl,w,hi,hj,by omega⟩))
theorem hG' (C:Cmp M A E s O ky P kd) {st:SortSt} {Q:Array Keyed->SortSt->Prop} (kst:kindOf st=kd) (px:∀p∈x.toList,P p) (py:∀p∈y.toList,P p) (sx:x.toList.Pairwise (Rk O ky)) (sy:y.toList.Pairwise (Rk O ky))
  (hx:0<x.size) (hy:0<y.size) (hf:∀p q,p∈x.toList->y[0]?=some q->O.klt (ky q) (ky p)) (hl:∀p q,x[x.size-1]?=some p->q∈y.toList->O.klt (ky q) (ky p))
  (h:∀r st',ea' O ky x y r->ar' st st'->Q r st'):wpS M A E s (cQ' x y) Q st:=by
 rw[fE']
 refine wpS_bind (wpS_lift (wpAny_rule ⟨rfl,?_⟩))
 obtain⟨q0,e0,m0⟩:=am' hy
 obtain⟨p0,d0,n0⟩:=am' (a:=x) (i:=x.size-1) (by omega)
 have w0:Wh O ky x y #[] (x.size-1+1) y.size:=by
  have e1:x.toList.take (x.size-1+1)=x.toList:=List.take_of_length_le (by simp;omega)
  have e2:y.toList.take y.size=y.toList:=List.take_of_length_le (by simp)
  refine⟨⟨?_,List.Pairwise.nil,?_,?_,by simp,by simp⟩,by omega,Nat.le_refl _⟩
  .rw[e1,e2];simpa using List.Perm.append (List.reverse_perm x.toList) (List.reverse_perm y.toList)
  .rw[e1];exact List.pairwise_reverse.mpr sx
  .rw[e2];exact List.pairwise_reverse.mpr sy
 have mem_of:∀{a:Array Keyed} {n:Nat} {p:Keyed},a[n]?=some p->p∈a.toList:=fun e=>by simpa using Array.mem_of_getElem? e
 have w1:Wh O ky x y #[p0] (x.size-1) y.size:=w0.putA d0 fun n q _ e=>KeyOrd.kle_of_klt (hl p0 q d0 (mem_of e))
 refine wpS_bind (al' d0 ?_)
 by_cases c1:x.size-1=0
 .rw[if_pos (by simpa using c1)]
  exact wpS_pure (h _ _ (w1.dn c1) (ar'.rfl' _))
 rw[if_neg (by simpa using c1)]
 by_cases c2:y.size=1
 .rw[if_pos (by simpa using c2)]
  exact wpS_pure (h _ _ (w1.fb c2 hf) (ar'.rfl' _))
 rw[if_neg (by simpa using c2)]
 refine wpS_bind (wpS_get ?_)
 refine aM' (fun n c st'=>ar' st st'/\∃o i j mg,c=(none,i,j,o,mg)/\Wh O ky x y o i j/\1<=i/\2<=j/\n+1+i+j<=x.size+y.size)
  (fun c st'=>ar' st st'/\∃r,c.1=some r/\ea' O ky x y r) ⟨ar'.rfl' _,#[p0],x.size-1,y.size,gallopOf st,rfl,w1,by omega,by omega,by omega⟩ ?_ ?_ ?_
 .rintro n c st1 _ hn ⟨g1,o,i,j,mg,rfl,w,hi,hj,hc⟩
  exact wpS_mono (rg' (n:=n) C g1 w kst px py sx sy hf hi hj hc) fun r st' hh=>by cases r<;>exact hh
 .rintro c st1 ⟨g1,o,i,j,mg,rfl,w,hi,hj,hc⟩
  omega
 .rintro⟨c0,c1⟩ st1 ⟨g1,r,e,G⟩
  cases e
  exact wpS_pure (h r st1 G g1)
end
end So
namespace So
open PySem PySem.Spec PyProof.Rows
theorem hH' (i:Nat):mergeAt' i=(do
 let z <- get
 let(some (su,nu,pw),some (sv,nv,_)):=((pendingOf z)[i]?,(pendingOf z)[i+1]?)|unsupported "internal:list.sort.pending"
 set (SortSt.mk' (kindOf z) (arrOf z) (((pendingOf z).setIfInBounds i (su,nu+nv,pw)).eraseIdxIfInBounds (i+1)) (gallopOf z) (failedOf z))
 let some k <- aY' false (<- elem' (arrOf z) sv) (arrOf z) su nu 0|return false
 let(su,nu):=(su+k,nu-k)
 if nu == 0 then return true
 let some nv <- aY' true (<- elem' (arrOf z) (su+nu-1)) (arrOf z) sv nv (nv-1)|return false
 if nv == 0 then return true
 let x:=(arrOf z).extract su sv
 let y:=(arrOf z).extract sv (sv+nv)
 let mm <- if nu<=nv then cP' x y else cQ' x y
 modify fun z=>setArr z (mm.toList.zipIdx.foldl (fun a (p,j)=>a.setIfInBounds (su+j) p) (arrOf z))
 return (failedOf (<- get)).isNone):=rfl
section
variable {M:Model} {A:Around} {E:Value->Shared->Prop} {s:Shared} {O:KeyOrd} {ky:Keyed->O.α} {P:Keyed->Prop} {kd:SortKind}
theorem oL' {σ:Type} {st st2:σ} {Q:PUnit->σ->Prop} (h:Q ⟨⟩ st2):wpS M A E s (set st2:StateT σ Sem PUnit) Q st:=by
 unfold wpS;rw[StateT.run_set];exact wpAny_pure ⟨rfl,h⟩
theorem mv' {b:Nat} {C:List Keyed}:∀(l B A:List Keyed) (n:Nat) (arr:Array Keyed),arr.toList=A++(B++C)->B.length=l.length->A.length=b+n->
  ((l.zipIdx n).foldl (fun a (x:Keyed×Nat)=>a.setIfInBounds (b+x.2) x.1) arr).toList=A++(l++C)
 | [],B,A,n,arr,e,h,_=>by
  have:B=[]:=List.eq_nil_of_length_eq_zero h
  subst this;simpa using e
 |p :: l,[],A,n,arr,e,h,_=>by simp at h
 |p :: l,q :: B,A,n,arr,e,h,hA=>by
  rw[List.zipIdx_cons,List.foldl_cons]
  have e3:(arr.setIfInBounds (b+n) p).toList=(A++[p])++(B++C):=by
   rw[Array.toList_setIfInBounds,e,<- hA,List.set_append_right _ _ (Nat.le_refl _)]
   simp
  have hA2:(A++[p]).length=b+(n+1):=by rw[List.length_append,hA];rfl
  have ih:=mv' (b:=b) l B (A++[p]) (n+1) (arr.setIfInBounds (b+n) p) e3 (by simpa using h) hA2
  refine ih.trans ?_
  simp
theorem i4' {arr:Array Keyed} {U L W:List Keyed} {i:Nat} (e:arr.toList=U++(L++W)) (h:i<L.length):arr[U.length+i]?=L[i]?:=by
 have:arr.toList[U.length+i]?=L[i]?:=by
  rw[e,List.getElem?_append_right (by omega),Nat.add_sub_cancel_left,List.getElem?_append_left h]
 simpa using this
theorem df' {arr:Array Keyed} {U L W:List Keyed} (e:arr.toList=U++(L++W)):(arr.extract U.length (U.length+L.length)).toList=L:=by
 rw[aJ',e];simp
theorem bH' {l:List Keyed} (h:l.Pairwise (Rk O ky)) {i j:Nat} {p q:Keyed} (hij:i<=j) (e:l[i]?=some p) (e2:l[j]?=some q):O.kle (ky p) (ky q):=
 cv' (a:=l.toArray) (by simpa using h) hij (by simpa using e) (by simpa using e2)
theorem hI' (C:Cmp M A E s O ky P kd) {st:SortSt} {Q:Bool->SortSt->Prop} {i su nu pw sv nv pv:Nat} {U l1 l2 W:List Keyed} (kst:kindOf st=kd) (pa:∀p∈(arrOf st).toList,P p)
  (e1:(pendingOf st)[i]?=some (su,nu,pw)) (e2:(pendingOf st)[i+1]?=some (sv,nv,pv)) (ea:(arrOf st).toList=U++(l1++(l2++W))) (hu:su=U.length) (hn:nu=l1.length) (hv:sv=su+nu) (hm:nv=l2.length)
  (h1:0<nu) (h2:0<nv) (s1:l1.Pairwise (Rk O ky)) (s2:l2.Pairwise (Rk O ky)) (hf:failedOf st=none)
  (h:∀st' m,kindOf st'=kd->failedOf st'=none->pendingOf st'=((pendingOf st).setIfInBounds i (su,nu+nv,pw)).eraseIdxIfInBounds (i+1)->(arrOf st').toList=U++(m++W)->m.Perm (l1++l2)->m.Pairwise (Rk O ky)->Q true st'):
  wpS M A E s (mergeAt' i) Q st:=by
 rw[hH']
 refine wpS_bind (wpS_get ?_)
 rw[e1,e2]
 dsimp only
 refine wpS_bind (oL' ?_)
 have hsz:(arrOf st).size=U.length+(nu+(nv+W.length)):=by
  have:=congrArg List.length ea
  simp at this;omega
 have ea2:(arrOf st).toList=(U++l1)++(l2++W):=by rw[ea];simp
 have a1:∀k,k<nu->(arrOf st)[su+k]?=l1[k]?:=fun k hk=>by rw[hu];exact i4' ea (by omega)
 have a2:∀k,k<nv->(arrOf st)[sv+k]?=l2[k]?:=fun k hk=>by
  have:=i4' (i:=k) ea2 (by omega)
  rw[List.length_append]at this
  rw[hv,hu,hn];exact this
 obtain⟨y0,ey0,my0⟩:=am' (a:=arrOf st) (i:=sv) (by omega)
 have ey0':l2[0]?=some y0:=by rw[<- a2 0 h2];exact ey0
 refine wpS_bind (al' ey0 (wpS_bind (de' C (pa y0 my0) kst (by omega) (by omega) pa (fun a b u v hab hb x1 x2=>bH' s1 hab (by rw[<- a1 a (by omega)];exact x1) (by rw[<- a1 b hb];exact x2)) fun k hk g1 g2=>?_)))
 dsimp only
 have g1':∀n p,n<k->l1[n]?=some p->O.kle (ky p) (ky y0):=fun n p hn e=>g1 n p hn (by rw[a1 n (by omega)];exact e)
 have g2':∀n p,k<=n->l1[n]?=some p->O.klt (ky y0) (ky p):=fun n p hn e=>by
  have hlt:n<l1.length:=by
   rcases Nat.lt_or_ge n l1.length with q|q
   .exact q
   .rw[List.getElem?_eq_none q]at e;cases e
  exact g2 n p hn (by omega) (by rw[a1 n (by omega)];exact e)
 by_cases c1:nu-k=0
 .rw[if_pos (by simpa using c1)]
  refine wpS_pure (h _ (l1++l2) kst hf rfl (by rw[List.append_assoc];exact ea) (List.Perm.refl _) (List.pairwise_append.mpr ⟨s1,s2,fun p hp q hq=>?_⟩))
  obtain⟨n,hn',en⟩:=List.getElem_of_mem hp
  obtain⟨m,hm',em⟩:=List.getElem_of_mem hq
  exact KeyOrd.kle_trans (g1' n p (by omega) (by rw[List.getElem?_eq_getElem hn',en])) (bH' s2 (Nat.zero_le m) ey0' (by rw[List.getElem?_eq_getElem hm',em]))
 rw[if_neg (by simpa using c1)]
 obtain⟨xl,exl,mxl⟩:=am' (a:=arrOf st) (i:=su+k+(nu-k)-1) (by omega)
 have exl':l1[nu-1]?=some xl:=by rw[<- a1 (nu-1) (by omega)];rw[show su+(nu-1)=su+k+(nu-k)-1 by omega];exact exl
 refine wpS_bind (al' exl (wpS_bind (b5' C (pa xl mxl) kst (by omega) (by omega) pa (fun a b u v hab hb x1 x2=>bH' s2 hab (by rw[<- a2 a (by omega)];exact x1) (by rw[<- a2 b hb];exact x2)) fun k2 hk2 g3 g4=>?_)))
 dsimp only
 have g3':∀n p,n<k2->l2[n]?=some p->O.klt (ky p) (ky xl):=fun n p hn e=>g3 n p hn (by rw[a2 n (by omega)];exact e)
 have g4':∀n p,k2<=n->l2[n]?=some p->O.kle (ky xl) (ky p):=fun n p hn e=>by
  have hlt:n<l2.length:=by
   rcases Nat.lt_or_ge n l2.length with q|q
   .exact q
   .rw[List.getElem?_eq_none q]at e;cases e
  exact g4 n p hn (by omega) (by rw[a2 n (by omega)];exact e)
 have hk2':0<k2:=by
  rcases Nat.eq_zero_or_pos k2 with u|u
  .subst u
   exact absurd (g2' (nu-1) xl (by omega) exl') (KeyOrd.not_klt_of_kle (g4' 0 y0 (Nat.le_refl _) ey0'))
  .exact u
 rw[if_neg (by simp;omega)]
 have ex:((arrOf st).extract (su+k) sv).toList=l1.drop k:=by
  have e3:(arrOf st).toList=(U++l1.take k)++(l1.drop k++(l2++W)):=by
   rw[ea,List.append_assoc,<- List.append_assoc (l1.take k),List.take_append_drop]
  have:=df' e3
  simp only[List.length_append,List.length_take,List.length_drop]at this
  rw[show U.length+min k l1.length=su+k by omega,show su+k+(l1.length-k)=sv by omega]at this
  exact this
 have ey:((arrOf st).extract sv (sv+k2)).toList=l2.take k2:=by
  have e3:(arrOf st).toList=(U++l1)++(l2.take k2++(l2.drop k2++W)):=by
   rw[ea2,<- List.append_assoc (l2.take k2),List.take_append_drop]
  have:=df' e3
  simp only[List.length_append,List.length_take]at this
  rw[show U.length+l1.length=sv by omega,show min k2 l2.length=k2 by omega]at this
  exact this
 generalize hX:(arrOf st).extract (su+k) sv=X at ex ⊢
 generalize hY:(arrOf st).extract sv (sv+k2)=Y at ey ⊢
 have sX:X.toList.Pairwise (Rk O ky):=by rw[ex];exact s1.sublist (List.drop_sublist _ _)
 have sY:Y.toList.Pairwise (Rk O ky):=by rw[ey];exact s2.sublist (List.take_sublist _ _)
 have mX:∀p∈X.toList,p∈l1:=fun p hp=>by rw[ex]at hp;exact List.mem_of_mem_drop hp
 have mY:∀p∈Y.toList,p∈l2:=fun p hp=>by rw[ey]at hp;exact List.mem_of_mem_take hp
 have pX:∀p∈X.toList,P p:=fun p hp=>pa p (by rw[ea];exact List.mem_append_right _ (List.mem_append_left _ (mX p hp)))
 have pY:∀p∈Y.toList,P p:=fun p hp=>pa p (by rw[ea];exact List.mem_append_right _ (List.mem_append_right _ (List.mem_append_left _ (mY p hp))))
 have zX:X.size=nu-k:=by have:=congrArg List.length ex;simp at this;omega
 have zY:Y.size=k2:=by have:=congrArg List.length ey;simp at this;omega
 have iX:∀n,X[n]?=l1[k+n]?:=fun n=>by
  have:X.toList[n]?=l1[k+n]?:=by rw[ex,List.getElem?_drop]
  simpa using this
 have f0:∀p q,p∈X.toList->Y[0]?=some q->O.klt (ky q) (ky p):=fun p q hp hq=>by
  have hq':Y.toList[0]?=some q:=by simpa using hq
  rw[ey,List.getElem?_take_of_lt hk2',ey0']at hq'
  cases hq'
  obtain⟨n,hn',en⟩:=List.getElem_of_mem hp
  refine g2' (k+n) p (by omega) ?_
  rw[<- iX n]
  have:X.toList[n]?=some p:=by rw[List.getElem?_eq_getElem hn',en]
  simpa using this
 have fl:∀p q,X[X.size-1]?=some p->q∈Y.toList->O.klt (ky q) (ky p):=fun p q hp hq=>by
  rw[iX,zX,show k+(nu-k-1)=nu-1 by omega,exl']at hp
  cases hp
  rw[ey]at hq
  obtain⟨n,hn',en⟩:=List.getElem_of_mem hq
  have:n<k2:=by simp at hn';omega
  refine g3' n q this ?_
  rw[<- List.getElem?_take_of_lt this,List.getElem?_eq_getElem hn',en]
 have key:∀r st2,ea' O ky X Y r->ar' (SortSt.mk' (kindOf st) (arrOf st) (((pendingOf st).setIfInBounds i (su,nu+nv,pw)).eraseIdxIfInBounds (i+1)) (gallopOf st) (failedOf st)) st2->
   wpS M A E s (do
    modify fun z=>setArr z (r.toList.zipIdx.foldl (fun a (x:Keyed×Nat)=>a.setIfInBounds (su+k+x.2) x.1) (arrOf z))
    return (failedOf (<- get)).isNone) Q st2:=by
  intro r st2 G g
  refine wpS_bind (wpS_modify (wpS_bind (wpS_get (wpS_pure ?_))))
  have hfl:failedOf st2=none:=g.2.2.2.trans hf
  show Q (failedOf st2).isNone _
  rw[hfl]
  have lr:=G.1.length_eq
  rw[List.length_append,ex,ey]at lr
  simp only[List.length_drop,List.length_take]at lr
  have eA:(arrOf st2).toList=(U++l1.take k)++((l1.drop k++l2.take k2)++(l2.drop k2++W)):=by
   rw[g.2.1]
   show(arrOf st).toList=_
   rw[ea]
   conv=>lhs;rw[<- List.take_append_drop k l1,<- List.take_append_drop k2 l2]
   simp only[List.append_assoc]
  have L:=mv' (b:=su+k) (C:=l2.drop k2++W) r.toList (l1.drop k++l2.take k2) (U++l1.take k) 0 (arrOf st2) eA (by simp only[List.length_append,List.length_drop,List.length_take];omega) (by simp only[List.length_append,List.length_take];omega)
  refine h _ (l1.take k++(r.toList++l2.drop k2)) (g.1.trans kst) hfl g.2.2.1 (L.trans (by simp only[List.append_assoc])) ?_ ?_
  .conv=>rhs;rw[<- List.take_append_drop k l1,<- List.take_append_drop k2 l2]
   have:=G.1
   rw[ex,ey]at this
   have h3:(r.toList++l2.drop k2).Perm ((l1.drop k++l2.take k2)++l2.drop k2):=List.Perm.append_right _ this
   have h4:=List.Perm.append_left (l1.take k) h3
   simpa only[List.append_assoc]using h4
  .have mr:∀p∈r.toList,p∈l1.drop k\/p∈l2.take k2:=fun p hp=>by
    have:=G.1.mem_iff.mp hp
    rw[ex,ey]at this
    exact List.mem_append.mp this
   have at1:∀p∈l1.take k,∃n,n<k/\l1[n]?=some p:=fun p hp=>by
    obtain⟨n,hn',en⟩:=List.getElem_of_mem hp
    have:n<k:=by simp at hn';omega
    exact⟨n,this,by rw[<- List.getElem?_take_of_lt this,List.getElem?_eq_getElem hn',en]⟩
   have at2:∀p∈l1.drop k,∃n,k<=n/\l1[n]?=some p:=fun p hp=>by
    obtain⟨n,hn',en⟩:=List.getElem_of_mem hp
    exact⟨k+n,by omega,by rw[<- List.getElem?_drop,List.getElem?_eq_getElem hn',en]⟩
   have at3:∀p∈l2.take k2,∃n,n<k2/\l2[n]?=some p:=fun p hp=>by
    obtain⟨n,hn',en⟩:=List.getElem_of_mem hp
    have:n<k2:=by simp at hn';omega
    exact⟨n,this,by rw[<- List.getElem?_take_of_lt this,List.getElem?_eq_getElem hn',en]⟩
   have at4:∀p∈l2.drop k2,∃n,k2<=n/\l2[n]?=some p:=fun p hp=>by
    obtain⟨n,hn',en⟩:=List.getElem_of_mem hp
    exact⟨k2+n,by omega,by rw[<- List.getElem?_drop,List.getElem?_eq_getElem hn',en]⟩
   refine List.pairwise_append.mpr ⟨s1.sublist (List.take_sublist _ _),List.pairwise_append.mpr ⟨G.2,s2.sublist (List.drop_sublist _ _),?_⟩,?_⟩
   .intro p hp q hq
    obtain⟨m,hm',em⟩:=at4 q hq
    rcases mr p hp with u|u
    .obtain⟨n,hn',en⟩:=at2 p u
     have hlt:n<l1.length:=by
      rcases Nat.lt_or_ge n l1.length with v|v
      .exact v
      .rw[List.getElem?_eq_none v]at en;cases en
     exact KeyOrd.kle_trans (bH' s1 (by omega) en exl') (g4' m q hm' em)
    .obtain⟨n,hn',en⟩:=at3 p u
     exact bH' s2 (by omega) en em
   .intro p hp q hq
    obtain⟨n,hn',en⟩:=at1 p hp
    rcases List.mem_append.mp hq with u|u
    .rcases mr q u with v|v
     .obtain⟨m,hm',em⟩:=at2 q v
      exact bH' s1 (by omega) en em
     .obtain⟨m,hm',em⟩:=at3 q v
      exact KeyOrd.kle_trans (g1' n p hn' en) (bH' s2 (Nat.zero_le _) ey0' em)
    .obtain⟨m,hm',em⟩:=at4 q u
     exact KeyOrd.kle_trans (g1' n p hn' en) (bH' s2 (Nat.zero_le _) ey0' em)
 by_cases c2:nu-k<=k2
 .rw[if_pos c2]
  refine wpS_bind (hE' C kst pX pY sX sY (by omega) (by omega) (fun p q hp hq=>f0 p q (by simpa using Array.mem_of_getElem? hp) hq) fl fun r st2 G g=>?_)
  exact key r st2 G g
 .rw[if_neg c2]
  refine wpS_bind (hG' C kst pX pY sX sY (by omega) (by omega) f0 fl fun r st2 G g=>?_)
  exact key r st2 G g
end
end So
namespace So
open PySem PySem.Spec PyProof.Rows
noncomputable def cT (lo n nrem:Nat):StateT SortSt Sem (Option Nat):=do
 reverseSlice' lo (lo+n)
 let r <- forIn [n:nrem] ((none,n):Option (Option Nat)×Nat) fun _ r=>do
  let x <- ltAt' (lo+r.2) (lo+r.2-1)
  match x with
  |some b=>if b=true then pure (ForInStep.done (none,r.2))else pure (ForInStep.yield (none,r.2+1))
  |_=>pure (ForInStep.done (some none,r.2))
 match r.1 with
 |some v=>pure v
 |none=>pure (some r.2)
noncomputable def cS (lo n e:Nat):StateT SortSt Sem (ForInStep (Option (Option Nat)×Nat×Nat)):=do
 let x <- ltAt' (lo+n) (lo+n-1)
 match x with
 |some b=>
  if b=true then
   if e > 0 then do
    reverseSlice' (lo+n-(e+1)) (lo+n)
    pure (ForInStep.yield (none,n+1,0))
   else pure (ForInStep.yield (none,n+1,0))
  else do
   let x <- ltAt' (lo+n-1) (lo+n)
   match x with
   |some b=>if b=true then pure (ForInStep.done (none,n,e))else pure (ForInStep.yield (none,n+1,e+1))
   |_=>pure (ForInStep.done (some none,n,e))
 |_=>pure (ForInStep.done (some none,n,e))
noncomputable def cD (lo n nrem:Nat):StateT SortSt Sem (Option Nat):=do
 liftM (rule "list.sort.descending-run")
 let r <- forIn [n+1:nrem] ((none,n+1,0):Option (Option Nat)×Nat×Nat) fun _ r=>cS lo r.2.1 r.2.2
 match r.1 with
 |some v=>pure v
 |none=>if r.2.2 > 0 then(reverseSlice' (lo+r.2.1-(r.2.2+1)) (lo+r.2.1) >>= fun _=>cT lo r.2.1 nrem)else cT lo r.2.1 nrem
noncomputable def cM (lo nrem:Nat):StateT SortSt Sem (Option Nat):=do
 let r <- forIn [1:nrem] ((none,1):Option (Option Nat)×Nat) fun _ r=>do
  let x <- ltAt' (lo+r.2) (lo+r.2-1)
  match x with
  |some b=>if b=true then pure (ForInStep.done (none,r.2))else pure (ForInStep.yield (none,r.2+1))
  |_=>pure (ForInStep.done (some none,r.2))
 match r.1 with
 |some v=>pure v
 |none=>if(r.2 == nrem)=true then pure (some r.2)else if r.2 > 1 then(ltAt' lo (lo+r.2-1) >>= fun x=>match x with
   |some b=>if b=true then pure (some r.2)else(reverseSlice' lo (lo+r.2) >>= fun _=>cD lo r.2 nrem)
   |_=>pure none)else cD lo r.2 nrem
theorem eQ' (lo nrem:Nat):countRun' lo nrem=cM lo nrem:=by
 refine(countRun'_eq lo nrem).trans ?_
 refine aw' (fun n c=>?_) fun c=>?_
 .refine ae' fun x=>?_
  cases x<;>rfl
 obtain⟨c0,n⟩:=c
 cases c0
 .refine aF' rfl (aF' (ae' fun x=>?_) ?_)
  .cases x with
   |none=>rfl
   |some b=>
    refine aF' rfl (ae' fun _=>?_)
    refine ae' fun _=>aw' (fun n c=>?_) fun c=>?_
    .refine ae' fun x=>?_
     cases x with
     |none=>rfl
     |some b=>exact aF' rfl (ae' fun x=>by cases x<;>rfl)
    .obtain⟨c0,n,e⟩:=c
     cases c0
     .refine aF' (ae' fun _=>ae' fun _=>aw' (fun n c=>ae' fun x=>by cases x<;>rfl) fun c=>by obtain⟨c0,n⟩:=c;cases c0<;>rfl) (ae' fun _=>aw' (fun n c=>ae' fun x=>by cases x<;>rfl) fun c=>by obtain⟨c0,n⟩:=c;cases c0<;>rfl)
     .rfl
  .refine ae' fun _=>aw' (fun n c=>?_) fun c=>?_
   .refine ae' fun x=>?_
    cases x with
    |none=>rfl
    |some b=>exact aF' rfl (ae' fun x=>by cases x<;>rfl)
   .obtain⟨c0,n,e⟩:=c
    cases c0
    .refine aF' (ae' fun _=>ae' fun _=>aw' (fun n c=>ae' fun x=>by cases x<;>rfl) fun c=>by obtain⟨c0,n⟩:=c;cases c0<;>rfl) (ae' fun _=>aw' (fun n c=>ae' fun x=>by cases x<;>rfl) fun c=>by obtain⟨c0,n⟩:=c;cases c0<;>rfl)
    .rfl
 .rfl
section
variable {M:Model} {A:Around} {E:Value->Shared->Prop} {s:Shared} {O:KeyOrd} {ky:Keyed->O.α} {P:Keyed->Prop} {kd:SortKind} {st0:SortSt} {lo nrem:Nat}
noncomputable def ke (ky:Keyed->O.α) (a:Array Keyed) (i:Nat):O.α:=ky ((a[i]?).getD (Value.none,Value.none))
theorem ch' {a b:Array Keyed} {i j:Nat} (h:a[i]?=b[j]?):ke ky a i=ke ky b j:=by unfold ke;rw[h]
theorem la' {a:Array Keyed} {i:Nat} {p:Keyed} (h:a[i]?=some p):ke ky a i=ky p:=by unfold ke;rw[h];rfl
theorem ci' {a:Array Keyed} {i j:Nat} (hj:j<=a.size) (k:Nat):ke ky (mirror a i j ((j-i) / 2)) k=if i<=k/\k<j then ke ky a (i+j-1-k)else ke ky a k:=by
 have e:=getElem?_mirror_all (i:=i) hj k
 by_cases c:i<=k/\k<j
 .rw[if_pos c]at e ⊢;exact ch' e
 .rw[if_neg c]at e ⊢;exact ch' e
theorem eR' {a:Array Keyed} {src d:Nat} (hs:src<a.size) (hd:d<=src) (k:Nat):
  ke ky (bubble a src d) k=if k=src-d then ke ky a src else if src-d<k/\k<=src then ke ky a (k-1)else ke ky a k:=by
 have e:=getElem?_bubble hs d hd k
 by_cases c:k=src-d
 .rw[if_pos c]at e ⊢;exact ch' e
 .rw[if_neg c]at e ⊢
  by_cases c2:src-d<k/\k<=src
  .rw[if_pos c2]at e ⊢;exact ch' e
  .rw[if_neg c2]at e ⊢;exact ch' e
structure Sb (st0:SortSt) (lo:Nat) (st:SortSt):Prop where
 perm:(arrOf st).Perm (arrOf st0)
 same:∀i,i<lo->(arrOf st)[i]?=(arrOf st0)[i]?
 kind:kindOf st=kindOf st0
 fail:failedOf st=failedOf st0
 pend:pendingOf st=pendingOf st0
theorem Sb.rfl' (st0:SortSt) (lo:Nat):Sb st0 lo st0:=⟨Array.Perm.refl _,fun _ _=>rfl,rfl,rfl,rfl⟩
theorem Sb.size {st:SortSt} (B:Sb st0 lo st):(arrOf st).size=(arrOf st0).size:=B.perm.size_eq
theorem Sb.mirror {st:SortSt} (B:Sb st0 lo st) {i j:Nat} (h:lo<=i):Sb st0 lo (setArr st (mirror (arrOf st) i j ((j-i) / 2))):=by
 refine⟨(mirror_perm _ _ _ _).trans B.perm,fun k hk=>?_,B.kind,B.fail,B.pend⟩
 rw[<- B.same k hk]
 show(PyProof.Rows.mirror (arrOf st) i j ((j-i) / 2))[k]?=_
 by_cases hj:j<=(arrOf st).size
 .rw[getElem?_mirror_all hj,if_neg (by omega)]
 .have go:∀(l:List Nat),(∀n∈l,2*n+1<j-i+1)->∀a:Array Keyed,(l.foldl (fun a n=>a.swapIfInBounds (i+n) (j-1-n)) a)[k]?=a[k]?:=by
   intro l
   induction l with
   |nil=>intro _ a;rfl
   |cons n l ih=>
    intro hl a
    rw[List.foldl_cons,ih (fun m hm=>hl m (List.mem_cons_of_mem _ hm))]
    have hn:=hl n (List.mem_cons_self ..)
    by_cases h1:i+n<a.size
    .by_cases h2:j-1-n<a.size
     .rw[getElem?_swapIB h1 h2,if_neg (by omega),if_neg (by omega)]
     .rw[Array.swapIfInBounds_def];simp[h1,h2]
    .rw[Array.swapIfInBounds_def];simp[h1]
  exact go _ (fun n hn=>by have:=List.mem_range.mp hn;omega) _
theorem Sb.bubble {st:SortSt} (B:Sb st0 lo st) {src d:Nat} (hs:src<(arrOf st).size) (h:lo<=src-d) (hd:d<=src):Sb st0 lo (setArr st (bubble (arrOf st) src d)):=by
 refine⟨(bubble_perm _ _ _).trans B.perm,fun k hk=>?_,B.kind,B.fail,B.pend⟩
 rw[<- B.same k hk]
 show(PyProof.Rows.bubble (arrOf st) src d)[k]?=_
 rw[getElem?_bubble hs d hd,if_neg (by omega),if_neg (by omega)]
theorem Sb.lt (C:Cmp M A E s O ky P kd) {st:SortSt} {i j:Nat} {Q:Option Bool->SortSt->Prop} (kst:kindOf st0=kd) (pa:∀p∈(arrOf st0).toList,P p) (B:Sb st0 lo st) (hi:i<(arrOf st0).size) (hj:j<(arrOf st0).size)
  (h:Q (some (O.blt (ke ky (arrOf st) i) (ke ky (arrOf st) j))) st):wpS M A E s (ltAt' i j) Q st:=by
 obtain⟨p,ep,mp⟩:=am' (a:=arrOf st) (i:=i) (by rw[B.size];exact hi)
 obtain⟨q,eq,mq⟩:=am' (a:=arrOf st) (i:=j) (by rw[B.size];exact hj)
 have pm:=Array.perm_iff_toList_perm.mp B.perm
 rw[ltAt'_eq]
 refine wpS_bind (wpS_get ?_)
 refine wpS_bind (al' ep (wpS_bind (al' eq (C.lt (pa p (pm.mem_iff.mp mp)) (pa q (pm.mem_iff.mp mq)) (B.kind.trans kst) ?_))))
 rw[la' ep,la' eq]at h
 exact h
def Si (ky:Keyed->O.α) (lo:Nat) (a:Array Keyed) (n:Nat):Prop:=∀i j,i<=j->j<n->O.kle (ke ky a (lo+i)) (ke ky a (lo+j))
def Ni (ky:Keyed->O.α) (lo:Nat) (a:Array Keyed) (n:Nat):Prop:=∀i j,i<=j->j<n->O.kle (ke ky a (lo+j)) (ke ky a (lo+i))
theorem Si.more {a:Array Keyed} {n:Nat} (h:Si ky lo a n) (h1:1<=n) (g:O.kle (ke ky a (lo+(n-1))) (ke ky a (lo+n))):Si ky lo a (n+1):=by
 intro i j hij hj
 by_cases c:j<n
 .exact h i j hij c
 .have e:j=n:=by omega
  subst e
  by_cases c2:i=j
  .subst c2;exact KeyOrd.kle_refl _
  .exact KeyOrd.kle_trans (h i (j-1) (by omega) (by omega)) g
theorem Ni.more {a:Array Keyed} {n:Nat} (h:Ni ky lo a n) (h1:1<=n) (g:O.kle (ke ky a (lo+n)) (ke ky a (lo+(n-1)))):Ni ky lo a (n+1):=by
 intro i j hij hj
 by_cases c:j<n
 .exact h i j hij c
 .have e:j=n:=by omega
  subst e
  by_cases c2:i=j
  .subst c2;exact KeyOrd.kle_refl _
  .exact KeyOrd.kle_trans g (h i (j-1) (by omega) (by omega))
theorem eb' {st:SortSt} {i j:Nat} {Q:Unit->SortSt->Prop} (h:Q () (setArr st (mirror (arrOf st) i j ((j-i) / 2)))):wpS M A E s (reverseSlice' i j) Q st:=by
 rw[reverseSlice'_eq];exact wpS_modify h
theorem ga' (C:Cmp M A E s O ky P kd) {st:SortSt} {n:Nat} {β:Type} {Q:β->SortSt->Prop} {g:Option (Option Nat)×Nat->StateT SortSt Sem β} (kst:kindOf st0=kd) (pa:∀p∈(arrOf st0).toList,P p) (hn:lo+nrem<=(arrOf st0).size) (h1:1<=n) (hnn:n<=nrem) (B:Sb st0 lo st)
  (S:Si ky lo (arrOf st) n) (h:∀m,n<=m->m<=nrem->Si ky lo (arrOf st) m->(m=nrem\/O.klt (ke ky (arrOf st) (lo+m)) (ke ky (arrOf st) (lo+(m-1))))->wpS M A E s (g (none,m)) Q st):
  wpS M A E s (forIn [n:nrem] (none,n) (fun _ r=>do
   let x <- ltAt' (lo+r.2) (lo+r.2-1)
   match x with
   |some b=>if b=true then pure (ForInStep.done (none,r.2))else pure (ForInStep.yield (none,r.2+1))
   |_=>pure (ForInStep.done (some none,r.2))) >>= g) Q st:=by
 refine aM' (fun x c st'=>st=st'/\c=(none,x)/\Si ky lo (arrOf st) x) (fun c st'=>st=st'/\∃m,c=(none,m)/\n<=m/\m<=nrem/\Si ky lo (arrOf st) m/\(m=nrem\/O.klt (ke ky (arrOf st) (lo+m)) (ke ky (arrOf st) (lo+(m-1))))) ⟨rfl,rfl,S⟩ ?_ ?_ ?_
 .rintro x c st' hx1 hx2 ⟨rfl,rfl,S'⟩
  dsimp only
  refine wpS_bind (B.lt C kst pa (by omega) (by omega) ?_)
  rw[show lo+x-1=lo+(x-1) by omega]
  cases hb:O.blt (ke ky (arrOf st) (lo+x)) (ke ky (arrOf st) (lo+(x-1)))
  .exact wpS_pure ⟨rfl,rfl,S'.more (by omega) hb⟩
  .exact wpS_pure ⟨rfl,x,rfl,hx1,by omega,S',.inr hb⟩
 .rintro c st' ⟨rfl,rfl,S'⟩
  rw[show max n nrem=nrem by omega]at S' ⊢
  exact⟨rfl,nrem,rfl,hnn,Nat.le_refl _,S',.inl rfl⟩
 .rintro c st' ⟨rfl,m,rfl,a1,a2,a3,a4⟩
  exact h m a1 a2 a3 a4
theorem rh' (C:Cmp M A E s O ky P kd) {Q:Option Nat->SortSt->Prop} {st4:SortSt} {x:Nat} (kst:kindOf st0=kd) (pa:∀p∈(arrOf st0).toList,P p) (hn:lo+nrem<=(arrOf st0).size) (h:∀m st',Sb st0 lo st'->1<=m->m<=nrem->Si ky lo (arrOf st') m->Q (some m) st')
  (B4:Sb st0 lo st4) (N4:Ni ky lo (arrOf st4) x) (hx1:1<=x) (hn4:x<=nrem):wpS M A E s (cT lo x nrem) Q st4:=by
 unfold cT
 refine wpS_bind (eb' ?_)
 have B5:=B4.mirror (i:=lo) (j:=lo+x) (Nat.le_refl _)
 have hz5:lo+x<=(arrOf st4).size:=by rw[B4.size];omega
 have S5:∀i j,i<=j->j<x->O.kle (ke ky (mirror (arrOf st4) lo (lo+x) ((lo+x-lo) / 2)) (lo+i)) (ke ky (mirror (arrOf st4) lo (lo+x) ((lo+x-lo) / 2)) (lo+j)):=fun i j hij hj=>by
  rw[ci' hz5,ci' hz5,if_pos (by omega),if_pos (by omega)]
  have:=N4 (x-1-j) (x-1-i) (by omega) (by omega)
  rw[show lo+(lo+x)-1-(lo+i)=lo+(x-1-i) by omega,show lo+(lo+x)-1-(lo+j)=lo+(x-1-j) by omega]
  exact this
 refine ga' C kst pa hn (by omega) hn4 B5 S5 fun m hm1 hm2 hm3 _=>?_
 exact wpS_pure (h m _ B5 (by omega) hm2 hm3)
noncomputable def CsP (ky:Keyed->O.α) (st0:SortSt) (lo nrem x:Nat):ForInStep (Option (Option Nat)×Nat×Nat)->SortSt->Prop:=fun r st'=>match r with
 | .done c=>∃x e,c=(none,x,e)/\1<=x/\x<=nrem/\Sb st0 lo st'/\Ni ky lo (arrOf st') x/\e+1<=x/\∀i,x-(e+1)<=i->i<x->ke ky (arrOf st') (lo+i)=ke ky (arrOf st') (lo+(x-1))
 | .yield c=>∃e,c=(none,x,e)/\Sb st0 lo st'/\Ni ky lo (arrOf st') x/\e+1<=x/\∀i,x-(e+1)<=i->i<x->ke ky (arrOf st') (lo+i)=ke ky (arrOf st') (lo+(x-1))
set_option tactic.hygienic true in
theorem mw' {a:Array Keyed} {x e:Nat} (hz:lo+x<=a.size) (he:e+1<=x) (heq:∀i,x-(e+1)<=i->i<x->ke ky a (lo+i)=ke ky a (lo+(x-1))) (k:Nat):ke ky (mirror a (lo+x-(e+1)) (lo+x) ((lo+x-(lo+x-(e+1))) / 2)) k=ke ky a k:=by
 rw[ci' hz]
 split
 .rename_i hh
  have u1:=heq (lo+x-(e+1)+(lo+x)-1-k-lo) (by omega) (by omega)
  have u2:=heq (k-lo) (by omega) (by omega)
  rw[show lo+(lo+x-(e+1)+(lo+x)-1-k-lo)=lo+x-(e+1)+(lo+x)-1-k by omega]at u1
  rw[show lo+(k-lo)=k by omega]at u2
  rw[u1,u2]
 .rfl
theorem ux' (C:Cmp M A E s O ky P kd) {st3:SortSt} {x e:Nat} (kst:kindOf st0=kd) (pa:∀p∈(arrOf st0).toList,P p) (hn:lo+nrem<=(arrOf st0).size) (hx1:1<=x) (hx2:x<nrem)
  (B3:Sb st0 lo st3) (N3:Ni ky lo (arrOf st3) x) (he:e+1<=x) (heq:∀i,x-(e+1)<=i->i<x->ke ky (arrOf st3) (lo+i)=ke ky (arrOf st3) (lo+(x-1))):wpS M A E s (cS lo x e) (CsP ky st0 lo nrem (x+1)) st3:=by
 have hz3:lo+x<=(arrOf st3).size:=by rw[B3.size];omega
 have sub:lo+x-1=lo+(x-1):=by omega
 unfold cS
 rw[sub]
 refine wpS_bind (B3.lt C kst pa (by omega) (by omega) ?_)
 cases hb:O.blt (ke ky (arrOf st3) (lo+x)) (ke ky (arrOf st3) (lo+(x-1)))
 .refine wpS_bind (B3.lt C kst pa (by omega) (by omega) ?_)
  cases hb2:O.blt (ke ky (arrOf st3) (lo+(x-1))) (ke ky (arrOf st3) (lo+x))
  .have hx0:ke ky (arrOf st3) (lo+x)=ke ky (arrOf st3) (lo+(x-1)):=KeyOrd.kle_antisymm hb2 hb
   refine wpS_pure ⟨e+1,rfl,B3,N3.more (by omega) (by rw[hx0];exact KeyOrd.kle_refl _),by omega,fun i h1 h2=>?_⟩
   rw[show x+1-1=x by omega]
   by_cases hix:i=x
   .subst hix;rfl
   .rw[hx0];exact heq i (by omega) (by omega)
  .exact wpS_pure ⟨x,e,rfl,by omega,by omega,B3,N3,he,heq⟩
 .have N5:=N3.more (by omega) (KeyOrd.kle_of_klt hb)
  show wpS M A E s (if e > 0 then _ else _) _ _
  by_cases hq:e > 0
  .rw[if_pos hq]
   refine wpS_bind (eb' (wpS_pure ⟨0,rfl,B3.mirror (by omega),?_,by omega,fun i h1 h2=>by congr 1;omega⟩))
   have hk:=mw' hz3 he heq
   intro i j hij hj
   show O.kle (ke ky (mirror (arrOf st3) _ _ _) _) (ke ky (mirror (arrOf st3) _ _ _) _)
   rw[hk,hk]
   exact N5 i j hij hj
  .rw[if_neg hq]
   exact wpS_pure ⟨0,rfl,B3,N5,by omega,fun i h1 h2=>by congr 1;omega⟩
theorem ri' (C:Cmp M A E s O ky P kd) {Q:Option Nat->SortSt->Prop} {st2:SortSt} {n:Nat} (kst:kindOf st0=kd) (pa:∀p∈(arrOf st0).toList,P p) (hn:lo+nrem<=(arrOf st0).size) (h:∀m st',Sb st0 lo st'->1<=m->m<=nrem->Si ky lo (arrOf st') m->Q (some m) st')
  (B2:Sb st0 lo st2) (N2:Ni ky lo (arrOf st2) (n+1)) (hn2:n+1<=nrem):wpS M A E s (cD lo n nrem) Q st2:=by
 unfold cD
 refine wpS_bind (wpS_lift (wpAny_rule ⟨rfl,?_⟩))
 refine aM' (fun x c st'=>CsP ky st0 lo nrem x (.yield c) st') (fun c st'=>CsP ky st0 lo nrem 0 (.done c) st') ⟨0,rfl,B2,N2,by omega,fun i h1 h2=>by congr 1;omega⟩ ?_ ?_ ?_
 .rintro x c st3 hx1 hx2 ⟨e,rfl,B3,N3,he,heq⟩
  exact wpS_mono (ux' (x:=x) (e:=e) C kst pa hn (by omega) hx2 B3 N3 he heq) fun r st' hh=>by cases r<;>exact hh
 .rintro c st3 ⟨e,rfl,B3,N3,he,heq⟩
  exact⟨_,e,rfl,by omega,by omega,B3,N3,he,heq⟩
 .rintro c st3 ⟨x,e,rfl,hx1,hx2,B3,N3,he,heq⟩
  have hz3:lo+x<=(arrOf st3).size:=by rw[B3.size];omega
  show wpS M A E s (if e > 0 then _ else _) _ _
  by_cases hq:e > 0
  .rw[if_pos hq]
   refine wpS_bind (eb' ?_)
   have hk:=mw' hz3 he heq
   refine rh' (x:=x) C kst pa hn h (B3.mirror (i:=lo+x-(e+1)) (j:=lo+x) (by omega)) (fun i j hij hj=>?_) hx1 hx2
   show O.kle (ke ky (mirror (arrOf st3) _ _ _) _) (ke ky (mirror (arrOf st3) _ _ _) _)
   rw[hk,hk]
   exact N3 i j hij hj
  .rw[if_neg hq]
   exact rh' C kst pa hn h B3 N3 hx1 hx2
theorem fF' (C:Cmp M A E s O ky P kd) {Q:Option Nat->SortSt->Prop} (kst:kindOf st0=kd) (pa:∀p∈(arrOf st0).toList,P p) (hn:lo+nrem<=(arrOf st0).size) (h1:1<=nrem)
  (h:∀m st',Sb st0 lo st'->1<=m->m<=nrem->Si ky lo (arrOf st') m->Q (some m) st'):wpS M A E s (countRun' lo nrem) Q st0:=by
 rw[eQ']
 unfold cM
 have B0:=Sb.rfl' st0 lo
 refine ga' C kst pa hn (Nat.le_refl 1) h1 B0 (fun i j hij hj=>by have e:i=j:=(by omega);subst e;exact KeyOrd.kle_refl _) fun n hn1 hn2 S1 hor=>?_
 dsimp only
 by_cases c1:n=nrem
 .rw[if_pos (by simpa using c1)]
  exact wpS_pure (h n st0 B0 hn1 hn2 S1)
 rw[if_neg (by simpa using c1)]
 have hlt:=hor.resolve_left c1
 by_cases c2:n > 1
 .rw[if_pos c2]
  refine wpS_bind (B0.lt C kst pa (by omega) (by omega) ?_)
  rw[show lo+n-1=lo+(n-1) by omega]
  cases hb:O.blt (ke ky (arrOf st0) lo) (ke ky (arrOf st0) (lo+(n-1)))
  .dsimp only
   simp only[Bool.false_eq_true,if_false]
   have hz:lo+n<=(arrOf st0).size:=by omega
   have hall:∀k,k<n->ke ky (arrOf st0) (lo+k)=ke ky (arrOf st0) (lo+(n-1)):=fun k hk=>
    KeyOrd.kle_antisymm (S1 k (n-1) (by omega) (by omega)) (KeyOrd.kle_trans hb (S1 0 k (by omega) hk))
   refine wpS_bind (eb' ?_)
   have B2:=B0.mirror (i:=lo) (j:=lo+n) (Nat.le_refl _)
   have N2:Ni ky lo (arrOf (setArr st0 (mirror (arrOf st0) lo (lo+n) ((lo+n-lo) / 2)))) (n+1):=fun i j hij hj=>by
    have hk:∀k,ke ky (mirror (arrOf st0) lo (lo+n) ((lo+n-lo) / 2)) k=ke ky (arrOf st0) k:=fun k=>by
     rw[ci' hz]
     split
     .have u1:=hall (lo+(lo+n)-1-k-lo) (by omega)
      have u2:=hall (k-lo) (by omega)
      rw[show lo+(lo+(lo+n)-1-k-lo)=lo+(lo+n)-1-k by omega]at u1
      rw[show lo+(k-lo)=k by omega]at u2
      rw[u1,u2]
     .rfl
    show O.kle (ke ky (mirror (arrOf st0) _ _ _) _) (ke ky (mirror (arrOf st0) _ _ _) _)
    rw[hk,hk]
    by_cases hj2:j<n
    .rw[hall i (by omega),hall j hj2];exact KeyOrd.kle_refl _
    .have e:j=n:=by omega
     subst e
     by_cases hi2:i=j
     .subst hi2;exact KeyOrd.kle_refl _
     .rw[hall i (by omega)];exact KeyOrd.kle_of_klt hlt
   exact ri' C kst pa hn h B2 N2 (by omega)
  .dsimp only
   simp only[if_true]
   exact wpS_pure (h n st0 B0 hn1 hn2 S1)
 .rw[if_neg c2]
  have e:n=1:=by omega
  subst e
  have B2:=B0
  have N2:Ni ky lo (arrOf st0) (1+1):=fun i j hij hj=>by
   by_cases hi2:i=j
   .subst hi2;exact KeyOrd.kle_refl _
   .have e1:i=0:=by omega
    have e2:j=1:=by omega
    subst e1;subst e2
    exact KeyOrd.kle_of_klt hlt
  exact ri' C kst pa hn h B2 N2 (by omega)
end
end So
namespace So
open PySem PySem.Spec PyProof.Rows
section
variable {M:Model} {A:Around} {E:Value->Shared->Prop} {s:Shared} {O:KeyOrd} {ky:Keyed->O.α} {P:Keyed->Prop} {kd:SortKind} {st0:SortSt} {lo nrem:Nat}
theorem ec' (C:Cmp M A E s O ky P kd) {st:SortSt} {n ok:Nat} {Q:Bool->SortSt->Prop} (kst:kindOf st0=kd) (pa:∀p∈(arrOf st0).toList,P p) (hn:lo+n<=(arrOf st0).size) (hok:ok<=n) (B:Sb st0 lo st)
  (S:Si ky lo (arrOf st) ok) (h:∀st',Sb st0 lo st'->Si ky lo (arrOf st') n->Q true st'):wpS M A E s (binarySort' lo n ok) Q st:=by
 rw[binarySort'_eq]
 refine aM' (fun k c st'=>c=(none,())/\Sb st0 lo st'/\Si ky lo (arrOf st') (min k n)) (fun c st'=>c=(none,())/\Sb st0 lo st'/\Si ky lo (arrOf st') n) ⟨rfl,B,fun i j hij hj=>?_⟩ ?_ ?_ ?_
 .by_cases c:ok=0
  .have e:i=j:=by omega
   subst e;exact KeyOrd.kle_refl _
  .exact S i j hij (by omega)
 .rintro k c st1 hk1 hk2 ⟨rfl,B1,S1⟩
  rw[show min k n=k by omega]at S1
  have hz:lo+k<(arrOf st1).size:=by rw[B1.size];omega
  refine aM' (fun x c st'=>st1=st'/\∃l r,c=(none,l,r)/\l<=r/\r<=k/\r-l<=k-x/\(∀i,i<l->O.kle (ke ky (arrOf st1) (lo+i)) (ke ky (arrOf st1) (lo+k)))/\(∀i,r<=i->i<k->O.klt (ke ky (arrOf st1) (lo+k)) (ke ky (arrOf st1) (lo+i))))
   (fun c st'=>st1=st'/\∃l,c=(none,l,l)/\l<=k/\(∀i,i<l->O.kle (ke ky (arrOf st1) (lo+i)) (ke ky (arrOf st1) (lo+k)))/\(∀i,l<=i->i<k->O.klt (ke ky (arrOf st1) (lo+k)) (ke ky (arrOf st1) (lo+i))))
   ⟨rfl,0,k,rfl,by omega,by omega,by omega,fun i hi=>by omega,fun i h1 h2=>by omega⟩ ?_ ?_ ?_
  .rintro x c st2 _ hx ⟨rfl,l,r,rfl,a1,a2,a3,a4,a5⟩
   dsimp only
   by_cases g:l ≥ r
   .rw[if_pos g]
    have e:l=r:=by omega
    subst e
    exact wpS_pure ⟨rfl,l,rfl,a2,a4,a5⟩
   .rw[if_neg g]
    refine wpS_bind (B1.lt C kst pa (by omega) (by omega) ?_)
    cases hb:O.blt (ke ky (arrOf st1) (lo+k)) (ke ky (arrOf st1) (lo+(l+r) / 2))
    .dsimp only
     simp only[Bool.false_eq_true,if_false]
     exact wpS_pure ⟨rfl,(l+r) / 2+1,r,rfl,by omega,a2,by omega,fun i h1=>KeyOrd.kle_trans (S1 i ((l+r) / 2) (by omega) (by omega)) hb,a5⟩
    .dsimp only
     simp only[if_true]
     exact wpS_pure ⟨rfl,l,(l+r) / 2,rfl,by omega,by omega,by omega,a4,fun i h1 h2=>KeyOrd.klt_of_klt_of_kle hb (S1 _ _ h1 h2)⟩
  .rintro c st2 ⟨rfl,l,r,rfl,a1,a2,a3,a4,a5⟩
   have e:l=r:=by omega
   subst e
   exact⟨rfl,l,rfl,a2,a4,a5⟩
  .rintro c st2 ⟨rfl,l,rfl,a2,a4,a5⟩
   dsimp only
   rw[moveDown'_eq]
   refine wpS_bind (wpS_modify (wpS_pure ⟨rfl,B1.bubble hz (by omega) (by omega),?_⟩))
   rw[show min (k+1) n=k+1 by omega]
   intro i j hij hj
   show O.kle (ke ky (bubble (arrOf st1) (lo+k) (lo+k-(lo+l))) (lo+i)) (ke ky (bubble (arrOf st1) (lo+k) (lo+k-(lo+l))) (lo+j))
   rw[eR' hz (by omega),eR' hz (by omega),show lo+k-(lo+k-(lo+l))=lo+l by omega]
   have f:∀m,lo+l<lo+m->lo+m-1=lo+(m-1):=fun m _=>by omega
   by_cases i1:i=l
   .subst i1
    rw[if_pos rfl]
    by_cases j1:j=i
    .subst j1;rw[if_pos rfl];exact KeyOrd.kle_refl _
    .rw[if_neg (by omega),if_pos (by omega),f j (by omega)]
     exact KeyOrd.kle_of_klt (a5 _ (by omega) (by omega))
   .rw[if_neg (by omega)]
    by_cases i2:l<i
    .rw[if_pos (by omega),if_neg (by omega),if_pos (by omega),f i (by omega),f j (by omega)]
     exact S1 _ _ (by omega) (by omega)
    .rw[if_neg (by omega)]
     by_cases j1:j=l
     .subst j1;rw[if_pos rfl];exact a4 i (by omega)
     .rw[if_neg (by omega)]
      by_cases j2:l<j
      .rw[if_pos (by omega),f j (by omega)]
       exact S1 _ _ (by omega) (by omega)
      .rw[if_neg (by omega)]
       exact S1 _ _ hij (by omega)
 .rintro c st1 ⟨rfl,B1,S1⟩
  rw[show min (max (max ok 1) n) n=n by omega]at S1
  exact⟨rfl,B1,S1⟩
 .rintro c st1 ⟨rfl,B1,S1⟩
  exact wpS_pure (h st1 B1 S1)
end
end So
namespace So
open PySem PySem.Spec PyProof.Rows
noncomputable def sP (lo n:Nat):StateT SortSt Sem (ForInStep (Option Unit×Nat)):=do
 modify fun s=>setPending s ((pendingOf s).push (lo,n,0))
 pure (ForInStep.yield (none,lo+n))
noncomputable def sT (z lo n:Nat):StateT SortSt Sem (ForInStep (Option Unit×Nat)):=do
 let st <- get
 match (pendingOf st).back? with
 |some (s1,n1,_)=>do
  let r <- forIn [0:z] ((none,()):Option Unit×Unit) fun _ _=>do
   let st <- get
   match (if(pendingOf st).size > 1 then(pendingOf st)[(pendingOf st).size-2]? else none)with
   |some (_,_,older)=>(if older<=power' z (2*s1+n1) (2*s1+n1+n1+n) z then pure (ForInStep.done (none,()))else mergeAt' ((pendingOf st).size-2) >>= fun b=>if(!b)=true then pure (ForInStep.done (some (),()))else pure (ForInStep.yield (none,())))
   |_=>pure (ForInStep.done (none,()))
  match r.1 with
  |some v=>pure (ForInStep.done (some v,lo))
  |none=>do
   modify fun s=>setPending s ((pendingOf s).modify ((pendingOf s).size-1) fun(x:Nat×Nat×Nat)=>(x.1,x.2.1,power' z (2*s1+n1) (2*s1+n1+n1+n) z))
   sP lo n
 |_=>sP lo n
noncomputable def sB (z mr lo:Nat):StateT SortSt Sem (ForInStep (Option Unit×Nat)):=
 if lo ≥ z then pure (ForInStep.done (none,lo))else countRun' lo (z-lo) >>= fun x=>match x with
  |some m=>if m<mr then(liftM (rule "list.sort.binary-insertion") >>= fun(_:Unit)=>binarySort' lo (min (z-lo) mr) m >>= fun b=>if(!b)=true then pure (ForInStep.done (some (),lo))else sT z lo (min (z-lo) mr))else sT z lo m
  |_=>pure (ForInStep.done (some (),lo))
noncomputable def sC (z:Nat):StateT SortSt Sem (ForInStep (Option Unit×Unit)):=do
 let st <- get
 if(pendingOf st).size<=1 then pure (ForInStep.done (none,()))
 else mergeAt' (if(if(pendingOf st).size-2 > 0 then((pendingOf st)[(pendingOf st).size-2-1]?).map (·.2.1)else none).any (fun x=>decide (x<((pendingOf st)[(pendingOf st).size-2+1]?.elim 0 (·.2.1))))=true then(pendingOf st).size-2-1 else(pendingOf st).size-2) >>= fun b=>
  if(!b)=true then pure (ForInStep.done (some (),()))else pure (ForInStep.yield (none,()))
noncomputable def sM:StateT SortSt Sem Unit:=do
 let st <- get
 let r <- forIn [0:(arrOf st).size] ((none,0):Option Unit×Nat) fun _ r=>sB (arrOf st).size (minRun' (arrOf st).size (arrOf st).size 0) r.2
 match r.1 with
 |some v=>pure v
 |none=>do
  let u <- forIn [0:(arrOf st).size] ((none,()):Option Unit×Unit) fun _ _=>sC (arrOf st).size
  match u.1 with
  |some v=>pure v
  |none=>pure ()
theorem eS':sortRuns'=sM:=by
 refine sortRuns'_eq.trans ?_
 refine ae' fun st=>aw' (fun n c=>?_) fun c=>?_
 .refine aF' rfl (ae' fun x=>?_)
  cases x with
  |none=>rfl
  |some m=>
   refine aF' (ae' fun _=>ae' fun b=>aF' rfl (ae' fun st2=>?_)) (ae' fun st2=>?_)
   .cases h:(pendingOf st2).back? with
    |none=>rfl
    |some p=>
     obtain⟨s1,n1,w⟩:=p
     refine aw' (fun n c=>ae' fun st3=>?_) fun c=>?_
     .dsimp only
      cases(if(pendingOf st3).size > 1 then(pendingOf st3)[(pendingOf st3).size-2]? else none)<;>rfl
     .obtain⟨c0,c1⟩:=c
      cases c0<;>rfl
   .cases h:(pendingOf st2).back? with
    |none=>rfl
    |some p=>
     obtain⟨s1,n1,w⟩:=p
     refine aw' (fun n c=>ae' fun st3=>?_) fun c=>?_
     .dsimp only
      cases(if(pendingOf st3).size > 1 then(pendingOf st3)[(pendingOf st3).size-2]? else none)<;>rfl
     .obtain⟨c0,c1⟩:=c
      cases c0<;>rfl
 .obtain⟨c0,c1⟩:=c
  cases c0
  .refine aw' (fun n c=>rfl) fun c=>?_
   obtain⟨c0,c1⟩:=c
   cases c0<;>rfl
  .rfl
section
variable {M:Model} {A:Around} {E:Value->Shared->Prop} {s:Shared} {O:KeyOrd} {ky:Keyed->O.α} {P:Keyed->Prop} {kd:SortKind} {st0:SortSt} {lo nrem:Nat}
inductive Rn (R:Keyed->Keyed->Prop):List (Nat×Nat×Nat)->List (List Keyed)->Nat->Prop
 |nil (a:Nat):Rn R [] [] a
 |cons {a:Nat} (w:Nat) {l:List Keyed} {p:List (Nat×Nat×Nat)} {L:List (List Keyed)}:0<l.length->l.Pairwise R->Rn R p L (a+l.length)->Rn R ((a,l.length,w) :: p) (l :: L) a
theorem Rn.len {R:Keyed->Keyed->Prop}:∀{p:List (Nat×Nat×Nat)} {L:List (List Keyed)} {a:Nat},Rn R p L a->p.length=L.length/\L.length<=L.flatten.length
 |_,_,_,.nil _=>⟨rfl,Nat.le_refl _⟩
 |_,_,_,.cons w h0 hs r=>by
  have⟨h1,h2⟩:=r.len
  refine⟨by simp[h1],?_⟩
  simp only[List.length_cons,List.flatten_cons,List.length_append];omega
theorem Rn.push {R:Keyed->Keyed->Prop} {l:List Keyed} (h0:0<l.length) (hs:l.Pairwise R):∀{p:List (Nat×Nat×Nat)} {L:List (List Keyed)} {a:Nat},Rn R p L a->∀b,b=a+L.flatten.length->Rn R (p++[(b,l.length,0)]) (L++[l]) a
 |_,_,a,.nil _,b,e=>by
  have:b=a:=by simpa using e
  subst this
  exact .cons 0 h0 hs (.nil _)
 |_,_,a,.cons w g0 gs r,b,e=>.cons w g0 gs (r.push h0 hs b (by rw[e,List.flatten_cons,List.length_append];omega))
theorem Rn.power {R:Keyed->Keyed->Prop} {w:Nat}:∀{p:List (Nat×Nat×Nat)} {L:List (List Keyed)} {a:Nat},Rn R p L a->∀i,Rn R (p.modify i fun x=>(x.1,x.2.1,w)) L a
 |_,_,_,.nil _,i=>by cases i<;>exact .nil _
 |_,_,_,.cons v g0 gs r,0=>.cons w g0 gs r
 |_,_,_,.cons v g0 gs r,i+1=>by rw[List.modify_succ_cons];exact .cons v g0 gs (r.power i)
theorem Rn.merge {R:Keyed->Keyed->Prop} {su nu pw sv nv pv:Nat}:∀{p:List (Nat×Nat×Nat)} {L:List (List Keyed)} {a i:Nat},Rn R p L a->p[i]?=some (su,nu,pw)->p[i+1]?=some (sv,nv,pv)->
  ∃L1 l1 l2 L2,L=L1++l1 :: l2 :: L2/\su=a+L1.flatten.length/\nu=l1.length/\sv=su+nu/\nv=l2.length/\0<nu/\0<nv/\l1.Pairwise R/\l2.Pairwise R/\
   ∀m,m.length=nu+nv->m.Pairwise R->Rn R ((p.set i (su,nu+nv,pw)).eraseIdx (i+1)) (L1++m :: L2) a
 |_,_,a,i,.nil _,e,_=>by simp at e
 |_,_,a,0,@Rn.cons _ _ w l p L h0 hs r,e,e2=>by
  have e':(a,l.length,w)=(su,nu,pw):=by simpa using e
  have e2':p[0]?=some (sv,nv,pv):=by simpa using e2
  obtain⟨rfl,rfl,rfl⟩:a=su/\l.length=nu/\w=pw:=by simpa using e'
  cases r with
  |nil _=>simp at e2'
  | @cons _ w2 l2 p2 L2 g0 gs r2=>
   obtain⟨rfl,rfl,rfl⟩:a+l.length=sv/\l2.length=nv/\w2=pv:=by simpa using e2'
   refine⟨[],l,l2,L2,rfl,by simp,rfl,rfl,rfl,h0,g0,hs,gs,fun m hm hsm=>?_⟩
   show Rn R ((a,l.length+l2.length,w) :: p2) (m :: L2) a
   rw[<- hm]
   refine .cons w (by omega) hsm ?_
   rw[hm,<- Nat.add_assoc];exact r2
 |_,_,a,i+1,@Rn.cons _ _ w l p L h0 hs r,e,e2=>by
  have e':p[i]?=some (su,nu,pw):=by simpa using e
  have e2':p[i+1]?=some (sv,nv,pv):=by simpa using e2
  obtain⟨L1,l1,l2,L2,rfl,a1,a2,a3,a4,a5,a6,a7,a8,a9⟩:=r.merge e' e2'
  refine⟨l :: L1,l1,l2,L2,rfl,by rw[a1,List.flatten_cons,List.length_append];omega,a2,a3,a4,a5,a6,a7,a8,fun m hm hsm=>?_⟩
  have:=a9 m hm hsm
  exact .cons w h0 hs this
structure Wt (O:KeyOrd) (ky:Keyed->O.α) (kd:SortKind) (a0:Array Keyed) (st:SortSt) (L:List (List Keyed)) (T:List Keyed):Prop where
 ar:(arrOf st).toList=L.flatten++T
 rn:Rn (Rk O ky) (pendingOf st).toList L 0
 pm:(arrOf st).toList.Perm a0.toList
 kd:kindOf st=kd
 fl:failedOf st=none
theorem Wt.size {a0:Array Keyed} {st:SortSt} {L:List (List Keyed)} {T:List Keyed} (w:Wt O ky kd a0 st L T):(arrOf st).size=a0.size:=by
 have:=w.pm.length_eq;simpa using this
theorem Wt.pa {a0:Array Keyed} {st:SortSt} {L:List (List Keyed)} {T:List Keyed} (w:Wt O ky kd a0 st L T) (pa:∀p∈a0.toList,P p):∀p∈(arrOf st).toList,P p:=fun p hp=>pa p (w.pm.mem_iff.mp hp)
theorem Wt.mergeAt (C:Cmp M A E s O ky P kd) {a0:Array Keyed} {st:SortSt} {L:List (List Keyed)} {T:List Keyed} {i:Nat} {Q:Bool->SortSt->Prop} (w:Wt O ky kd a0 st L T) (pa:∀p∈a0.toList,P p) (hi:i+1<(pendingOf st).size)
  (h:∀st' L',Wt O ky kd a0 st' L' T->(pendingOf st').size+1=(pendingOf st).size->L'.flatten.length=L.flatten.length->Q true st'):wpS M A E s (mergeAt' i) Q st:=by
 obtain⟨⟨su,nu,pw⟩,e1⟩:∃x,(pendingOf st)[i]?=some x:=⟨_,Array.getElem?_eq_getElem (by omega)⟩
 obtain⟨⟨sv,nv,pv⟩,e2⟩:∃x,(pendingOf st)[i+1]?=some x:=⟨_,Array.getElem?_eq_getElem hi⟩
 obtain⟨L1,l1,l2,L2,rfl,a1,a2,a3,a4,a5,a6,a7,a8,a9⟩:=w.rn.merge (by simpa using e1) (by simpa using e2)
 refine hI' C (U:=L1.flatten) (W:=L2.flatten++T) w.kd (w.pa pa) e1 e2 (by rw[w.ar];simp) (by omega) a2 a3 a4 a5 a6 a7 a8 w.fl fun st' m g1 g2 g3 g4 g5 g6=>?_
 have lm:=g5.length_eq
 rw[List.length_append]at lm
 refine h st' (L1++m :: L2) ⟨by rw[g4];simp,?_,?_,g1,g2⟩ ?_ ?_
 .rw[g3]
  have:=a9 m (by omega) g6
  simpa using this
 .refine List.Perm.trans ?_ w.pm
  rw[g4,w.ar]
  simp only[List.flatten_append,List.flatten_cons,List.append_assoc]
  refine List.Perm.append_left _ ?_
  rw[<- List.append_assoc l1]
  exact List.Perm.append_right _ g5
 .rw[g3];simp[Array.eraseIdxIfInBounds,hi];omega
 .simp only[List.flatten_append,List.flatten_cons,List.length_append];omega
theorem Sb.split {U T:List Keyed} {st:SortSt} {n:Nat} (B:Sb st0 lo st) (e:(arrOf st0).toList=U++T) (hl:U.length=lo) (hn:lo+n<=(arrOf st0).size) (S:Si ky lo (arrOf st) n):
  ∃l T',(arrOf st).toList=U++(l++T')/\l.length=n/\l.Pairwise (Rk O ky):=by
 have hz:(arrOf st).toList.length=(arrOf st0).size:=by rw[Array.length_toList];exact B.size
 have eU:(arrOf st).toList.take lo=U:=by
  apply List.ext_getElem?
  intro i
  by_cases hi:i<lo
  .rw[List.getElem?_take_of_lt hi]
   have h1:=B.same i hi
   have h2:(arrOf st0).toList[i]?=U[i]?:=by rw[e,List.getElem?_append_left (by omega)]
   rw[<- h2];simpa using h1
  .rw[List.getElem?_eq_none (by rw[List.length_take];omega),List.getElem?_eq_none (by omega)]
 refine⟨((arrOf st).toList.drop lo).take n,(arrOf st).toList.drop (lo+n),?_,by rw[List.length_take,List.length_drop];omega,?_⟩
 .rw[<- eU,<- i3',List.take_append_drop]
 .rw[List.pairwise_iff_getElem]
  intro i j hi hj hij
  have hj':j<n:=by rw[List.length_take]at hj;omega
  have:=S i j (by omega) hj'
  have a1:(arrOf st)[lo+i]?=some (((arrOf st).toList.drop lo).take n)[i]:=by
   rw[List.getElem_take,List.getElem_drop,Array.getElem?_eq_getElem (by simp at hz;omega)];simp
  have a2:(arrOf st)[lo+j]?=some (((arrOf st).toList.drop lo).take n)[j]:=by
   rw[List.getElem_take,List.getElem_drop,Array.getElem?_eq_getElem (by simp at hz;omega)];simp
  rw[la' a1,la' a2]at this
  exact this
noncomputable def SrP (O:KeyOrd) (ky:Keyed->O.α) (kd:SortKind) (a0:Array Keyed) (x:Nat):ForInStep (Option Unit×Nat)->SortSt->Prop:=fun r st'=>match r with
 | .done c=>∃L,c.1=none/\Wt O ky kd a0 st' L []
 | .yield c=>∃L T,c=(none,L.flatten.length)/\Wt O ky kd a0 st' L T/\(x<=L.flatten.length\/T=[])
theorem rj' {a0:Array Keyed} {L:List (List Keyed)} {l T':List Keyed} {st':SortSt} {n x lo:Nat} (ll:l.length=n) (ls:l.Pairwise (Rk O ky)) (h1:1<=n) (w':Wt O ky kd a0 st' L (l++T')) (e':L.flatten.length=lo) (hx:x<=lo):wpS M A E s (sP lo n) (SrP O ky kd a0 (x+1)) st':=by
 refine wpS_bind (wpS_modify (wpS_pure ⟨L++[l],T',?_,?_,.inl ?_⟩))
 .rw[List.flatten_append,List.length_append,e',<- ll];simp
 .exact⟨by show(arrOf st').toList=_;rw[w'.ar];simp,by
   show Rn (Rk O ky) ((pendingOf st').push _).toList _ _
   rw[Array.toList_push,<- ll]
   exact w'.rn.push (by omega) ls _ (by omega),w'.pm,w'.kd,w'.fl⟩
 .rw[List.flatten_append,List.length_append,e'];simp;omega
set_option tactic.hygienic true in
theorem uy' (C:Cmp M A E s O ky P kd) {a0:Array Keyed} {L:List (List Keyed)} {l T':List Keyed} {st3:SortSt} {n x lo:Nat} (pa:∀p∈a0.toList,P p) (ll:l.length=n) (ls:l.Pairwise (Rk O ky)) (h1:1<=n) (w3:Wt O ky kd a0 st3 L (l++T')) (e3:L.flatten.length=lo) (hx:x<=lo):
  wpS M A E s (sT a0.size lo n) (SrP O ky kd a0 (x+1)) st3:=by
 unfold sT
 refine wpS_bind (wpS_get ?_)
 split
 .rename_i s1 n1 _ _
  refine aM' (fun _ c st'=>c=(none,())/\∃L',Wt O ky kd a0 st' L' (l++T')/\L'.flatten.length=lo) (fun c st'=>c=(none,())/\∃L',Wt O ky kd a0 st' L' (l++T')/\L'.flatten.length=lo) ⟨rfl,L,w3,e3⟩ ?_ (fun _ _ hh=>hh) ?_
  .rintro y c st4 _ _ ⟨rfl,L',w4,e4⟩
   refine wpS_bind (wpS_get ?_)
   by_cases c5:(pendingOf st4).size > 1
   .rw[if_pos c5]
    split
    .split
     .exact wpS_pure ⟨rfl,L',w4,e4⟩
     .refine wpS_bind (w4.mergeAt C pa (by omega) fun st5 L5 w5 _ e5=>?_)
      exact wpS_pure ⟨rfl,L5,w5,e5.trans e4⟩
    .exact wpS_pure ⟨rfl,L',w4,e4⟩
   .rw[if_neg c5]
    exact wpS_pure ⟨rfl,L',w4,e4⟩
  .rintro c st4 ⟨rfl,L',w4,e4⟩
   refine wpS_bind (wpS_modify (rj' ll ls h1 ⟨w4.ar,?_,w4.pm,w4.kd,w4.fl⟩ e4 hx))
   show Rn _ (Array.modify _ _ _).toList _ _
   rw[Array.toList_modify];exact w4.rn.power _
 .exact rj' ll ls h1 w3 e3 hx
theorem uz' (C:Cmp M A E s O ky P kd) {a0:Array Keyed} {L:List (List Keyed)} {T:List Keyed} {st1:SortSt} {x mr:Nat} (pa:∀p∈a0.toList,P p) (w:Wt O ky kd a0 st1 L T) (hxl:x<=L.flatten.length\/T=[]):
  wpS M A E s (sB a0.size mr L.flatten.length) (SrP O ky kd a0 (x+1)) st1:=by
 have hsz:L.flatten.length+T.length=a0.size:=by
  have h1:=w.size
  have h2:=congrArg List.length w.ar
  rw[List.length_append,Array.length_toList]at h2
  omega
 unfold sB
 by_cases c1:L.flatten.length ≥ a0.size
 .rw[if_pos c1]
  have:T=[]:=List.eq_nil_of_length_eq_zero (by omega)
  subst this
  exact wpS_pure ⟨L,rfl,w⟩
 rw[if_neg c1]
 have hxl':x<=L.flatten.length:=hxl.resolve_right fun e=>by subst e;rw[List.length_nil]at hsz;omega
 have fin:∀{st3:SortSt} {n:Nat},Sb st1 L.flatten.length st3->Si ky L.flatten.length (arrOf st3) n->1<=n->n<=a0.size-L.flatten.length->wpS M A E s (sT a0.size L.flatten.length n) (SrP O ky kd a0 (x+1)) st3:=fun {st3 n} B3 S3 h1 h2=>by
  obtain⟨l,T',ar3,ll,ls⟩:=B3.split w.ar rfl (by rw[w.size];omega) S3
  exact uy' C pa ll ls h1 ⟨ar3,by rw[B3.pend];exact w.rn,(Array.perm_iff_toList_perm.mp B3.perm).trans w.pm,B3.kind.trans w.kd,B3.fail.trans w.fl⟩ rfl hxl'
 refine wpS_bind (fF' C w.kd (w.pa pa) (by rw[w.size];omega) (by omega) fun m st2 B2 hm1 hm2 S2=>?_)
 show wpS M A E s (if m<mr then _ else _) _ _
 by_cases c2:m<mr
 .rw[if_pos c2]
  refine wpS_bind (wpS_lift (wpAny_rule ⟨rfl,?_⟩))
  exact wpS_bind (ec' C w.kd (w.pa pa) (by rw[w.size];omega) (by omega) B2 S2 fun st3 B3 S3=>fin B3 S3 (by omega) (by omega))
 .rw[if_neg c2]
  exact fin B2 S2 hm1 hm2
theorem fG' (C:Cmp M A E s O ky P kd) {a0:Array Keyed} {st:SortSt} {Q:Unit->SortSt->Prop} (ha:arrOf st=a0) (hk:kindOf st=kd) (hf:failedOf st=none) (hp:pendingOf st=#[]) (pa:∀p∈a0.toList,P p)
  (h:∀st',(arrOf st').toList.Perm a0.toList->(arrOf st').toList.Pairwise (Rk O ky)->failedOf st'=none->Q () st'):wpS M A E s sortRuns' Q st:=by
 rw[eS']
 refine wpS_bind (wpS_get ?_)
 rw[ha]
 refine aM' (fun x c st'=>SrP O ky kd a0 x (.yield c) st') (fun c st'=>∃L,c.1=none/\Wt O ky kd a0 st' L []) ⟨[],a0.toList,rfl,⟨by rw[ha];rfl,by rw[hp];exact .nil _,by rw[ha],hk,hf⟩,.inl (Nat.le_refl _)⟩ ?_ ?_ ?_
 .rintro x c st1 _ hx ⟨L,T,rfl,w,hxl⟩
  exact wpS_mono (uz' C pa w hxl) fun r st' hh=>by cases r<;>exact hh
 .rintro c st1 ⟨L,T,rfl,w,hxl⟩
  have hsz:L.flatten.length+T.length=a0.size:=by
   have h1:=w.size
   have h2:=congrArg List.length w.ar
   rw[List.length_append,Array.length_toList]at h2
   omega
  have:T=[]:=hxl.elim (fun u=>List.eq_nil_of_length_eq_zero (by omega)) id
  subst this
  exact⟨L,rfl,w⟩
 .rintro⟨c0,c1⟩ st1 ⟨L,hc,w⟩
  cases hc
  have hl:=w.rn.len
  have hsz:L.flatten.length=a0.size:=by
   have h1:=w.size
   have h2:=congrArg List.length w.ar
   rw[List.length_append,Array.length_toList]at h2
   simpa using h2.symm.trans h1
  refine aM' (fun x c st'=>c=(none,())/\∃L,Wt O ky kd a0 st' L []/\(pendingOf st').size+x<=a0.size+1) (fun c st'=>c=(none,())/\∃L,Wt O ky kd a0 st' L []/\(pendingOf st').size<=1) ⟨rfl,L,w,by have:=hl.1;rw[Array.length_toList]at this;omega⟩ ?_ ?_ ?_
  .rintro x c st2 _ hx ⟨rfl,L,w,hx2⟩
   unfold sC
   refine wpS_bind (wpS_get ?_)
   by_cases c1:(pendingOf st2).size<=1
   .rw[if_pos c1]
    exact wpS_pure ⟨rfl,L,w,c1⟩
   rw[if_neg c1]
   refine wpS_bind (w.mergeAt C pa ?_ fun st3 L3 w3 z3 _=>?_)
   .repeat' split
    all_goals omega
   .exact wpS_pure ⟨rfl,L3,w3,by omega⟩
  .rintro c st2 ⟨rfl,L,w,hx2⟩
   exact⟨rfl,L,w,by omega⟩
  .rintro c st2 ⟨rfl,L,w,hx2⟩
   dsimp only
   refine wpS_pure (h st2 w.pm ?_ w.fl)
   rw[w.ar]
   have r:=w.rn
   have hl:=r.len.1
   rw[Array.length_toList]at hl
   have go:∀{p:List (Nat×Nat×Nat)} {L:List (List Keyed)} {a:Nat},Rn (Rk O ky) p L a->p.length<=1->(L.flatten++[]).Pairwise (Rk O ky):=by
    intro p L a r hp
    cases r with
    |nil _=>exact List.Pairwise.nil
    |cons w h0 hs r2=>
     cases r2 with
     |nil _=>simpa using hs
     |cons _ _ _ _=>simp at hp
   exact go r (by simpa using hx2)
end
end So
namespace L2
open PySem PySem.Spec PyProof.Rows So
section
variable {prog:Program} {w:World} {A:Around} {E:Value->Shared->Prop} {s:Shared}
def tP' (prog:Program) (w:World) (h0:Heap) (a:Addr) (vs:List Value) (O:KeyOrd) (kv:Value->O.α):Prop:=
 2<=vs.length->∃κ:SortKind,∀(A:Around) (s:Shared),(∀b o,b≠a->h0.get? b=some o->s.heap.get? b=some o)->
  (∀(E:Value->Shared->Prop) (Q:SortKind->Shared->Prop),Q κ s->wpAny (model prog w) A (keyKind' vs.toArray) Q E s)/\
  ∀x y,x∈vs->y∈vs->∀(E:Value->Shared->Prop) (Q:Bool->Shared->Prop),Q (O.blt (kv x) (kv y)) s->wpAny (model prog w) A (keyLt' κ x y) Q E s
theorem oM' {O:KeyOrd} {kv:Value->O.α} {κ:SortKind} {vs:List Value} (h:∀x y,x∈vs->y∈vs->∀(E:Value->Shared->Prop) (Q:Bool->Shared->Prop),Q (O.blt (kv x) (kv y)) s->wpAny (model prog w) A (keyLt' κ x y) Q E s):
  Cmp (model prog w) A E s O (fun p=>kv p.1) (fun p=>p.1∈vs) κ:=by
 refine⟨fun {x y st Q} hx hy hk q=>?_⟩
 rw[lt'_eq]
 refine wpS_bind (wpS_get ?_)
 rw[hk]
 refine wpS_bind (wpS_lift (wpAny_attempt (h x.1 y.1 hx hy _ _ ⟨rfl,?_⟩)))
 exact wpS_pure q
theorem gb' {O:KeyOrd} {kv:Value->O.α} {a:Addr} {vs:List Value} {n:Nat} {P:Fin->Shared->Prop} (ho:s.heap.get? a=some (seqObj "list" vs.toArray n)) (hu:tP' prog w s.heap a vs O kv) (hz:vs.length<=sizeLine)
  (h:∀out:List Value,out.Perm vs->(out.Pairwise fun x y=>O.kle (kv x) (kv y))->P (.done (.ret .none)) { s with heap:=sortedHeap s.heap a vs out.toArray }):wpAny (model prog w) A (Builtin.«list.sort» ⟨[.ref a],[]⟩) P E s:=by
 rw[list_sort_plain]
 have ha:a<s.heap.objs.size:=Heap.lt_size ho
 refine wpAny_bind (listItems_at ho rfl (wpAny_bind (listUpdate_at ho rfl ?_)))
 obtain⟨e1,ho1⟩:∃e1,(s.heap.update a (Obj.mapSeq fun _=>#[])).get? a=some (seqObj "list" #[] e1):=⟨_,get?_update_seq ho (fun _=>#[])⟩
 refine wpAny_bind (seqEpoch_at ho1 rfl (wpAny_bind (wpAny_newTuple (wpAny_bind (wpAny_newList (wpAny_holding ?_))))))
 have ho6:(((s.heap.update a (Obj.mapSeq fun _=>#[])).push (seqObj "tuple" vs.toArray 0)).push (seqObj "list" #[] 0)).get? a=some (seqObj "list" #[] e1):=by
  rw[Heap.get?_push_ne _ _ _ (by rw[size_push',Heap.size_update];exact Nat.ne_of_lt (Nat.lt_succ_of_lt ha)),Heap.get?_push_ne _ _ _ (by rw[Heap.size_update];exact Nat.ne_of_lt ha)]
  exact ho1
 have keep:∀b o,b≠a->s.heap.get? b=some o->(((s.heap.update a (Obj.mapSeq fun _=>#[])).push (seqObj "tuple" vs.toArray 0)).push (seqObj "list" #[] 0)).get? b=some o:=fun b o hb q=>by
  have hlt:b<s.heap.objs.size:=Heap.lt_size q
  rw[Heap.get?_push_ne _ _ _ (by rw[size_push',Heap.size_update];exact Nat.ne_of_lt (Nat.lt_succ_of_lt hlt)),Heap.get?_push_ne _ _ _ (by rw[Heap.size_update];exact Nat.ne_of_lt hlt),Heap.get?_update_ne _ _ _ _ hb]
  exact q
 show wpAny (model prog w) A _ P E { s with heap:=((s.heap.update a (Obj.mapSeq fun _=>#[])).push (seqObj "tuple" vs.toArray 0)).push (seqObj "list" #[] 0) }
 dsimp only
 by_cases h2:vs.toArray.size<2
 .rw[if_pos h2,if_pos h2]
  refine wpAny_bind (wpAny_pure ?_)
  rw[StateT.run_pure]
  refine wpAny_bind (wpAny_pure ?_)
  dsimp only
  refine wpAny_bind (seqEpoch_at ho6 rfl (wpAny_bind (listUpdate_at ho6 rfl ?_ (hsz2:=by rw[Array.size_map];show(pairsOf vs).size<=_;rw[pairsOf_size];exact Nat.le_succ_of_le hz))))
  simp only[bne_self_eq_false,Bool.false_eq_true,if_false]
  refine wpAny_pure ?_
  have e2:(pairsOf vs).map (·.2)=vs.toArray:=by
   apply Array.toList_inj.mp
   rw[Array.toList_map,pairsOf_toList,List.map_snd_zip (Nat.le_refl _)]
  have fin:=h vs (List.Perm.refl _) (by
   match vs,h2 with
   | [],_=>exact .nil
   | [x],_=>simp
   |_ :: _ :: _,h2=>simp at h2;omega)
  rw[<- e2]at fin
  exact fin
 .rw[if_neg h2,if_neg h2]
  have h2':2<=vs.length:=by rw[List.size_toArray]at h2;omega
  obtain⟨κ,hκ⟩:=hu h2'
  obtain⟨k1,k2⟩:=hκ A { s with heap:=((s.heap.update a (Obj.mapSeq fun _=>#[])).push (seqObj "tuple" vs.toArray 0)).push (seqObj "list" #[] 0) } keep
  refine wpAny_bind (k1 _ _ ?_)
  refine wpAny_bind (wpAny_mono (fG' (oM' k2) (a0:=pairsOf vs) (st:=SortSt.mk' κ (pairsOf vs) #[] 7 none) (Q:=fun _ st'=>(arrOf st').toList.Perm (pairsOf vs).toList/\(arrOf st').toList.Pairwise (Rk O fun p=>kv p.1)/\failedOf st'=none)
   rfl rfl rfl rfl (fun p hp=>by rw[pairsOf_toList]at hp;exact(mem_zip_self hp).2) fun st' a1 a2 a3=>⟨a1,a2,a3⟩) ?_ fun _ _ e=>e)
  rintro⟨⟨⟩,st'⟩ s' ⟨rfl,hp,hs,hf⟩
  dsimp only
  have hl:(arrOf st').size=vs.length:=by
   have:=hp.length_eq
   rw[Array.length_toList,Array.length_toList,pairsOf_size]at this
   exact this
  refine wpAny_bind (seqEpoch_at ho6 rfl (wpAny_bind (listUpdate_at ho6 rfl ?_ (hsz2:=by rw[Array.size_map];show(arrOf st').size<=_;rw[hl];exact Nat.le_succ_of_le hz))))
  rw[hf]
  simp only[bne_self_eq_false,Bool.false_eq_true,if_false]
  refine wpAny_pure ?_
  have hm:∀p,p∈(arrOf st').toList->p.1=p.2:=fun p hp'=>(mem_zip_self (by rw[<- pairsOf_toList];exact hp.mem_iff.mp hp')).1
  have fin:=h ((arrOf st').toList.map (·.2)) (by
   have:=hp.map (·.2)
   rw[pairsOf_toList,List.map_snd_zip (Nat.le_refl _)]at this
   exact this) (by
   rw[List.pairwise_map]
   refine List.Pairwise.imp_of_mem (fun {x y} hx hy r=>?_) hs
   rw[<- hm x hx,<- hm y hy]
   exact r)
  have e3:((arrOf st').toList.map (·.2)).toArray=(arrOf st').map (·.2):=by
   apply Array.toList_inj.mp
   rw[Array.toList_map]
  rw[e3]at fin
  exact fin
theorem hJ' {O:KeyOrd} {kv:Value->O.α} {l:Addr} {vs:List Value} {Q:Value->Shared->Prop} (hl:s.heap.IsList l vs.toArray) (hu:∀h a,(∀b o,s.heap.get? b=some o->h.get? b=some o)->s.heap.get? a=none->tP' prog w h a vs O kv) (hz:vs.length<=sizeLine)
  (h:∀out:List Value,out.Perm vs->(out.Pairwise fun x y=>O.kle (kv x) (kv y))->Q (.ref (s.heap.objs.size+1)) { s with heap:=sortedAll s.heap vs out.toArray }):wpAny (model prog w) A (call (.builtin "sorted") [.ref l]) Q E s:=by
 refine Calls.call_function_entry kind_sorted plain_sorted entry_sorted (args_sorted1 _) ?_
 unfold Builtin.«sorted»
 refine wpAny_bind (m:=checkCount "sorted" 1 1 _) (wpAny_pure (wpAny_bind (collect_list hl (wpAny_bind (wpAny_newList ?_)))))
 have hsz:((s.heap.push (seqObj "list" #[] 0)).update s.heap.objs.size (Obj.mapSeq (·++vs.toArray))).objs.size=s.heap.objs.size+1:=by rw[Heap.size_update,size_push']
 have hoL:(((s.heap.push (seqObj "list" #[] 0)).update s.heap.objs.size (Obj.mapSeq (·++vs.toArray))).push (seqObj "list" vs.toArray 0)).get? (s.heap.objs.size+1)=some (seqObj "list" vs.toArray 0):=by
  rw[<- hsz];exact Heap.get?_push_size _ rfl
 have keep:∀b o,s.heap.get? b=some o->(((s.heap.push (seqObj "list" #[] 0)).update s.heap.objs.size (Obj.mapSeq (·++vs.toArray))).push (seqObj "list" vs.toArray 0)).get? b=some o:=fun b o q=>by
  have hlt:b<s.heap.objs.size:=Heap.lt_size q
  rw[Heap.get?_push_ne _ _ _ (by rw[hsz];exact Nat.ne_of_lt (Nat.lt_succ_of_lt hlt)),Heap.get?_update_ne _ _ _ _ (Nat.ne_of_lt hlt),Heap.get?_push_ne _ _ _ (Nat.ne_of_lt hlt)]
  exact q
 show wpAny _ _ _ _ _ { s with heap:=((s.heap.push (seqObj "list" #[] 0)).update s.heap.objs.size (Obj.mapSeq (·++vs.toArray))).push (seqObj "list" vs.toArray 0) }
 rw[hsz]
 exact wpAny_bind (wpAny_holding (wpAny_call_entry slot_list_sort ⟨_,hoL,rfl⟩ entry_list_sort (gb' hoL (hu _ _ keep (Heap.get?_none_of_le (Nat.le_succ _))) hz fun out a1 a2=>⟨_,rfl,wpAny_pure ⟨_,rfl,h out a1 a2⟩⟩) (args_list_sort _)))
end
section
variable {X:Cx}
end
noncomputable abbrev Itm:Type:=Int ⊕ PySem.Str
noncomputable def itV:Itm->V
 | .inl i=>.int i
 | .inr x=>.str x
noncomputable def i5':Itm->Itm->Bool
 | .inl i,.inl j=>decide (i<j)
 | .inl _,.inr _=>true
 | .inr _,.inl _=>false
 | .inr x,.inr y=>decide (x.cps.toList<y.cps.toList)
noncomputable def aS':List Itm->List Itm->Bool
 | [],[]=>false
 | [],_ :: _=>true
 |_ :: _,[]=>false
 |a :: l,b :: m=>if a=b then aS' l m else i5' a b
theorem oN' {x y:PySem.Str} (h:x.cps.toList=y.cps.toList):x=y:=by
 cases x;cases y;congr 1;exact Array.toList_inj.mp h
theorem fH' (a:Itm):i5' a a=false:=by cases a<;>simp[i5',List.lt_irrefl]
theorem hK' {a b c:Itm} (h1:i5' a b=true) (h2:i5' b c=true):i5' a c=true:=by
 cases a<;>cases b<;>cases c<;>simp only[i5',decide_eq_true_eq,Bool.false_eq_true]at *<;>first|omega|exact List.lt_trans h1 h2
theorem hL' {a b:Itm} (h1:i5' a b=false) (h2:i5' b a=false):a=b:=by
 cases a<;>cases b<;>simp only[i5',decide_eq_false_iff_not,Bool.true_eq_false]at *
 .congr 1;omega
 .congr 1;exact oN' (List.le_antisymm (List.not_lt.mp h2) (List.not_lt.mp h1))
theorem cC':∀a:List Itm,aS' a a=false
 | []=>rfl
 |a :: l=>by rw[aS',if_pos rfl];exact cC' l
theorem b6':∀{a b c:List Itm},aS' a b=true->aS' b c=true->aS' a c=true
 | [],[],_,h,_=>by simp[aS']at h
 | [],_ :: _,[],_,h=>by simp[aS']at h
 | [],_ :: _,_ :: _,_,_=>rfl
 |_ :: _,[],_,h,_=>by simp[aS']at h
 |_ :: _,_ :: _,[],_,h=>by simp[aS']at h
 |a :: l,b :: m,c :: n,h1,h2=>by
  rw[aS']at h1 h2 ⊢
  by_cases e1:a=b
  .subst e1
   rw[if_pos rfl]at h1
   by_cases e2:a=c
   .subst e2;rw[if_pos rfl]at h2 ⊢;exact b6' h1 h2
   .rw[if_neg e2]at h2 ⊢;exact h2
  .rw[if_neg e1]at h1
   by_cases e2:b=c
   .subst e2;rw[if_neg e1];exact h1
   .rw[if_neg e2]at h2
    have h3:=hK' h1 h2
    by_cases e3:a=c
    .subst e3;rw[fH']at h3;cases h3
    .rw[if_neg e3];exact h3
theorem b7':∀{a b:List Itm},aS' a b=false->aS' b a=false->a=b
 | [],[],_,_=>rfl
 | [],_ :: _,h,_=>by simp[aS']at h
 |_ :: _,[],_,h=>by simp[aS']at h
 |a :: l,b :: m,h1,h2=>by
  rw[aS']at h1 h2
  by_cases e:a=b
  .subst e
   rw[if_pos rfl]at h1 h2
   rw[b7' h1 h2]
  .rw[if_neg e]at h1
   rw[if_neg (Ne.symm e)]at h2
   exact absurd (hL' h1 h2) e
theorem i6' {a b c:List Itm} (h:aS' a c=true):aS' a b=true\/aS' b c=true:=by
 cases h1:aS' a b
 .cases h2:aS' b c
  .cases h3:aS' b a
   .have:=b7' h1 h3;subst this;rw[h2]at h;cases h
   .have:=b6' h3 h;rw[h2]at this;cases this
  .exact .inr rfl
 .exact .inl rfl
noncomputable def mx':KeyOrd:=⟨List Itm,aS',cC',fun _ _ _=>b6',fun _ _ _=>i6',fun _ _=>b7'⟩
noncomputable def pY':Itm->Value->Prop
 | .inl i,v=>∃t,v=.int i t
 | .inr x,v=>∃t,v=.str x t
inductive ItsAre:List Value->List Itm->Prop
 |nil:ItsAre [] []
 |cons {v:Value} {a:Itm} {vs:List Value} {l:List Itm}:pY' a v->ItsAre vs l->ItsAre (v :: vs) (a :: l)
theorem ItsAre.len:∀{vs:List Value} {l:List Itm},ItsAre vs l->vs.length=l.length
 |_,_,.nil=>rfl
 |_,_,.cons _ r=>by simp[r.len]
theorem b8':∀{l:List Itm} {us:List Value},az' (l.map itV) us->ItsAre us l
 | [],_,.nil=>.nil
 | .inl i :: l,_,.cons r t=>.cons (by obtain⟨u,rfl⟩:=r;exact⟨u,rfl⟩) (b8' t)
 | .inr x :: l,_,.cons r t=>.cons (by obtain⟨u,rfl⟩:=r;exact⟨u,rfl⟩) (b8' t)
noncomputable def shp (l:List Itm):List Bool:=l.map Sum.isLeft
def Tps (h:Heap) (q:Addr×List Itm):Prop:=∃o xs n,h.get? q.1=some o/\o.cls=.type "tuple"/\o.data=.seq xs n/\ItsAre xs.toList q.2
section
variable {prog:Program} {w:World} {A:Around} {E:Value->Shared->Prop} {s:Shared}
theorem rk' {p q:Value} {b:Bool} {a c:Itm} {Q:Bool->Shared->Prop} (h1:pY' a p) (h2:pY' c q) (hs:a.isLeft=c.isLeft) (h:Q (i5' a c) s):wpAny (model prog w) A (oneLt' b p q) Q E s:=by
 cases a<;>cases c<;>simp at hs
 .obtain⟨t,rfl⟩:=h1;obtain⟨u,rfl⟩:=h2
  cases b
  .exact W.kat_one _ _ (PyProof.Rows.lt_int h)
  .exact oneLt_int h
 .obtain⟨t,rfl⟩:=h1;obtain⟨u,rfl⟩:=h2
  cases b
  .exact W.kat_one _ _ (PyProof.Rows.lt_str h)
  .exact oneLt_str h
set_option tactic.hygienic true in
theorem uA' {p q:Value} {a c:Itm} {Q:Bool->Shared->Prop} (h1:pY' a p) (h2:pY' c q) (hs:a.isLeft=c.isLeft) (h:Q (decide (a=c)) s):wpAny (model prog w) A (eqBool p q) Q E s:=by
 cases a<;>cases c<;>simp at hs
 .obtain⟨t,rfl⟩:=h1;obtain⟨u,rfl⟩:=h2
  refine wpAny_eqBool_int ?_
  rename_i i j
  have e:(i == j)=decide ((Sum.inl i:Itm)=Sum.inl j):=by
   by_cases c:i=j
   .subst c;simp
   .simp[c]
  rw[e];exact h
 .obtain⟨t,rfl⟩:=h1;obtain⟨u,rfl⟩:=h2
  refine wpAny_eqBool_str ?_
  simpa using h
theorem i7' {Q:Bool->Shared->Prop}:∀{xs ys:List Value} {l m:List Itm} {i:Nat},ItsAre xs l->ItsAre ys m->shp l=shp m->Q (aS' l m) s->W.KatLex prog w A true false Q (xs.zip ys) i s
 |_,_,_,_,i,.nil,.nil,_,h=>W.kat_nil h
 |_,_,_,_,i,.nil,.cons _ _,hs,_=>by simp[shp]at hs
 |_,_,_,_,i,.cons _ _,.nil,hs,_=>by simp[shp]at hs
 |_,_,a :: l,c :: m,i,.cons h1 r1,.cons h2 r2,hs,h=>by
  have hs1:a.isLeft=c.isLeft:=by simp[shp]at hs;exact hs.1
  have hs2:shp l=shp m:=by simp[shp]at hs ⊢;exact hs.2
  rw[List.zip_cons_cons]
  refine W.kat_cons (uA' h1 h2 hs1 ?_)
  rw[aS']at h
  by_cases e:a=c
  .rw[if_pos e]at h
   rw[decide_eq_true e]
   exact W.kat_yes (i7' r1 r2 hs2 h)
  .rw[if_neg e]at h
   rw[decide_eq_false e]
   exact W.kat_no (rk' h1 h2 hs1 h)
end
noncomputable def my' (qs:List (Addr×List Itm)):Value->List Itm
 | .ref a=>((qs.find? fun q=>q.1 == a).map (·.2)).getD []
 |_=>[]
set_option tactic.hygienic true in
theorem oO' {vs:List Value}:∀{l m:List Itm},ItsAre vs l->ItsAre vs m->l=m:=by
 induction vs with
 |nil=>intro l m h1 h2;cases h1;cases h2;rfl
 |cons v vs ih=>
  intro l m h1 h2
  cases h1 with
  |cons a1 r1=>
   cases h2 with
   |cons a2 r2=>
    rw[ih r1 r2]
    congr 1
    rename_i a l b m
    cases a<;>cases b<;>(obtain⟨t,e1⟩:=a1;obtain⟨u,e2⟩:=a2;rw[e1]at e2;cases e2)<;>rfl
theorem cw' {h:Heap} {qs:List (Addr×List Itm)} (hq:∀q∈qs,Tps h q) {q:Addr×List Itm} (hm:q∈qs):my' qs (.ref q.1)=q.2:=by
 show((qs.find? fun x=>x.1 == q.1).map (·.2)).getD []=q.2
 cases e:qs.find? fun x=>x.1 == q.1 with
 |none=>exact absurd (List.find?_eq_none.mp e q hm) (by simp)
 |some r=>
  have h1:=List.find?_some e
  have h2:=List.mem_of_find?_eq_some e
  obtain⟨o,xs,n,ho,_,hd,hi⟩:=hq q hm
  obtain⟨o',xs',n',ho',_,hd',hi'⟩:=hq r h2
  have e1:r.1=q.1:=by simpa using h1
  rw[e1,ho]at ho'
  cases ho'
  rw[hd]at hd'
  cases hd'
  show r.2=q.2
  exact oO' hi' hi
set_option tactic.hygienic true in
theorem dg' {h:Heap} {sh:List Bool} {b:Bool}:∀{qs:List (Addr×List Itm)},(∀q∈qs,Tps h q)->(∀q∈qs,shp q.2=b :: sh)->∃fs,W.KatTups h (qs.map fun q=>Value.ref q.1) fs/\fs.length=qs.length/\∀f∈fs,∃a,pY' a f/\a.isLeft=b
 | [],_,_=>⟨[],trivial,rfl,fun _ h=>absurd h List.not_mem_nil⟩
 |q :: qs,hq,hs=>by
  obtain⟨fs,h1,h2,h3⟩:=dg' (qs:=qs) (fun x hx=>hq x (by simp[hx])) fun x hx=>hs x (by simp[hx])
  obtain⟨o,xs,n,ho,hc,hd,hi⟩:=hq q (by simp)
  have hsq:=hs q (by simp)
  obtain⟨qa,ql⟩:=q
  cases ql with
  |nil=>simp[shp]at hsq
  |cons a l=>
   generalize hxl:xs.toList=xl at hi
   cases hi with
   |cons ha hr=>
    rename_i v vr
    have hx0:xs[0]?=some v:=by
     have:xs.toList[0]?=some v:=by rw[hxl];rfl
     simpa using this
    exact⟨v :: fs,W.KatTups.cons ho hc hd hx0 h1,by simp[h2],fun f hf=>by
     rcases List.mem_cons.mp hf with rfl|hf
     .exact⟨a,ha,by simp[shp]at hsq;exact hsq.1⟩
     .exact h3 f hf⟩
theorem gc' {prog:Program} {w:World} {h0:Heap} {a:Addr} {qs:List (Addr×List Itm)} {sh:List Bool} {b:Bool} (hq:∀q∈qs,Tps h0 q) (hne:∀q∈qs,q.1≠a) (hs:∀q∈qs,shp q.2=b :: sh):tP' prog w h0 a (qs.map fun q=>Value.ref q.1) mx' (my' qs):=by
 intro h2
 refine⟨tuples' true,fun A s keep=>?_⟩
 have hq':∀q∈qs,Tps s.heap q:=fun q hm=>let⟨o,xs,n,ho,r⟩:=hq q hm;⟨o,xs,n,keep _ _ (hne q hm) ho,r⟩
 refine⟨fun E Q h=>?_,fun x y hx hy E Q h=>?_⟩
 .obtain⟨fs,h1,h3,h4⟩:=dg' hq' hs
  cases b
  .refine W.kat_kind (T:=.type "str") h1 (by rw[h3];rw[List.length_map]at h2;omega) (fun v hv=>?_) rfl h
   obtain⟨x,hx,hb⟩:=h4 v hv
   cases x<;>simp at hb
   obtain⟨t,rfl⟩:=hx
   exact .now
  .refine W.kat_kind (T:=.type "int") h1 (by rw[h3];rw[List.length_map]at h2;omega) (fun v hv=>?_) rfl h
   obtain⟨x,hx,hb⟩:=h4 v hv
   cases x<;>simp at hb
   obtain⟨t,rfl⟩:=hx
   exact .now
 .obtain⟨qx,mx,rfl⟩:=List.mem_map.mp hx
  obtain⟨qy,my,rfl⟩:=List.mem_map.mp hy
  rw[cw' hq' mx,cw' hq' my]at h
  obtain⟨ox,xs,n,hox,_,hdx,hix⟩:=hq' qx mx
  obtain⟨oy,ys,m,hoy,_,hdy,hiy⟩:=hq' qy my
  refine W.kat_lt hox hdx hoy hdy ?_
  have hl:¬xs.size<ys.size:=by
   have h3:=hix.len
   have h4:=hiy.len
   have h5:=congrArg List.length ((hs qx mx).trans (hs qy my).symm)
   simp only[shp,List.length_map]at h5
   rw[Array.length_toList]at h3 h4
   omega
  rw[decide_eq_false hl]
  exact i7' hix hiy ((hs qx mx).trans (hs qy my).symm) h
section
variable {X:Cx}
noncomputable def mz' (K:W.Frag):List V->Hp->VK->Prop:=fun xs H Q=>∃(p:Addr) (qs:List (Addr×List Itm)) (b:Bool) (sh:List Bool),xs=[.ref p]/\SqL K H p (qs.map fun q=>V.ref q.1)/\(∀q∈qs,SqT K H q.1 (q.2.map itV))/\(∀q∈qs,shp q.2=b :: sh)/\
 ∀(l:Addr) (qs':List (Addr×List Itm)),H l=none->qs'.Perm qs->(qs'.Pairwise fun x y=>aS' y.2 x.2=false)->Q (.ref l) (upd H l (.lst (qs'.map fun q=>V.ref q.1)))
theorem dM':∀{qs:List (Addr×List Itm)} {us:List Value},az' (qs.map fun q=>V.ref q.1) us->us=qs.map fun q=>Value.ref q.1
 | [],_,.nil=>rfl
 |q :: qs,_,.cons r t=>by cases r;rw[dM' t];rfl
theorem gd':∀(qs:List (Addr×List Itm)),az' (qs.map fun q=>V.ref q.1) (qs.map fun q=>Value.ref q.1)
 | []=>.nil
 |q :: qs=>.cons rfl (gd' qs)
theorem hM':aH' X (.builtin "sorted") (mz' X.K):=by
 intro pins s σ H xs us Q I rv h
 obtain⟨a,qs,b,sh,rfl,hs,hq,hh,q⟩:=h
 obtain⟨u,rfl,r1⟩:=b2' rv
 cases r1
 obtain⟨its,r,pl,hz⟩:=I.list hs
 have eits:=dM' r
 subst eits
 have hP:∀q∈qs,Tps s.heap q:=fun q hm=>by
  obtain⟨is,r2,⟨o,ho,hc,n,hd⟩,_⟩:=I.tuple (hq q hm)
  exact⟨o,_,n,ho,hc,hd,b8' r2⟩
 rw[List.length_map]at hz
 refine hJ' pl.isList (fun h' a' hk ha'=>gc' (fun q hm=>let⟨o,xs,n,ho,rr⟩:=hP q hm;⟨o,xs,n,hk _ _ ho,rr⟩) (fun q hm e=>?_) hh) (by rw[List.length_map];exact hz) fun out a1 a2=>?_
 .obtain⟨o,xs,n,ho,_⟩:=hP q hm
  rw[e,ha']at ho
  cases ho
 obtain⟨e,he⟩:=sortedAll_at s.heap (qs.map fun q=>Value.ref q.1) out.toArray
 have hn:H (s.heap.objs.size+1)=none:=I.hok.fresh (Nat.le_succ _)
 obtain⟨qs',hp,eo⟩:∃qs':List (Addr×List Itm),qs'.Perm qs/\out=qs'.map fun q=>Value.ref q.1:=by
  refine⟨out.map fun v=>((match v with | .ref a=>a|_=>0),my' qs v),?_,?_⟩
  .have:=a1.map fun v=>(((match v with | .ref a=>a|_=>0:Addr)),my' qs v)
   refine this.trans ?_
   rw[List.map_map]
   have e5:qs.map ((fun v=>((match v with | .ref a=>a|_=>0:Addr),my' qs v))∘fun q=>Value.ref q.1)=qs:=by
    conv=>rhs;rw[<- List.map_id qs]
    refine List.map_congr_left fun q hm=>?_
    show(q.1,my' qs (.ref q.1))=q
    rw[cw' hP hm]
   rw[e5]
  .rw[List.map_map]
   conv=>lhs;rw[<- List.map_id out]
   refine List.map_congr_left fun v hv=>?_
   obtain⟨q,_,rfl⟩:=List.mem_map.mp (a1.mem_iff.mp hv)
   rfl
 subst eo
 have hu:qs'.Pairwise fun x y=>aS' y.2 x.2=false:=by
  rw[List.pairwise_map]at a2
  refine List.Pairwise.imp_of_mem (fun {x y} hx hy k=>?_) a2
  have:=k
  unfold KeyOrd.kle at this
  rw[cw' hP (hp.mem_iff.mp hx),cw' hP (hp.mem_iff.mp hy)]at this
  exact this
 refine⟨.ref (s.heap.objs.size+1),_,I.laid (a:=s.heap.objs.size+1) (o:=.lst (qs'.map fun q=>V.ref q.1)) (h':=sortedAll s.heap (qs.map fun q=>Value.ref q.1) (qs'.map fun q=>Value.ref q.1).toArray) (t':=s.toks) (fun _ _=>sortedAll_old) (Nat.le_succ _) ⟨?_,qs'.map fun q=>Value.ref q.1,e,gd' qs',?_⟩,rfl,q _ _ hn hp hu⟩
 .rw[List.length_map,hp.length_eq];exact hz
 .rw[he]
end
end L2
namespace PySem
def Rsn (xs:Array Nat):Prop:=xs.toList.Pairwise (· < ·)
theorem cD' {xs:Array Nat} (hr:Rsn xs) {i j:Nat} (hij:i<j) (hj:j<xs.size):xs[i]'(by omega)<xs[j]:=by
 have:=List.pairwise_iff_getElem.mp hr i j (by rw[Array.length_toList];omega) (by rw[Array.length_toList];omega) hij
 simpa using this
theorem ed' {xs:Array Nat} (hr:Rsn xs) (j:Nat):∀(f lo hi:Nat),lo<=hi->hi<=xs.size->hi-lo<=f->(∀i (h:i<xs.size),i<lo->xs[i]<j)->(∀i (h:i<xs.size),hi<=i->j<=xs[i])->
  SetTable.below.go xs j f lo hi<=xs.size/\(∀i (h:i<xs.size),i<SetTable.below.go xs j f lo hi->xs[i]<j)/\(∀i (h:i<xs.size),SetTable.below.go xs j f lo hi<=i->j<=xs[i])
 |0,lo,hi,h1,h2,h3,a,b=>by
  have e:lo=hi:=by omega
  subst e
  exact⟨h2,a,b⟩
 |f+1,lo,hi,h1,h2,h3,a,b=>by
  unfold SetTable.below.go
  by_cases hl:lo<hi
  .rw[if_pos hl]
   dsimp only
   have hm:(lo+hi) / 2<xs.size:=by omega
   have eg:xs.getD ((lo+hi) / 2) j=xs[(lo+hi) / 2]:=by simp[Array.getD,hm]
   rw[eg]
   by_cases hx:xs[(lo+hi) / 2]<j
   .rw[if_pos hx]
    refine ed' hr j f _ _ (by omega) h2 (by omega) (fun i h hi'=>?_) b
    by_cases e:i=(lo+hi) / 2
    .subst e;exact hx
    .exact Nat.lt_trans (cD' hr (by omega) hm) hx
   .rw[if_neg hx]
    refine ed' hr j f _ _ (by omega) (by omega) (by omega) a fun i h hi'=>?_
    by_cases e:i=(lo+hi) / 2
    .subst e;omega
    .have:=cD' hr (i:=(lo+hi) / 2) (j:=i) (by omega) h
     omega
  .rw[if_neg hl]
   have e:lo=hi:=by omega
   subst e
   exact⟨h2,a,b⟩
theorem cj' {xs:Array Nat} (hr:Rsn xs) (j:Nat):SetTable.below xs j<=xs.size/\(∀i (h:i<xs.size),i<SetTable.below xs j->xs[i]<j)/\(∀i (h:i<xs.size),SetTable.below xs j<=i->j<=xs[i]):=
 ed' hr j _ _ _ (Nat.zero_le _) (Nat.le_refl _) (Nat.le_refl _) (fun _ _ z=>absurd z (Nat.not_lt_zero _)) fun i h z=>absurd h (by omega)
theorem ge' {xs:Array Nat} (hr:Rsn xs) {j:Nat} (h:xs[SetTable.below xs j]?≠some j):j∉xs.toList:=by
 intro hm
 obtain⟨i,hi,e⟩:=List.mem_iff_getElem.mp hm
 rw[Array.length_toList]at hi
 rw[Array.getElem_toList]at e
 obtain⟨h1,h2,h3⟩:=cj' hr j
 have hle:SetTable.below xs j<=i:=Nat.le_of_not_lt fun z=>by have:=h2 i hi z;omega
 by_cases hq:SetTable.below xs j=i
 .rw[hq]at h
  exact h (by rw[Array.getElem?_eq_getElem hi,e])
 .have:=cD' hr (i:=SetTable.below xs j) (j:=i) (by omega) hi
  have:=h3 _ (by omega) (Nat.le_refl (SetTable.below xs j))
  omega
theorem hN' {xs:Array Nat} (hr:Rsn xs) {j:Nat} (h:xs[SetTable.below xs j]?≠some j):Rsn (SetTable.insertAt xs (SetTable.below xs j) j):=by
 obtain⟨h1,h2,h3⟩:=cj' hr j
 have hn:=ge' hr h
 unfold Rsn
 rw[SetTable.toList_insertAt]
 first
 |rw[List.append_assoc,List.singleton_append]
 |skip
 rw[List.pairwise_append,List.pairwise_cons]
 have hT:∀a∈xs.toList.take (SetTable.below xs j),a<j:=by
  intro a ha
  obtain⟨i,hi,e⟩:=List.mem_iff_getElem.mp ha
  rw[List.length_take,Array.length_toList]at hi
  rw[List.getElem_take,Array.getElem_toList]at e
  have:=h2 i (by omega) (by omega)
  omega
 have hD:∀b∈xs.toList.drop (SetTable.below xs j),j<b:=by
  intro b hb
  obtain⟨i,hi,e⟩:=List.mem_iff_getElem.mp hb
  rw[List.length_drop,Array.length_toList]at hi
  rw[List.getElem_drop,Array.getElem_toList]at e
  have:=h3 (SetTable.below xs j+i) (by omega) (by omega)
  have hne:b≠j:=fun z=>hn (z ▸ List.mem_of_mem_drop hb)
  omega
 refine⟨hr.sublist (List.take_sublist _ _),⟨hD,hr.sublist (List.drop_sublist _ _)⟩,fun a ha b hb=>?_⟩
 rcases List.mem_cons.mp hb with rfl|hb
 .exact hT a ha
 .exact Nat.lt_trans (hT a ha) (hD b hb)
def TOk (bt:Bool) (t:SetTable):Prop:=bt=true\/t.led=true/\Rsn t.place
end PySem
namespace PySem
namespace Ts
open SetTable
noncomputable def u (x:Nat):Nat->Nat
 |0=>x
 |n+1=>5*u x n+1
theorem oP' (x a:Nat):∀b,u x (a+b)=u (u x a) b
 |0=>rfl
 |b+1=>by show 5*u x (a+b)+1=5*u (u x a) b+1;rw[oP' x a b]
theorem oQ' (x:Nat):∀n,u x n=5 ^ n*x+u 0 n
 |0=>by simp[u]
 |n+1=>by
  show 5*u x n+1=5 ^ (n+1)*x+(5*u 0 n+1)
  rw[oQ' x n,Nat.pow_succ]
  have:5 ^ n*5*x=5*(5 ^ n*x):=by rw[Nat.mul_comm (5 ^ n) 5,Nat.mul_assoc]
  omega
theorem i8':∀n,4*u 0 n+1=5 ^ n
 |0=>rfl
 |n+1=>by
  have:=i8' n
  rw[Nat.pow_succ]
  show 4*(5*u 0 n+1)+1=_
  omega
theorem uB' (k:Nat):∃c,u 0 (2 ^ k)=2 ^ k*(2*c+1):=by
 induction k with
 |zero=>exact⟨0,rfl⟩
 |succ k ih=>
  obtain⟨c,hc⟩:=ih
  have h1:u 0 (2 ^ (k+1))=5 ^ (2 ^ k)*u 0 (2 ^ k)+u 0 (2 ^ k):=by
   rw[Nat.pow_succ,Nat.mul_two,oP',oQ' (u 0 (2 ^ k))]
  have h2:=i8' (2 ^ k)
  rw[<- h2]at h1
  generalize hs:u 0 (2 ^ k)=S at h1 hc
  rw[h1,Nat.pow_succ]
  generalize 2 ^ k=p at hc
  refine⟨(2*c+1)*S+c,?_⟩
  have e1:p*((2*c+1)*S)=S*S:=by rw[<- Nat.mul_assoc,<- hc]
  have e2:(4*S+1)*S=4*(S*S)+S:=by rw[Nat.add_mul,Nat.one_mul,Nat.mul_assoc]
  have e3:p*2*(2*((2*c+1)*S+c)+1)=4*(p*((2*c+1)*S))+2*(p*(2*c+1)):=by
   rw[show 2*((2*c+1)*S+c)+1=2*((2*c+1)*S)+(2*c+1) by omega,Nat.mul_add,Nat.mul_comm p 2]
   generalize (2*c+1)*S=q
   rw[Nat.mul_assoc 2 p (2*q),Nat.mul_left_comm p 2 q,Nat.mul_assoc 2 p (2*c+1)]
   omega
  rw[e2,e3,e1,<- hc]
  omega
theorem rl' (z k:Nat):u z (2 ^ k) % 2 ^ (k+1)=(z+2 ^ k) % 2 ^ (k+1):=by
 obtain⟨c,hc⟩:=uB' k
 have h2:=i8' (2 ^ k)
 rw[oQ',<- h2,hc,Nat.pow_succ]
 generalize 2 ^ k=p
 have e:(4*(p*(2*c+1))+1)*z+p*(2*c+1)=z+p+p*2*(2*(2*c+1)*z+c):=by
  rw[Nat.add_mul,Nat.one_mul,Nat.mul_add (p*2)]
  have e1:4*(p*(2*c+1))*z=p*2*(2*(2*c+1)*z):=by
   rw[Nat.mul_assoc p 2,<- Nat.mul_assoc 2 (2*(2*c+1)) z,<- Nat.mul_assoc 2 2,Nat.mul_left_comm 4 p,Nat.mul_assoc p]
  have e2:p*(2*c)=p*2*c:=by rw[Nat.mul_assoc]
  have e3:p*(2*c+1)=p*(2*c)+p:=by rw[Nat.mul_add,Nat.mul_one]
  rw[e1,e3]
  omega
 rw[e,Nat.add_mul_mod_self_left]
theorem cyc:∀(k x y:Nat),∃n,n<2 ^ k/\u x n % 2 ^ k=y % 2 ^ k
 |0,x,y=>⟨0,by decide,by rw[Nat.pow_zero,Nat.mod_one,Nat.mod_one]⟩
 |k+1,x,y=>by
  obtain⟨n,hn,e⟩:=cyc k x y
  have hp:0<2 ^ k:=Nat.pow_pos (by decide)
  have h2:2 ^ (k+1)=2*2 ^ k:=by rw[Nat.pow_succ,Nat.mul_comm]
  by_cases h:u x n % 2 ^ (k+1)=y % 2 ^ (k+1)
  .exact⟨n,by omega,h⟩
  .refine⟨n+2 ^ k,by omega,?_⟩
   rw[oP',rl']
   generalize u x n=z at e h ⊢
   rw[h2]at h ⊢
   generalize 2 ^ k=p at e h hp ⊢
   have a1:z % (2*p)=z % p\/z % (2*p)=z % p+p:=by
    have:=Nat.mod_two_eq_zero_or_one (z / p)
    rw[Nat.mul_comm 2 p,Nat.mod_mul]
    rcases this with q|q<;>rw[q]<;>simp
   have a2:y % (2*p)=y % p\/y % (2*p)=y % p+p:=by
    have:=Nat.mod_two_eq_zero_or_one (y / p)
    rw[Nat.mul_comm 2 p,Nat.mod_mul]
    rcases this with q|q<;>rw[q]<;>simp
   rw[Nat.add_mod,Nat.mod_eq_of_lt (show p<2*p by omega)]
   have b1:=Nat.mod_lt z hp
   rcases a1 with q1|q1<;>rcases a2 with q2|q2
   .omega
   .rw[q1,q2,e,Nat.mod_eq_of_lt (by omega)]
   .rw[q1,q2,e,show y % p+p+p=y % p+2*p by omega,Nat.add_mod_right,Nat.mod_eq_of_lt (by omega)]
   .omega
end Ts
end PySem
namespace PySem
namespace Ts
open SetTable
noncomputable def nxt (m:Nat) (p:Probe):Probe:=if p.more > 0 then { p with j:=p.j+1,more:=p.more-1 } else
 { p with j:=(leap m p.i p.perturb).1,more:=runEnd m (leap m p.i p.perturb).1-(leap m p.i p.perturb).1,i:=(leap m p.i p.perturb).1,perturb:=(leap m p.i p.perturb).2 }
noncomputable def Pj (m:Nat) (h:Int):Nat->Probe
 |0=>{ j:=bits h % (m+1),more:=runEnd m (bits h % (m+1))-bits h % (m+1),i:=bits h % (m+1),perturb:=bits h,dummy:=none }
 |n+1=>nxt m (Pj m h n)
theorem lb' (t:SetTable) (h:Int):t.probeStart h=Pj t.mask h 0:=rfl
theorem mA' (t:SetTable) (h:Int) (n:Nat):t.advance (Pj t.mask h n)=Pj t.mask h (n+1):=by
 show t.advance (Pj t.mask h n)=nxt t.mask (Pj t.mask h n)
 rfl
noncomputable def Lp (m:Nat) (h:Int):Nat->Nat×Nat
 |0=>(bits h % (m+1),bits h)
 |l+1=>leap m (Lp m h l).1 (Lp m h l).2
noncomputable def mo (m i:Nat):Nat:=runEnd m i-i
theorem uC' {m i:Nat}:mo m i<=9:=by unfold mo runEnd;split<;>omega
theorem rm' {m i k:Nat} (hi:i<=m) (hk:k<=mo m i):i+k<=m:=by
 unfold mo runEnd at hk
 split at hk<;>omega
noncomputable def sg (m:Nat) (h:Int):Nat->Nat
 |0=>0
 |l+1=>sg m h l+mo m (Lp m h l).1+1
theorem rn' (m:Nat) (h:Int):∀l,sg m h l<=10*l
 |0=>Nat.le_refl _
 |l+1=>by
  have:=rn' m h l
  have:=@uC' m (Lp m h l).1
  show sg m h l+mo m (Lp m h l).1+1<=_
  omega
theorem fI' {m:Nat} {h:Int} {l b:Nat} (e:Pj m h b={ j:=(Lp m h l).1,more:=mo m (Lp m h l).1,i:=(Lp m h l).1,perturb:=(Lp m h l).2,dummy:=none }):∀k,k<=mo m (Lp m h l).1->Pj m h (b+k)={ j:=(Lp m h l).1+k,more:=mo m (Lp m h l).1-k,i:=(Lp m h l).1,perturb:=(Lp m h l).2,dummy:=none }
 |0,_=>by rw[Nat.add_zero,e];rfl
 |k+1,hk=>by
  have ih:=fI' e k (by omega)
  show nxt m (Pj m h (b+k))=_
  rw[ih]
  unfold nxt
  rw[if_pos (by show mo m _-k > 0;omega)]
  rfl
theorem i9' (m:Nat) (h:Int):∀l,Pj m h (sg m h l)={ j:=(Lp m h l).1,more:=mo m (Lp m h l).1,i:=(Lp m h l).1,perturb:=(Lp m h l).2,dummy:=none }
 |0=>rfl
 |l+1=>by
  have e:=fI' (i9' m h l) _ (Nat.le_refl _)
  show nxt m (Pj m h (sg m h l+mo m (Lp m h l).1))=_
  rw[e]
  unfold nxt
  rw[if_neg (by show ¬(_-_ > 0);omega)]
  rfl
theorem dN' {m:Nat} {h:Int} {l k:Nat} (hk:k<=mo m (Lp m h l).1):Pj m h (sg m h l+k)={ j:=(Lp m h l).1+k,more:=mo m (Lp m h l).1-k,i:=(Lp m h l).1,perturb:=(Lp m h l).2,dummy:=none }:=fI' (i9' m h l) k hk
theorem gf' {m:Nat} {h:Int}:∀{l n:Nat},n<sg m h l->∃l' k',l'<l/\k'<=mo m (Lp m h l').1/\n=sg m h l'+k'
 |0,n,hn=>absurd hn (Nat.not_lt_zero _)
 |l+1,n,hn=>by
  have hn:n<sg m h l+mo m (Lp m h l).1+1:=hn
  by_cases q:n<sg m h l
  .obtain⟨l',k',h1,h2,h3⟩:=gf' q
   exact⟨l',k',by omega,h2,h3⟩
  .exact⟨l,n-sg m h l,by omega,by omega,by omega⟩
theorem gg' {m:Nat} {h:Int} (n:Nat):∃l k,k<=mo m (Lp m h l).1/\n=sg m h l+k:=by
 have hle:∀l,l<=sg m h l:=fun l=>by
  induction l with
  |zero=>exact Nat.le_refl _
  |succ l ih=>show l+1<=sg m h l+mo m (Lp m h l).1+1;omega
 obtain⟨l',k',_,h2,h3⟩:=gf' (m:=m) (h:=h) (l:=n+1) (n:=n) (Nat.lt_of_lt_of_le (Nat.lt_succ_self n) (hle (n+1)))
 exact⟨l',k',h2,h3⟩
theorem lc' {m:Nat} {h:Int} {n:Nat}:(Pj m h n).dummy=none:=by
 obtain⟨l,k,hk,rfl⟩:=gg' (m:=m) (h:=h) n
 rw[dN' hk]
theorem oR' {m:Nat} {h:Int}:∀{l:Nat},(Lp m h l).1<=m
 |0=>Nat.le_of_lt_succ (Nat.mod_lt _ (Nat.succ_pos _))
 |l+1=>Nat.le_of_lt_succ (Nat.mod_lt _ (Nat.succ_pos _))
theorem uD' {m:Nat} {h:Int} {n:Nat}:(Pj m h n).j<=m:=by
 obtain⟨l,k,hk,rfl⟩:=gg' (m:=m) (h:=h) n
 rw[dN' hk]
 exact rm' oR' hk
theorem ja' {m:Nat} {h:Int}:∀{l:Nat},(Lp m h l).2=bits h / 32 ^ l
 |0=>by show bits h=_;simp
 |l+1=>by
  show(Lp m h l).2 / 32=_
  rw[ja',Nat.div_div_eq_div_mul,Nat.pow_succ]
theorem oS' (h:Int):bits h<2 ^ 64:=by
 unfold bits
 have:=Int.emod_lt_of_pos h (show(0:Int)<2 ^ 64 by decide)
 have:=Int.emod_nonneg h (show(2 ^ 64:Int)≠0 by decide)
 omega
theorem oT' {m:Nat} {h:Int} {l:Nat} (hl:13<=l):(Lp m h l).2=0:=by
 rw[ja']
 refine Nat.div_eq_of_lt (Nat.lt_of_lt_of_le (oS' h) ?_)
 exact Nat.le_trans (show 2 ^ 64<=32 ^ 13 by decide) (Nat.pow_le_pow_right (by decide) hl)
theorem vU' {m:Nat} {h:Int}:∀{n:Nat},(Lp m h (13+n)).1=u (Lp m h 13).1 n % (m+1)
 |0=>(Nat.mod_eq_of_lt (Nat.lt_succ_of_le oR')).symm
 |n+1=>by
  show((Lp m h (13+n)).1*5+1+(Lp m h (13+n)).2 / 32) % (m+1)=(5*u _ n+1) % (m+1)
  rw[oT' (by omega),vU' (n:=n),Nat.zero_div,Nat.add_zero,Nat.mul_comm]
  rw[Nat.add_mod,Nat.mul_mod,Nat.mod_mod,<- Nat.mul_mod,<- Nat.add_mod]
theorem ro' {m k:Nat} (hk:m+1=2 ^ k) (h:Int) {y:Nat} (hy:y<=m):∃l,l<m+14/\(Lp m h l).1=y:=by
 obtain⟨n,hn,e⟩:=cyc k (Lp m h 13).1 y
 refine⟨13+n,by omega,?_⟩
 rw[vU',hk,e,<- hk,Nat.mod_eq_of_lt (by omega)]
theorem rp' {m k:Nat} (hk:m+1=2 ^ k) (h:Int) {y:Nat} (hy:y<=m):∃n,n<10*(m+14)/\(Pj m h n).j=y:=by
 obtain⟨l,hl,e⟩:=ro' hk h hy
 have:=rn' m h l
 exact⟨sg m h l,by omega,by rw[i9'];exact e⟩
theorem uE' {P:Nat->Prop} {n:Nat} (h:P n):∃m,m<=n/\P m/\∀i,i<m->¬P i:=by
 induction n using Nat.strongRecOn with
 |ind n ih=>
  by_cases q:∃i,i<n/\P i
  .obtain⟨i,hi,pi⟩:=q
   obtain⟨m,h1,h2,h3⟩:=ih i hi pi
   exact⟨m,by omega,h2,h3⟩
  .exact⟨n,Nat.le_refl _,h,fun i hi pi=>q ⟨i,hi,pi⟩⟩
theorem jb':∀{l b:List Nat},l.Nodup->(∀i∈l,i∈b)->l.length<=b.length
 | [],_,_,_=>Nat.zero_le _
 |a :: l,b,h,hs=>by
  have ha:a∈b:=hs a (by simp)
  have:=jb' (l:=l) (b:=b.erase a) (List.nodup_cons.mp h).2 fun i hi=>by
   have hne:i≠a:=fun e=>(List.nodup_cons.mp h).1 (by rw[<- e];exact hi)
   exact(List.mem_erase_of_ne hne).mpr (hs i (by simp[hi]))
  rw[List.length_erase_of_mem ha]at this
  have:=List.length_pos_of_mem ha
  rw[List.length_cons]
  omega
theorem jc' {m:Nat} {l:List Nat} (h:l.length<=m):∃y,y<=m/\y∉l:=Classical.byContradiction fun z=>by
 have:=jb' (l:=List.range (m+1)) (b:=l) List.nodup_range fun i hi=>Classical.byContradiction fun q=>z ⟨i,Nat.le_of_lt_succ (List.mem_range.mp hi),q⟩
 rw[List.length_range]at this
 omega
structure TabOk (t:SetTable) (es:Array (Int×Value)):Prop where
 rise:Rsn t.place
 le:∀p∈t.place.toList,p<=t.mask
 size:t.place.size=es.size
 dum:t.dummies=#[]
 pow:∃k,t.mask+1=2 ^ k
 room:t.place.size<=t.mask
 met:∀q∈t.place.toList.zip es.toList,∃n,(Pj t.mask q.2.1 n).j=q.1/\∀n',n'<n->(Pj t.mask q.2.1 n').j∈t.place.toList
theorem oU' {t:SetTable} (hr:Rsn t.place) (hd:t.dummies=#[]) (j:Nat):(∃i,t.slot j=.live i/\t.place[i]?=some j)\/(t.slot j=.empty/\j∉t.place.toList):=by
 unfold SetTable.slot
 by_cases h:t.place[below t.place j]?=some j
 .exact .inl ⟨below t.place j,by simp[h],h⟩
 .refine .inr ⟨?_,ge' hr h⟩
  have h1:(t.place[below t.place j]? == some j)=false:=by simpa using h
  rw[hd]
  simp only[h1]
  rfl
theorem TabOk.end {t:SetTable} {es:Array (Int×Value)} (T:TabOk t es) (h:Int):∃N,N<10*(t.mask+14)/\(Pj t.mask h N).j∉t.place.toList/\∀n,n<N->(Pj t.mask h n).j∈t.place.toList:=by
 obtain⟨y,hy,hn⟩:=jc' (m:=t.mask) (l:=t.place.toList) (by rw[Array.length_toList];exact T.room)
 obtain⟨k,hk⟩:=T.pow
 obtain⟨n,h1,h2⟩:=rp' hk h hy
 obtain⟨N,g1,g2,g3⟩:=uE' (P:=fun n=>(Pj t.mask h n).j∉t.place.toList) (n:=n) (by rw[h2];exact hn)
 exact⟨N,by omega,g2,fun i hi=>Classical.byContradiction (g3 i hi)⟩
theorem gh' {t:SetTable} (hr:Rsn t.place) (hd:t.dummies=#[]) (hat:Nat->Int) (h:Int) {N:Nat} (hN:(Pj t.mask h N).j∉t.place.toList) (hB:∀n,n<N->(Pj t.mask h n).j∈t.place.toList):∀(f n:Nat),n<=N->N-n<f->
  (probe.go t hat h f (Pj t.mask h n)=some (.empty (Pj t.mask h N).j none)/\∀n' i,n<=n'->n'<N->t.place[i]?=some (Pj t.mask h n').j->hat i≠h)\/
  ∃n' i,n<=n'/\n'<N/\t.place[i]?=some (Pj t.mask h n').j/\t.slot (Pj t.mask h n').j=.live i/\hat i=h/\probe.go t hat h f (Pj t.mask h n)=some (.candidate (Pj t.mask h n').j i (Pj t.mask h (n'+1)))/\∀n'' i',n<=n''->n''<n'->t.place[i']?=some (Pj t.mask h n'').j->hat i'≠h
 |0,n,_,hf=>absurd hf (Nat.not_lt_zero _)
 |f+1,n,hn,hf=>by
  have uniq:∀{i i':Nat} {x:Nat},t.place[i]?=some x->t.place[i']?=some x->i=i':=by
   intro i i' x e e'
   obtain⟨q1,q2⟩:=Array.getElem?_eq_some_iff.mp e
   obtain⟨q3,q4⟩:=Array.getElem?_eq_some_iff.mp e'
   rcases Nat.lt_trichotomy i i' with z|z|z
   .have:=cD' hr z q3;omega
   .exact z
   .have:=cD' hr z q1;omega
  unfold probe.go
  rcases oU' hr hd (Pj t.mask h n).j with⟨i,hs,hp⟩|⟨hs,hp⟩
  .rw[hs]
   dsimp only
   have hlt:n<N:=by
    rcases Nat.lt_or_ge n N with z|z
    .exact z
    .have e:n=N:=by omega
     subst e
     exact absurd (by rw[Array.mem_toList_iff];exact Array.mem_of_getElem? hp) hN
   by_cases hq:hat i=h
   .right
    refine⟨n,i,Nat.le_refl _,hlt,hp,hs,hq,?_,fun n'' _ a b=>absurd b (by omega)⟩
    rw[if_pos (by simpa using hq),mA']
   .rw[if_neg (by simpa using hq),mA']
    rcases gh' hr hd hat h hN hB f (n+1) (by omega) (by omega)with⟨e,z⟩|⟨n',i',a1,a2,a3,a4,a5,a6,a7⟩
    .left
     refine⟨e,fun n' i' b1 b2 b3=>?_⟩
     by_cases q:n'=n
     .subst q;rw[<- uniq hp b3];exact hq
     .exact z n' i' (by omega) b2 b3
    .right
     refine⟨n',i',by omega,a2,a3,a4,a5,a6,fun n'' i'' b1 b2 b3=>?_⟩
     by_cases q:n''=n
     .subst q;rw[<- uniq hp b3];exact hq
     .exact a7 n'' i'' (by omega) b2 b3
  .rw[hs]
   dsimp only
   have e:n=N:=by
    rcases Nat.lt_or_ge n N with z|z
    .exact absurd (hB n z) hp
    .omega
   subst e
   left
   exact⟨by rw[lc'],fun n' _ a b=>absurd b (by omega)⟩
end Ts
end PySem
namespace PySem
namespace Ts
open SetTable
theorem oV' (j:Nat):has #[] j=false:=by
 unfold has
 rfl
theorem TabOk.put {t:SetTable} {es:Array (Int×Value)} (T:TabOk t es) {h:Int} {x:Value} {N:Nat} (hN:(Pj t.mask h N).j∉t.place.toList) (hB:∀n,n<N->(Pj t.mask h n).j∈t.place.toList) (hroom:es.size+1<=t.mask):
  TabOk (t.put (Pj t.mask h N).j).1 (insertAt es (t.put (Pj t.mask h N).j).2 (h,x)):=by
 have hb:=cj' T.rise (Pj t.mask h N).j
 have hne:t.place[below t.place (Pj t.mask h N).j]?≠some (Pj t.mask h N).j:=fun z=>hN (by rw[Array.mem_toList_iff];exact Array.mem_of_getElem? z)
 have hp:(t.put (Pj t.mask h N).j).1={ t with place:=insertAt t.place (below t.place (Pj t.mask h N).j) (Pj t.mask h N).j }:=by
  unfold SetTable.put
  rw[T.dum,oV']
  have hd:=T.dum
  cases t
  cases hd
  rfl
 have hp2:(t.put (Pj t.mask h N).j).2=below t.place (Pj t.mask h N).j:=rfl
 rw[hp,hp2]
 generalize hj:(Pj t.mask h N).j=j at *
 generalize hq:below t.place j=p at *
 have hl:(List.take p t.place.toList).length=(List.take p es.toList).length:=by
  rw[List.length_take,List.length_take,Array.length_toList,Array.length_toList,T.size]
 have hmem:∀y,y∈(insertAt t.place p j).toList↔y=j\/y∈t.place.toList:=by
  intro y
  rw[toList_insertAt]
  conv=>rhs;rw[<- List.take_append_drop p t.place.toList]
  simp only[List.mem_append,List.mem_cons]
  constructor
  .rintro(a|a|a)
   .exact .inr (.inl a)
   .exact .inl a
   .exact .inr (.inr a)
  .rintro(a|a|a)
   .exact .inr (.inl a)
   .exact .inl a
   .exact .inr (.inr a)
 have hsz:∀{α:Type} (xs:Array α) (y:α),(insertAt xs p y).size=xs.size+1:=fun xs y=>by
  rw[<- Array.length_toList,toList_insertAt]
  simp only[List.length_append,List.length_cons,List.length_take,List.length_drop,Array.length_toList]
  omega
 refine⟨?_,?_,?_,T.dum,T.pow,?_,?_⟩
 .have:=hN' T.rise (j:=j) (by rw[hq];exact hne)
  rw[hq]at this
  exact this
 .intro y hy
  rcases(hmem y).mp hy with rfl|hy
  .rw[<- hj];exact uD'
  .exact T.le y hy
 .show(insertAt t.place p j).size=_
  rw[hsz,hsz,T.size]
 .show(insertAt t.place p j).size<=t.mask
  rw[hsz,T.size]
  exact hroom
 .show ∀q∈(insertAt t.place p j).toList.zip (insertAt es p (h,x)).toList,∃n,(Pj t.mask q.2.1 n).j=q.1/\∀n',n'<n->_∈(insertAt t.place p j).toList
  rw[toList_insertAt t.place,toList_insertAt es,List.zip_append hl,List.zip_cons_cons,<- toList_insertAt t.place]
  have old:∀q∈t.place.toList.zip es.toList,∃n,(Pj t.mask q.2.1 n).j=q.1/\∀n',n'<n->(Pj t.mask q.2.1 n').j∈(insertAt t.place p j).toList:=fun q hq=>by
   obtain⟨n,h1,h2⟩:=T.met q hq
   exact⟨n,h1,fun n' hn'=>(hmem _).mpr (.inr (h2 n' hn'))⟩
  rw[<- List.take_append_drop p t.place.toList,<- List.take_append_drop p es.toList,List.zip_append hl]at old
  intro q hq
  rcases List.mem_append.mp hq with hq|hq
  .exact old q (List.mem_append_left _ hq)
  .rcases List.mem_cons.mp hq with rfl|hq
   .exact⟨N,hj,fun n' hn'=>(hmem _).mpr (.inr (hB n' hn'))⟩
   .exact old q (List.mem_append_right _ hq)
structure OwnOk (m:Nat) (hs:List Int) (k:Nat) (ow:Array (Option Nat)):Prop where
 size:ow.size=m+1
 met:∀j i:Nat,ow[j]?=some (some i)->i<k/\∃h n,hs[i]?=some h/\(Pj m h n).j=j/\∀n',n'<n->∃z,ow[(Pj m h n').j]?=some (some z)
 all:∀i,i<k->∃j:Nat,ow[j]?=some (some i)
 uniq:∀i j j':Nat,ow[j]?=some (some i)->ow[j']?=some (some i)->j=j'
theorem OwnOk.free {m:Nat} {hs:List Int} {k:Nat} {ow:Array (Option Nat)} (O:OwnOk m hs k ow) (hk:k<=m):∃y,y<=m/\ow[y]?=some none:=Classical.byContradiction fun z=>by
 have full:∀y,y<=m->∃i,ow[y]?=some (some i):=fun y hy=>by
  have e:ow[y]?=some (ow[y]'(by have:=O.size;omega)):=Array.getElem?_eq_getElem _
  cases hv:ow[y]'(by have:=O.size;omega)with
  |none=>rw[hv]at e;exact absurd ⟨y,hy,e⟩ z
  |some i=>rw[hv]at e;exact⟨i,e⟩
 have:=jb' (l:=(List.range (m+1)).map fun y=>(ow.getD y none).getD 0) (b:=List.range k) ?_ ?_
 .rw[List.length_map,List.length_range,List.length_range]at this
  omega
 .rw[List.Nodup,List.pairwise_map]
  refine List.Pairwise.imp_of_mem (fun {a b} ha hb hab=>?_) List.pairwise_lt_range
  obtain⟨i,hi⟩:=full a (Nat.le_of_lt_succ (List.mem_range.mp ha))
  obtain⟨i',hi'⟩:=full b (Nat.le_of_lt_succ (List.mem_range.mp hb))
  rw[Array.getD_eq_getD_getElem?,Array.getD_eq_getD_getElem?,hi,hi']
  intro q
  have q:i=i':=q
  subst q
  exact absurd (O.uniq i a b hi hi') (by omega)
 .intro i hi
  obtain⟨y,hy,rfl⟩:=List.mem_map.mp hi
  obtain⟨i,hi⟩:=full y (Nat.le_of_lt_succ (List.mem_range.mp hy))
  rw[Array.getD_eq_getD_getElem?,hi]
  exact List.mem_range.mpr (O.met y i hi).1
theorem jd' {m:Nat} {ow:Array (Option Nat)} (hs:ow.size=m+1) (h:Int) {L:Nat} (hL:ow[(Lp m h L).1]?=some none):∀(f l:Nat),l<=L->L-l<f->(∀n,n<sg m h l->∃z,ow[(Pj m h n).j]?=some (some z))->
  ∃n,layClean.free m ow f (Lp m h l).1 (Lp m h l).2=some (Pj m h n).j/\ow[(Pj m h n).j]?=some none/\∀n',n'<n->∃z,ow[(Pj m h n').j]?=some (some z)
 |0,l,_,hf,_=>absurd hf (Nat.not_lt_zero _)
 |f+1,l,hl,hf,hB=>by
  unfold layClean.free
  have e1:runEnd m (Lp m h l).1+1-(Lp m h l).1=mo m (Lp m h l).1+1:=by
   unfold mo runEnd
   split<;>omega
  rw[e1]
  have val:∀k,k<=mo m (Lp m h l).1->∃o,ow[(Lp m h l).1+k]?=some o/\ow.getD ((Lp m h l).1+k) (some 0)=o:=fun k hk=>by
   have hlt:(Lp m h l).1+k<ow.size:=by rw[hs];exact Nat.lt_succ_of_le (rm' oR' hk)
   exact⟨_,Array.getElem?_eq_getElem hlt,by simp[Array.getD,hlt]⟩
  cases hq:(List.range (mo m (Lp m h l).1+1)).find? fun k=>(ow.getD ((Lp m h l).1+k) (some 0)).isNone with
  |some k=>
   obtain⟨h1,h2,h3⟩:=List.find?_range_eq_some.mp hq
   have hk:k<=mo m (Lp m h l).1:=Nat.le_of_lt_succ (List.mem_range.mp h2)
   refine⟨sg m h l+k,?_,?_,fun n' hn'=>?_⟩
   .dsimp only
    rw[dN' hk]
   .obtain⟨o,q1,q2⟩:=val k hk
    rw[q2]at h1
    rw[dN' hk,q1]
    cases o with
    |none=>rfl
    |some _=>cases h1
   .by_cases q:n'<sg m h l
    .exact hB n' q
    .obtain⟨d,rfl⟩:∃d,n'=sg m h l+d:=⟨n'-sg m h l,by omega⟩
     have hd:d<k:=by omega
     obtain⟨o,q1,q2⟩:=val d (by omega)
     have:=h3 d hd
     rw[q2]at this
     rw[dN' (by omega),q1]
     cases o with
     |none=>cases this
     |some z=>exact⟨z,rfl⟩
  |none=>
   have h3:=List.find?_range_eq_none.mp hq
   have hw:∀d,d<=mo m (Lp m h l).1->∃z,ow[(Lp m h l).1+d]?=some (some z):=fun d hd=>by
    obtain⟨o,q1,q2⟩:=val d hd
    have:=h3 d (by omega)
    rw[q2]at this
    cases o with
    |none=>cases this
    |some z=>exact⟨z,q1⟩
   have hne:l≠L:=fun e=>by
    obtain⟨z,hz⟩:=hw 0 (Nat.zero_le _)
    rw[Nat.add_zero,e,hL]at hz
    cases hz
   refine jd' hs h hL f (l+1) (by omega) (by omega) fun n hn=>?_
   by_cases q:n<sg m h l
   .exact hB n q
   .have hn:n<sg m h l+mo m (Lp m h l).1+1:=hn
    obtain⟨d,rfl⟩:∃d,n=sg m h l+d:=⟨n-sg m h l,by omega⟩
    rw[dN' (by omega)]
    exact hw d (by omega)
theorem OwnOk.step {m k:Nat} {hs:List Int} {ow:Array (Option Nat)} (O:OwnOk m hs k ow) (hk:k<=m) (hp:∃b,m+1=2 ^ b) {h:Int} (hh:hs[k]?=some h):∃j,layClean.free m ow (turns m) (bits h % (m+1)) (bits h)=some j/\OwnOk m hs (k+1) (ow.setIfInBounds j (some k)):=by
 obtain⟨y,hy,hye⟩:=O.free hk
 obtain⟨b,hb⟩:=hp
 obtain⟨L,hL,e⟩:=ro' hb h hy
 obtain⟨n,h1,h2,h3⟩:=jd' O.size h (L:=L) (by rw[e];exact hye) (turns m) 0 (Nat.zero_le _) (by unfold turns;omega) fun n hn=>absurd hn (Nat.not_lt_zero _)
 refine⟨_,h1,?_⟩
 generalize hj:(Pj m h n).j=j at h2 ⊢
 have hlt:j<ow.size:=(Array.getElem?_eq_some_iff.mp h2).1
 have g:∀y,(ow.setIfInBounds j (some k))[y]?=if j=y then some (some k)else ow[y]?:=fun y=>by
  rw[Array.getElem?_setIfInBounds]
  by_cases q:j=y
  .rw[if_pos q,if_pos q,if_pos hlt]
  .rw[if_neg q,if_neg q]
 have mono:∀y z:Nat,ow[y]?=some (some z)->∃z,(ow.setIfInBounds j (some k))[y]?=some (some z):=fun y z e=>by
  rw[g]
  by_cases q:j=y
  .exact⟨k,by rw[if_pos q]⟩
  .exact⟨z,by rw[if_neg q];exact e⟩
 refine⟨by rw[Array.size_setIfInBounds];exact O.size,fun y i e=>?_,fun i hi=>?_,fun i y y' e e'=>?_⟩
 .rw[g]at e
  by_cases q:j=y
  .rw[if_pos q]at e
   injection e with e
   injection e with e
   subst e
   exact⟨Nat.lt_succ_self _,h,n,hh,by rw[hj,q],fun n' hn'=>by obtain⟨z,hz⟩:=h3 n' hn';exact mono _ z hz⟩
  .rw[if_neg q]at e
   obtain⟨a1,h',n',a2,a3,a4⟩:=O.met y i e
   exact⟨Nat.lt_succ_of_lt a1,h',n',a2,a3,fun n'' hn=>by obtain⟨z,hz⟩:=a4 n'' hn;exact mono _ z hz⟩
 .rcases Nat.lt_or_ge i k with z|z
  .obtain⟨y,hy⟩:=O.all i z
   refine⟨y,?_⟩
   rw[g,if_neg (fun q=>by rw[<- q,h2]at hy;cases hy)]
   exact hy
  .exact⟨j,by rw[g,if_pos rfl,show i=k by omega]⟩
 .rw[g]at e e'
  by_cases q:j=y<;>by_cases q':j=y'
  .omega
  .rw[if_pos q]at e
   rw[if_neg q']at e'
   injection e with e
   injection e with e
   subst e
   exact absurd (O.met y' _ e').1 (Nat.lt_irrefl _)
  .rw[if_neg q]at e
   rw[if_pos q']at e'
   injection e' with e'
   injection e' with e'
   subst e'
   exact absurd (O.met y _ e).1 (Nat.lt_irrefl _)
  .rw[if_neg q]at e
   rw[if_neg q']at e'
   exact O.uniq i y y' e e'
theorem gi' {m:Nat} {hs:List Int} (hp:∃b,m+1=2 ^ b) (hm:hs.length<=m):∀(r:List Int) (k:Nat) (ow:Array (Option Nat)),hs.drop k=r->k<=hs.length->OwnOk m hs k ow->∃ow',r.foldl (fun(acc:Option (Array (Option Nat)×Nat)) h=>do
    let __x <- acc
    match __x with
     |(owner,k)=>do
      let j <- layClean.free m owner (turns m) (bits h % (m+1)) (bits h)
      pure (owner.setIfInBounds j (some k),k+1)) (some (ow,k))=some (ow',hs.length)/\OwnOk m hs hs.length ow'
 | [],k,ow,e,hk,O=>by
  have:k=hs.length:=by
   have:=congrArg List.length e
   simp at this
   omega
  subst this
  exact⟨ow,rfl,O⟩
 |h :: r,k,ow,e,hk,O=>by
  have hlt:k<hs.length:=by
   have:=congrArg List.length e
   simp at this
   omega
  have hh:hs[k]?=some h:=by
   have:(hs.drop k)[0]?=some h:=by rw[e];rfl
   rwa [List.getElem?_drop,Nat.add_zero]at this
  obtain⟨j,hj,O'⟩:=O.step (by omega) hp hh
  obtain⟨ow',h1,h2⟩:=gi' hp hm r (k+1) _ (by rw[<- List.drop_drop,e];rfl) (by omega) O'
  refine⟨ow',?_,h2⟩
  rw[List.foldl_cons,<- h1]
  congr 1
  show(do let j <- layClean.free m ow (turns m) (bits h % (m+1)) (bits h);pure (ow.setIfInBounds j (some k),k+1))=_
  rw[hj]
  rfl
theorem ld' {m:Nat} {hs:Array Int} (hp:∃b,m+1=2 ^ b) (hm:hs.size<=m):∃ow,layClean m hs=some ow/\OwnOk m hs.toList hs.size ow:=by
 have no:∀(j i:Nat),(Array.replicate (m+1) (none:Option Nat))[j]?≠some (some i):=fun j i e=>by
  rw[Array.getElem?_replicate]at e
  split at e
  .cases e
  .cases e
 have O:OwnOk m hs.toList 0 (Array.replicate (m+1) none):=⟨by simp,fun j i e=>absurd e (no j i),fun i hi=>absurd hi (Nat.not_lt_zero _),fun i j j' e _=>absurd e (no j i)⟩
 obtain⟨ow,h1,h2⟩:=gi' hp (by rw[Array.length_toList];exact hm) hs.toList 0 _ rfl (Nat.zero_le _) O
 rw[Array.length_toList]at h1 h2
 refine⟨ow,?_,h2⟩
 unfold layClean
 rw[<- Array.foldl_toList]
 rw[h1]
 rfl
end Ts
end PySem
namespace PySem
namespace Ts
open SetTable
theorem mB' {α β:Type} {f:α->Option β} {g:α->β}:∀{l:List α},(∀x∈l,f x=some (g x))->l.filterMap f=l.map g
 | [],_=>rfl
 |a :: l,h=>by
  rw[List.filterMap_cons,h a (by simp),List.map_cons]
  dsimp only
  rw[mB' fun x hx=>h x (by simp[hx])]
theorem oW' {m:Nat} {es:Array (Int×Value)} (hp:∃b,m+1=2 ^ b) (hm:es.size<=m) (fi mv:Nat) (led pl:Bool):
  ∃t' order,laid m fi mv led pl (es.map (·.1))=some (t',order)/\t'.mask=m/\t'.led=led/\t'.plain=pl/\t'.moves=mv/\(order.filterMap (es[·]?)).toList.Perm es.toList/\TabOk t' (order.filterMap (es[·]?)):=by
 obtain⟨ow,h1,O⟩:=ld' (hs:=es.map (·.1)) hp (by rw[Array.size_map];exact hm)
 rw[Array.size_map]at O
 generalize hl:((List.range (m+1)).filterMap fun j=>(ow.getD j none).map (j,·))=live
 have hmem:∀j i,(j,i)∈live↔j<=m/\ow[j]?=some (some i):=by
  intro j i
  rw[<- hl,List.mem_filterMap]
  constructor
  .rintro⟨y,hy,e⟩
   obtain⟨z,hz,e2⟩:=Option.map_eq_some_iff.mp e
   injection e2 with e3 e4
   subst e3;subst e4
   have hlt:=List.mem_range.mp hy
   have hlt2:y<ow.size:=by rw[O.size];exact hlt
   rw[Array.getD_eq_getD_getElem?,Array.getElem?_eq_getElem hlt2]at hz
   exact⟨Nat.le_of_lt_succ hlt,by rw[Array.getElem?_eq_getElem hlt2];exact congrArg some hz⟩
  .rintro⟨hj,e⟩
   exact⟨j,List.mem_range.mpr (Nat.lt_succ_of_le hj),by rw[Array.getD_eq_getD_getElem?,e];rfl⟩
 have hrise:live.Pairwise fun a b=>a.1<b.1:=by
  rw[<- hl]
  refine List.Pairwise.filterMap (R:=(· < ·)) _ (fun a a' haa b hb b' hb'=>?_) List.pairwise_lt_range
  obtain⟨_,_,rfl⟩:=Option.map_eq_some_iff.mp hb
  obtain⟨_,_,rfl⟩:=Option.map_eq_some_iff.mp hb'
  exact haa
 have hlt:∀q∈live,q.2<es.size:=fun q hq=>(O.met q.1 q.2 ((hmem q.1 q.2).mp hq).2).1
 have hlow:∀{j i:Nat},ow[j]?=some (some i)->j<=m:=fun e=>by
  have:=(Array.getElem?_eq_some_iff.mp e).1
  rw[O.size]at this
  omega
 generalize hd:((0,Value.none):Int×Value)=d
 have hes:((live.map (·.2)).toArray.filterMap (es[·]?)).toList=live.map fun q=>es.getD q.2 d:=by
  rw[Array.toList_filterMap,List.toList_toArray,mB' (g:=fun i=>es.getD i d) (fun i hi=>?_),List.map_map]
  .rfl
  .obtain⟨q,hq,rfl⟩:=List.mem_map.mp hi
   rw[Array.getD_eq_getD_getElem?,Array.getElem?_eq_getElem (hlt q hq)]
   rfl
 have hnd:(live.map (·.2)).Nodup:=by
  rw[List.Nodup,List.pairwise_map]
  refine List.Pairwise.imp_of_mem (fun {a b} ha hb hab e=>?_) hrise
  have:=O.uniq a.2 a.1 b.1 ((hmem a.1 a.2).mp ha).2 (by rw[e];exact((hmem b.1 b.2).mp hb).2)
  omega
 have hperm:(live.map (·.2)).Perm (List.range es.size):=by
  rw[List.perm_ext_iff_of_nodup hnd List.nodup_range]
  intro i
  rw[List.mem_range]
  constructor
  .intro hi
   obtain⟨q,hq,rfl⟩:=List.mem_map.mp hi
   exact hlt q hq
  .intro hi
   obtain⟨j,hj⟩:=O.all i hi
   exact List.mem_map.mpr ⟨(j,i),(hmem j i).mpr ⟨hlow hj,hj⟩,rfl⟩
 have hlen:live.length=es.size:=by
  have:=hperm.length_eq
  rwa [List.length_map,List.length_range]at this
 refine⟨{ mask:=m,place:=(live.map (·.1)).toArray,dummies:=#[],finger:=fi,led,moves:=mv,plain:=pl },(live.map (·.2)).toArray,?_,rfl,rfl,rfl,rfl,?_,?_⟩
 .unfold laid
  rw[h1]
  show some (SetTable.mk _ _ _ _ _ _ _,_)=_
  rw[hl]
 .rw[hes]
  have e1:(live.map fun q=>es.getD q.2 d)=(live.map (·.2)).map fun i=>es.getD i d:=by rw[List.map_map];rfl
  have e2:es.toList=(List.range es.size).map fun i=>es.getD i d:=by
   apply List.ext_getElem?
   intro i
   rw[List.getElem?_map]
   by_cases hi:i<es.size
   .rw[List.getElem?_range hi,Array.getElem?_toList,Array.getElem?_eq_getElem hi]
    simp[Array.getD,hi]
   .rw[List.getElem?_eq_none (by rw[Array.length_toList];omega),List.getElem?_eq_none (by simpa using hi)]
    rfl
  rw[e1,e2]
  exact hperm.map _
 .have hsz2:((live.map (·.2)).toArray.filterMap (es[·]?)).size=live.length:=by rw[<- Array.length_toList,hes,List.length_map]
  refine⟨?_,?_,?_,rfl,hp,?_,?_⟩
  .show List.Pairwise _ (live.map (·.1)).toArray.toList
   rw[List.toList_toArray,List.pairwise_map]
   exact hrise
  .intro p hp'
   obtain⟨q,hq,rfl⟩:=List.mem_map.mp (show p∈live.map (·.1) by simpa using hp')
   exact((hmem q.1 q.2).mp hq).1
  .show(live.map (·.1)).toArray.size=_
   rw[hsz2,List.size_toArray,List.length_map]
  .show(live.map (·.1)).toArray.size<=m
   rw[List.size_toArray,List.length_map,hlen]
   exact hm
  .show ∀q∈((live.map (·.1)).toArray.toList).zip _,∃n,(Pj m (Prod.fst (Prod.snd q)) n).j=q.1/\∀n',n'<n->_∈(live.map (·.1)).toArray.toList
   rw[hes,List.toList_toArray,List.zip_map']
   intro q hq
   obtain⟨⟨j,i⟩,hl2,rfl⟩:=List.mem_map.mp hq
   have hji:=((hmem j i).mp hl2).2
   obtain⟨hi,h,n,a1,a2,a3⟩:=O.met j i hji
   have eh:(es.getD i d).1=h:=by
    rw[Array.toList_map,List.getElem?_map,Array.getElem?_toList,Array.getElem?_eq_getElem hi]at a1
    injection a1 with a1
    rw[Array.getD_eq_getD_getElem?,Array.getElem?_eq_getElem hi]
    exact a1
   refine⟨n,by show(Pj m (es.getD i d).1 n).j=j;rw[eh];exact a2,fun n' hn'=>?_⟩
   show(Pj m (es.getD i d).1 n').j∈_
   rw[eh]
   obtain⟨z,hz⟩:=a3 n' hn'
   exact List.mem_map.mpr ⟨(_,z),(hmem _ z).mpr ⟨hlow hz,hz⟩,rfl⟩
end Ts
end PySem
namespace PySem
section
variable {prog:Program} {w:World} {K:Type} [DecidableEq K] (knd:KeyKind prog w K)
def Dst (es:List (Int×Value)):Prop:=es.Pairwise fun a b=>∀k,knd.is k a.2=true->knd.is k b.2=true->False
def Obj.SetIt (o:Obj) (S:K->Bool) (n:Nat):Prop:=
 ∃es ep t,o.ExactSet/\o.data=.set es ep t/\ElemsOf knd es.toList/\(∀k,S k=true↔∃e∈es.toList,knd.is k e.2=true)/\es.size<scanBound/\t.fits es.size=true/\es.size=n
  /\ Dst knd es.toList/\TOk (w.params.followText "set-order") t
variable {knd}
variable {A:Around} {E:Value->Shared->Prop} {s:Shared}
end
end PySem
namespace PySem
namespace Ts
open SetTable
section
variable {prog:Program} {w:World}
noncomputable def elm (prog:Program) (w:World) (q:List Int×Addr):Int×Value:=(tupleKeyHash (intKind prog w) q.1,.ref q.2)
def Tup (prog:Program) (w:World) (h:Heap) (q:List Int×Addr):Prop:=IsTupleKey (intKind prog w) h q.1 q.2
structure MaskOk (t:SetTable):Prop where
 mask:t.mask∈[7,31,127,511,2047,8191]
 few:t.place.size*5<t.mask*3
theorem MaskOk.le {t:SetTable} (m:MaskOk t):7<=t.mask/\t.mask<=8191/\t.mask % 2=1:=by
 have:=m.mask
 simp only[List.mem_cons,List.not_mem_nil,or_false]at this
 omega
theorem TabOk.fits {t:SetTable} {es:Array (Int×Value)} (T:TabOk t es):t.fits es.size=true:=by
 unfold SetTable.fits SetTable.fill
 rw[T.dum,T.size]
 have:=T.room
 rw[T.size]at this
 simp[this]
variable {A:Around} {E:Value->Shared->Prop} {s:Shared}
theorem dh' {q:List Int×Addr} {Q:Bool->Shared->Prop} (hk:Tup prog w s.heap q) (h:Q false s):wpAny (model prog w) A (ofAClassStatement 8 (.ref q.2)) Q E s:=by
 have hT:=hk.typeIs
 obtain⟨o,items,n,ho,_,hd,hi⟩:=hk
 unfold ofAClassStatement
 refine wpAny_bind (wpAny_typeOf hT ?_)
 dsimp only
 rw[if_pos (by decide)]
 refine wpAny_bind (wpAny_pure ?_)
 rw[if_neg (by simp)]
 refine wpAny_bind (wpAny_seqItems ho hd ?_)
 dsimp only
 refine wpAny_bind ?_
 show wpAny _ _ (forIn items _ _) _ _ s
 rw[<- Array.forIn_toList]
 refine wpAny_forIn_list _ (fun au' r s'=>r.1=none/\s'=s/\∀v∈au',carriedByValue v=true) _ ?_ ?_ _ _ ⟨rfl,rfl,hi.byValue⟩
 .rintro v au' r s' ⟨hr,rfl,hall⟩
  have hv:ofAClassStatement 7 v=pure false:=by
   cases v with
   |ref a=>have:=hall _ List.mem_cons_self;simp[carriedByValue]at this
   |_=>first|rfl|(unfold ofAClassStatement;rfl)
  rw[hv]
  refine wpAny_bind (wpAny_pure ?_)
  rw[if_neg (by simp)]
  exact wpAny_pure ⟨rfl,rfl,fun u hu'=>hall u (List.mem_cons_of_mem _ hu')⟩
 .rintro⟨r1,r2⟩ s' ⟨hr,rfl,_⟩
  simp only at hr
  subst hr
  exact wpAny_pure h
theorem le' {q:List Int×Addr} {ys:List Value} {Q:Bool->Shared->Prop} (hk:Tup prog w s.heap q) (hy:∀v∈ys,∃p,v=.ref p.2/\Tup prog w s.heap p) (h:Q false s):wpAny (model prog w) A (searchCouldBeSeen (.ref q.2) ys) Q E s:=by
 unfold searchCouldBeSeen
 refine wpAny_bind ?_
 refine wpAny_forIn_list _ (fun au' r s'=>r.1=none/\s'=s/\∀v∈au',∃p,v=Value.ref p.2/\Tup prog w s.heap p) _ ?_ ?_ _ _ ⟨rfl,rfl,hy⟩
 .rintro v au' r s' ⟨hr,rfl,hall⟩
  obtain⟨p,rfl,hp⟩:=hall _ List.mem_cons_self
  dsimp only
  by_cases hv:((q.2 == p.2) || (carriedByValue (Value.ref q.2)&&carriedByValue (Value.ref p.2)))=true
  .rw[if_pos hv]
   exact wpAny_pure ⟨rfl,rfl,fun u hu'=>hall u (List.mem_cons_of_mem _ hu')⟩
  .rw[if_neg hv]
   refine wpAny_bind (wpAny_eqIsQuiet_tuple hk ?_)
   rw[if_neg (by simp)]
   refine wpAny_bind (wpAny_eqIsQuiet_tuple hp ?_)
   rw[if_neg (by simp)]
   refine wpAny_bind (dh' hk ?_)
   rw[if_neg (by simp)]
   refine wpAny_bind (dh' hp ?_)
   rw[if_neg (by simp)]
   exact wpAny_pure ⟨rfl,rfl,fun u hu'=>hall u (List.mem_cons_of_mem _ hu')⟩
 .rintro⟨r1,r2⟩ s' ⟨hr,rfl,_⟩
  simp only at hr
  subst hr
  exact wpAny_pure h
structure Elms (prog:Program) (w:World) (h:Heap) (es:Array (Int×Value)) (t:SetTable) (L:List (List Int×Addr)):Prop where
 its:es.toList=L.map (elm prog w)
 tup:∀q∈L,Tup prog w h q
 nd:(L.map (·.1)).Nodup
 tab:TabOk t es
 mask:MaskOk t
theorem eT' {a:Addr} {o:Obj} {es:Array (Int×Value)} {ep:Nat} {t:SetTable} {L:List (List Int×Addr)} (hu:A.units<cLine) (ho:s.heap.get? a=some o) (hd:o.data=.set es ep t) (X:Elms prog w s.heap es t L) {q:List Int×Addr} (hq:Tup prog w s.heap q) {adding:Bool} {Q:SetFound->Shared->Prop} {N:Nat}
  (hN:(Pj t.mask (tupleKeyHash (intKind prog w) q.1) N).j∉t.place.toList) (hB:∀n,n<N->(Pj t.mask (tupleKeyHash (intKind prog w) q.1) n).j∈t.place.toList) (hN2:N<10*turns t.mask)
  (h1:q.1∈L.map (·.1)->∀r,(adding=false->r.isSome=true)->Q (.there r) s) (h2:q.1∉L.map (·.1)->Q (.free (Pj t.mask (tupleKeyHash (intKind prog w) q.1) N).j false) s):
  ∀(f n:Nat) (st:Option Probe),st.getD (t.probeStart (tupleKeyHash (intKind prog w) q.1))=Pj t.mask (tupleKeyHash (intKind prog w) q.1) n->n<=N->N-n<f->(∀(n' i:Nat) (p:List Int×Addr),n'<n->t.place[i]?=some (Pj t.mask (tupleKeyHash (intKind prog w) q.1) n').j->L[i]?=some p->p.1≠q.1)->
   wpAny (model prog w) A (setSearchFrom a (.ref q.2) (tupleKeyHash (intKind prog w) q.1) adding f st) Q E s
 |0,n,st,_,_,hf,_=>absurd hf (Nat.not_lt_zero _)
 |f+1,n,st,hst,hn,hf,hold=>by
  generalize hh:tupleKeyHash (intKind prog w) q.1=h at *
  have T:=X.tab
  obtain⟨m7,m8,m2⟩:=X.mask.le
  have hes:∀i:Nat,es[i]?=(L[i]?).map (elm prog w):=fun i=>by rw[<- Array.getElem?_toList,X.its,List.getElem?_map]
  unfold setSearchFrom
  refine wpAny_bind (wpAny_setState_of ho hd T.fits ?_)
  dsimp only
  rw[if_neg (by unfold SetTable.gaveWay;simp;omega)]
  rw[hst]
  generalize hpr:probe t _ h (Pj t.mask h n)=P
  replace hpr:probe t (fun i=>((es[i]?).map (·.1)).getD 0) h (Pj t.mask h n)=P:=hpr
  have hP:=gh' T.rise T.dum (fun i=>((es[i]?).map (·.1)).getD 0) h hN hB (10*turns t.mask) n hn (by omega)
  unfold probe at hpr
  rcases hP with⟨e,hno⟩|⟨n',i,a1,a2,a3,a4,a5,a6,a7⟩
  .rw[e]at hpr
   subst hpr
   dsimp only
   refine wpAny_pure (h2 fun hm=>?_)
   obtain⟨p,hp,hpk⟩:=List.mem_map.mp hm
   obtain⟨i,hi,ei⟩:=List.mem_iff_getElem.mp hp
   have hLi:L[i]?=some p:=by rw[List.getElem?_eq_getElem hi,ei]
   have hei:es[i]?=some (elm prog w p):=by rw[hes,hLi];rfl
   have hisz:i<es.size:=(Array.getElem?_eq_some_iff.mp hei).1
   have hpl:t.place[i]?=some (t.place[i]'(by rw[T.size];exact hisz)):=Array.getElem?_eq_getElem _
   generalize t.place[i]'(by rw[T.size];exact hisz)=pl at hpl
   have hz:(pl,elm prog w p)∈t.place.toList.zip es.toList:=by
    refine List.mem_of_getElem? (i:=i) ?_
    rw[List.getElem?_zip_eq_some]
    exact⟨by rw[Array.getElem?_toList];exact hpl,by rw[Array.getElem?_toList];exact hei⟩
   obtain⟨n0,b1,b2⟩:=T.met _ hz
   have eh:(elm prog w p).1=h:=by show tupleKeyHash _ p.1=h;rw[hpk,hh]
   dsimp only at b1 b2
   rw[eh]at b1 b2
   have hn0:n0<N:=by
    rcases Nat.lt_or_ge n0 N with z|z
    .exact z
    .rcases Nat.lt_or_ge N n0 with z2|z2
     .exact absurd (b2 N z2) hN
     .have:n0=N:=by omega
      subst this
      exact absurd (by rw[b1,Array.mem_toList_iff];exact Array.mem_of_getElem? hpl) hN
   rcases Nat.lt_or_ge n0 n with z|z
   .exact hold n0 i p z (by rw[b1];exact hpl) hLi hpk
   .exact hno n0 i z hn0 (by rw[b1];exact hpl) (by show((es[i]?).map (·.1)).getD 0=h;rw[hei];exact eh)
  .rw[a6]at hpr
   subst hpr
   dsimp only
   have hisz:i<es.size:=by rw[<- T.size];exact(Array.getElem?_eq_some_iff.mp a3).1
   obtain⟨p,hLi⟩:∃p,L[i]?=some p:=by
    have:i<L.length:=by rw[<- List.length_map (f:=elm prog w),<- X.its,Array.length_toList];exact hisz
    exact⟨_,List.getElem?_eq_getElem this⟩
   have hei:es[i]?=some (elm prog w p):=by rw[hes,hLi];rfl
   have hp:=X.tup p (List.mem_of_getElem? hLi)
   have seen:∀{k k':Sem SetFound} {R:SetFound->Shared->Prop},wpAny (model prog w) A k R E s->wpAny (model prog w) A (if(!t.led)=true then(searchCouldBeSeen (.ref q.2) ((es.filter (·.1 == h)).toList.map (·.2)) >>= fun b=>if b=true then k' else k)else k) R E s:=by
    intro k k' R hk
    by_cases hl:(!t.led)=true
    .rw[if_pos hl]
     refine wpAny_bind (le' hq (fun v hv=>?_) ?_)
     .obtain⟨e,he,rfl⟩:=List.mem_map.mp hv
      rw[Array.mem_toList_iff,Array.mem_filter,<- Array.mem_toList_iff,X.its]at he
      obtain⟨p',hp',rfl⟩:=List.mem_map.mp he.1
      exact⟨p',rfl,X.tup p' hp'⟩
     .rw[if_neg (by simp)]
      exact hk
    .rw[if_neg hl]
     exact hk
   refine seen ?_
   rw[hei]
   show wpAny _ _ (holding [(elm prog w p).2] (eqBool (.ref p.2) (.ref q.2)) >>= _) _ _ _
   refine wpAny_bind (wpAny_holding (wpAny_eqBool_tuple hu hp hq ?_))
   refine wpAny_bind (wpAny_setState_of ho hd T.fits ?_)
   dsimp only
   by_cases hk:p.1=q.1
   .have hin:q.1∈L.map (·.1):=List.mem_map.mpr ⟨p,List.mem_of_getElem? hLi,hk⟩
    rw[decide_eq_true hk]
    by_cases had:(adding&&true)=true
    .rw[if_pos had]
     exact wpAny_pure (h1 hin _ fun z=>by rw[z]at had;cases had)
    .rw[if_neg had]
     have em:t.sameMemory t.moves t.mask=some true:=by unfold SetTable.sameMemory;simp
     rw[em]
     dsimp only
     rw[if_pos rfl,a4]
     dsimp only
     rw[hei]
     dsimp only
     refine wpAny_bind (wpAny_isSame_ref_self ?_)
     rw[if_pos rfl]
     refine wpAny_bind (wpAny_pure ?_)
     dsimp only
     rw[if_pos rfl]
     exact wpAny_pure (h1 hin _ fun _=>rfl)
   .rw[decide_eq_false hk,Bool.and_false,if_neg (by simp)]
    have em:t.sameMemory t.moves t.mask=some true:=by unfold SetTable.sameMemory;simp
    rw[em]
    dsimp only
    rw[if_pos rfl,a4]
    dsimp only
    rw[hei]
    dsimp only
    refine wpAny_bind (wpAny_isSame_ref_self ?_)
    rw[if_pos rfl]
    refine wpAny_bind (wpAny_pure ?_)
    dsimp only
    rw[if_neg (by simp)]
    subst hh
    refine eT' hu ho hd X hq hN hB hN2 h1 h2 f (n'+1) (some _) rfl (by omega) (by omega) fun n'' i' p' c1 c2 c3=>?_
    by_cases c4:n''<n
    .exact hold n'' i' p' c4 c2 c3
    .by_cases c5:n''=n'
     .subst c5
      have:i'=i:=by
       obtain⟨q1,q2⟩:=Array.getElem?_eq_some_iff.mp c2
       obtain⟨q3,q4⟩:=Array.getElem?_eq_some_iff.mp a3
       rcases Nat.lt_trichotomy i' i with z|z|z
       .have:=cD' T.rise z q3;omega
       .exact z
       .have:=cD' T.rise z q1;omega
      subst this
      rw[hLi]at c3
      injection c3 with c3
      rw[<- c3]
      exact hk
     .intro hk'
      refine a7 n'' i' (by omega) (by omega) c2 ?_
      show((es[i']?).map (·.1)).getD 0=_
      rw[hes,c3]
      show tupleKeyHash _ p'.1=_
      rw[hk']
end
end Ts
end PySem
namespace PySem
namespace Ts
open SetTable
section
variable {prog:Program} {w:World} {A:Around} {E:Value->Shared->Prop} {s:Shared}
theorem eU' {a:Addr} {o:Obj} {es:Array (Int×Value)} {ep:Nat} {t:SetTable} {L:List (List Int×Addr)} (hu:A.units<cLine) (ho:s.heap.get? a=some o) (hd:o.data=.set es ep t) (X:Elms prog w s.heap es t L) {q:List Int×Addr} (hq:Tup prog w s.heap q) {adding:Bool} {Q:SetFound->Shared->Prop}
  (h1:q.1∈L.map (·.1)->∀r,(adding=false->r.isSome=true)->Q (.there r) s)
  (h2:q.1∉L.map (·.1)->∀N,(Pj t.mask (tupleKeyHash (intKind prog w) q.1) N).j∉t.place.toList->(∀n,n<N->(Pj t.mask (tupleKeyHash (intKind prog w) q.1) n).j∈t.place.toList)->Q (.free (Pj t.mask (tupleKeyHash (intKind prog w) q.1) N).j false) s):
  wpAny (model prog w) A (setSearch a (.ref q.2) (tupleKeyHash (intKind prog w) q.1) adding) Q E s:=by
 obtain⟨N,hN2,hN,hB⟩:=X.tab.end (tupleKeyHash (intKind prog w) q.1)
 obtain⟨m7,m8,m2⟩:=X.mask.le
 unfold setSearch
 exact eT' hu ho hd X hq hN hB (by unfold turns;omega) h1 (fun z=>h2 z N hN hB) 100000 0 none (lb' _ _) (Nat.zero_le _) (by omega) fun n' _ _ z=>absurd z (Nat.not_lt_zero _)
theorem rq' {b:Addr} {es:Array (Int×Value)}:byScan (.ref b) es=false:=by unfold byScan Value.scannable;rfl
theorem gj':∀{ks:List Int} {vs:List Value},ItemsAre (intKind prog w) ks vs->∀v∈vs,∃i t,v=.int i t
 |_,_,.nil,v,hv=>absurd hv List.not_mem_nil
 |_,_,.cons h1 r,v,hv=>by
  rcases List.mem_cons.mp hv with rfl|hv
  .obtain⟨t,e⟩:=Value.isInt_shape h1
   exact⟨_,t,e⟩
  .exact gj' r v hv
theorem hbv {q:List Int×Addr} {Q:Bool->Shared->Prop} (hk:Tup prog w s.heap q) (h:∀b,Q b s):wpAny (model prog w) A (hashByValue 8 (.ref q.2)) Q E s:=by
 have hT:=hk.typeIs
 obtain⟨o,items,n,ho,_,hd,hi⟩:=hk
 unfold hashByValue
 refine wpAny_bind (wpAny_specialOf hT F.slot_tuple_hash.lookup ?_)
 show wpAny _ _ (seqItems? (.ref q.2) >>= _) _ _ s
 refine wpAny_bind (wpAny_seqItems ho hd ?_)
 refine wpAny_bind ?_
 show wpAny _ _ (forIn items _ _) _ _ s
 rw[<- Array.forIn_toList]
 refine wpAny_forIn_list _ (fun au' r s'=>r.1=none/\s'=s/\∀v∈au',∃i t,v=Value.int i t) _ ?_ ?_ _ _ ⟨rfl,rfl,gj' hi⟩
 .rintro v au' r s' ⟨hr,rfl,hall⟩
  obtain⟨i,t,rfl⟩:=hall v List.mem_cons_self
  rw[show hashByValue 7 (.int i t)=pure true by unfold hashByValue;rfl]
  refine wpAny_bind (wpAny_pure ?_)
  rw[if_neg (by simp)]
  exact wpAny_pure ⟨rfl,rfl,fun u hu'=>hall u (List.mem_cons_of_mem _ hu')⟩
 .rintro⟨r1,r2⟩ s' ⟨hr,rfl,_⟩
  simp only at hr
  subst hr
  exact wpAny_pure (h _)
theorem di' {α β:Type} {f:α->β}:∀{l l':List β},l.Perm l'->∀{L:List α},l'=L.map f->∃L2:List α,L2.Perm L/\l=L2.map f:=by
 intro l l' h
 induction h with
 |nil=>intro L e;exact⟨L,.refl _,e⟩
 |cons x _ ih=>
  intro L e
  cases L with
  |nil=>cases e
  |cons a L=>
   rw[List.map_cons]at e
   injection e with e1 e2
   obtain⟨L2,h1,h2⟩:=ih e2
   exact⟨a :: L2,h1.cons a,by rw[List.map_cons,e1,h2]⟩
 |swap x y l=>
  intro L e
  cases L with
  |nil=>cases e
  |cons a L=>
   cases L with
   |nil=>cases e
   |cons b L=>
    rw[List.map_cons,List.map_cons]at e
    injection e with e1 e2
    injection e2 with e2 e3
    exact⟨b :: a :: L,.swap _ _ _,by rw[List.map_cons,List.map_cons,e1,e2,e3]⟩
 |trans _ _ ih1 ih2=>
  intro L e
  obtain⟨L2,h1,h2⟩:=ih2 e
  obtain⟨L3,h3,h4⟩:=ih1 h2
  exact⟨L3,h3.trans h1,h4⟩
theorem Tup.kept {h h':Heap} {a:Addr} {o:Obj} {es:Array (Int×Value)} {ep:Nat} {t:SetTable} {q:List Int×Addr} (hq:Tup prog w h q) (ho:h.get? a=some o) (hd:o.data=.set es ep t) (hs:Heap.SameBut a h h'):Tup prog w h' q:=by
 obtain⟨o',items,n,ho',hc,hd',hi⟩:=hq
 have hne:q.2≠a:=by
  intro e
  rw[e,ho]at ho'
  cases ho'
  rw[hd]at hd';exact nomatch hd'
 exact⟨o',items,n,(hs.2 q.2 hne).trans ho',hc,hd',hi⟩
theorem TabOk.plain {t:SetTable} {es:Array (Int×Value)} (T:TabOk t es) (b:Bool):TabOk { t with plain:=b } es:=⟨T.rise,T.le,T.size,T.dum,T.pow,T.room,T.met⟩
theorem rr' {m:Nat} (h:m∈[7,31,127,511,2047,8191]):∃b,m+1=2 ^ b:=by
 simp only[List.mem_cons,List.not_mem_nil,or_false]at h
 rcases h with rfl|rfl|rfl|rfl|rfl|rfl
 .exact⟨3,rfl⟩
 .exact⟨5,rfl⟩
 .exact⟨7,rfl⟩
 .exact⟨9,rfl⟩
 .exact⟨11,rfl⟩
 .exact⟨13,rfl⟩
theorem uF' {m n:Nat} (h:m∈[7,31,127,511,2047,8191]) (h1:n*5<m*3) (h2:¬(n+1)*5<m*3) (h3:n<4000):sizeAbove (grown (n+1))-1∈[7,31,127,511,2047,8191]/\(n+1)*5<(sizeAbove (grown (n+1))-1)*3/\sizeAbove (grown (n+1))<=sizeLine:=by
 simp only[List.mem_cons,List.not_mem_nil,or_false]at h
 rcases h with rfl|rfl|rfl|rfl|rfl|rfl
 .obtain rfl:n=4:=by omega
  exact⟨by decide,by decide,by decide⟩
 .obtain rfl:n=18:=by omega
  exact⟨by decide,by decide,by decide⟩
 .obtain rfl:n=76:=by omega
  exact⟨by decide,by decide,by decide⟩
 .obtain rfl:n=306:=by omega
  exact⟨by decide,by decide,by decide⟩
 .obtain rfl:n=1228:=by omega
  exact⟨by decide,by decide,by decide⟩
 .omega
end
end Ts
end PySem
namespace PySem
namespace Ts
open SetTable
section
variable {prog:Program} {w:World} {A:Around} {E:Value->Shared->Prop} {s:Shared}
theorem lf' {h h':Heap} {a:Addr} {o:Obj} {es:Array (Int×Value)} {ep:Nat} {t:SetTable} {L:List (List Int×Addr)} (ho:h.get? a=some o) (hd:o.data=.set es ep t) (X:Elms prog w h es t L) {q:List Int×Addr} (hq:Tup prog w h q) (hno:q.1∉L.map (·.1)) (hs:Heap.SameBut a h h') {N:Nat}
  (hN:(Pj t.mask (tupleKeyHash (intKind prog w) q.1) N).j∉t.place.toList) (hB:∀n,n<N->(Pj t.mask (tupleKeyHash (intKind prog w) q.1) n).j∈t.place.toList):
  ∃L1:List (List Int×Addr),L1.Perm (q :: L)/\(insertAt es (t.put (Pj t.mask (tupleKeyHash (intKind prog w) q.1) N).j).2 (elm prog w q)).toList=L1.map (elm prog w)/\(∀p∈L1,Tup prog w h' p)/\(L1.map (·.1)).Nodup/\
   TabOk (t.put (Pj t.mask (tupleKeyHash (intKind prog w) q.1) N).j).1 (insertAt es (t.put (Pj t.mask (tupleKeyHash (intKind prog w) q.1) N).j).2 (elm prog w q)):=by
 have T:=X.tab
 have hroom:es.size+1<=t.mask:=by
  have:=X.mask.few
  have:=X.mask.le
  rw[T.size]at *
  omega
 have T1:=T.put (x:=.ref q.2) hN hB hroom
 generalize (t.put (Pj t.mask (tupleKeyHash (intKind prog w) q.1) N).j).2=p at T1 ⊢
 have hp:(L.take p++q :: L.drop p).Perm (q :: L):=by
  refine List.perm_middle.trans (List.Perm.cons q ?_)
  rw[List.take_append_drop]
 refine⟨L.take p++q :: L.drop p,hp,?_,fun p' hp'=>?_,?_,T1⟩
 .rw[toList_insertAt,X.its,List.map_append,List.map_cons,List.map_take,List.map_drop]
 .rcases List.mem_cons.mp (hp.mem_iff.mp hp')with rfl|hp'
  .exact hq.kept ho hd hs
  .exact(X.tup p' hp').kept ho hd hs
 .refine(hp.map (·.1)).nodup_iff.mpr ?_
  rw[List.map_cons,List.nodup_cons]
  exact⟨hno,X.nd⟩
theorem rs' {a:Addr} {o:Obj} {es:Array (Int×Value)} {ep:Nat} {t:SetTable} {L:List (List Int×Addr)} (hu:A.units<cLine) (ho:s.heap.get? a=some o) (hc:o.ExactSet) (hd:o.data=.set es ep t) (X:Elms prog w s.heap es t L) (htk:TOk (w.params.followText "set-order") t) {q:List Int×Addr} (hq:Tup prog w s.heap q) (hl:L.length<4000) {Q:Bool->Shared->Prop}
  (h1:q.1∈L.map (·.1)->Q false s)
  (h2:q.1∉L.map (·.1)->∀(h':Heap) (o':Obj) (es':Array (Int×Value)) (ep':Nat) (t':SetTable) (L':List (List Int×Addr)),Heap.SameBut a s.heap h'->h'.get? a=some o'->o'.ExactSet->o'.data=.set es' ep' t'->Elms prog w h' es' t' L'->L'.Perm (q :: L)->TOk (w.params.followText "set-order") t'->Q true { s with heap:=h' }):
  wpAny (model prog w) A (setAddHashed a (.ref q.2) (tupleKeyHash (intKind prog w) q.1)) Q E s:=by
 have T:=X.tab
 have hlen:es.size=L.length:=by rw[<- Array.length_toList,X.its,List.length_map]
 unfold setAddHashed setAddHashedIn
 refine wpAny_holding (wpAny_bind (wpAny_setState_of ho hd T.fits ?_))
 dsimp only
 rw[rq',if_neg (by simp)]
 refine wpAny_bind (eU' hu ho hd X hq (fun hin r _=>?_) fun hno N hN hB=>?_)
 .exact wpAny_pure (h1 hin)
 .dsimp only
  refine wpAny_bind (wpAny_setState_of ho hd T.fits ?_)
  dsimp only
  have step:∀(t1:SetTable),(∃b,t1={ (t.put (Pj t.mask (tupleKeyHash (intKind prog w) q.1) N).j).1 with plain:=b })->wpAny (model prog w) A (do
    storeSet a (insertAt es (t.put (Pj t.mask (tupleKeyHash (intKind prog w) q.1) N).j).2 (tupleKeyHash (intKind prog w) q.1,Value.ref q.2)) t1
    if(!false&&t1.tooFull)=true then do
     setRelay a (grown (es.size+1))
     pure true
    else pure true) Q E s:=by
   rintro t1 ⟨pb,rfl⟩
   generalize hes1:insertAt es (t.put (Pj t.mask (tupleKeyHash (intKind prog w) q.1) N).j).2 (tupleKeyHash (intKind prog w) q.1,Value.ref q.2)=es1
   generalize ht1:({ (t.put (Pj t.mask (tupleKeyHash (intKind prog w) q.1) N).j).1 with plain:=pb }:SetTable)=t1
   have hsb:=Heap.SameBut.update s.heap a (Obj.putSet es1 t1)
   obtain⟨L1,hp1,hi1,htp1,hnd1,T1⟩:=lf' ho hd X hq hno hsb hN hB
   rw[show elm prog w q=(tupleKeyHash (intKind prog w) q.1,Value.ref q.2) from rfl,hes1]at hi1 T1
   have hl1:L1.length=L.length+1:=by rw[hp1.length_eq];rfl
   have hsz1:es1.size=L.length+1:=by rw[<- Array.length_toList,hi1,List.length_map,hl1]
   have hm1:t1.mask=t.mask:=by rw[<- ht1];rfl
   have hT1:TabOk t1 es1:=by rw[<- ht1];exact T1.plain pb
   have hk1:TOk (w.params.followText "set-order") t1:=by
    rcases htk with z|⟨z1,z2⟩
    .exact .inl z
    .exact .inr ⟨by rw[<- ht1];exact z1,hT1.rise⟩
   have hz1:es1.size<=sizeLine:=by rw[hsz1];exact Nat.le_trans (show _<=4000 by omega) (by decide)
   refine wpAny_bind (wpAny_storeSet_of ho hd ?_ hz1)
   have eo:=putSet_of es1 t1 hd
   have hg:=Heap.get?_update_self (Obj.putSet es1 t1) ho (by rw[eo];rfl)
   rw[eo]at hg
   have hfew:(es1.size*5<t.mask*3)↔t1.tooFull=false:=by
    unfold SetTable.tooFull SetTable.fill
    rw[hT1.dum,hT1.size,hm1]
    simp
   by_cases hf:t1.tooFull=true
   .rw[if_pos (by simpa using hf)]
    have hnf:¬(L.length+1)*5<t.mask*3:=fun z=>by
     rw[<- hsz1]at z
     rw[hfew.mp z]at hf
     cases hf
    have hX5:=X.mask.few
    rw[T.size,hlen]at hX5
    obtain⟨g1,g2,g3⟩:=uF' X.mask.mask hX5 hnf hl
    rw[hlen]
    refine wpAny_bind ?_
    unfold setRelay
    refine wpAny_bind (wpAny_setState_of (s:={ s with heap:=s.heap.update a (Obj.putSet es1 t1) }) hg rfl hT1.fits ?_)
    dsimp only
    rw[if_neg (by omega)]
    obtain⟨t2,order,k1,k2,k3,k4,k5,k6,T2⟩:=oW' (es:=es1) (rr' g1) (by rw[hsz1];omega) t1.finger (t1.movedTo (sizeAbove (grown (L.length+1))-1)) t1.led t1.plain
    obtain⟨L2,hp2,hi2⟩:=di' k6 hi1
    have hsz2:(order.filterMap (es1[·]?)).size=es1.size:=by rw[<- Array.length_toList,k6.length_eq,Array.length_toList]
    have hr:relaid t1 (es1.map (·.1)) (grown (L.length+1))=some (t2,order):=k1
    rw[hr]
    refine wpAny_bind ?_
    show wpAny _ _ (if((order.filterMap (es1[·]?)).size != es1.size)=true then _ else pure (order.filterMap (es1[·]?),t2)) _ _ _
    rw[if_neg (by rw[hsz2];simp)]
    refine wpAny_pure ?_
    generalize hes2:order.filterMap (es1[·]?)=es2 at k6 T2 hi2 hsz2 ⊢
    dsimp only
    refine wpAny_storeSet_of (s:={ s with heap:=s.heap.update a (Obj.putSet es1 t1) }) hg rfl ?_ (by rw[hsz2];exact hz1)
    have eo2:=putSet_of (o:={ o with data:=.set es1 (ep+1) t1 }) es2 t2 rfl
    have hg2:=Heap.get?_update_self (Obj.putSet es2 t2) hg (by rw[eo2];rfl)
    rw[eo2]at hg2
    have hsb2:=hsb.trans (Heap.SameBut.update (s.heap.update a (Obj.putSet es1 t1)) a (Obj.putSet es2 t2))
    refine wpAny_pure (h2 hno _ _ es2 _ t2 L2 hsb2 hg2 hc rfl ⟨hi2,fun p hp=>?_,(hp2.map (·.1)).nodup_iff.mpr hnd1,T2,⟨by rw[k2];exact g1,by rw[k2,T2.size,hsz2,hsz1];exact g2⟩⟩ (hp2.trans hp1) ?_)
    .exact(htp1 p (hp2.mem_iff.mp hp)).kept hg rfl (Heap.SameBut.update _ a _)
    .rcases hk1 with z|⟨z1,_⟩
     .exact .inl z
     .exact .inr ⟨by rw[k3];exact z1,T2.rise⟩
   .rw[if_neg (by simpa using hf)]
    refine wpAny_pure (h2 hno _ _ es1 _ t1 L1 hsb hg hc rfl ⟨hi1,htp1,hnd1,hT1,⟨by rw[hm1];exact X.mask.mask,?_⟩⟩ hp1 hk1)
    rw[hm1,hT1.size]
    exact hfew.mpr (by simpa using hf)
  split
  .refine wpAny_bind (hbv hq fun b=>?_)
   cases b with
   |true=>exact step _ ⟨_,rfl⟩
   |false=>exact step _ ⟨false,rfl⟩
  .exact wpAny_bind (wpAny_pure (step _ ⟨_,rfl⟩))
theorem lg' {a:Addr} {o:Obj} {es:Array (Int×Value)} {ep:Nat} {t:SetTable} {L:List (List Int×Addr)} (hu:A.units+1<cLine) (ho:s.heap.get? a=some o) (hc:o.ExactSet) (hd:o.data=.set es ep t) (X:Elms prog w s.heap es t L) (htk:TOk (w.params.followText "set-order") t) {q:List Int×Addr} (hq:Tup prog w s.heap q) (hl:L.length<4000) {Q:Value->Shared->Prop}
  (h1:q.1∈L.map (·.1)->∀tk,Q .none { s with toks:=tk })
  (h2:q.1∉L.map (·.1)->∀(h':Heap) (o':Obj) (es':Array (Int×Value)) (ep':Nat) (t':SetTable) (L':List (List Int×Addr)) tk,Heap.SameBut a s.heap h'->h'.get? a=some o'->o'.ExactSet->o'.data=.set es' ep' t'->Elms prog w h' es' t' L'->L'.Perm (q :: L)->TOk (w.params.followText "set-order") t'->Q .none { s with heap:=h',toks:=tk }):
  wpAny (model prog w) A (call (.builtin "set.add") [.ref a,.ref q.2]) Q E s:=by
 refine wpAny_call_entry F.slot_set_add ⟨o,ho,hc.1⟩ F.entry_set_add ?_ (F.args_set_add_2 _ _)
 unfold Builtin.«set.add» Builtin.Frozenset.oneOther
 simp only[List.isEmpty_nil,bind_assoc]
 unfold Builtin.Frozenset.addrOf setAdd
 refine wpAny_bind (wpAny_pure ?_)
 try dsimp only
 refine wpAny_bind (wpAny_pure ?_)
 try dsimp only
 refine wpAny_bind (wpAny_holding (wpAny_bind (wpAny_pyHash_tuple (by show A.units+1<cLine;exact hu) hq ?_)))
 refine rs' (s:={ s with toks:=s.toks+(q.1.length+1) }) (by show A.units+1<cLine;exact hu) ho hc hd X htk hq hl (fun hin=>?_) fun hno h' o' es' ep' t' L' z1 z2 z3 z4 z5 z6 z7=>?_
 .exact wpAny_pure ⟨_,rfl,h1 hin _⟩
 .exact wpAny_pure ⟨_,rfl,h2 hno h' o' es' ep' t' L' _ z1 z2 z3 z4 z5 z6 z7⟩
end
end Ts
end PySem
namespace L2
open PySem PySem.Spec PyProof.Rows
def vV' (h:Heap) (e:Addr) (cls:Value) (T:Addr):Prop:=∃oe vs oT ts a0,h.get? e=some oe/\(oe.cls=cls/\vs[0]?=some a0)/\oe.data=.fields vs/\vs[1]?=some (.ref T)/\T≠e/\h.get? T=some oT/\oT.data=.fields ts/\ts[3]?=some .none
structure LeftX (F S:List Addr) (e:Addr) (cls:Value) (h h':Heap):Prop where
 keep:∀b o,b∉F->b∉S->h.get? b=some o->h'.get? b=some o
 slot:∀b o,b∈F->h.get? b=some o->∃sl,h'.get? b=some { o with slots:=sl }
 there:∀b o,b∉S->h.get? b=some o->∃o',h'.get? b=some o'
 exc:∃T,(h.get? T=none\/T∈S)/\vV' h' e cls T
section
variable {M:Model} {A:Around} {E:Value->Shared->Prop} {s:Shared}
end
structure FnCx (X:Cx):Prop where
 ex:X.ex=[]
 fn:∀x,X.fn x=true
 stk:X.stack=X.env :: X.outer
 fr:X.env.frame=some X.env.locals
section
variable {X:Cx} {pins:List (Addr×Obj)} {σ:St} {H:Hp} {s:Shared}
noncomputable def CX1 (P:Program) (w:World) (mg:Str->Option Value):CXT:=fun outer H s E e s'=>∃(ea T Ca:Addr) (nm:Str) (H':Hp),e=.ref ea/\mg nm=some (.ref Ca)/\s'.os=s.os/\AllBare s'.gens/\Un (frs outer) [] H H' s.heap s'.heap/\HOk P w H' s'.heap/\
 vV' s'.heap ea (.ref Ca) T/\H' ea=none/\H' T=none/\s.heap.get? ea=none/\s.heap.get? T=none/\E (.str nm 0) none H'
end
def bmV:List Value:=[.type "ValueError",.type "Exception",.type "BaseException",.type "object"]
section
variable {X:Cx}
end
section
variable {X:Cx} {pins:List (Addr×Obj)} {σ:St} {H:Hp} {s:Shared} {D:Ends} {hs:List ExceptHandler}
end
end L2
namespace L2
open PySem PySem.Spec PyProof.Rows PySem.W
structure XCls (K:Frag) (C:Addr):Prop where
 ga:findIn K (.ref C) "__getattribute__"=some (some (.builtin "BaseException.__getattribute__"))
 gt:findIn K (.ref C) "__getattr__"=some none
 cl:findIn K (.ref C) "__class__"=some (some (.builtin "object.__class__"))
 be:subIn K (.ref C) (.type "BaseException")=some true
 ob:subIn K (.ref C) (.type "object")=some true
 is:(clsIn K C).isSome=true
section
variable {prog:Program} {w:World} {A:Around} {E:Value->Shared->Prop} {K:Frag} {h:Heap} {g:Array GenState} {d:Drawn} {t:Nat} {os:OsState} {a C:Addr} {o:Obj}
end
end L2
namespace L2
open PySem PySem.Spec PyProof.Rows PySem.W
section
variable {X:Cx}
end
noncomputable def vW':Option Int->Value->Bool
 |some k,v=>Value.isInt k v
 |none,.none=>true
 |none,_=>false
theorem aL':∀{k:Option Int} {v:Value},vW' k v=true->(∃i t,k=some i/\v=Value.int i t)\/(k=none/\v=Value.none)
 |some i,v,h=>by
  obtain⟨t,e⟩:=Value.isInt_shape (k:=i) (v:=v) h
  exact .inl ⟨i,t,rfl,e⟩
 |none,v,h=>by cases v<;>first|exact .inr ⟨rfl,rfl⟩|cases h
noncomputable def okH:Option Int->Int
 |some k=>hashInt k
 |none=>0xFCA86420
noncomputable def oX' (prog:Program) (w:World):PySem.KeyKind prog w (Option Int) where
 is:=vW'
 hash:=okH
 inj:=fun v a b ha hb=>by
  rcases aL' ha with⟨i,t,rfl,rfl⟩|⟨rfl,rfl⟩
  .rcases aL' hb with⟨j,u,rfl,e⟩|⟨rfl,e⟩
   .injection e with e1 _;rw[e1]
   .exact nomatch e
  .rcases aL' hb with⟨j,u,rfl,e⟩|⟨rfl,e⟩
   .exact nomatch e
   .rfl
 byValue:=fun k v h=>by
  rcases aL' h with⟨i,t,rfl,rfl⟩|⟨rfl,rfl⟩<;>rfl
 pyHash:=fun hv h=>by
  rcases aL' hv with⟨i,t,rfl,rfl⟩|⟨rfl,rfl⟩
  .exact wpAny_pyHash_int h
  .exact ez' h
 eqBool:=fun {A E s a b u v Q} hu hv h=>by
  rcases aL' hu with⟨i,t,rfl,rfl⟩|⟨rfl,rfl⟩
  .rcases aL' hv with⟨j,u,rfl,rfl⟩|⟨rfl,rfl⟩
   .have e:decide ((some i:Option Int)=some j)=(i == j):=by
     by_cases q:i=j
     .subst q;simp
     .rw[decide_eq_false (fun z=>q (Option.some.inj z)),(beq_eq_false_iff_ne.mpr q)]
    rw[e]at h
    exact wpAny_eqBool_int h
   .exact SeqAt.EqAt.int_none i t _ _ _ _ h
  .rcases aL' hv with⟨j,u,rfl,rfl⟩|⟨rfl,rfl⟩
   .exact SeqAt.EqAt.none_int j u _ _ _ _ h
   .exact SeqAt.EqAt.same .none _ _ _ _ h
 «strs»:=fun k x t v h=>by
  rcases aL' h with⟨i,u,rfl,e⟩|⟨rfl,e⟩<;>exact nomatch e
end L2
namespace PySem
open PyProof.Rows
section
variable {prog:Program} {w:World} {K:Type} [DecidableEq K] {knd:KeyKind prog w K}
variable {A:Around} {R:Result->Shared->Prop} {I:Addr} {fp wr:List Addr} {G:Array GenState->Array GenState->Prop} {n:Nat} {P:Nat->Value->Prop} {St:Nat->Shared->Prop}
end
section
variable {prog:Program} {w:World} {K:Type} [DecidableEq K] {knd:KeyKind prog w K} {A:Around} {E:Value->Shared->Prop} {s:Shared}
noncomputable def cR' (led:Bool):Obj:={ cls:=.type "set",dict:=none,data:=.set #[] 0 (.fresh 0 0 led) }
theorem fJ':(cR' (!(w.params.followText "set-order"))).SetIt knd (fun _=>false) 0:=
 ⟨#[],0,_,⟨rfl,rfl,rfl⟩,rfl,fun e he=>by simp at he,fun k=>by simp,by decide,by rfl,rfl,by simp[Dst],by
  cases h:w.params.followText "set-order" with
  |true=>exact .inl rfl
  |false=>exact .inr ⟨rfl,by unfold Rsn;exact List.Pairwise.nil⟩⟩
theorem je' {Q:Value->Shared->Prop} (h:Q (.ref s.heap.objs.size) { s with heap:=s.heap.push (cR' (!(w.params.followText "set-order"))) }):wpAny (model prog w) A (newSet (.type "set")) Q E s:=by
 unfold newSet setsByText
 refine wpAny_bind (wpAny_bind (wpAny_askSetting (wpAny_pure ?_)))
 exact wpAny_newObj_type h
end
end PySem
namespace PySem
open PyProof.Rows
namespace F
theorem eV':Manifest.owners.lookup (String.ofList ['r','o','t','a','r','e','t','i','_','t','e','s'].reverse)=some Manifest.sig_set_iterator:=by kernel_rfl
theorem ax':Slot "set_iterator" "__next__" "set_iterator.__next__":=
 .of (owner:="set_iterator") (n:="__next__") (by rw[typeLookup_type,builtinLookup_eq_fast];kernel_rfl) (by decide +kernel) (by decide +kernel) (by decide +kernel)
  (by first|exact .inl (by decide +kernel)|exact .inr (by decide +kernel)) (by rw[isSubtype_type];kernel_rfl)
theorem bZ':entryFor table "set_iterator.__next__"=some Builtin.«set_iterator.__next__»:=entryFor_of_tree (by kernel_rfl)
theorem ck':Slot "set_iterator" "__iter__" "set_iterator.__iter__":=
 .of (owner:="set_iterator") (n:="__iter__") (by rw[typeLookup_type,builtinLookup_eq_fast];kernel_rfl) (by decide +kernel) (by decide +kernel) (by decide +kernel)
  (by first|exact .inl (by decide +kernel)|exact .inr (by decide +kernel)) (by rw[isSubtype_type];kernel_rfl)
theorem dB':entryFor table "set_iterator.__iter__"=some Builtin.«dict_keyiterator.__iter__»:=
 entryFor_alias (id':="dict_keyiterator.__iter__") (by kernel_rfl) (by first|rfl|decide +kernel|(unfold String.splitOn;simp +decide [String.splitOnAux])) (by decide +kernel) (by kernel_rfl)
theorem bI' (a:Value):argsOk "set_iterator.__next__" ⟨[a],[]⟩:=by
 unfold argsOk;rw[signature?_of (id:="set_iterator.__next__") (n:=['_','_','t','x','e','n','_','_']) (o:=['r','o','t','a','r','e','t','i','_','t','e','s']) (by kernel_rfl) eV'];kernel_rfl
theorem dj' (a:Value):argsOk "set_iterator.__iter__" ⟨[a],[]⟩:=by
 unfold argsOk;rw[signature?_of (id:="set_iterator.__iter__") (n:=['_','_','r','e','t','i','_','_']) (o:=['r','o','t','a','r','e','t','i','_','t','e','s']) (by kernel_rfl) eV'];kernel_rfl
theorem dk':entryFor table "set.__iter__"=some Builtin.«frozenset.__iter__»:=
 entryFor_alias (id':="frozenset.__iter__") (by kernel_rfl) (by first|rfl|decide +kernel|(unfold String.splitOn;simp +decide [String.splitOnAux])) (by decide +kernel) (by kernel_rfl)
end F
def Heap.IsSti (h:Heap) (a d:Addr) (f:Value) (i n ep:Nat):Prop:=∃o,h.get? a=some o/\o.cls=.type "set_iterator"/\o.data=.fields #[f,rawInt i,.ref d,rawInt n,rawInt ep]
theorem Heap.IsSti.at {h h':Heap} {a d:Addr} {f:Value} {i n ep:Nat} (x:h.IsSti a d f i n ep) (e:∀o,h.get? a=some o->h'.get? a=some o):h'.IsSti a d f i n ep:=let⟨o,ho,r⟩:=x;⟨o,e _ ho,r⟩
def Ord (bt:Bool) (w:World) (d ep:Nat) (es:Array (Int×Value)) (t:SetTable) (xs:Array Value) (h:Heap) (f:Value) (i:Nat):Prop:=
 (bt=true/\f=rawInt 0/\xs=(pickOrder (w.params.setOrder d ep) es).map (·.2))\/
 (bt=false/\(!t.plain&&decide (es.size > 1))=false/\Rsn t.place/\f=rawInt (if i=0 then 0 else((t.place.getD (i-1) 0+1:Nat):Int))/\xs=es.map (·.2))\/
 (bt=false/\∃(T:Addr) (pl:Array Nat),f=.ref T/\IsTup h T (pl.map fun(j:Nat)=>rawInt j)/\xs.size=pl.size/\∀(j p:Nat),pl[j]?=some p->∃x:Int×Value,es[p]?=some x/\xs[j]?=some x.2)
section
variable {prog:Program} {w:World} {A:Around} {E:Value->Shared->Prop} {s:Shared}
theorem Heap.IsSti.typeIs {a d:Addr} {f:Value} {i n ep:Nat} (x:s.heap.IsSti a d f i n ep):s.TypeIs (.ref a) "set_iterator":=let⟨o,ho,hc,_⟩:=x;⟨o,ho,hc⟩
theorem lh' {it d:Addr} {f:Value} {i n ep:Nat} {Q:Value->Shared->Prop} (hit:s.heap.IsSti it d f i n ep) (h:Q (.ref it) s):wpAny (model prog w) A (pyIter (.ref it)) Q E s:=by
 refine wpAny_pyIter_slot hit.typeIs F.ck' (wpAny_call_entry F.ck' hit.typeIs F.dB' ?_ (F.dj' _))
 show wpAny _ _ (ret (.ref it)) _ _ s
 exact wpAny_pure ⟨_,rfl,"set_iterator",_,hit.typeIs,F.ax'.lookup,h⟩
theorem dO' {xs:Array Nat} (hr:Rsn xs) {i:Nat} (hi:i<=xs.size):SetTable.below xs (Int.toNat (if i=0 then 0 else((xs.getD (i-1) 0+1:Nat):Int)))=i:=by
 by_cases h0:i=0
 .subst h0
  rw[if_pos rfl]
  obtain⟨h1,h2,h3⟩:=cj' hr (Int.toNat 0)
  by_cases hz:SetTable.below xs (Int.toNat 0)=0
  .exact hz
  .exact absurd (h2 0 (by omega) (by omega)) (by simp)
 .rw[if_neg h0,Int.toNat_natCast]
  have hg:xs.getD (i-1) 0=xs[i-1]'(by omega):=by simp[Array.getD,show i-1<xs.size by omega]
  rw[hg]
  obtain⟨h1,h2,h3⟩:=cj' hr (xs[i-1]'(by omega)+1)
  refine Nat.le_antisymm (Nat.le_of_not_lt fun z=>?_) (Nat.le_of_not_lt fun z=>?_)
  .have q1:=h2 i (by omega) z
   have q2:=cD' hr (i:=i-1) (j:=i) (by omega) (by omega)
   omega
  .have q1:=h3 (i-1) (by omega) (by omega)
   omega
theorem ee' {α:Type}:∀(l:List α) (i:Nat) (h:i<l.length),(l[i] :: l.eraseIdx i).Perm l
 |a :: l,0,h=>List.Perm.refl _
 |a :: l,i+1,h=>by
  rw[List.eraseIdx_cons_succ,List.getElem_cons_succ]
  exact(List.Perm.swap a _ _).trans ((ee' l i (by simpa using h)).cons a)
theorem jf' {α:Type} (f:Nat->Nat):∀(n k:Nat) (l:List α) (out:Array α),n=l.length->(pickOrder.go f n k l out).toList.Perm (out.toList++l)
 |0,k,l,out,e=>by
  have:l=[]:=List.length_eq_zero_iff.mp e.symm
  subst this
  unfold pickOrder.go
  simp
 |n+1,k,l,out,e=>by
  unfold pickOrder.go
  have hl:f k % l.length<l.length:=Nat.mod_lt _ (by omega)
  rw[List.getElem?_eq_getElem hl]
  dsimp only
  refine(jf' f n (k+1) _ _ (by rw[List.length_eraseIdx_of_lt hl];omega)).trans ?_
  rw[Array.toList_push,List.append_assoc]
  refine List.Perm.append_left _ ?_
  rw[List.singleton_append]
  exact ee' l _ hl
theorem eW' {α:Type} (f:Nat->Nat) (xs:Array α):(pickOrder f xs).toList.Perm xs.toList:=by
 have:=jf' f xs.size 0 xs.toList #[] (by simp)
 simpa[pickOrder]using this
theorem li' {it d:Addr} {o:Obj} {f:Value} {i ep:Nat} {es:Array (Int×Value)} {t:SetTable} {xs:Array Value} {v:Value} {Q:Option Value->Shared->Prop} (hit:s.heap.IsSti it d f i es.size ep) (hne:d≠it) (hT:∀T,f=.ref T->T≠it) (ho:s.heap.get? d=some o) (hd:o.data=.set es ep t)
  (hf:t.fits es.size=true) (htk:TOk (w.params.followText "set-order") t) (hor:Ord (w.params.followText "set-order") w d ep es t xs s.heap f i) (hx:xs[i]?=some v)
  (hQ:∀h' f',h'.IsSti it d f' (i+1) es.size ep->Heap.SameBut it s.heap h'->Ord (w.params.followText "set-order") w d ep es t xs h' f' (i+1)->(∀T,f'=.ref T->f=.ref T)->Q (some v) { s with heap:=h' }):wpAny (model prog w) A (pyNext (.ref it)) Q E s:=by
 obtain⟨oi,hoi,hci,hdi⟩:=id hit
 have hfz:t.place.size=es.size:=by
  simp only[SetTable.fits,Bool.and_eq_true,beq_iff_eq]at hf
  exact hf.1
 unfold pyNext
 refine wpAny_bind (wpAny_attempt (wpAny_callSpecial?_slot (name:=Str.ofString "__next__") hit.typeIs F.ax' (wpAny_call_entry F.ax' hit.typeIs F.bZ' ?_ (F.bI' _))))
 unfold Builtin.«set_iterator.__next__»
 refine wpAny_bind (wpAny_of_eq (a:=(Value.ref it,[])) rfl ?_)
 dsimp only
 refine wpAny_bind (wpAny_fieldsOf hoi hdi ?_)
 dsimp only[rawInt]
 refine wpAny_bind (wpAny_setEntries_of ho hd hf ?_)
 rw[if_neg (by simp)]
 have k1:∀(f1:Value) (h1:Heap),h1=(s.heap.update it (Obj.mapFields fun x=>x.setIfInBounds 0 f1)).update it (Obj.mapFields fun x=>x.setIfInBounds 1 (rawInt ((i:Int)+1)))->h1.IsSti it d f1 (i+1) es.size ep/\Heap.SameBut it s.heap h1:=by
  intro f1 h1 e
  subst e
  have g1:=Heap.get?_update_self (Obj.mapFields fun x=>x.setIfInBounds 0 f1) hoi (Obj.isFreed_of_fields (Obj.data_mapFields hdi _))
  have g2:=Heap.get?_update_self (Obj.mapFields fun x=>x.setIfInBounds 1 (rawInt ((i:Int)+1))) g1 (Obj.isFreed_of_fields (Obj.data_mapFields (Obj.data_mapFields hdi _) _))
  exact⟨⟨_,g2,(Obj.cls_mapFields ..).trans ((Obj.cls_mapFields ..).trans hci),by rw[Obj.data_mapFields (Obj.data_mapFields hdi _)];simp[rawInt]⟩,(Heap.SameBut.update ..).trans (Heap.SameBut.update ..)⟩
 rcases id hor with⟨hb,rfl,hxs⟩|⟨hb,hdr,hrs,rfl,hxs⟩|⟨hb,T,pl,rfl,htp,hsz,hpl⟩
 .dsimp only[rawInt]
  unfold setNext
  refine wpAny_bind (wpAny_bind (wpAny_setState_of ho hd hf ?_))
  dsimp only
  unfold setsByText
  refine wpAny_bind (wpAny_bind (wpAny_askSetting (wpAny_pure ?_)))
  show wpAny _ _ (if w.params.followText "set-order"=true then _ else _) _ _ _
  rw[if_pos hb]
  rw[if_neg (by simp)]
  unfold setWalk
  refine wpAny_bind (wpAny_bind (wpAny_setState_of ho hd hf ?_))
  dsimp only
  unfold setsByText
  refine wpAny_bind (wpAny_bind (wpAny_askSetting (wpAny_pure ?_)))
  show wpAny _ _ (if w.params.followText "set-order"=true then _ else _) _ _ _
  rw[if_pos hb]
  refine wpAny_bind (wpAny_askSetting (wpAny_pure ?_))
  have hv:(pickOrder (w.params.setOrder d ep) es)[i]?.map (·.2)=some v:=by
   rw[hxs,Array.getElem?_map]at hx
   exact hx
  obtain⟨p,hp,rfl⟩:∃p,(pickOrder (w.params.setOrder d ep) es)[i]?=some p/\p.2=v:=by
   cases hq:(pickOrder (w.params.setOrder d ep) es)[i]? with
   |none=>rw[hq]at hv;cases hv
   |some p=>rw[hq]at hv;exact⟨p,rfl,by injection hv⟩
  show wpAny _ _ (pure (Option.map (fun e=>(e.2,(0:Int).toNat)) (pickOrder (w.params.setOrder d ep) es)[(i:Int).toNat]?)) _ _ _
  rw[Int.toNat_natCast,hp]
  refine wpAny_pure ?_
  dsimp only[Option.map]
  refine wpAny_bind (wpAny_setField hoi hdi (by simp) ?_)
  have g1:=Heap.get?_update_self (Obj.mapFields fun x=>x.setIfInBounds 0 (rawInt ((0:Int).toNat:Int))) hoi (Obj.isFreed_of_fields (Obj.data_mapFields hdi _))
  refine wpAny_bind (wpAny_setField g1 (Obj.data_mapFields hdi _) (by simp) ?_)
  obtain⟨z1,z2⟩:=k1 (rawInt ((0:Int).toNat:Int)) _ rfl
  exact wpAny_pure ⟨_,rfl,wpAny_pure (hQ _ _ z1 z2 (.inl ⟨hb,rfl,hxs⟩) fun T z=>nomatch z)⟩
 .dsimp only[rawInt]
  have hi:i<es.size:=by
   rw[hxs]at hx
   have:=(Array.getElem?_eq_some_iff.mp hx).1
   rwa [Array.size_map]at this
  have hv:es[i].2=v:=by
   rw[hxs,Array.getElem?_map,Array.getElem?_eq_getElem hi]at hx
   injection hx
  unfold setNext
  refine wpAny_bind (wpAny_bind (wpAny_setState_of ho hd hf ?_))
  dsimp only
  unfold setsByText
  refine wpAny_bind (wpAny_bind (wpAny_askSetting (wpAny_pure ?_)))
  show wpAny _ _ (if w.params.followText "set-order"=true then _ else _) _ _ _
  rw[if_neg (by rw[hb];exact Bool.false_ne_true)]
  show wpAny _ _ (if(!t.plain&&decide (es.size > 1))=true then _ else _) _ _ _
  rw[if_neg (by rw[hdr];exact Bool.false_ne_true)]
  have hled:t.led=true:=by
   rcases htk with z|z
   .rw[hb]at z;cases z
   .exact z.1
  refine wpAny_bind ?_
  show wpAny _ _ (if(!t.led&&!es.isEmpty)=true then _ else _) _ _ _
  rw[if_neg (by rw[hled];simp)]
  refine wpAny_pure ?_
  rw[dO' hrs (by omega)]
  rw[Array.getElem?_eq_getElem hi,Array.getElem?_eq_getElem (show i<t.place.size by omega)]
  refine wpAny_pure ?_
  dsimp only
  refine wpAny_bind (wpAny_setField hoi hdi (by simp) ?_)
  have g1:=Heap.get?_update_self (Obj.mapFields fun x=>x.setIfInBounds 0 (rawInt ((t.place[i]'(by omega)+1:Nat):Int))) hoi (Obj.isFreed_of_fields (Obj.data_mapFields hdi _))
  refine wpAny_bind (wpAny_setField g1 (Obj.data_mapFields hdi _) (by simp) ?_)
  obtain⟨z1,z2⟩:=k1 (rawInt ((t.place[i]'(by omega)+1:Nat):Int)) _ rfl
  subst hv
  refine wpAny_pure ⟨_,rfl,wpAny_pure (hQ _ _ z1 z2 (.inr (.inl ⟨hb,hdr,hrs,?_,hxs⟩)) fun T z=>nomatch z)⟩
  rw[if_neg (by omega)]
  simp[Array.getD,show i<t.place.size by omega]
 .have hi:i<pl.size:=by
   have:=(Array.getElem?_eq_some_iff.mp hx).1
   omega
  dsimp only[rawInt]
  obtain⟨x,ex,exs⟩:=hpl i _ (Array.getElem?_eq_getElem hi)
  rw[exs]at hx
  injection hx with hx
  subst hx
  obtain⟨oT,hoT,hcT,nT,hdT⟩:=id htp
  refine wpAny_bind ?_
  show wpAny _ _ (load T >>= _) _ _ _
  refine wpAny_bind (wpAny_load hoT ?_)
  rw[hdT]
  refine wpAny_pure ?_
  dsimp only
  have hg:(pl.map fun(j:Nat)=>rawInt j)[(i:Int).toNat]?=some (rawInt (pl[i]:Nat)):=by rw[Int.toNat_natCast,Array.getElem?_map,Array.getElem?_eq_getElem hi];rfl
  rw[hg]
  dsimp only[rawInt]
  unfold setNextDrawn
  refine wpAny_bind (wpAny_bind (wpAny_setState_of ho hd hf ?_))
  dsimp only
  rw[if_neg (by simp)]
  rw[Int.toNat_natCast,ex]
  refine wpAny_pure ?_
  refine wpAny_bind (wpAny_setField hoi hdi (by simp) ?_)
  have hsb:=Heap.SameBut.update s.heap it (Obj.mapFields fun x=>x.setIfInBounds 1 (rawInt ((i:Int)+1)))
  refine wpAny_pure ⟨_,rfl,wpAny_pure (hQ _ (.ref T) ⟨_,Heap.get?_update_self _ hoi (Obj.isFreed_of_fields (Obj.data_mapFields hdi _)),(Obj.cls_mapFields ..).trans hci,by rw[Obj.data_mapFields hdi];simp[rawInt]⟩ hsb (.inr (.inr ⟨hb,T,pl,rfl,mm' htp fun o e=>(hsb.2 T (hT T rfl)).trans e,hsz,hpl⟩)) fun T' z=>z)⟩
end
end PySem
namespace PySem
open PyProof.Rows
section
variable {prog:Program} {w:World} {A:Around} {E:Value->Shared->Prop} {s:Shared}
theorem oY' {it d:Addr} {o:Obj} {f:Value} {ep:Nat} {es:Array (Int×Value)} {t:SetTable} {xs:Array Value} {Q:Option Value->Shared->Prop} (hh:A.handled=none) (hit:s.heap.IsSti it d f es.size es.size ep) (ho:s.heap.get? d=some o) (hd:o.data=.set es ep t)
  (hf:t.fits es.size=true) (htk:TOk (w.params.followText "set-order") t) (hor:Ord (w.params.followText "set-order") w d ep es t xs s.heap f es.size) (hsx:xs.size=es.size)
  (hQ:∀h',Heap.ExtBut it s.heap h'->Q none { s with heap:=h' }):wpAny (model prog w) A (pyNext (.ref it)) Q E s:=by
 obtain⟨oi,hoi,hci,hdi⟩:=id hit
 have hfz:t.place.size=es.size:=by
  simp only[SetTable.fits,Bool.and_eq_true,beq_iff_eq]at hf
  exact hf.1
 unfold pyNext
 refine wpAny_bind (wpAny_attempt (wpAny_callSpecial?_slot (name:=Str.ofString "__next__") hit.typeIs F.ax' (wpAny_call_entry F.ax' hit.typeIs F.bZ' ?_ (F.bI' _))))
 unfold Builtin.«set_iterator.__next__»
 refine wpAny_bind (wpAny_of_eq (a:=(Value.ref it,[])) rfl ?_)
 dsimp only
 refine wpAny_bind (wpAny_fieldsOf hoi hdi ?_)
 dsimp only[rawInt]
 refine wpAny_bind (wpAny_setEntries_of ho hd hf ?_)
 rw[if_neg (by simp)]
 rcases id hor with⟨hb,rfl,hxs⟩|⟨hb,hdr,hrs,rfl,hxs⟩|⟨hb,T,pl,rfl,htp,hsz,hpl⟩
 .dsimp only[rawInt]
  unfold setNext
  refine wpAny_bind (wpAny_bind (wpAny_setState_of ho hd hf ?_))
  dsimp only
  unfold setsByText
  refine wpAny_bind (wpAny_bind (wpAny_askSetting (wpAny_pure ?_)))
  show wpAny _ _ (if w.params.followText "set-order"=true then _ else _) _ _ _
  rw[if_pos hb]
  rw[if_neg (by simp)]
  unfold setWalk
  refine wpAny_bind (wpAny_bind (wpAny_setState_of ho hd hf ?_))
  dsimp only
  unfold setsByText
  refine wpAny_bind (wpAny_bind (wpAny_askSetting (wpAny_pure ?_)))
  show wpAny _ _ (if w.params.followText "set-order"=true then _ else _) _ _ _
  rw[if_pos hb]
  refine wpAny_bind (wpAny_askSetting (wpAny_pure ?_))
  have hp:(pickOrder (w.params.setOrder d ep) es)[es.size]?=none:=by
   rw[hxs,Array.size_map]at hsx
   exact Array.getElem?_eq_none_iff.mpr (Nat.le_of_eq hsx)
  show wpAny _ _ (pure (Option.map (fun e=>(e.2,(0:Int).toNat)) (pickOrder (w.params.setOrder d ep) es)[(es.size:Int).toNat]?)) _ _ _
  rw[Int.toNat_natCast,hp]
  refine wpAny_pure ?_
  dsimp only[Option.map]
  refine wpAny_bind (wpAny_setField hoi hdi (by simp) ?_)
  have k:Heap.ExtBut it s.heap (s.heap.update it (Obj.mapFields fun x=>x.setIfInBounds 2 Value.none)):=(Heap.SameBut.update ..).extBut
  refine wpAny_bind ?_
  simp only[newExc,newTuple]
  refine wpAny_bind (wpAny_newObj_type ?_ (by size_fits))
  refine wpAny_bind (m:=firstArgMember _ _) (wpAny_of_eq (a:=Value.none) (by first|rfl|(simp only[firstArgMember];rfl)) ?_)
  refine wpAny_newObj_type ?_ (by size_fits)
  simp only[raiseNew]
  refine wpAny_bind (wpAny_handled ?_)
  first|rw[show A.in1.handled=none from hh]|rw[hh]
  refine wpAny_bind (wpAny_pure (wpAny_throw ?_))
  refine wpAny_bind (wpAny_isInstance (T:="StopIteration") (b:=true) ⟨_,Heap.get?_push_size _ rfl,rfl⟩ isSubtype_stop ?_)
  exact wpAny_pure (hQ _ fun b o hb e=>((Heap.ExtBut.refl _ _).push _ |>.push _) b o hb (k b o hb e))
 .dsimp only[rawInt]
  unfold setNext
  refine wpAny_bind (wpAny_bind (wpAny_setState_of ho hd hf ?_))
  dsimp only
  unfold setsByText
  refine wpAny_bind (wpAny_bind (wpAny_askSetting (wpAny_pure ?_)))
  show wpAny _ _ (if w.params.followText "set-order"=true then _ else _) _ _ _
  rw[if_neg (by rw[hb];exact Bool.false_ne_true)]
  show wpAny _ _ (if(!t.plain&&decide (es.size > 1))=true then _ else _) _ _ _
  rw[if_neg (by rw[hdr];exact Bool.false_ne_true)]
  have hled:t.led=true:=by
   rcases htk with z|z
   .rw[hb]at z;cases z
   .exact z.1
  refine wpAny_bind ?_
  show wpAny _ _ (if(!t.led&&!es.isEmpty)=true then _ else _) _ _ _
  rw[if_neg (by rw[hled];simp)]
  refine wpAny_pure ?_
  rw[show(if es.size=0 then(0:Int)else((t.place.getD (es.size-1) 0+1:Nat):Int))=(if t.place.size=0 then(0:Int)else((t.place.getD (t.place.size-1) 0+1:Nat):Int)) by rw[hfz]]
  rw[dO' hrs (Nat.le_refl _),hfz]
  rw[Array.getElem?_eq_none_iff.mpr (Nat.le_refl es.size)]
  refine wpAny_pure ?_
  dsimp only
  refine wpAny_bind (wpAny_setField hoi hdi (by simp) ?_)
  have k:Heap.ExtBut it s.heap (s.heap.update it (Obj.mapFields fun x=>x.setIfInBounds 2 Value.none)):=(Heap.SameBut.update ..).extBut
  refine wpAny_bind ?_
  simp only[newExc,newTuple]
  refine wpAny_bind (wpAny_newObj_type ?_ (by size_fits))
  refine wpAny_bind (m:=firstArgMember _ _) (wpAny_of_eq (a:=Value.none) (by first|rfl|(simp only[firstArgMember];rfl)) ?_)
  refine wpAny_newObj_type ?_ (by size_fits)
  simp only[raiseNew]
  refine wpAny_bind (wpAny_handled ?_)
  first|rw[show A.in1.handled=none from hh]|rw[hh]
  refine wpAny_bind (wpAny_pure (wpAny_throw ?_))
  refine wpAny_bind (wpAny_isInstance (T:="StopIteration") (b:=true) ⟨_,Heap.get?_push_size _ rfl,rfl⟩ isSubtype_stop ?_)
  exact wpAny_pure (hQ _ fun b o hb e=>((Heap.ExtBut.refl _ _).push _ |>.push _) b o hb (k b o hb e))
 .dsimp only[rawInt]
  obtain⟨oT,hoT,hcT,nT,hdT⟩:=id htp
  refine wpAny_bind ?_
  show wpAny _ _ (load T >>= _) _ _ _
  refine wpAny_bind (wpAny_load hoT ?_)
  rw[hdT]
  refine wpAny_pure ?_
  dsimp only
  have hg:(pl.map fun(j:Nat)=>rawInt j)[(es.size:Int).toNat]?=none:=by rw[Int.toNat_natCast];exact Array.getElem?_eq_none_iff.mpr (by rw[Array.size_map];omega)
  rw[hg]
  dsimp only
  refine wpAny_bind (wpAny_setField hoi hdi (by simp) ?_)
  refine wpAny_bind (wpAny_setField (Heap.get?_update_self _ hoi (Obj.isFreed_of_fields (Obj.data_mapFields hdi _))) (Obj.data_mapFields hdi _) (by simp) ?_)
  have k:Heap.ExtBut it s.heap ((s.heap.update it (Obj.mapFields fun x=>x.setIfInBounds 0 (rawInt 0))).update it (Obj.mapFields fun x=>x.setIfInBounds 2 Value.none)):=fun b o hb e=>
   (Heap.SameBut.update ..).extBut b o hb ((Heap.SameBut.update ..).extBut b o hb e)
  refine wpAny_bind ?_
  simp only[newExc,newTuple]
  refine wpAny_bind (wpAny_newObj_type ?_ (by size_fits))
  refine wpAny_bind (m:=firstArgMember _ _) (wpAny_of_eq (a:=Value.none) (by first|rfl|(simp only[firstArgMember];rfl)) ?_)
  refine wpAny_newObj_type ?_ (by size_fits)
  simp only[raiseNew]
  refine wpAny_bind (wpAny_handled ?_)
  first|rw[show A.in1.handled=none from hh]|rw[hh]
  refine wpAny_bind (wpAny_pure (wpAny_throw ?_))
  refine wpAny_bind (wpAny_isInstance (T:="StopIteration") (b:=true) ⟨_,Heap.get?_push_size _ rfl,rfl⟩ isSubtype_stop ?_)
  exact wpAny_pure (hQ _ fun b o hb e=>((Heap.ExtBut.refl _ _).push _ |>.push _) b o hb (k b o hb e))
theorem eX' {α:Type}:∀(n:Nat) (l:List α) (s:Shared) (Q:List α->Shared->Prop),n=l.length->(∀l' d,l'.Perm l->Q l' { s with drawn:=d })->wpAny (model prog w) A (drawOrder n l) Q E s
 |0,l,s,Q,e,h=>by
  have:l=[]:=List.length_eq_zero_iff.mp e.symm
  subst this
  unfold drawOrder
  exact wpAny_pure (h [] s.drawn (List.Perm.refl _))
 |n+1,[],s,Q,e,h=>by simp at e
 |n+1,x :: l,s,Q,e,h=>by
  unfold drawOrder
  have hch:∀(k:Nat->Sem (List α)),(∀i,i<(x :: l).length->∀d,wpAny (model prog w) A (k i) Q E { s with drawn:=d })->wpAny (model prog w) A (choose .order (x :: l).length >>= k) Q E s:=by
   intro k hk Γ p hΓ
   show Sem.wp _ Γ (.choose .order (x :: l).length fun i=>k i) _ _ p s
   rw[Sem.wp_choose]
   exact⟨by simp,hk _ (Nat.mod_lt _ (by simp)) _ Γ p hΓ⟩
  refine hch _ fun i hi d=>?_
  rw[List.getElem?_eq_getElem hi]
  dsimp only
  refine wpAny_bind (eX' n _ _ _ (by rw[List.length_eraseIdx_of_lt hi];omega) fun l' d' hp=>wpAny_pure ?_)
  exact h _ d' ((hp.cons _).trans (ee' _ _ hi))
end
end PySem
namespace PySem
open PyProof.Rows
theorem gk' {bt:Bool} {w:World} {d ep:Nat} {es:Array (Int×Value)} {t:SetTable} {xs:Array Value} {h h':Heap} {f:Value} {i:Nat} (x:Ord bt w d ep es t xs h f i) (k:∀T,f=.ref T->∀o,h.get? T=some o->h'.get? T=some o):Ord bt w d ep es t xs h' f i:=by
 rcases x with z|z|⟨z,T,pl,e,ht,r⟩
 .exact .inl z
 .exact .inr (.inl z)
 .exact .inr (.inr ⟨z,T,pl,e,mm' ht (k T e),r⟩)
section
variable {prog:Program} {w:World}
def oZ' (w:World) (I D:Addr) (o:Obj) (TL:List Addr) (es:Array (Int×Value)) (ep:Nat) (t:SetTable) (xs:Array Value) (i:Nat) (s:Shared):Prop:=
 s.heap.get? D=some o/\∃f,s.heap.IsSti I D f i es.size ep/\Ord (w.params.followText "set-order") w D ep es t xs s.heap f i/\∀T,f=.ref T->T∈TL
theorem jg' {A:Around} (hh:A.handled=none) {I D:Addr} {o:Obj} {TL:List Addr} {es:Array (Int×Value)} {ep:Nat} {t:SetTable} {xs:Array Value} (hne:D≠I) (hTL:I∉TL) (hd:o.data=.set es ep t) (hf:t.fits es.size=true) (htk:TOk (w.params.followText "set-order") t) (hsx:xs.size=es.size):
  WalksS prog w A I (I :: D :: TL) [I] Eq es.size (fun i v=>xs[i]?=some v) (oZ' w I D o TL es ep t xs) where
 sub:=fun b hb=>by simp at hb;simp[hb]
 grefl:=fun _=>rfl
 gtrans:=fun _ _ _=>Eq.trans
 frame:=fun _ _ _ _ x _ hk=>by
  obtain⟨ho,f,hi,hor,hT⟩:=x
  exact⟨hk D (by simp) o ho,f,hi.at fun o e=>hk I (by simp) o e,gk' hor fun T e o eo=>hk T (by simp[hT T e]) o eo,hT⟩
 item:=fun i s Q E hi x hQ=>by
  obtain⟨ho,f,hit,hor,hT⟩:=x
  have hx:xs[i]?=some (xs[i]'(by omega)):=Array.getElem?_eq_getElem (by omega)
  refine li' hit hne (fun T e z=>hTL (z ▸ hT T e)) ho hd hf htk hor hx fun h' f' hit' hs' hor' hff=>?_
  exact hQ _ _ hx ⟨(hs'.2 D hne).trans ho,f',hit',hor',fun T e=>hT T (hff T e)⟩ ⟨fun b o hb eo=>hs'.extBut b o (fun z=>hb (by simp[z])) eo,rfl,rfl,rfl,Nat.le_refl _⟩
 done:=fun s Q E x hQ=>by
  obtain⟨ho,f,hit,hor,hT⟩:=x
  exact oY' hh hit ho hd hf htk hor hsx fun h' he'=>hQ _ ⟨fun b o hb eo=>he' b o (fun z=>hb (by simp[z])) eo,rfl,rfl,rfl,Nat.le_refl _⟩
 self:=fun _ _ _ _ x hQ=>by
  obtain⟨ho,f,hit,hor,hT⟩:=x
  exact lh' hit hQ
variable {A:Around} {E:Value->Shared->Prop} {s:Shared}
theorem hO' {D:Addr} {o:Obj} {es:Array (Int×Value)} {ep:Nat} {t:SetTable} {Q:Value->Shared->Prop} (ho:s.heap.get? D=some o) (hc:o.ExactSet) (hd:o.data=.set es ep t) (hf:t.fits es.size=true) (htk:TOk (w.params.followText "set-order") t) (hz:es.size<=sizeLine)
  (hQ:∀s' I TL xs,(∀b o,s.heap.get? b=some o->s'.heap.get? b=some o)->s'.gens=s.gens->s'.os=s.os->s.toks<=s'.toks->s.heap.objs.size<=s'.heap.objs.size->(∀b∈I :: TL,s.heap.objs.size<=b/\b<s'.heap.objs.size)->I∉TL->xs.size=es.size->xs.toList.Perm (es.toList.map (·.2))->oZ' w I D o TL es ep t xs 0 s'->Q (.ref I) s'):
  wpAny (model prog w) A (pyIter (.ref D)) Q E s:=by
 have hT:s.TypeIs (.ref D) "set":=⟨o,ho,hc.1⟩
 have hlD:D<s.heap.objs.size:=Heap.lt_size ho
 refine wpAny_pyIter_slot hT F.slot_set_iter (wpAny_call_entry F.slot_set_iter hT F.dk' ?_ (F.args_set_iter_1 _))
 unfold Builtin.«frozenset.__iter__»
 refine wpAny_bind (wpAny_of_eq (a:=D) rfl ?_)
 dsimp only
 refine wpAny_bind ?_
 unfold Builtin.Frozenset.sizeOf
 refine wpAny_bind (wpAny_setEntries_of ho hd hf (wpAny_pure ?_))
 unfold setDrawn
 refine wpAny_bind (wpAny_bind (wpAny_setState_of ho hd hf ?_))
 dsimp only
 unfold setsByText
 refine wpAny_bind (wpAny_bind (wpAny_askSetting (wpAny_pure (wpAny_pure ?_))))
 have tail:∀(f:Value) (s1:Shared) (TL:List Addr) (xs:Array Value) (Q':Fin->Shared->Prop),s1.heap.get? D=some o->(∀b o,s.heap.get? b=some o->s1.heap.get? b=some o)->s1.gens=s.gens->s1.os=s.os->s1.toks=s.toks->s.heap.objs.size<=s1.heap.objs.size->(∀b∈TL,s.heap.objs.size<=b/\b<s1.heap.objs.size)->
   xs.size=es.size->xs.toList.Perm (es.toList.map (·.2))->Ord (w.params.followText "set-order") w D ep es t xs s1.heap f 0->(∀T,f=.ref T->T∈TL)->
   (∀v s',Q v s'->s'.TypeIs v "set_iterator"->Q' (.done (.ret v)) s')->
   wpAny (model prog w) A.in1 (do ret (<- newFields "set_iterator" [f,rawInt 0,.ref D,rawInt es.size,rawInt (<- setEpoch D)])) Q' E s1:=by
  intro f s1 TL xs Q' h1 h2 h3 h4 h5 h6 h7 h8 h9 h10 h11 h12
  refine wpAny_bind (wpAny_setEpoch_of h1 hd hf ?_)
  unfold newFields
  refine wpAny_bind (wpAny_newObj_type ?_ (by size_fits))
  refine wpAny_pure (h12 _ _ ?_ ⟨_,Heap.get?_push_size _ rfl,rfl⟩)
  refine hQ _ s1.heap.objs.size TL xs (fun b o e=>Heap.get?_push_of_some _ (h2 b o e)) h3 h4 (Nat.le_of_eq h5.symm) (by show _<=(s1.heap.push _).objs.size;rw[Heap.size_push];exact Nat.le_succ_of_le h6) (fun b hb=>?_) (fun z=>Nat.lt_irrefl _ (h7 _ z).2) h8 h9 ⟨Heap.get?_push_of_some _ h1,f,⟨_,Heap.get?_push_size _ rfl,rfl,rfl⟩,gk' h10 fun T e o eo=>Heap.get?_push_of_some _ eo,h11⟩
  show _/\b<(s1.heap.push _).objs.size
  rw[Heap.size_push]
  rcases List.mem_cons.mp hb with rfl|hb
  .exact⟨h6,Nat.lt_succ_self _⟩
  .exact⟨(h7 b hb).1,Nat.lt_succ_of_lt (h7 b hb).2⟩
 show wpAny _ _ (if(!(w.params.followText "set-order")&&(!t.plain&&decide (es.size > 1)))=true then _ else _) _ _ _
 cases hb:w.params.followText "set-order" with
 |true=>
  rw[if_neg (by simp)]
  refine wpAny_bind (wpAny_pure ?_)
  refine tail (rawInt 0) s [] ((pickOrder (w.params.setOrder D ep) es).map (·.2)) _ ho (fun _ _ e=>e) rfl rfl rfl (Nat.le_refl _) (fun b z=>nomatch z) ?_ ?_ ?_ (fun T z=>nomatch z) fun v s' q ty=>⟨_,rfl,"set_iterator",_,ty,F.ax'.lookup,q⟩
  .rw[Array.size_map,<- Array.length_toList,(eW' _ _).length_eq,Array.length_toList]
  .rw[Array.toList_map]
   exact(eW' _ _).map _
  .rw[hb]
   exact .inl ⟨rfl,rfl,rfl⟩
 |false=>
  cases hdr:(!t.plain&&decide (es.size > 1))with
  |false=>
   rw[if_neg (by simp)]
   refine wpAny_bind (wpAny_pure ?_)
   refine tail (rawInt 0) s [] (es.map (·.2)) _ ho (fun _ _ e=>e) rfl rfl rfl (Nat.le_refl _) (fun b z=>nomatch z) ?_ ?_ ?_ (fun T z=>nomatch z) fun v s' q ty=>⟨_,rfl,"set_iterator",_,ty,F.ax'.lookup,q⟩
   .rw[Array.size_map]
   .rw[Array.toList_map]
   .rw[hb]
    refine .inr (.inl ⟨rfl,hdr,?_,rfl,rfl⟩)
    rcases htk with z|z
    .rw[hb]at z;cases z
    .exact z.2
  |true=>
   rw[if_pos (by simp)]
   refine wpAny_bind (eX' _ _ _ _ (by simp) fun l' d hp=>?_)
   unfold newTuple
   refine wpAny_bind ?_
   refine wpAny_newObj_type ?_ (by show(List.map _ l').toArray.size<=_;rw[List.size_toArray,List.length_map,hp.length_eq,List.length_range];exact hz)
   have hin:∀p∈l',p<es.size:=fun p z=>List.mem_range.mp (hp.mem_iff.mp z)
   have hln:l'.length=es.size:=by rw[hp.length_eq,List.length_range]
   let xs:List Value:=l'.map fun p=>(es.getD p (0,.none)).2
   refine tail (.ref s.heap.objs.size) _ [s.heap.objs.size] xs.toArray _ (Heap.get?_push_of_some _ ho) (fun _ _ e=>Heap.get?_push_of_some _ e) rfl rfl rfl ?_ (fun b z=>?_) ?_ ?_ ?_ (fun T z=>by injection z with z;simp[z]) fun v s' q ty=>⟨_,rfl,"set_iterator",_,ty,F.ax'.lookup,q⟩
   .show _<=(s.heap.push _).objs.size
    rw[Heap.size_push]
    exact Nat.le_succ _
   .rw[List.mem_singleton]at z
    subst z
    show _/\_<(s.heap.push _).objs.size
    rw[Heap.size_push]
    exact⟨Nat.le_refl _,Nat.lt_succ_self _⟩
   .rw[List.size_toArray,List.length_map,hln]
   .show(l'.map fun p=>(es.getD p (0,.none)).2).Perm _
    refine(hp.map _).trans (List.Perm.of_eq ?_)
    apply List.ext_getElem?
    intro j
    rw[List.getElem?_map,List.getElem?_map]
    by_cases hj:j<es.size
    .rw[List.getElem?_range hj,List.getElem?_eq_getElem (show j<es.toList.length by rw[Array.length_toList];exact hj)]
     simp[Array.getD,hj]
    .rw[List.getElem?_eq_none (by simpa using hj),List.getElem?_eq_none (by rw[Array.length_toList];omega)]
     rfl
   .rw[hb]
    refine .inr (.inr ⟨rfl,s.heap.objs.size,l'.toArray,rfl,⟨_,Heap.get?_push_size _ rfl,rfl,0,?_⟩,?_,fun j p e=>?_⟩)
    .show Data.seq _ _=_
     congr 1
     simp
    .rw[List.size_toArray,List.size_toArray,List.length_map]
    .rw[List.getElem?_toArray]at e
     have hp':=hin p (List.mem_of_getElem? e)
     refine⟨_,Array.getElem?_eq_getElem hp',?_⟩
     rw[List.getElem?_toArray]
     show(List.map _ l')[j]?=_
     rw[List.getElem?_map,e]
     simp[Array.getD,hp']
theorem ef' {D:Addr} {o:Obj} {es:Array (Int×Value)} {ep:Nat} {t:SetTable} {Q:List Value->Shared->Prop} (hh:A.handled=none) (ho:s.heap.get? D=some o) (hc:o.ExactSet) (hd:o.data=.set es ep t) (hf:t.fits es.size=true) (htk:TOk (w.params.followText "set-order") t) (hz:es.size<=sizeLine)
  (hQ:∀s' xs,(∀b o,s.heap.get? b=some o->s'.heap.get? b=some o)->s'.gens=s.gens->s'.os=s.os->s.toks<=s'.toks->s.heap.objs.size<=s'.heap.objs.size->xs.Perm (es.toList.map (·.2))->Q xs s'):wpAny (model prog w) A (collect (.ref D)) Q E s:=by
 have hlD:D<s.heap.objs.size:=Heap.lt_size ho
 have hSD:s.heap.objs.size≠D:=Nat.ne_of_gt hlD
 unfold collect
 refine wpAny_bind (wpAny_runValue (codeAny_builtin F.entry_proto_collect ?_))
 rw[Around.under_plainId F.plain_proto_collect _]
 show wpAny _ A.in1 (newList [] >>= fun l=>again (.builtin "list.__iadd__" ⟨[l,.ref D],[]⟩)) _ _ s
 refine wpAny_bind (wpAny_newObj_type ?_)
 refine wpAny_pure ⟨plainId_quiet F.plain_list_iadd _,codeAny_builtin F.entry_list_iadd ?_⟩
 rw[Around.under_plainId F.plain_list_iadd _]
 generalize hlo:({ cls:=.type "list",data:=.seq ([]:List Value).toArray }:Obj)=lo
 have hT1:Shared.TypeIs { s with heap:=s.heap.push lo } (.ref D) "set":=⟨o,Heap.get?_push_of_some _ ho,hc.1⟩
 have hS1:(s.heap.push lo).get? s.heap.objs.size=some lo:=Heap.get?_push_size _ (by rw[<- hlo];rfl)
 have h1:Builtin.List.listSameRef (.ref s.heap.objs.size) (.ref D)=false:=by simp[Builtin.List.listSameRef,hSD]
 show wpAny _ A.in1 (Builtin.List.listExtendWith (.ref s.heap.objs.size) (.ref D) (.ref s.heap.objs.size)) _ _ _
 unfold Builtin.List.listExtendWith
 refine wpAny_bind (wpAny_typeOf hT1 ?_)
 rw[if_neg (by rw[h1];decide)]
 refine wpAny_bind (hO' (s:={ s with heap:=s.heap.push lo }) (Heap.get?_push_of_some _ ho) hc hd hf htk hz fun s1 I TL xs k1 k2 k3 k4 k5 k6 k7 k8 k9 k10=>?_)
 have hT2:s1.TypeIs (.ref D) "set":=⟨o,k1 D o (Heap.get?_push_of_some _ ho),hc.1⟩
 refine wpAny_bind (wpAny_holding ?_)
 unfold Builtin.List.listLengthHint
 refine wpAny_bind (wpAny_specialOf hT2 F.slot_set_len.lookup ?_)
 dsimp only
 (generalize hid:("set.__len__":String)=id0;(fail_if_success (clear hid id0));rw[show splitId id0=some ("set","__len__") from by subst hid;decide +kernel];subst hid)
 dsimp only
 refine wpAny_bind (wpAny_isInstance (b:=true) hT2 (by rw[isSubtype_type];kernel_rfl) ?_)
 rw[if_neg (by decide),if_pos (by decide +kernel)]
 refine wpAny_bind (wpAny_typeOf hT2 (wpAny_pure ?_))
 rw[if_pos (by decide)]
 refine wpAny_bind (wpAny_rule ?_)
 refine wpAny_bind ?_
 have hSs:s1.heap.get? s.heap.objs.size=some lo:=k1 _ _ hS1
 have hsq:lo.data=.seq #[] 0:=by rw[<- hlo]
 have hsz1:(s.heap.push lo).objs.size=s.heap.objs.size+1:=Heap.size_push ..
 show wpAny _ A.in1 (updateSeq s.heap.objs.size (·.push .none) >>= fun _=>updateSeq s.heap.objs.size (·.pop)) _ _ _
 refine wpAny_bind (wpAny_updateSeq hSs hsq ?_)
 have hS2:=Heap.get?_update_self (Obj.mapSeq (·.push Value.none)) hSs (by rw[<- hlo];rfl)
 refine wpAny_updateSeq hS2 (by rw[<- hlo];rfl) ?_
 have hS3:=Heap.get?_update_self (Obj.mapSeq (·.pop)) hS2 (by rw[<- hlo];rfl)
 have oth:∀b o,b≠s.heap.objs.size->s1.heap.get? b=some o->((s1.heap.update s.heap.objs.size (Obj.mapSeq (·.push Value.none))).update s.heap.objs.size (Obj.mapSeq (·.pop))).get? b=some o:=
  fun b o hb e=>(Heap.get?_update_other _ _ (Ne.symm hb)).trans ((Heap.get?_update_other _ _ (Ne.symm hb)).trans e)
 have k6':∀b∈I :: TL,s.heap.objs.size<b:=fun b hb=>by
  have:=(k6 b hb).1
  rw[show(Shared.heap { s with heap:=s.heap.push lo }).objs.size=s.heap.objs.size+1 from hsz1]at this
  exact this
 have hID:D≠I:=fun e=>Nat.lt_irrefl _ (Nat.lt_trans hlD (e ▸ k6' I (by simp)))
 have hfp:s.heap.objs.size∉I :: D :: TL:=fun hm=>by
  have big:∀b∈I :: TL,s.heap.objs.size≠b:=fun b hb e=>Nat.lt_irrefl _ (e ▸ k6' b hb)
  simp only[List.mem_cons]at hm
  rcases hm with e|e|e
  .exact big I (by simp) e
  .exact hSD e
  .exact big _ (List.mem_cons_of_mem _ e) rfl
 have W:WalksS prog w A.in1 I (I :: D :: TL) [I] Eq es.size (fun i v=>xs[i]?=some v) (oZ' w I D o TL es ep t xs):=jg' (A:=A.in1) hh hID k7 hd hf htk k8
 have k11:=W.frame 0 s1 _ s1.toks k10 (Nat.le_refl _) fun b hb o e=>oth b o (fun z=>hfp (z ▸ hb)) e
 refine wpAny_pure ⟨plainId_quiet F.plain_extend_loop _,codeAny_extend_loopS W hz _ hfp _ es.size 0 _ _ _ rfl (Nat.zero_le _) k11 (by rw[hS3,<- hlo];rfl) (ItemsOf.nil _) fun s' acc' c' hm hS' hacc=>?_⟩
 show wpAny _ A (load s.heap.objs.size >>= _) _ _ s'
 refine wpAny_bind (wpAny_load hS' (wpAny_pure ?_))
 have eacc:acc'.toList=xs.toList:=by
  obtain⟨hl,hp⟩:=hacc
  apply List.ext_getElem?
  intro j
  by_cases hj:j<es.size
  .have h2:acc'[j]?=some (acc'[j]'(by omega)):=Array.getElem?_eq_getElem (by omega)
   rw[Array.getElem?_toList,Array.getElem?_toList,h2,<- hp j _ h2]
  .rw[List.getElem?_eq_none (by rw[Array.length_toList];omega),List.getElem?_eq_none (by rw[Array.length_toList];omega)]
 have hlt:s.heap.objs.size<s'.heap.objs.size:=Heap.lt_size hS'
 refine hQ s' _ (fun b o e=>?_) ?_ ?_ ?_ (Nat.le_of_lt hlt) (by rw[eacc];exact k9)
 .have hb:b≠s.heap.objs.size:=Nat.ne_of_lt (Heap.lt_size e)
  refine hm.heap b o ?_ (oth b o hb (k1 b o (Heap.get?_push_of_some _ e)))
  simp only[List.mem_cons,List.not_mem_nil,or_false,not_or]
  refine⟨hb,fun z=>?_⟩
  exact Nat.lt_irrefl _ (Nat.lt_trans (Heap.lt_size e) (z ▸ k6' I (by simp)))
 .have:=hm.gens;exact this.symm.trans k2
 .exact hm.os.trans k3
 .exact Nat.le_trans k4 hm.toks
end
end PySem
namespace L2
open PySem PySem.Spec PyProof.Rows
noncomputable def dl' {α:Type} (own:List Nat) (wi:TI) (g:TG) (tc:TT) (au':TL α) (a0:α) (ho:Addr->α->HO) (ok:α->Hp->Prop):TE:=fun σ H Q=>wi σ H fun J H1=>aE' own g tc au' J σ a0 H1 fun xs H2=>ok xs H2/\∀p,H2 p=none->Q (.ref p) (upd H2 p (ho p xs))
structure CompInG {α:Type} (Is:α->Obj->Prop) (X:Cx) (e:Expr) (scope:Scope) (tg:Expr) (iter:Expr) (ifs:List Expr) (nx:Addr->Env->Sem Unit) (g:TG) (tc:TT) (au':TL α) (own:List Nat):Prop where
 sc:CompSc X scope
 ow:∀i x,X.N[i]?=some x->(scope.names.lookup x=some .local\/scope.names.lookup x=some .cell)->i∈own
 cl:∃gs,clausesOf e=⟨tg,iter,ifs,0⟩ :: gs
 fs:∀x,foldedSetIterable iter X.env x=pure x
 calm:X.calm=true
 q:∀it D env,(Code.compLoop e 0 it (.ref D) env).quiet=true/\(Code.compStart e 0 it (.ref D) env).quiet=true
 u:∀A it D env,Around.under A (Code.compLoop e 0 it (.ref D) env)=A/\Around.under A (Code.compStart e 0 it (.ref D) env)=A
 T:∀P w it D env,(model P w).den (.compLoop e 0 it (.ref D) env)=(aW' e 0 tg iter ifs (nx D env) it (.ref D) env).onRaise (fun x=>do noteFrame x env;theTreesLotGoes x)
 S:∀P w it D env,(model P w).den (.compStart e 0 it (.ref D) env)=(compStart e 0 it (.ref D) env).onRaise (fun x=>do noteFrame x env;standAt theWindowsPlace)
 ge:pV' own g
 inn:∀s0 H0 ex D,PG (X.comp scope s0 H0 ex) tg g/\PTs (X.comp scope s0 H0 ex) ifs tc/\∃ws',(∀j∈ws',j∈own)/\bG' (X.comp scope s0 H0 ex) D Is ws' (nx D (X.comp scope s0 H0 ex).env) au'
section
variable {X:Cx} {e:Expr} {scope:Scope} {tg iter:Expr} {ifs:List Expr} {nx:Addr->Env->Sem Unit} {g:TG} {tc:TT} {α:Type} {Is:α->Obj->Prop} {au':TL α} {own:List Nat} {wi:TI} {a0:α} {o0:Bool->Obj} {newAcc:Sem Value} {ho:Addr->α->HO} {ok:α->Hp->Prop}
theorem eY' (hnew:∀(s:Shared) (Q:Value->Shared->Prop),(∀led,Q (.ref s.heap.objs.size) { s with heap:=s.heap.push (o0 led) })->wpAny (model X.prog X.w) X.A newAcc Q X.xe s) (hfr:∀led,(o0 led).isFreed=false) (ha0:∀led,Is a0 (o0 led)) (hda:∀(a:α) (o:Obj),Is a o->∀v:Option Value,o.data≠.cell v) (C:CompInG Is X e scope tg iter ifs nx g tc au' own) (hi:PI X tg iter wi) {pins:List (Addr×Obj)} {s:Shared} {σ:St} {H:Hp} {R:V->Hp->Prop} (I:Inv X pins σ H s) (hw:dl' own wi g tc au' a0 ho ok σ H R)
  {use:Option (Value->Sem Unit)} {Q:Value->Shared->Prop} {pos:Pos}
  (fin:∀(s3 s':Shared) (H0 H':Hp) (ex:List Addr) (D:Addr) (xs:α) (o:Obj) (σ':St),Inv X pins σ H0 s3->(∀b∈ex,cr' X pins H0 b)->Inv (X.comp scope s3 H0 ex) [] σ' H' s'->s'.heap.get? D=some o->D<s3.heap.objs.size->X.s₀.heap.objs.size<=D->cr' X pins H0 D->(D == sysModules)=false->Is xs o->H' D=none->ok xs H'->R (.ref D) (upd H' D (ho D xs))->
   compPost (model X.prog X.w) X.A X.xe use Q (.ref D) s3.heap.objs.size (.ok .next) s'):
  wpAny (model X.prog X.w) X.A (comprehension e scope X.env pos newAcc false (eval iter X.env) use) Q X.xe s:=by
 obtain⟨gs,hcl⟩:=C.cl
 refine wpAny_comprehension_free hcl C.fs (iF' fun n hn=>I.ok.has n (C.sc.free n hn)) C.sc.kind C.sc.names ?_
 refine thn (hi pins s σ H _ I hw) fun v s1 h1=>thn h1 fun itv s2 h2=>?_
 obtain⟨it,fp,tn,J,H2,rfl,I2,T,st2,f2,hc⟩:=h2
 refine hnew _ _ fun led=>cf' ?_
 have keep:∀b o,s2.heap.get? b=some o->(s2.heap.push (o0 led)).get? b=some o:=fun b o e=>Heap.get?_push_of_some _ e
 have I3:Inv X pins σ H2 { s2 with heap:=s2.heap.push (o0 led) }:=I2.kept (t':=s2.toks) keep
 have hsz:(s2.heap.push (o0 led)).objs.size=s2.heap.objs.size+1:=Heap.size_push ..
 have fD:cr' X pins H2 s2.heap.objs.size:=I2.fpOk (Nat.le_refl _) (I2.hok.fresh (Nat.le_refl _))
 have hlt:∀b∈fp,b<s2.heap.objs.size:=fun b hb=>by
  obtain⟨o,e,_⟩:=T.obj _ _ st2 b hb
  exact Heap.lt_size e
 have hDf:s2.heap.objs.size∉fp:=fun z=>Nat.lt_irrefl _ (hlt _ z)
 have hex:∀b∈s2.heap.objs.size :: fp,cr' X pins H2 b:=fun b hb=>by
  rcases List.mem_cons.mp hb with rfl|hb
  .exact fD
  .exact f2 b hb
 generalize hs3:({ s2 with heap:=s2.heap.push (o0 led) }:Shared)=s3 at *
 have hs3s:s3.heap.objs.size=s2.heap.objs.size+1:=by rw[<- hs3];exact hsz
 have hlt3:∀b∈s2.heap.objs.size :: fp,b<s3.heap.objs.size:=fun b hb=>by
  rw[hs3s]
  rcases List.mem_cons.mp hb with rfl|hb
  .exact Nat.lt_succ_self _
  .exact Nat.lt_succ_of_lt (hlt b hb)
 have J0:=dK' (own:=own) I3 hex hlt3 C.sc C.ow
 obtain⟨c1,c2,ws',c4,c5⟩:=C.inn s3 H2 (s2.heap.objs.size :: fp) s2.heap.objs.size
 have kp:∀b o,s2.heap.get? b=some o->(aO' s3.heap scope.names).get? b=some o:=fun b o e=>pushCells_keeps _ _ b o (Heap.get?_push_of_some _ (by rw[<- hs3];exact keep b o e))
 have oD:(aO' s3.heap scope.names).get? s2.heap.objs.size=some (o0 led):=pushCells_keeps _ _ _ _ (Heap.get?_push_of_some _ (by rw[<- hs3];exact Heap.get?_push_size _ (hfr led)))
 have stat:∀b∈s2.heap.objs.size :: fp,cr' (X.comp scope s3 H2 (s2.heap.objs.size :: fp)) [] H2 b:=fun b hb=>
  ⟨(hex b hb).1,(J0.ok.exf b hb).1,J0.ok.exfs b hb,.inl hb,(J0.ok.exf b hb).2,fun p hp=>absurd (show p∈([]:List (Addr×Obj)) from hp) (by simp)⟩
 have T':Turn (X.comp scope s3 H2 (s2.heap.objs.size :: fp)).prog (X.comp scope s3 H2 (s2.heap.objs.size :: fp)).w (X.comp scope s3 H2 (s2.heap.objs.size :: fp)).K tg J fp it tn:=T
 have hc':aE' own g tc au' J (clr own σ) a0 H2 (fun xs H2=>ok xs H2/\∀p,H2 p=none->R (.ref p) (upd H2 p (ho p xs))):=by
  obtain⟨W,w0,turn⟩:=hc
  refine⟨W,w0,?_⟩
  rw[f7']
  exact turn
 have st3:tn 0 ({ s3 with heap:=aO' s3.heap scope.names }:Shared).heap:=T.keep _ _ _ st2 fun b hb o e=>kp b o e
 have L:=c7' (X:=X.comp scope s3 H2 (s2.heap.objs.size :: fp)) (Is:=Is) (D:=s2.heap.objs.size) rfl C.calm (C.q _ _ _).1 (C.u _ _ _ _).1 (C.T _ _ _ _ _) T' c1 C.ge c2 c5 c4 hda hDf J0
  (fun b hb=>stat b (List.mem_cons_of_mem _ hb)) (stat _ List.mem_cons_self) oD (ha0 led) st3 hc'
 have L2:=d4' (C.q _ _ _).2 (C.u _ _ _ _).2 (fun it'=>(C.q it' _ _).1) (C.S _ _ _ _ _) ⟨_,by rw[hcl];rfl,rfl⟩ L (fun E=>T.self _ 0 _ _ E st3 ⟨rfl,rfl⟩)
 refine codeAny_mono L2 fun r s' h=>?_
 obtain⟨rfl,xs,o',H',J',e',is',n',hN⟩:=h
 exact fin s3 s' H2 H' _ _ xs o' _ I3 hex J' e' (hlt3 _ List.mem_cons_self) I2.sz fD (beq_eq_false_iff_ne.mpr (Nat.ne_of_gt I2.big)) is' n' hN.1 (hN.2 _ n')
end
section
variable {X:Cx} {e:Expr} {scope:Scope} {tg iter:Expr} {ifs:List Expr} {nx:Addr->Env->Sem Unit} {g:TG} {tc:TT} {α:Type} {Is:α->Obj->Prop} {au':TL α} {own:List Nat} {wi:TI} {a0:α} {o0:Bool->Obj} {newAcc:Sem Value} {ho:Addr->α->HO} {ok:α->Hp->Prop}
theorem gl' (hnew:∀(s:Shared) (Q:Value->Shared->Prop),(∀led,Q (.ref s.heap.objs.size) { s with heap:=s.heap.push (o0 led) })->wpAny (model X.prog X.w) X.A newAcc Q X.xe s) (hfr:∀led,(o0 led).isFreed=false) (ha0:∀led,Is a0 (o0 led)) (hda:∀(a:α) (o:Obj),Is a o->∀v:Option Value,o.data≠.cell v)
  (hfin:∀(a:α) (o:Obj) (D:Addr) (H:Hp) (h:Heap),Is a o->h.get? D=some o->(D == sysModules)=false->H D=none->ok a H->HOk X.prog X.w H h->av' X.prog X.w (upd H D (ho D a)) h D (ho D a)) (C:CompInG Is X e scope tg iter ifs nx g tc au' own) (hi:PI X tg iter wi) {pos:Pos} (he:eval e X.env=comprehension e scope X.env pos newAcc false (eval iter X.env)):PE X e (dl' own wi g tc au' a0 ho ok):=by
 intro pins s σ H Q I hw
 rw[he]
 refine eY' hnew hfr ha0 hda C hi I hw fun s3 s' H0 H' ex D xs o σ' I3 hex J e' hlt h0 fD sy is' n' hok' hR=>?_
 obtain⟨m,hn,_⟩:=J.loc
 refine⟨m,hn,fun h' hs=>?_⟩
 have J2:=cM' I3 hex J hs
 have neC:D≠s3.heap.objs.size:=Nat.ne_of_lt hlt
 refine⟨.ref D,upd H' D (ho D xs),J2.track (o:=ho D xs) ⟨n',fD.2⟩ h0 (hfin xs o D H' _ is' ((hs.2 D neC).trans e') sy n' hok' J2.hok),rfl,hR⟩
end
noncomputable def kO:Option Int->V
 |some i=>.int i
 |none=>.non
theorem lj' {P:Program} {w:World} {k:Option Int} {u:Value} (r:ao' (kO k) u):(oX' P w).is k u=true/\u.scannable=true:=by
 cases k with
 |none=>cases r;exact⟨rfl,rfl⟩
 |some i=>
  obtain⟨t,rfl⟩:=r
  exact⟨by show Value.isInt i (.int i t)=true;simp[Value.isInt],rfl⟩
def IsS (a:(Option Int->Bool)×Nat) (o:Obj):Prop:=a.2<=4000/\(∃es ep t,o.data=.set es ep t)/\∃m,m<=a.2/\∀(P:Program) (w:World),o.SetObjOf (oX' P w) a.1 m
noncomputable def tQ' (D:Addr) (S:Option Int->Bool) (n:Nat):HO:=.ext fun h=>∃o,h.get? D=some o/\IsS (S,n) o
section
variable {X:Cx}
theorem mC' {s:Shared} {D:Addr} {a:(Option Int->Bool)×Nat} {o:Obj} (e:s.heap.get? D=some o) (i:IsS a o):∃m,m<=a.2/\s.heap.SetOf (oX' X.prog X.w) D a.1 m:=by
 obtain⟨hn,_,m,hm,h⟩:=i
 exact⟨m,hm,(h X.prog X.w).setOf e (Nat.lt_of_le_of_lt (Nat.le_trans hm hn) (by decide))⟩
noncomputable def tR' (neg:Bool):R2:=fun x y H Q=>∃k D S n,x=kO k/\y=.ref D/\H D=some (tQ' D S n)/\Q (.bl (if neg then !(S k)else S k)) H
theorem rt':OpR X (compareOp .In) (tR' false):=by
 intro pins s σ H x y v u Q I rx ry h
 obtain⟨k,D,S,n,rfl,rfl,hD,q⟩:=h
 cases ry
 obtain⟨o,e,i⟩:=(show av' X.prog X.w H s.heap D (tQ' D S n) from I.hok D _ hD).1
 obtain⟨m,_,hS⟩:=mC' (X:=X) e i
 exact wpAny_inSet_of (lj' rx).1 (lj' (P:=X.prog) (w:=X.w) rx).2 hS ⟨.bl (S k),H,I.tok _,rfl,q⟩
theorem jh':OpR X (compareOp .NotIn) (tR' true):=by
 intro pins s σ H x y v u Q I rx ry h
 obtain⟨k,D,S,n,rfl,rfl,hD,q⟩:=h
 cases ry
 obtain⟨o,e,i⟩:=(show av' X.prog X.w H s.heap D (tQ' D S n) from I.hok D _ hD).1
 obtain⟨m,_,hS⟩:=mC' (X:=X) e i
 exact wpAny_notInSet_of (lj' rx).1 (lj' (P:=X.prog) (w:=X.w) rx).2 hS ⟨.bl (!S k),H,I.tok _,rfl,q⟩
noncomputable def ru' (te:TE):TL ((Option Int->Bool)×Nat):=fun σ a H N=>te σ H fun v H'=>∃k,v=kO k/\a.2<4000/\N (fun j=>a.1 j || decide (j=k),a.2+1) H'
end
section
variable {prog:Program} {w:World} {A:Around} {E:Value->Shared->Prop} {s:Shared}
end
theorem bJ' {α β:Type} {F:α->β->Prop}:∀{xs:List α} {ys:List β} {y:β},Paired F xs ys->y∈ys->∃x∈xs,F x y
 |_,_,_,.nil,h=>by cases h
 |_,_,y,.cons h1 r,h=>by
  rcases List.mem_cons.mp h with rfl|h
  .exact⟨_,List.mem_cons_self,h1⟩
  .obtain⟨x,hx,hf⟩:=bJ' r h
   exact⟨x,List.mem_cons_of_mem _ hx,hf⟩
theorem gm' {X:Cx} {A:Around} {E:Value->Shared->Prop} (s:Shared) (Q:Value->Shared->Prop) (h:∀_led:Bool,Q (.ref s.heap.objs.size) { s with heap:=s.heap.push { cls:=.type "dict",dict:=none,data:=.dict #[] } }):wpAny (model X.prog X.w) A newDict Q E s:=wpAny_newObj_type (h true)
section
variable {X:Cx}
noncomputable def rv' (tk tv:TE):TL (List (Key×V)):=fun σ a H N=>tk σ H fun y H1=>tv σ H1 fun v H2=>∃k,y=kV k/\a.length<sizeLine/\N (fz' a k v) H2
end
noncomputable abbrev KTL:=List (List Key×Addr×V)
def pZ' (P:Program) (w:World) (a:KTL) (o:Obj):Prop:=a.length<=sizeLine/\∃(xs:List (List Key×Addr×Value)) (es:Array DictEntry) (ep:Nat),Paired (fun(p:List Key×Addr×V) (q:List Key×Addr×Value)=>p.1=q.1/\p.2.1=q.2.1/\ao' p.2.2 q.2.2) a xs/\o.ExactDict/\o.data=.dict es ep/\es.toList=xs.map (entryOfKey (tupleKind (aC' P w)))/\(xs.map (·.1)).Nodup
theorem cl' {P:Program} {w:World} (a:KTL) (o:Obj) (h:pZ' P w a o) (v:Option Value):o.data≠.cell v:=by
 obtain⟨_,_,es,ep,_,_,hd,_⟩:=h
 rw[hd]
 exact fun z=>nomatch z
theorem eZ' {P:Program} {w:World} (_led:Bool):pZ' P w [] { cls:=.type "dict",dict:=none,data:=.dict #[] }:=
 ⟨Nat.zero_le _,[],#[],0,.nil,⟨rfl,rfl,rfl⟩,rfl,rfl,List.nodup_nil⟩
def okT (a:KTL) (H:Hp):Prop:=∀x∈a,H x.2.1=some (.tup (x.1.map kV))
noncomputable def plT (a:KTL):List (List Key×V):=a.map fun x=>(x.1,x.2.2)
theorem dP' {H:Hp}:∀{a:KTL} {xs:List (List Key×Addr×Value)},Paired (fun(p:List Key×Addr×V) (q:List Key×Addr×Value)=>p.1=q.1/\p.2.1=q.2.1/\ao' p.2.2 q.2.2) a xs->okT a H->Paired (fun(p:List Key×V) (q:List Key×Addr×Value)=>p.1=q.1/\H q.2.1=some (.tup (p.1.map kV))/\ao' p.2 q.2.2) (plT a) xs
 |_,_,.nil,_=>.nil
 |_,_,.cons h r,ok=>.cons ⟨h.1,by rw[<- h.2.1];exact ok _ List.mem_cons_self,h.2.2⟩ (dP' r fun x hx=>ok x (List.mem_cons_of_mem _ hx))
theorem mD' {P:Program} {w:World} (a:KTL) (o:Obj) (D:Addr) (H:Hp) (h:Heap) (i:pZ' P w a o) (e:h.get? D=some o) (sy:(D == sysModules)=false) (hD:H D=none) (ok:okT a H) (_:HOk P w H h):av' P w (upd H D (.dT (plT a))) h D (.dT (plT a)):=by
 obtain⟨z,xs,es,ep,h1,h2,h3,h4,h5⟩:=i
 refine⟨by unfold plT;rw[List.length_map];exact z,sy,xs,dP' h1 fun x hx=>?_,o,es,ep,e,h2,h3,h4,h5⟩
 rw[ab' (ag' (ok x hx) hD)]
 exact ok x hx
section
variable {X:Cx}
noncomputable def cE' (tk tv:TE):TL KTL:=fun σ a H N=>tk σ H fun y H1=>tv σ H1 fun v H2=>∃(k:List Key) (b:Addr),y=.ref b/\H2 b=some (.tup (k.map kV))/\okT a H2/\(∀x∈a,x.1≠k)/\a.length<sizeLine/\N (a++[(k,b,v)]) H2
theorem e0' {D:Addr} {ke ve:Expr} {tk tv:TE} (hu:X.A.units+1<cLine) (hxe:X.xe=fun _ _=>False) (hk:PE X ke tk) (hv:PE X ve tv):bG' X D (pZ' X.prog X.w) [] (do
   let kv <- eval ke X.env
   let vv <- holding [kv] (eval ve X.env)
   match Value.ref D with
   | .ref d=>do
    standAt { ke.pos with endLine:=ve.pos.endLine,endCol:=ve.pos.endCol }
    holding [kv,vv] (dictSet d kv vv)
   |_=>unsupported "internal:dictcomp") (cE' tk tv):=by
 intro pins s σ H a o N I hD ho hi hq
 have pinD:∀{s1:Shared} {pins1:List (Addr×Obj)} {H1:Hp},Inv X pins1 σ H1 s1->cr' X pins1 H1 D->s1.heap.get? D=some o->Inv X (pins1++bx' [D] s1.heap) σ H1 s1:=fun J f e=>J.pinned (fun b hb=>by
  have z:b=D:=by simpa using hb
  subst z
  exact f) (fun b hb=>by
  have z:b=D:=by simpa using hb
  subst z
  exact⟨o,e,cl' _ _ hi⟩)
 have h1:=hk _ s σ H _ (pinD I hD ho) hq
 rw[hxe]at h1
 refine wpAny_bind (thn h1 fun u s1 ⟨y,H1,J1,r1,hq1⟩=>?_)
 have h2:=hv _ s1 σ H1 _ J1 hq1
 rw[hxe]at h2
 refine wpAny_bind (wpAny_holding (thn h2 fun u2 s2 ⟨v,H2,J2,r2,k,b,ek,eb,ok,nw,z2,n2⟩=>?_))
 subst ek
 cases(show u=Value.ref b from r1)
 have q2:=J2.pin (D,o) (List.mem_append_right _ (List.mem_append_right _ (aK' (by simp) ho)))
 obtain⟨z,xs,es,ep,g1,g2,g3,g4,g5⟩:=hi
 have hxl:=Paired.length g1
 have dd:s2.heap.DictOfH (tupleKind (aC' X.prog X.w)) D xs:=⟨o,es,ep,q2.1,g2,g3,g4,fun x hx=>by
  obtain⟨p,hp,e1,e2,_⟩:=bJ' g1 hx
  rw[<- e1,<- e2]
  exact db' J2.hok (ok p hp),g5⟩
 refine wpAny_bind (wpAny_standAt (wpAny_holding (wpAny_dictSet_heap (hsz:=by rw[<- hxl];exact z) (show X.A.units<cLine from Nat.lt_of_succ_lt hu) (db' J2.hok eb) dd fun h' dd' hs=>?_)))
 obtain⟨_,f1,f2,f3,f4,f5⟩:=hD
 have hnew:∀x∈xs,x.1≠k:=fun x hx e=>by
  obtain⟨p,hp,e1,_⟩:=bJ' g1 hx
  exact nw p hp (e1.trans e)
 rw[storedH_new (by unfold atKey;rw[List.find?_eq_none.mpr (fun x hx=>by simpa using hnew x hx)];rfl)]at dd'
 obtain⟨o',es',ep',d1,d2,d3,d4,d5,d6⟩:=dd'
 have J3:Inv X pins σ H2 { s2 with heap:=h',toks:=s2.toks+(tupleKind (aC' X.prog X.w)).draws k }:=J2.unpinned.turned (it:=D) (t':=s2.toks+(tupleKind (aC' X.prog X.w)).draws k) (fun b o hb e=>(hs.2 b hb).trans e) q2.2.1 f1 f3 f4 f5
 exact⟨σ,_,o',H2,J3,Ext.refl,d1,⟨by rw[List.length_append];exact z2,_,es',ep',Paired.snoc g1 ⟨rfl,rfl,r2⟩,d2,d3,d4,d6⟩,q2.2.1,n2⟩
end
noncomputable def uG' (neg:Bool) (ty td:TE):TE:=fun σ H Q=>ty σ H fun y H1=>td σ H1 fun x H2=>(∃a o,x=.ref a/\kB' H2 a y o/\Q (.bl (if neg then !o.isSome else o.isSome)) H2)\/tR' neg y x H2 Q
section
variable {X:Cx} {o e f i:Expr} {apos cpos:Pos} {td ty tx:TE}
theorem mE' (hu:X.A.units+1<cLine) (hi:PE X i ty) (ho:PE X o td):PC X .In i o (uG' false ty td):=by
 intro pins s σ H Q I h
 refine thn (hi pins s σ H _ I h) fun iv s1 ⟨y,H1,I1,ry,q1⟩=>thn (ho pins s1 σ H1 _ I1 q1) fun u s2 ⟨x,H2,I2,rx,q2⟩=>?_
 rcases q2 with⟨a,ov,ex,g,q2⟩|q2
 .subst ex
  obtain rfl:u=Value.ref a:=rx
  exact wB' hu I2 g ry fun s3 I3=>⟨.bl ov.isSome,H2,I3,rfl,q2⟩
 .exact rt' pins s2 σ H2 y x iv u Q I2 ry rx q2
theorem e3' (hu:X.A.units+1<cLine) (hi:PE X i ty) (ho:PE X o td):PC X .NotIn i o (uG' true ty td):=by
 intro pins s σ H Q I h
 refine thn (hi pins s σ H _ I h) fun iv s1 ⟨y,H1,I1,ry,q1⟩=>thn (ho pins s1 σ H1 _ I1 q1) fun u s2 ⟨x,H2,I2,rx,q2⟩=>?_
 rcases q2 with⟨a,ov,ex,g,q2⟩|q2
 .subst ex
  obtain rfl:u=Value.ref a:=rx
  exact oC' hu I2 g ry fun s3 I3=>⟨.bl (!ov.isSome),H2,I3,rfl,q2⟩
 .exact jh' pins s2 σ H2 y x iv u Q I2 ry rx q2
end
section
variable {X:Cx} {e:Expr} {scope:Scope} {tg iter:Expr} {ifs:List Expr} {nx:Addr->Env->Sem Unit} {g:TG} {tc:TT} {own:List Nat} {wi:TI}
end
section
variable {prog:Program} {w:World} {A:Around} {E:Value->Shared->Prop} {s:Shared}
end
section
variable {X:Cx}
theorem Inv.other {pins:List (Addr×Obj)} {σ:List (Option V)} {H:Hp} {s s':Shared} (I:Inv X pins σ H s) (h1:s'.heap=s.heap) (h2:s'.gens=s.gens) (h3:s'.os=s.os):Inv X pins σ H s':=by
 obtain⟨hp,g,d,t,os⟩:=s'
 cases h1;cases h2;cases h3
 exact⟨I.ok,I.os,I.bare,I.base,I.loc,I.cell,I.free,I.freeC,I.pin,I.hok,I.len⟩
variable {e:Expr} {scope:Scope} {tg iter:Expr} {ifs:List Expr} {nx:Addr->Env->Sem Unit} {g:TG} {tc:TT} {au':TL ((Option Int->Bool)×Nat)} {own:List Nat} {wi:TI}
end
end L2
namespace L2
open PySem PySem.Spec PyProof.Rows PySem.Ts
theorem gn' {P:Program} {w:World}:∀{k:List Int} {us:List Value},az' (k.map V.int) us->ItemsAre (intKind P w) k us
 | [],_,.nil=>.nil
 |i :: k,_,.cons r t=>by
  obtain⟨u,rfl⟩:=(show ∃u,_=Value.int i u from r)
  exact .cons (by show Value.isInt i (.int i u)=true;simp[Value.isInt]) (gn' t)
theorem ji' {P:Program} {w:World} {H:Hp} {h:Heap} {q:List Int×Addr} (ok:HOk P w H h) (e:H q.2=some (.tup (q.1.map V.int))):Tup P w h q:=by
 obtain⟨_,its,r,o,h1,h2,⟨n,h3⟩,_⟩:=(show av' P w H h q.2 (.tup (q.1.map V.int)) from ok _ _ e)
 exact⟨o,its.toArray,n,h1,h2,h3,by rw[List.toList_toArray];exact gn' r⟩
def Trk (H:Hp) (L:List (List Int×Addr)):Prop:=∀q∈L,H q.2=some (.tup (q.1.map V.int))
def IsP (P:Program) (w:World) (L:List (List Int×Addr)) (o:Obj):Prop:=L.length<=4000/\∃(es:Array (Int×Value)) (ep:Nat) (t:SetTable) (L':List (List Int×Addr)),L'.Perm L/\o.ExactSet/\o.data=.set es ep t/\es.toList=L'.map (elm P w)/\(L'.map (·.1)).Nodup/\TabOk t es/\MaskOk t/\TOk (w.params.followText "set-order") t
theorem eg' {P:Program} {w:World} (L:List (List Int×Addr)) (o:Obj) (h:IsP P w L o) (v:Option Value):o.data≠.cell v:=by
 obtain⟨_,es,ep,t,L',_,_,hd,_⟩:=h
 rw[hd]
 exact fun z=>nomatch z
theorem lk' (led:Bool):TabOk (.fresh 0 0 led) #[]:=⟨List.Pairwise.nil,fun p hp=>absurd hp (by simp[SetTable.fresh]),rfl,rfl,⟨3,rfl⟩,Nat.zero_le _,fun q hq=>absurd hq (by simp[SetTable.fresh])⟩
theorem jj' {P:Program} {w:World}:IsP P w [] (cR' (!(w.params.followText "set-order"))):=by
 refine⟨Nat.zero_le _,#[],0,.fresh 0 0 (!(w.params.followText "set-order")),[],.refl _,?_,rfl,rfl,List.nodup_nil,lk' _,⟨by simp[SetTable.fresh],show 0*5<7*3 by decide⟩,?_⟩
 .obtain⟨_,_,_,z,_⟩:=fJ' (knd:=intKind P w);exact z
 .cases hb:w.params.followText "set-order" with
  |true=>exact .inl rfl
  |false=>exact .inr ⟨rfl,List.Pairwise.nil⟩
section
variable {X:Cx}
noncomputable def jk' (a:List (List Int×Addr)) (k:List Int) (b:Addr):List (List Int×Addr):=if k∈a.map (·.1)then a else a++[(k,b)]
noncomputable def e4' (te:TE):TL (List (List Int×Addr)):=fun σ a H N=>te σ H fun v H'=>∃(k:List Int) (b:Addr),v=.ref b/\H' b=some (.tup (k.map V.int))/\Trk H' a/\a.length<4000/\N (jk' a k b) H'
theorem jl' {D:Addr} {elt:Expr} {te:TE} (hu:X.A.units+1<cLine) (hxe:X.xe=fun _ _=>False) (he:PE X elt te):bG' X D (IsP X.prog X.w) [] (do let v <- eval elt X.env;standAt elt.pos;let _ <- call (.builtin "set.add") [.ref D,v]) (e4' te):=by
 intro pins s σ H a o N I hD ho hi hq
 have I1:Inv X (pins++bx' [D] s.heap) σ H s:=I.pinned (fun b hb=>by
  have e:b=D:=by simpa using hb
  subst e
  exact hD) (fun b hb=>by
  have e:b=D:=by simpa using hb
  subst e
  exact⟨o,ho,eg' _ _ hi⟩)
 have h1:=he _ s σ H _ I1 hq
 rw[hxe]at h1
 refine wpAny_bind (thn h1 fun u s1 ⟨v,H1,J1,r1,k,b,ek,hk,htr,z1,n1⟩=>?_)
 subst ek
 obtain rfl:u=Value.ref b:=r1
 have q1:=J1.pin (D,o) (List.mem_append_right _ (List.mem_append_right _ (aK' (by simp) ho)))
 obtain⟨hn,es,ep,t,L',hp,hex,hd,hes,hnd,hT,hM,hk'⟩:=hi
 have X1:Elms X.prog X.w s1.heap es t L':=⟨hes,fun p hp'=>ji' J1.hok (htr p (hp.mem_iff.mp hp')),hnd,hT,hM⟩
 have hmem:∀k,k∈L'.map (·.1)↔k∈a.map (·.1):=fun k=>(hp.map (·.1)).mem_iff
 obtain⟨_,f1,f2,f3,f4,f5⟩:=hD
 refine wpAny_bind (wpAny_standAt (wpAny_bind (lg' (q:=(k,b)) hu q1.1 hex hd X1 hk' (ji' (q:=(k,b)) J1.hok hk) (by rw[hp.length_eq];exact z1) (fun hin tk=>?_) fun hno h' o' es' ep' t' L2 tk hs ho' hex' hd' X2 hp2 hk2=>?_)))
 .have e:jk' a k b=a:=if_pos ((hmem k).mp hin)
  rw[e]at n1
  exact wpAny_pure ⟨σ,_,o,H1,(J1.unpinned).other rfl rfl rfl,Ext.refl,q1.1,⟨hn,es,ep,t,L',hp,hex,hd,hes,hnd,hT,hM,hk'⟩,q1.2.1,n1⟩
 .have e:jk' a k b=a++[(k,b)]:=if_neg fun z=>hno ((hmem k).mpr z)
  rw[e]at n1
  have J2:Inv X pins σ H1 { s1 with heap:=h',toks:=tk }:=J1.unpinned.turned (it:=D) (t':=tk) (fun b o hb e=>(hs.2 b hb).trans e) q1.2.1 f1 f3 f4 f5
  refine wpAny_pure ⟨σ,_,o',H1,J2,Ext.refl,ho',⟨by rw[List.length_append];show _+1<=4000;omega,es',ep',t',L2,?_,hex',hd',X2.its,X2.nd,X2.tab,X2.mask,hk2⟩,q1.2.1,n1⟩
  refine hp2.trans ((hp.cons _).trans ?_)
  exact(List.perm_append_singleton (k,b) a).symm
noncomputable def kI (k:List Int):List Itm:=k.map Sum.inl
theorem ry' {k:List Int} {vs:List Value} {P:Program} {w:World} (h:ItemsAre (intKind P w) k vs):ItsAre vs (kI k):=by
 induction h with
 |nil=>exact .nil
 |cons h1 _ ih=>
  obtain⟨t,e⟩:=Value.isInt_shape h1
  exact .cons ⟨t,e⟩ ih
theorem rz' {k:List Int}:shp (kI k)=List.replicate k.length true:=by
 unfold shp kI
 induction k with
 |nil=>rfl
 |cons i k ih=>rw[List.map_cons,List.map_cons,ih];rfl
theorem fK' {A:Around} {E:Value->Shared->Prop} {s:Shared} {P:Program} {w:World} {D:Addr} {o:Obj} {L:List (List Int×Addr)} {Q:Value->Shared->Prop} (hh:A.handled=none) (ho:s.heap.get? D=some o) (hS:IsP P w L o) (ht:∀q∈L,Tup P w s.heap q) {n:Nat} (hln:∀q∈L,q.1.length=n+1)
  (h:∀(s':Shared) (l:Addr) (qs:List (List Int×Addr)) (e:Nat),(∀b o,s.heap.get? b=some o->s'.heap.get? b=some o)->s'.gens=s.gens->s'.os=s.os->s.heap.objs.size<=l->s'.heap.get? l=some (seqObj "list" (qs.map fun q=>Value.ref q.2).toArray e)->qs.Perm L->(qs.Pairwise fun x y=>aS' (kI y.1) (kI x.1)=false)->Q (.ref l) s'):
  wpAny (model P w) A (call (.builtin "sorted") [.ref D]) Q E s:=by
 obtain⟨h4,es,ep,t,L',hp,hex,hd,hes,hnd,hT,hM,htk⟩:=hS
 have hsz:es.size=L.length:=by rw[<- Array.length_toList,hes,List.length_map,hp.length_eq]
 have hz:es.size<=sizeLine:=by rw[hsz];exact Nat.le_trans h4 (by decide)
 refine Calls.call_function_entry kind_sorted plain_sorted entry_sorted (args_sorted1 _) ?_
 unfold Builtin.«sorted»
 refine wpAny_bind (m:=checkCount "sorted" 1 1 _) (wpAny_pure (wpAny_bind (ef' (A:=A.in1) hh ho hex hd hT.fits htk hz fun s1 xs k1 k2 k3 k4 k5 k6=>wpAny_bind (wpAny_newList ?_ (by rw[k6.length_eq,List.length_map,Array.length_toList];exact hz)))))
 have e6:es.toList.map (·.2)=L'.map fun q=>Value.ref q.2:=by rw[hes,List.map_map];rfl
 rw[e6]at k6
 obtain⟨L2,hp2,rfl⟩:=di' k6 rfl
 have hpL:L2.Perm L:=hp2.trans hp
 have tps:∀q∈L2,Tps s1.heap (q.2,kI q.1):=fun q hq=>by
  obtain⟨o,items,n,g1,g2,g3,g4⟩:=ht q (hpL.mem_iff.mp hq)
  exact⟨o,items,n,k1 _ _ g1,g2,g3,ry' g4⟩
 generalize hqs:L2.map (fun q=>(q.2,kI q.1))=qs
 have hvs:(L2.map fun q=>Value.ref q.2)=qs.map fun q=>Value.ref q.1:=by rw[<- hqs,List.map_map];rfl
 have hP:∀q∈qs,Tps s1.heap q:=fun q hq=>by
  rw[<- hqs]at hq
  obtain⟨p,hp',rfl⟩:=List.mem_map.mp hq
  exact tps p hp'
 have hsh:∀q∈qs,shp q.2=true :: List.replicate n true:=fun q hq=>by
  rw[<- hqs]at hq
  obtain⟨p,hp',rfl⟩:=List.mem_map.mp hq
  show shp (kI p.1)=_
  rw[rz',hln p (hpL.mem_iff.mp hp')]
  rfl
 have hoL:(s1.heap.push (seqObj "list" (L2.map fun q=>Value.ref q.2).toArray 0)).get? s1.heap.objs.size=some (seqObj "list" (L2.map fun q=>Value.ref q.2).toArray 0):=Heap.get?_push_size _ rfl
 have hany:tP' P w (s1.heap.push (seqObj "list" (L2.map fun q=>Value.ref q.2).toArray 0)) s1.heap.objs.size (L2.map fun q=>Value.ref q.2) mx' (my' qs):=by
  rw[hvs]
  refine gc' (fun q hq=>?_) (fun q hq=>?_) hsh
  .obtain⟨o,xs,n,g1,r⟩:=hP q hq
   exact⟨o,xs,n,Heap.get?_push_of_some _ g1,r⟩
  .obtain⟨o,xs,n,g1,r⟩:=hP q hq
   exact Nat.ne_of_lt (Heap.lt_size g1)
 refine wpAny_bind (wpAny_holding (wpAny_call_entry slot_list_sort ⟨_,hoL,rfl⟩ entry_list_sort (gb' hoL hany (by rw[List.length_map,hpL.length_eq];exact Nat.le_trans h4 (by decide)) fun out a1 a2=>⟨_,rfl,wpAny_pure ⟨_,rfl,?_⟩⟩) (args_list_sort _)))
 obtain⟨L3,hp3,rfl⟩:=di' a1 rfl
 obtain⟨e',he'⟩:=sortedHeap_at (out:=(L3.map fun q=>Value.ref q.2).toArray) hoL
 refine h _ s1.heap.objs.size L3 e' (fun b o eb=>?_) k2 k3 k5 he' (hp3.trans hpL) ?_
 .have hlt:=Heap.lt_size (k1 b o eb)
  rw[sortedHeap_old (Nat.ne_of_lt hlt) (by rw[size_push'];exact Nat.lt_succ_of_lt hlt)]
  exact Heap.get?_push_of_some _ (k1 b o eb)
 .rw[List.pairwise_map]at a2
  refine List.Pairwise.imp_of_mem (fun {x y} hx hy k=>?_) a2
  have hk:∀x∈L3,my' qs (.ref x.2)=kI x.1:=fun x hx=>by
   have:(x.2,kI x.1)∈qs:=by rw[<- hqs];exact List.mem_map.mpr ⟨x,hp3.mem_iff.mp hx,rfl⟩
   exact cw' hP this
  have:=k
  unfold KeyOrd.kle at this
  rw[hk x hx,hk y hy]at this
  exact this
def okP (Q:VK) (a:List (List Int×Addr)) (H2:Hp):Prop:=Trk H2 a/\(∃n,∀q∈a,q.1.length=n+1)/\∀(l:Addr) (qs:List (List Int×Addr)),H2 l=none->qs.Perm a->(qs.Pairwise fun x y=>aS' (kI y.1) (kI x.1)=false)->Q (.ref l) (upd H2 l (.lst (qs.map fun q=>V.ref q.2)))
noncomputable def uH' (own:List Nat) (wi:TI) (g:TG) (tc:TT) (au':TL (List (List Int×Addr))):TE:=fun σ H Q=>dl' own wi g tc au' [] (fun p a=>tQ' p (fun _=>false) 0) (okP Q) σ H fun _ _=>True
variable {e:Expr} {scope:Scope} {tg iter:Expr} {ifs:List Expr} {nx:Addr->Env->Sem Unit} {g:TG} {tc:TT} {au':TL (List (List Int×Addr))} {own:List Nat} {wi:TI}
theorem go':∀(qs:List (List Int×Addr)),az' (qs.map fun q=>V.ref q.2) (qs.map fun q=>Value.ref q.2)
 | []=>.nil
 |q :: qs=>.cons rfl (go' qs)
theorem rA' {p pos pos2:Pos} (hg1:Gl X "sorted") (hm1:X.mg "sorted"=none) (C:CompInG (IsP X.prog X.w) X e scope tg iter ifs nx g tc au' own) (hi:PI X tg iter wi) (he:eval e X.env=comprehension e scope X.env pos2 (newSet (.type "set")) false (eval iter X.env)) (hs:starEach [e] X.env=[(false,eval e X.env)]):
  PE X (.Call (.Name "sorted" p) [e] [] pos) (uH' own wi g tc au'):=by
 intro pins s σ H Q I hw
 refine wpAny_Call_Name_kw (dE' I hg1 hm1 (u:=.builtin "sorted") rfl ?_)
 refine PyProof.Rows.callWith_builtin1 ?_ (by rw[hs];rfl) rfl
 rw[hs]
 show wpAny _ _ (spliced [(false,eval e X.env)]) _ _ s
 refine Calls.spliced_cons ?_
 rw[he]
 refine thn (eY' (o0:=fun _=>cR' (!(X.w.params.followText "set-order"))) (Q:=fun v s'=>∃D a o H',v=.ref D/\Inv X pins σ H' s'/\s'.heap.get? D=some o/\IsP X.prog X.w a o/\okP Q a H') (fun s Q h=>je' (h true)) (fun _=>rfl) (fun _=>jj') eg' C hi I hw fun s3 s' H0 H' ex D xs o σ' I3 hex J e' hlt h0 fD sy is' n' hok' _=>?_) fun v s' ⟨D,a,o,H',ev,J,ho,hi',hok⟩=>Calls.spliced_nil ?_
 .obtain⟨m,hn,_⟩:=J.loc
  refine⟨m,hn,fun h' hs=>?_⟩
  have neC:D≠s3.heap.objs.size:=Nat.ne_of_lt hlt
  exact⟨D,xs,o,H',rfl,cM' I3 hex J hs,(hs.2 D neC).trans e',is',hok'⟩
 .subst ev
  obtain⟨q1,⟨n,q2⟩,q3⟩:=hok
  refine fK' (I.ok.hd C.calm) ho hi' (fun q hq=>ji' J.hok (q1 q hq)) q2 fun s'' l qs e' k1 k2 k3 k4 k5 k6 k7=>?_
  have J2:=J.laid (a:=l) (o:=.lst (qs.map fun q=>V.ref q.2)) (h':=s''.heap) (t':=s'.toks) k1 k4 ⟨by rw[List.length_map,k6.length_eq];exact Nat.le_trans hi'.1 (by decide),qs.map fun q=>Value.ref q.2,e',go' qs,by rw[k5]⟩
  exact⟨.ref l,_,J2.other rfl k2 k3,rfl,q3 l qs (J.hok.fresh k4) k6 k7⟩
end
section
variable {prog:Program} {w:World} {A:Around} {E:Value->Shared->Prop} {s:Shared}
theorem gp' {q dd:Addr} {j ep:Nat} {od:Obj} {es:Array DictEntry} {en:DictEntry} {Q:Option Value->Shared->Prop} (hq:s.heap.IsKeyIter q dd j es.size ep) (g1:s.heap.get? dd=some od) (g2:od.data=.dict es ep) (hx:es[j]?=some en)
  (hQ:∀h',h'.IsKeyIter q dd (j+1) es.size ep->Heap.SameBut q s.heap h'->Q (some en.key) { s with heap:=h' }):wpAny (model prog w) A (pyNext (.ref q)) Q E s:=by
 obtain⟨oq,e1,e2,e3⟩:=id hq
 unfold pyNext
 refine wpAny_bind (wpAny_attempt (wpAny_callSpecial?_slot (name:=Str.ofString "__next__") hq.typeIs F.slot_dict_keyiterator_next (wpAny_call_entry F.slot_dict_keyiterator_next hq.typeIs F.entry_dict_keyiterator_next ?_ (F.args_dict_keyiterator_next_1 _))))
 refine wpAny_bind (wpAny_pure (wpAny_bind (wpAny_bind ?_)))
 first|refine wpAny_bind (wpAny_typeNameOfWhole_keyiter hq.typeIs (wpAny_pure ?_))|refine wpAny_bind (wpAny_typeNameOf_keyiter hq.typeIs (wpAny_pure ?_))
 refine wpAny_bind (wpAny_fieldsOf e1 e3 ?_)
 have own0:Builtin.Dict_items.ownsTuple "dict_keyiterator"=false:=by decide
 simp only[own0,Bool.false_eq_true,if_false]
 show wpAny _ _ (if(Value.ref dd == Value.none)=true then _ else _) _ _ s
 rw[if_neg (show ¬((Value.ref dd == Value.none)=true) from Bool.false_ne_true)]
 refine wpAny_bind (wpAny_pure (wpAny_bind (wpAny_dictEntries g1 g2 ?_)))
 rw[if_neg (by simp)]
 refine wpAny_bind (wpAny_pure (wpAny_bind (wpAny_dictEpoch g1 g2 ?_)))
 rw[if_neg (by simp)]
 refine wpAny_pure ?_
 simp only[show ¬((j:Int)<0) from by omega,if_false,Int.toNat_natCast,hx]
 refine wpAny_bind ?_
 first|refine wpAny_bind (wpAny_typeNameOfWhole_keyiter hq.typeIs (wpAny_pure ?_))|refine wpAny_bind (wpAny_typeNameOf_keyiter hq.typeIs (wpAny_pure ?_))
 refine wpAny_bind (wpAny_isOneOf_keyiter hq.typeIs ?_)
 show wpAny _ _ (setField (.ref q) 1 (rawInt ((j:Int)+1)) >>= _) _ _ s
 refine wpAny_bind (wpAny_setField e1 e3 (by simp) ?_)
 have hq':(s.heap.update q (Obj.mapFields (·.setIfInBounds 1 (rawInt ((j:Int)+1))))).IsKeyIter q dd (j+1) es.size ep:=
  ⟨_,Heap.get?_update_self _ e1 (Obj.isFreed_of_fields (Obj.data_mapFields e3 _)),(Obj.cls_mapFields ..).trans e2,by rw[Obj.data_mapFields e3];simp[rawInt]⟩
 refine wpAny_bind (wpAny_holding ?_)
 refine wpAny_bind (wpAny_isOneOf_keyiter (s:={ s with heap:=s.heap.update q (Obj.mapFields (·.setIfInBounds 1 (rawInt ((j:Int)+1)))) }) hq'.typeIs ?_)
 show wpAny _ _ (pure en.key) _ _ _
 exact wpAny_pure (wpAny_pure ⟨_,rfl,wpAny_pure (hQ _ hq' (Heap.SameBut.update ..))⟩)
theorem jm' {q dd:Addr} {j ep:Nat} {od:Obj} {es:Array DictEntry} {Q:Option Value->Shared->Prop} (hh:A.handled=none) (hq:s.heap.IsKeyIter q dd j es.size ep) (g1:s.heap.get? dd=some od) (g2:od.data=.dict es ep) (hx:es.size<=j)
  (hQ:∀h',Heap.ExtBut q s.heap h'->Q none { s with heap:=h' }):wpAny (model prog w) A (pyNext (.ref q)) Q E s:=by
 obtain⟨oq,e1,e2,e3⟩:=id hq
 unfold pyNext
 refine wpAny_bind (wpAny_attempt (wpAny_callSpecial?_slot (name:=Str.ofString "__next__") hq.typeIs F.slot_dict_keyiterator_next (wpAny_call_entry F.slot_dict_keyiterator_next hq.typeIs F.entry_dict_keyiterator_next ?_ (F.args_dict_keyiterator_next_1 _))))
 refine wpAny_bind (wpAny_pure (wpAny_bind (wpAny_bind ?_)))
 first|refine wpAny_bind (wpAny_typeNameOfWhole_keyiter hq.typeIs (wpAny_pure ?_))|refine wpAny_bind (wpAny_typeNameOf_keyiter hq.typeIs (wpAny_pure ?_))
 refine wpAny_bind (wpAny_fieldsOf e1 e3 ?_)
 have own0:Builtin.Dict_items.ownsTuple "dict_keyiterator"=false:=by decide
 simp only[own0,Bool.false_eq_true,if_false]
 show wpAny _ _ (if(Value.ref dd == Value.none)=true then _ else _) _ _ s
 rw[if_neg (show ¬((Value.ref dd == Value.none)=true) from Bool.false_ne_true)]
 refine wpAny_bind (wpAny_pure (wpAny_bind (wpAny_dictEntries g1 g2 ?_)))
 rw[if_neg (by simp)]
 refine wpAny_bind (wpAny_pure (wpAny_bind (wpAny_dictEpoch g1 g2 ?_)))
 rw[if_neg (by simp)]
 refine wpAny_pure ?_
 simp only[show ¬((j:Int)<0) from by omega,if_false,Int.toNat_natCast,Array.getElem?_eq_none hx]
 refine wpAny_bind ?_
 first|refine wpAny_bind (wpAny_typeNameOfWhole_keyiter hq.typeIs (wpAny_pure ?_))|refine wpAny_bind (wpAny_typeNameOf_keyiter hq.typeIs (wpAny_pure ?_))
 show wpAny _ _ (setField (.ref q) 0 .none >>= _) _ _ s
 refine wpAny_bind (wpAny_setField e1 e3 (by simp) ?_)
 show wpAny _ _ (newExc (.type "StopIteration") [] >>= _) _ _ _
 refine wpAny_bind ?_
 simp only[newExc,newTuple]
 refine wpAny_bind (wpAny_newObj_type ?_ (by size_fits))
 refine wpAny_bind (m:=firstArgMember _ _) (wpAny_of_eq (a:=Value.none) (by first|rfl|(simp only[firstArgMember];rfl)) ?_)
 refine wpAny_newObj_type ?_ (by size_fits)
 simp only[raiseNew]
 refine wpAny_bind (wpAny_handled ?_)
 rw[show A.in1.handled=none from hh]
 refine wpAny_bind (wpAny_pure (wpAny_throw ?_))
 refine wpAny_bind (wpAny_isInstance (T:="StopIteration") (b:=true) ⟨_,Heap.get?_push_size _ rfl,rfl⟩ isSubtype_stop ?_)
 exact wpAny_pure (hQ _ (((Heap.SameBut.update ..).extBut.push _).push _))
theorem gq' {dd:Addr} {ep:Nat} {od:Obj} {es:Array DictEntry} {Q:Value->Shared->Prop} (hd:(dd == sysModules)=false) (hT:s.TypeIs (.ref dd) "dict") (g1:s.heap.get? dd=some od) (g2:od.data=.dict es ep)
  (hQ:Q (.ref s.heap.objs.size) { s with heap:=s.heap.push { cls:=.type "dict_keyiterator",data:=.fields #[.ref dd,.int 0 0,.int es.size 0,.int ep 0] } }):wpAny (model prog w) A (pyIter (.ref dd)) Q E s:=by
 refine wpAny_pyIter_slot hT F.slot_dict_iter (wpAny_call_entry F.slot_dict_iter hT F.entry_dict_iter ?_ (F.args_dict_iter_1 _))
 unfold Builtin.«dict.__iter__»
 refine wpAny_bind ?_
 unfold Builtin.Dict.dictSlotNone
 refine wpAny_bind (wpAny_notOrdered_dict hT ?_)
 show wpAny _ _ (pure (Value.ref dd)) _ _ s
 refine wpAny_pure ?_
 show wpAny _ _ (Builtin.Dict.showsAll dd >>= _) _ _ s
 unfold Builtin.Dict.showsAll
 rw[if_neg (by rw[hd];exact Bool.false_ne_true)]
 refine wpAny_bind (wpAny_pure (wpAny_bind (wpAny_dictEntries g1 g2 (wpAny_bind (wpAny_dictEpoch g1 g2 ?_)))))
 refine wpAny_bind (wpAny_newObj_type (wpAny_pure ⟨_,rfl,"dict_keyiterator",_,⟨_,Heap.get?_push_size _ rfl,rfl⟩,F.slot_dict_keyiterator_next.lookup,?_⟩))
 simpa[rawInt]using hQ
end
def Fz (H:Hp) (d:Addr) (o:Obj):Prop:=∃u,H d=some (.frz o u)
def KsO (o:Obj) (ks:List V):Prop:=∃es ep,o.data=.dict es ep/\az' ks (es.toList.map (·.key))
noncomputable def p0' (d:Addr) (o:Obj) (ks:List V):It:=⟨fun i H=>i<ks.length/\Fz H d o,fun i H x H'=>H'=H/\ks[i]?=some x,fun i H=>ks.length<=i/\Fz H d o⟩
theorem Fz.at {P:Program} {w:World} {H:Hp} {h:Heap} {d:Addr} {o:Obj} (f:Fz H d o) (x:HOk P w H h):h.get? d=some o:=let⟨u,e⟩:=f;(x d _ e).1
theorem jn' {P:Program} {w:World} {K:W.Frag} {tg:Expr} (it d:Addr) {o:Obj} {ks:List V} {es:Array DictEntry} {ep:Nat} (hd:o.data=.dict es ep) (hv:az' ks (es.toList.map (·.key))):Turn P w K tg (p0' d o ks) [it] it (fun i h=>h.IsKeyIter it d i es.size ep) where
 mem:=by simp
 obj:=fun i h st b hb=>by
  have e:b=it:=by simpa using hb
  subst e
  obtain⟨ob,e,c,dt⟩:=st
  exact⟨ob,e,fun v z=>by rw[dt]at z;cases z⟩
 keep:=fun i h h' st k=>st.at fun ob e=>k it (by simp) ob e
 item:=by
  intro X hP hw hK hc i pins s σ H E I hf st hg
  subst hP hw hK
  obtain⟨hi,hz⟩:=hg
  have hx:ks[i]?=some ks[i]:=List.getElem?_eq_getElem hi
  obtain⟨u,hu,ru⟩:=hv.get hx
  rw[List.getElem?_map]at hu
  obtain⟨en,he,rfl⟩:=Option.map_eq_some_iff.mp hu
  obtain⟨f0,f1,f2,f3,f4,f5⟩:=hf it (by simp)
  refine gp' st (hz.at I.hok) hd (by simpa using he) fun h' st' sb=>?_
  have I1:Inv X pins σ H { s with heap:=h' }:=I.turned (t':=s.toks) (fun b o hb e=>(sb.2 b hb).trans e) f0 f1 f3 f4 f5
  obtain⟨ob,e1,c,dt⟩:=id st'
  exact⟨_,rfl,ic' (s:={ s with heap:=h' }) e1 c dt (by decide) ⟨_,H,I1,ru,⟨rfl,hx⟩,st',fun b hb=>(hf b hb).1⟩⟩
 done:=by
  intro X hP hw hK hc i pins s σ H E I hf st hg
  subst hP hw hK
  obtain⟨hi,hz⟩:=hg
  obtain⟨f0,f1,f2,f3,f4,f5⟩:=hf it (by simp)
  have hl:ks.length=es.size:=by have:=hv.length;simpa using this
  exact jm' (I.ok.hd hc) st (hz.at I.hok) hd (by omega) fun h' eb=>⟨rfl,I.turned (t':=s.toks) (fun b o hb e=>eb b o hb e) f0 f1 f3 f4 f5⟩
 self:=fun _ _ _ _ _ st h=>wpAny_pyIter_keyiter st h
section
variable {X:Cx} {tg:Expr}
theorem HOk.freeze {P:Program} {w:World} {H:Hp} {h:Heap} {d:Addr} {u:HO} {o:Obj} (x:HOk P w H h) (e:H d=some u) (hu:Mut (some u)) (ho:h.get? d=some o):HOk P w (upd H d (.frz o u)) h:=fun b v q=>by
 have ntup:∀c xs,H c=some (.tup xs)->c≠d:=fun c xs r z=>by subst z;rw[r]at e;cases e;exact hu
 have nown:∀c y,H c=some (.own y)->c≠d:=fun c y r z=>by subst z;rw[r]at e;cases e;exact hu
 have st:∀a v,av' P w H h a v->av' P w (upd H d (.frz o u)) h a v:=fun a v y=>y.stay (fun _ _ _ q=>q) (fun c r=>by rw[ab' (nown c a r)];exact r) fun c xs r=>by rw[ab' (ntup c xs r)];exact r
 by_cases hb:b=d
 .subst hb;rw[aa']at q;cases q;exact⟨ho,st _ _ (x _ _ e)⟩
 .rw[ab' hb]at q;exact st _ _ (x b v q)
theorem Inv.freeze {pins:List (Addr×Obj)} {σ:St} {H:Hp} {s:Shared} {d:Addr} {u:HO} {o:Obj} (I:Inv X pins σ H s) (e:H d=some u) (hu:Mut (some u)) (ho:s.heap.get? d=some o):Inv X pins σ (upd H d (.frz o u)) s:=by
 have:=I.step (h':=s.heap) (g':=s.gens) (d':=s.drawn) (t':=s.toks) (ch:=[]) (H':=upd H d (.frz o u)) (fun _ z=>nomatch z) (fun b o _ _ _ q _=>q) (fun b o _ _ _ q _=>⟨o.slots,q⟩)
  (fun b o _ _ n=>by rw[ab' (fun z=>by subst z;rw[n]at e;cases e)];exact n) (fun b o _ q=>⟨o,q⟩)
  (fun b xs q=>by rw[ab' (fun z=>by subst z;rw[q]at e;cases e;exact hu)];exact q)
  (fun b o v q=>by rw[ab' (fun z=>by subst z;rw[q]at e;cases e;exact hu)];exact q)
  (fun b ps q=>⟨#[],by rw[ab' (fun z=>by subst z;rw[q]at e;cases e;exact hu),Array.append_empty];exact q⟩)
  (fun m n=>n) (I.hok.freeze e hu ho) I.bare
 exact this
def DkV (x:V) (H1:Hp) (R:It->Hp->Prop):Prop:=∃d kvs,x=.ref d/\Rd H1 d (.dK kvs)/\∀o,KsO o (kvs.map fun kv=>kV kv.1)->R (p0' d o (kvs.map fun kv=>kV kv.1)) (upd H1 d (.frz o (.dK kvs)))
def DtV (x:V) (H1:Hp) (R:It->Hp->Prop):Prop:=∃d kvs,x=.ref d/\Rd H1 d (.dT kvs)/\∀o (as:List Addr),as.length=kvs.length->(∀(i:Nat) a kv,as[i]?=some a->kvs[i]?=some kv->H1 a=some (.tup (kv.1.map kV)))->KsO o (as.map V.ref)->R (p0' d o (as.map V.ref)) (upd H1 d (.frz o (.dT kvs)))
noncomputable def uI' (tl:TE):TI:=fun σ H R=>tl σ H fun x H1=>DkV x H1 R\/DtV x H1 R
set_option tactic.hygienic true in
theorem ll' {H:Hp} {d:Addr} {u:HO} (e:H d=some u):upd H d u=H:=by
 funext b;unfold upd;split
 .rename_i z;rw[z,e]
 .rfl
theorem gr' {pins:List (Addr×Obj)} {σ:St} {H1:Hp} {s1:Shared} {d:Addr} {u:HO} {R:It->Hp->Prop} {ks:List V} {o:Obj} {es:Array DictEntry} {ep:Nat} (I1:Inv X pins σ H1 s1) (hr:Rd H1 d u) (hu:Mut (some u)) (hs:(d == sysModules)=false) (hT:s1.TypeIs (.ref d) "dict")
  (ho:s1.heap.get? d=some o) (hd:o.data=.dict es ep) (hv:az' ks (es.toList.map (·.key))) (q:∀o,KsO o ks->R (p0' d o ks) (upd H1 d (.frz o u))):wpAny (model X.prog X.w) X.A (pyIter (.ref d)) (PIE X pins σ tg R) X.xe s1:=by
 have I2:Inv X pins σ (upd H1 d (.frz o u)) s1:=by
  rcases hr with e|⟨o',e⟩
  .exact I1.freeze e hu ho
  .have:=(I1.hok d _ e).1
   rw[ho]at this
   cases this
   rw[ll' e];exact I1
 refine gq' hs hT ho hd ?_
 refine⟨s1.heap.objs.size,[s1.heap.objs.size],_,_,upd H1 d (.frz o u),rfl,I2.kept (t':=s1.toks) (fun b o e=>Heap.get?_push_of_some _ e),jn' _ d hd hv,⟨_,Heap.get?_push_size _ rfl,rfl,rfl⟩,fun b hb=>?_,q o ⟨es,ep,hd,hv⟩⟩
 have e:b=s1.heap.objs.size:=by simpa using hb
 subst e
 exact I2.fpOk (Nat.le_refl _) (I2.hok.fresh (Nat.le_refl _))
theorem rB' {l:Expr} {tl:TE} (hl:PE X l tl):PI X tg l (uI' tl):=by
 intro pins s σ H R I h
 refine thn (hl pins s σ H _ I h) fun v s1 ⟨x,H1,I1,r1,q1⟩=>?_
 rcases q1 with⟨d,kvs,rfl,hr,q⟩|⟨d,kvs,rfl,hr,q⟩
 .cases r1
  obtain⟨z,hs,vs,rel,dd⟩:=(show av' X.prog X.w H1 s1.heap d (.dK kvs) from hr.ok I1.hok)
  obtain⟨o,es,ep,ho,hc,hdat,hk,hp,hn⟩:=id dd
  refine gr' I1 hr trivial hs dd.typeIs ho hdat (dc' ?_ ?_) q
  .have h1:=rel.length
   have h2:=hp.length
   rw[List.length_map,List.length_map]
   omega
  .intro i x u hx hu
   rw[List.getElem?_map]at hx hu
   obtain⟨kv,hkv,rfl⟩:=Option.map_eq_some_iff.mp hx
   obtain⟨en,hen,rfl⟩:=Option.map_eq_some_iff.mp hu
   obtain⟨p,hpv⟩:∃p,vs[i]?=some p:=by
    have h1:=rel.length
    obtain⟨hl,_⟩:=List.getElem?_eq_some_iff.mp hkv
    exact⟨vs[i]'(by omega),List.getElem?_eq_getElem _⟩
   have e:=(q9' rel hkv hpv).1
   rw[e]
   exact q8' (hp.get? hen hpv).1
 .cases r1
  obtain⟨z,hs,xs,rel,o,es,ep,ho,hc,hdat,he,hn⟩:=(show av' X.prog X.w H1 s1.heap d (.dT kvs) from hr.ok I1.hok)
  have hT:s1.TypeIs (.ref d) "dict":=⟨o,ho,hc.1⟩
  have hl:xs.length=kvs.length:=rel.length.symm
  refine gr' I1 hr trivial hs hT ho hdat (ks:=(xs.map fun x=>x.2.1).map V.ref) (dc' ?_ ?_) fun o' ho'=>q o' (xs.map fun x=>x.2.1) (by rw[List.length_map];exact hl) (fun i a kv ha hkv=>?_) ho'
  .rw[he];simp
  .intro i x u hx hu
   rw[he,List.getElem?_map,List.getElem?_map]at hu
   rw[List.getElem?_map,List.getElem?_map]at hx
   cases e:xs[i]? with
   |none=>rw[e]at hx;simp at hx
   |some p=>
    rw[e]at hx hu
    simp at hx hu
    rw[<- hx,<- hu]
    rfl
  .rw[List.getElem?_map]at ha
   obtain⟨p,hp,rfl⟩:=Option.map_eq_some_iff.mp ha
   have key:∀{l:List (List Key×V)} {m:List (List Key×Addr×Value)},Paired (fun(p:List Key×V) (q:List Key×Addr×Value)=>p.1=q.1/\H1 q.2.1=some (.tup (p.1.map kV))/\ao' p.2 q.2.2) l m->∀(i:Nat) kv p,l[i]?=some kv->m[i]?=some p->H1 p.2.1=some (.tup (kv.1.map kV)):=by
    intro l m r
    induction r with
    |nil=>intro i kv p h;simp at h
    |cons h r ih=>
     intro i kv p h1 h2
     cases i with
     |zero=>cases h1;cases h2;exact h.2.1
     |succ i=>exact ih i kv p (by simpa using h1) (by simpa using h2)
   exact key rel i kv p hkv hp
end
section
variable {X:Cx} {pos:Pos}
noncomputable def uJ' (K:W.Frag) (n:Nat) (t:TGs):TG:=fun v σ H Q=>∃a xs,v=.ref a/\(SqT K H a xs\/SqL K H a xs)/\xs.length=n/\t xs σ H Q
theorem rC' {es:List Expr} {k:Nat} {t:TGs} {n:Nat} (hc:X.calm=true) (h:PGs X es t)
  (hn:(assignEach es X.env).length=n:=by rfl) (hst:(assignEach es X.env).findIdx? (·.1)=none:=by rfl):PG X (.Tuple es k pos) (uJ' X.K n t):=by
 intro pins s σ H v u Q I r hw
 obtain⟨a,xs,e1,hq,hl,hw⟩:=hw
 rcases hq with hq|hq
 .exact qh' hc h hn hst pins s σ H v u Q I r ⟨a,xs,e1,hq,hl,hw⟩
 .subst e1
  cases r
  obtain⟨its,rv,pl,hz⟩:=I.list hq
  rw[assign_Tuple]
  refine wpAny_bind (wpAny_standAt ?_)
  unfold unpack
  rw[hn,hst]
  have e:n=its.toArray.size:=by simp[<- hl,rv.length]
  rw[e]
  refine wpAny_bind (wpAny_holding (W.kun_itemsOf (I.ok.hd hc) pl.isList fun h' hx=>?_))
  have I1:Inv X pins σ H { s with heap:=h' }:=I.kept (t':=s.toks) fun b o e=>hx b o (Nat.ne_of_lt (Heap.lt_size e)) e
  exact h pins _ σ H xs _ Q I1 (by simpa using rv) hw
end
section
variable {prog:Program} {w:World} {A:Around} {E:Value->Shared->Prop} {s:Shared} {K:Type} [DecidableEq K] {knd:HeapKind prog w K} {d:Addr}
theorem hP' (knd:HeapKind prog w K) (hd:(d == sysModules)=false):MeetsIn prog w (Builtin.«dict.__len__» ⟨[.ref d],[]⟩) (fun _ R s=>∃xs,s.heap.DictOfH knd d xs/\R (.ok (.ret (.int xs.length s.toks))) { s with toks:=s.toks+1 }):=
 .of_wp fun A R s ⟨xs,hm,h⟩=>by
  obtain⟨o,es,ep,ho,hc,hdat,hk,_⟩:=hm
  show wpAny _ _ (dictSize d >>= _) _ _ s
  unfold dictSize
  refine wpAny_bind (wpAny_bind (wpAny_dictEntries ho hdat (wpAny_pure ?_)))
  show wpAny _ _ (Builtin.Dict.pendingCount d >>= _) _ _ s
  refine wpAny_bind (wpAny_pendingCount_other hd ?_)
  refine wpAny_ret_mkInt ?_
  rw[Nat.add_zero,size_of_entries hk];exact h
theorem jo' {xs:List (K×Addr×Value)} {Q:Value->Shared->Prop} (hd:(d == sysModules)=false) (hm:s.heap.DictOfH knd d xs) (hfit:(xs.length:Int)<2 ^ 63)
  (h:Q (.int xs.length (s.toks+1)) { s with toks:=s.toks+1+1 }):wpAny (model prog w) A (call (.builtin "len") [.ref d]) Q E s:=by
 refine Calls.call_function_entry kind_len plain_len entry_len (args_len1 _) ?_
 unfold Builtin.«len»
 refine wpAny_bind (m:=oneArg "len" _) (wpAny_pure ?_)
 refine wpAny_bind (m:=callSpecial? (.ref d) (Str.ofString "__len__")) (wpAny_callSpecial?_slot (name:=Str.ofString "__len__") hm.typeIs F.slot_dict_len
  (call_meetsIn F.slot_dict_len hm.typeIs F.entry_dict_len (F.args_dict_len_1 _) (hP' knd hd) ⟨xs,hm,?_⟩))
 show wpAny _ _ _ _ _ { s with toks:=s.toks+1 }
 refine wpAny_bind (wpAny_holding (wpAny_pure ?_))
 refine wpAny_bind (wpAny_letGo ?_)
 show wpAny _ _ (if((xs.length:Nat):Int)<0 then _ else _) _ _ _
 rw[if_neg (by omega)]
 show wpAny _ _ (if((xs.length:Nat):Int) ≥ 2 ^ 63 then _ else _) _ _ _
 rw[if_neg (by omega)]
 exact wpAny_bind (wpAny_mkInt (wpAny_pure ⟨_,rfl,h⟩))
end
section
variable {X:Cx}
noncomputable def mF':List V->Hp->VK->Prop:=fun xs H Q=>ra' xs H Q\/∃a kvs,xs=[V.ref a]/\Rd H a (.dT kvs)/\Q (.int kvs.length) H
theorem hQ':aH' X (.builtin "len") mF':=by
 intro pins s σ H xs us Q I r h
 rcases h with h|⟨a,kvs,rfl,ha,q⟩
 .exact hC' pins s σ H xs us Q I r h
 .obtain⟨u,rfl,ru⟩:=b2' r
  cases ru
  obtain⟨z,hd,vs,rel,dd⟩:=fA' I.hok ha
  have e:=Paired.length rel
  exact jo' hd dd (by rw[<- e];rw[sizeLine_eq]at z;omega) ⟨.int kvs.length,H,I.tok _,⟨_,by rw[e]⟩,q⟩
end
end L2
namespace L2
open PySem PySem.Spec PyProof.Rows PySem.SeqAt
section
variable {prog:Program} {w:World} {d:Addr} {o:Obj} {es:Array DictEntry} {ep:Nat}
theorem jp' {A:Around} (hh:A.handled=none) (I:Addr) (hne:d≠I) (hd:o.data=.dict es ep):
  Walks prog w A I [I,d] [I] es.size (fun i v=>∃en,es[i]?=some en/\v=en.key) (fun i h=>h.IsKeyIter I d i es.size ep/\h.get? d=some o) where
 sub:=fun b hb=>by simp at hb;simp[hb]
 frame:=fun _ _ _ st hk=>⟨st.1.at fun o e=>hk I (by simp) o e,hk d (by simp) _ st.2⟩
 item:=fun i s Q E hi st hQ=>by
  have hx:es[i]?=some es[i]:=by simp[hi]
  refine gp' st.1 st.2 hd hx fun h' hit' hs'=>?_
  exact hQ _ h' s.toks ⟨_,hx,rfl⟩ ⟨hit',hs'.extBut d _ hne st.2⟩ fun b o hb e=>hs'.extBut b o (fun h=>hb (by simp[h])) e
 done:=fun s Q E st hQ=>jm' hh st.1 st.2 hd (Nat.le_refl _) fun h' he'=>hQ h' s.toks fun b o hb e=>he' b o (fun h=>hb (by simp[h])) e
 self:=fun _ _ _ _ st hQ=>wpAny_pyIter_keyiter st.1 hQ
theorem o0' (lo:(d == sysModules)=false) (hc:o.cls=.type "dict") (hd:o.data=.dict es ep):W.KdlSrc prog w "dict" d d es.size (fun i v=>∃en,es[i]?=some en/\v=en.key) (fun h=>h.get? d=some o) where
 type:=fun _ hm=>⟨o,hm,hc⟩
 there:=fun _ hm=>⟨Heap.lt_size hm,Heap.lt_size hm⟩
 keep:=fun _ _ hm hk=>hk d (.inl rfl) _ hm
 notList:=by decide
 notTuple:=by decide
 hint:=fun _ _ _ _ hm hq=>W.kdl_hint_dict ⟨o,hm,hc⟩ hq
 iter:=fun _ _ hh hm=>⟨_,_,(fun _ _ hq=>gq' lo ⟨o,hm,hc⟩ hm hd hq),jp' hh _ (Nat.ne_of_lt (Heap.lt_size hm)) hd,⟨⟨_,Heap.get?_push_size _ rfl,rfl,rfl⟩,Heap.get?_push_of_some _ hm⟩⟩
end
section
variable {X:Cx}
def KsA (H:Hp) (as:List Addr) (kvs:List (List Key×V)):Prop:=as.length=kvs.length/\∀(i:Nat) a kv,as[i]?=some a->kvs[i]?=some kv->H a=some (.tup (kv.1.map kV))
noncomputable def jq':List V->Hp->VK->Prop:=fun xs H Q=>mo' xs H Q\/∃(a:Addr) (kvs:List (List Key×V)),xs=[.ref a]/\Rd H a (.dT kvs)/\∀l (as:List Addr),H l=none->KsA H as kvs->Q (.ref l) (upd H l (.lst (as.map V.ref)))
theorem uK' {H:Hp} {l:List (List Key×V)} {m:List (List Key×Addr×Value)} (r:KT H l m):∀(i:Nat) kv p,l[i]?=some kv->m[i]?=some p->H p.2.1=some (.tup (kv.1.map kV)):=by
 induction r with
 |nil=>intro i kv p h;simp at h
 |cons h r ih=>
  intro i kv p h1 h2
  cases i with
  |zero=>cases h1;cases h2;exact h.2.1
  |succ i=>exact ih i kv p (by simpa using h1) (by simpa using h2)
theorem fL' (hc:X.calm=true):aH' X (.type "list") jq':=by
 intro pins s σ H xs us Q I rv h
 rcases h with h|⟨a,kvs,rfl,hH,q⟩
 .exact hB' hc pins s σ H xs us Q I rv h
 obtain⟨u,rfl,r1⟩:=b2' rv
 cases r1
 obtain⟨z,hd,xs,rel,o,es,ep,ho,hcl,hdat,he,_⟩:=fA' I.hok hH
 have hlen:kvs.length=xs.length:=Paired.length rel
 have hsz:es.size=xs.length:=size_of_entries he
 refine W.kdl_call (o0' hd hcl.1 hdat) (I.ok.hd hc) ho (by rw[hsz,<- hlen];exact z) fun h' tk acc c hk hS hacc=>?_
 have hn:H s.heap.objs.size=none:=I.hok.fresh (Nat.le_refl _)
 have hal:acc.toList.length=xs.length:=by rw[Array.length_toList,hacc.1,hsz]
 refine⟨.ref s.heap.objs.size,_,I.laid (a:=s.heap.objs.size) (o:=.lst ((xs.map fun x=>x.2.1).map V.ref)) (h':=h') (t':=tk) (fun b o e=>hk b o e) (Nat.le_refl _) ⟨by rw[List.length_map,List.length_map,<- hlen];exact z,acc.toList,c,dc' (by rw[List.length_map,List.length_map,hal]) fun i x v hx hv=>?_,by rw[hS]⟩,rfl,q _ _ hn ⟨by rw[List.length_map,hlen],fun i b kv hb hkv=>?_⟩⟩
 .obtain⟨en,hen,rfl⟩:=hacc.2 i v (by rw[<- Array.getElem?_toList];exact hv)
  rw[entry_at he]at hen
  rw[List.getElem?_map,List.getElem?_map]at hx
  cases e:xs[i]? with
  |none=>rw[e]at hx;simp at hx
  |some p=>
   rw[e]at hx hen
   simp at hx hen
   rw[<- hx,<- hen]
   rfl
 .rw[List.getElem?_map]at hb
  obtain⟨p,hp,rfl⟩:=Option.map_eq_some_iff.mp hb
  exact uK' rel i kv p hkv hp
end
def Pw {α:Type} (R:V->α->Prop) (vs:List V) (as:List α):Prop:=vs.length=as.length/\∀(i:Nat) v a,vs[i]?=some v->as[i]?=some a->R v a
def LsR (H:Hp) {α:Type} (R:V->α->Prop) (v:V) (as:List α):Prop:=∃p vs,v=.ref p/\H p=some (.lst vs)/\Pw R vs as
def TpI (H:Hp) (v:V) (ns:List Int):Prop:=∃p,v=.ref p/\H p=some (.tup (ns.map V.int))
def p1' {α:Type} (R:V->α->Prop):Prop:=∀x a b,R x a->R x b->a=b
theorem Pw.fun1 {α:Type} {R:V->α->Prop} (hR:p1' R) {vs:List V} {as bs:List α} (h1:Pw R vs as) (h2:Pw R vs bs):as=bs:=by
 apply List.ext_getElem?
 intro i
 by_cases hi:i<vs.length
 .have g:=List.getElem?_eq_getElem hi
  have g1:=List.getElem?_eq_getElem (show i<as.length by rw[<- h1.1];exact hi)
  have g2:=List.getElem?_eq_getElem (show i<bs.length by rw[<- h2.1];exact hi)
  rw[g1,g2,hR _ _ _ (h1.2 i _ _ g g1) (h2.2 i _ _ g g2)]
 .rw[List.getElem?_eq_none (by rw[<- h1.1];omega),List.getElem?_eq_none (by rw[<- h2.1];omega)]
theorem LsR.fun1 {H:Hp} {α:Type} {R:V->α->Prop} (hR:p1' R):p1' (LsR H R):=by
 rintro x a b ⟨p,vs,rfl,e,h⟩ ⟨q,ws,z,e',h'⟩
 cases z
 rw[e]at e'
 cases e'
 exact h.fun1 hR h'
theorem TpI.fun1 {H:Hp}:p1' (TpI H):=by
 rintro x a b ⟨p,rfl,e⟩ ⟨q,z,e'⟩
 cases z
 rw[e]at e'
 exact a2' (by injection e' with e';injection e' with e')
section
variable {X:Cx} {pins:List (Addr×Obj)} {σ:L2.St} {H:Hp} {s:Shared}
theorem rD' (I:Inv X pins σ H s) {A:Around} {v w:V} {u u':Value} {ns ms:List Int} (hu:A.units+1<cLine) (h1:TpI H v ns) (h2:TpI H w ms) (r1:ao' v u) (r2:ao' w u'):EqAt A s u u' (decide (ns=ms)):=by
 obtain⟨p,rfl,e1⟩:=h1
 obtain⟨q,rfl,e2⟩:=h2
 cases r1
 cases r2
 by_cases hpq:p=q
 .subst hpq
  rw[e1]at e2
  have:ns=ms:=a2' (by injection e2 with e2;injection e2 with e2)
  rw[decide_eq_true this]
  exact EqAt.same _
 obtain⟨its,v1,pl1,_⟩:=I.tuple (SqT.of e1)
 obtain⟨its2,v2,pl2,_⟩:=I.tuple (SqT.of e2)
 have l1:=v1.length
 have l2:=v2.length
 rw[List.length_map]at l1 l2
 have:=RcAt.tuples (e:=fun j=>decide (ns[j]?=ms[j]?)) pl1 pl2 (A:=A) (by omega) (fun j h1 h2=>?_)
 .rw[List.size_toArray,List.size_toArray,<- l1,<- l2]at this
  have e:((List.range (min ns.length ms.length)).all (fun j=>decide (ns[j]?=ms[j]?))&&ns.length == ms.length)=decide (ns=ms):=by
   by_cases hl:ns.length=ms.length
   .rw[show min ns.length ms.length=ns.length by omega,d9' hl,hl,BEq.rfl,Bool.and_true]
   .rw[decide_eq_false (fun z=>hl (by rw[z])),beq_eq_false_iff_ne.mpr hl,Bool.and_false]
  rw[e]at this
  exact EqAt.of_refs hpq this
 .have j1:j<ns.length:=by simp at h1;omega
  have j2:j<ms.length:=by simp at h2;omega
  obtain⟨u1,f1,ru1⟩:=v1.get (i:=j) (by rw[List.getElem?_map,List.getElem?_eq_getElem j1];rfl)
  obtain⟨u2,f2,ru2⟩:=v2.get (i:=j) (by rw[List.getElem?_map,List.getElem?_eq_getElem j2];rfl)
  rw[bY' f1 h1,bY' f2 h2]
  have:=c9' (A:=A.in1) (s:=s) ru1 ru2 (.inl ⟨rfl,fun b z=>by cases z⟩)
  rw[show decide (V.int ns[j]=V.int ms[j])=decide (ns[j]?=ms[j]?) by
   rw[List.getElem?_eq_getElem j1,List.getElem?_eq_getElem j2]
   simp]at this
  exact this
theorem rE' (I:Inv X pins σ H s) {A:Around} {α:Type} [DecidableEq α] {R:V->α->Prop} (hR:p1' R) {v w:V} {u u':Value} {as bs:List α} (hu:A.units+1<cLine)
  (ih:∀x y a b u u',R x a->R y b->ao' x u->ao' y u'->EqAt A.in1 s u u' (decide (a=b))) (h1:LsR H R v as) (h2:LsR H R w bs) (r1:ao' v u) (r2:ao' w u'):EqAt A s u u' (decide (as=bs)):=by
 obtain⟨p,vs,rfl,e1,g1⟩:=h1
 obtain⟨q,ws,rfl,e2,g2⟩:=h2
 cases r1
 cases r2
 by_cases hpq:p=q
 .subst hpq
  rw[e1]at e2
  cases e2
  rw[decide_eq_true (g1.fun1 hR g2)]
  exact EqAt.same _
 obtain⟨its,v1,pl1,_⟩:=I.list (SqL.of e1)
 obtain⟨its2,v2,pl2,_⟩:=I.list (SqL.of e2)
 have l1:=v1.length
 have l2:=v2.length
 have k1:=g1.1
 have k2:=g2.1
 by_cases hl:as.length=bs.length
 .have:=RcAt.lists (e:=fun j=>decide (as[j]?=bs[j]?)) pl1.isList pl2.isList (by simp;omega) (by omega) (A:=A) (fun j h1 h2=>?_)
  .rw[List.size_toArray,<- l1,k1,d9' hl]at this
   exact EqAt.of_refs hpq this
  .have j1:j<as.length:=by simp at h1;omega
   have j2:j<bs.length:=by omega
   obtain⟨u1,f1,ru1⟩:=v1.get (i:=j) (List.getElem?_eq_getElem (show j<vs.length by omega))
   obtain⟨u2,f2,ru2⟩:=v2.get (i:=j) (List.getElem?_eq_getElem (show j<ws.length by omega))
   rw[bY' f1 h1,bY' f2 h2]
   have:=ih _ _ _ _ _ _ (g1.2 j _ _ (List.getElem?_eq_getElem (by omega)) (List.getElem?_eq_getElem j1)) (g2.2 j _ _ (List.getElem?_eq_getElem (by omega)) (List.getElem?_eq_getElem j2)) ru1 ru2
   rw[show decide (as[j]=bs[j])=decide (as[j]?=bs[j]?) by
    rw[List.getElem?_eq_getElem j1,List.getElem?_eq_getElem j2]
    simp]at this
   exact this
 .rw[decide_eq_false (fun z=>hl (by rw[z]))]
  exact EqAt.of_refs hpq (RcAt.lists_lengths pl1.isList pl2.isList (by simp;omega) (by omega))
noncomputable def vX':R2:=fun x y H Q=>∃(k:List (List Int)) (L:List (List (List Int))),LsR H (TpI H) x k/\LsR H (LsR H (TpI H)) y L/\Q (.bl (decide (k∈L))) H
open Classical in
theorem rF' (hu:X.A.units+64<cLine):OpR X (compareOp .In) vX':=by
 intro pins s σ H x y v u Q I rx ry h
 obtain⟨k,L,hx,⟨b,ws,rfl,eb,gb⟩,q⟩:=h
 cases ry
 obtain⟨its,v1,pl1,_⟩:=I.list (SqL.of eb)
 have l1:=v1.length
 have hlb:=gb.1
 have fn:p1' (LsR H (TpI H)):=LsR.fun1 TpI.fun1
 have eqs:∀x y a b u u',LsR H (TpI H) x a->LsR H (TpI H) y b->ao' x u->ao' y u'->EqAt X.A.in1 s u u' (decide (a=b)):=fun x y a b u u' h1 h2 r1 r2=>
  rE' I TpI.fun1 (show X.A.units+1+1<cLine by omega) (fun x y a b u u' h1 h2 r1 r2=>rD' I (A:=X.A.in1.in1) (show X.A.units+1+1+1<cLine by omega) h1 h2 r1 r2) h1 h2 r1 r2
 refine in_listAt (fun u=>decide (∃x,ao' x u/\LsR H (TpI H) x k)) pl1.isList (fun w hw=>?_) ?_
 .obtain⟨i,hi⟩:=List.getElem?_of_mem (show w∈its by simpa using hw)
  have hi':i<its.length:=(List.getElem?_eq_some_iff.mp hi).1
  obtain⟨u1,f1,ru1⟩:=v1.get (List.getElem?_eq_getElem (show i<ws.length by omega))
  rw[hi]at f1
  cases f1
  have g:=gb.2 i _ _ (List.getElem?_eq_getElem (by omega)) (List.getElem?_eq_getElem (show i<L.length by omega))
  have:=eqs _ _ _ _ _ _ g hx ru1 rx
  have e:decide (L[i]=k)=decide (∃x,ao' x w/\LsR H (TpI H) x k):=by
   apply decide_eq_decide.mpr
   constructor
   .intro z;exact⟨_,ru1,z ▸ g⟩
   .rintro⟨x',rx',hx'⟩
    obtain⟨p,vs,ep,e1,g1⟩:=g
    obtain⟨p',vs',rfl,e1',g1'⟩:=hx'
    rw[ep]at ru1
    cases ru1
    cases rx'
    rw[e1]at e1'
    cases e1'
    exact g1.fun1 TpI.fun1 g1'
  rw[e]at this
  exact this
 .have e:(its.toArray.any fun u=>decide (∃x,ao' x u/\LsR H (TpI H) x k))=decide (k∈L):=by
   rw[Bool.eq_iff_iff,List.any_toArray,List.any_eq_true]
   constructor
   .rintro⟨w,hw,hd⟩
    obtain⟨x',rx',hx'⟩:=of_decide_eq_true hd
    obtain⟨i,hi⟩:=List.getElem?_of_mem hw
    have hi':i<its.length:=(List.getElem?_eq_some_iff.mp hi).1
    obtain⟨u1,f1,ru1⟩:=v1.get (List.getElem?_eq_getElem (show i<ws.length by omega))
    rw[hi]at f1
    cases f1
    obtain⟨p,vs,ep,e1,g1⟩:=gb.2 i _ _ (List.getElem?_eq_getElem (by omega)) (List.getElem?_eq_getElem (show i<L.length by omega))
    obtain⟨p',vs',rfl,e1',g1'⟩:=hx'
    rw[ep]at ru1
    cases ru1
    cases rx'
    rw[e1]at e1'
    cases e1'
    rw[<- g1.fun1 TpI.fun1 g1']
    exact decide_eq_true (List.getElem_mem _)
   .intro z
    obtain⟨i,hi⟩:=List.getElem?_of_mem (of_decide_eq_true z)
    have hi':i<L.length:=(List.getElem?_eq_some_iff.mp hi).1
    obtain⟨u1,f1,ru1⟩:=v1.get (List.getElem?_eq_getElem (show i<ws.length by omega))
    exact⟨_,List.mem_of_getElem? f1,decide_eq_true ⟨_,ru1,gb.2 i _ _ (List.getElem?_eq_getElem (by omega)) hi⟩⟩
  rw[e]
  exact⟨.bl _,H,I,rfl,q⟩
end
section
variable {X:Cx} {e st:Expr} {te:TE} {ts:TO} {p2 pos:Pos}
end
noncomputable abbrev sH1 (h:Heap) (x:Str) (t:Tok):Heap:=h.push { cls:=.type "str_ascii_iterator",data:=.fields #[.str x t,.int 0 0] }
noncomputable abbrev sH2 (h:Heap) (x:Str) (t:Tok) (l2:Addr):Heap:=(sH1 h x t).push { cls:=.type "tuple_iterator",data:=.fields #[.ref l2,.int 0 0] }
section
variable {prog:Program} {w:World} {A:Around} {E:Value->Shared->Prop} {s:Shared}
end
section
variable {X:Cx}
end
section
variable {prog:Program} {w:World} {A:Around} {E:Value->Shared->Prop} {s:Shared}
end
section
variable {X:Cx}
end
end L2
namespace R3
open PySem PySem.Spec PyProof.Rows L2
inductive Bf where
 |len|abs|int|str|isinstance|any|max|min|tuple|sortK|listD|lenD
 deriving DecidableEq
inductive Mf where
 |append|join
 deriving DecidableEq
inductive Xf where
 |eqT|inR|notInR
 deriving DecidableEq
inductive Zf where
 |eqB|ninB|ltS|inP
 deriving DecidableEq
inductive Yf where
 |strd|ltx
 deriving DecidableEq
set_option genInjectivity false
mutual
inductive Ce where
 |var (i:Nat)|int (n:Int)|bl (b:Bool)|non|str (x:Str)|ty (n:String)
 |bin (op:Operator) (a b:Ce)
 |not (a:Ce)
 |and (a b:Ce)|or (a b:Ce)
 |cmp (op:CmpOp) (a b:Ce)
 |ife (q:Cq) (a b:Ce)
 |tup (es:Ces)|lst (es:Ces)
 |idx (a b:Ce)
 |cut (a:Ce) (lo hi:Co)
 |call (f:Str) (es:Ces)
 |blt (f:Bf) (es:Ces)
 |met (m:Mf) (o:Ce) (es:Ces)
 |comp (elt:Ce) (own:List Nat) (t:Ct) (it:Ci) (q:Cqo) (r:Cc)
 |dnt|dix (a b:Ce)|din (neg:Bool) (a b:Ce)
 |dcy (k v:Ce) (own:List Nat) (t:Ct) (it:Ci) (q:Cqo)
 |dcz (k v:Ce) (own:List Nat) (t:Ct) (it:Ci) (q:Cqo) (ws:List Nat) (t2:Ct) (it2:Ci) (q2:Cqo)
 |ssp (elt:Ce) (own:List Nat) (t:Ct) (it:Ci) (q:Cqo) (ws:List Nat) (t2:Ct) (it2:Ci) (q2:Cqo)
inductive Ces where
 |nil|cons (e:Ce) (r:Ces)
inductive Cq where
 |val (e:Ce)|not (q:Cq)|and (a b:Cq)|or (a b:Cq)|cmp (op:CmpOp) (a b:Ce)|din (neg:Bool) (a b:Ce)|cmw (k:Zf) (a b:Ce)
inductive Cqo where
 |none|some (q:Cq)
inductive Co where
 |none|some (e:Ce)
inductive Ci where
 |val (e:Ce)|range1 (a:Ce)|enum (a:Ce)|dk (e:Ce)
inductive Ct where
 |name (i:Nat)|tup (ts:Cts)|sub (o i:Ce)
inductive Cts where
 |nil|cons (t:Ct) (r:Cts)
inductive Cc where
 |nil|cons (ws:List Nat) (t:Ct) (it:Ci) (q:Cqo) (r:Cc)
end
mutual
inductive Cs where
 |expr (e:Ce)|ret (e:Ce)|asg (t:Ct) (e:Ce)|par (i j:Nat) (a b:Ce)|aug (i:Nat) (sub:Bool) (e:Ce)
 |ite (q:Cq) (a b:Css)|whl (q:Cq) (b:Css)|for_ (t:Ct) (it:Ci) (b:Css)|dput (o i e:Ce)
inductive Css where
 |nil|cons (s:Cs) (r:Css)
end
set_option genInjectivity true
def uL' (i j:Int):Prop:=0<=j/\j<=1000000/\i.natAbs<2 ^ 100
def rG' (_ j:Int):Prop:=0<j/\(j<1073741824\/j.natAbs.log2<9000)
def rH' (i j:Int):Prop:=(-(2 ^ 64)<i/\i<2 ^ 64)\/(-(2 ^ 64)<j/\j<2 ^ 64)\/IntMulOk i j
section
variable (K:W.Frag)
noncomputable def ey':Operator->R2
 | .Add=>fun x y H Q=>match x,y with
  | .int i,.int j=>Q (.int (i+j)) H
  | .str i,.str j=>i.length+j.length<=sizeLine/\Q (.str (i++j)) H
  |x,y=>vK' x y H Q\/qC' K x y H Q\/ml' K x y H Q
 | .Sub=>rI0 fun i j=>.int (i-j)
 | .Mult=>fun x y H Q=>match x,y with
  | .int i,.int j=>rH' i j/\Q (.int (i*j)) H
  | .str a,.int n=>-1000000<=n/\n<=1000000/\a.length*n.toNat<=1000000/\Q (.str (Txt.mul a n)) H
  |x,y=>vL' x y H Q
 | .Mod=>rI (fun _ j=>0<j) fun i j=>.int (i % j)
 | .FloorDiv=>rI rG' fun i j=>.int (i / j)
 | .Pow=>rI ud' fun i j=>.int (i ^ j.toNat)
 | .LShift=>rI uL' fun i j=>.int (i*2 ^ j.toNat)
 | .RShift=>rI (fun _ j=>0<=j) fun i j=>.int (i / 2 ^ j.toNat)
 | .BitAnd=>rI (fun i j=>0<=i/\j=1) fun i _=>.int (i % 2)
 |_=>fun _ _ _ _=>False
noncomputable def cd':CmpOp->R2
 | .Eq=>fun x y H Q=>match x,y with
  | .ref a,.ref b=>tJ' K false (.ref a) (.ref b) H Q\/tM' false (.ref a) (.ref b) H Q
  |x,y=>rEq x y H Q
 | .NotEq=>fun x y H Q=>match x,y with
  | .ref a,.ref b=>tJ' K true (.ref a) (.ref b) H Q\/tM' true (.ref a) (.ref b) H Q
  |x,y=>rNe x y H Q
 | .Lt=>rI0 fun i j=>.bl (decide (i<j))
 | .LtE=>rI0 fun i j=>.bl (decide (i<=j))
 | .Gt=>fun x y H Q=>match x with
  | .str a=>vR' (.str a) y H Q
  |x=>rI0 (fun i j=>.bl (decide (j<i))) x y H Q
 | .GtE=>rI0 fun i j=>.bl (decide (j<=i))
 | .Is=>fun x y H Q=>match y with
  | .bl b=>tK' false x (.bl b) H Q
  |y=>y=.non/\Q (.bl (decide (x=.non))) H
 | .IsNot=>fun x y H Q=>match y with
  | .bl b=>tK' true x (.bl b) H Q
  |y=>y=.non/\Q (.bl (!decide (x=.non))) H
 | .In=>fun x y H Q=>match y with
  | .str b=>tL' false x (.str b) H Q
  |y=>rIn K false x y H Q
 | .NotIn=>fun x y H Q=>match y with
  | .str b=>tL' true x (.str b) H Q
  |y=>rIn K true x y H Q
noncomputable def cF':Bf->List V->Hp->VK->Prop
 | .len=>fun xs H Q=>∃x n,xs=[x]/\vI' K x H n/\Q (.int n) H
 | .abs=>fun xs H Q=>∃i,xs=[.int i]/\Q (.int (if i<0 then -i else i)) H
 | .int=>fun xs H Q=>match xs with
  | [.int i]=>Q (.int i) H
  | [.bl k]=>Q (.int (if k then 1 else 0)) H
  | [.str x]=>∃n,PySem.intText? x=some n/\x.length<=640/\Q (.int n) H
  | [.str x,.int j]=>j=2/\∃n,B2 x n/\Q (.int n) H
  |_=>False
 | .str=>fun xs H Q=>∃i,xs=[.int i]/\i.natAbs.log2<1920/\Q (.str (toString i)) H
 | .isinstance=>fun xs H Q=>vN' xs H Q\/False
 | .any=>vO' K true
 | .max=>fun xs H Q=>match xs with
  | [.int i,.int j]=>Q (.int (if j > i then j else i)) H
  |xs=>k1' K true xs H Q
 | .min=>fun xs H Q=>match xs with
  | [.int i,.int j]=>Q (.int (if j<i then j else i)) H
  |xs=>k1' K false xs H Q
 | .sortK=>mz' K
 | .listD=>jq'
 | .lenD=>mF'
 | .tuple=>fun xs H Q=>∃p ys,xs=[.ref p]/\((SqL K H p ys/\∀l,H l=none->Q (.ref l) (upd H l (.tup ys)))\/(SqT K H p ys/\Q (.ref p) H))
noncomputable def lm':Mf->V->List V->Hp->VK->Prop
 | .append=>iB'
 | .join=>qP' K
noncomputable def e5':Mf->String
 | .join=>"str"
 |_=>"list"
noncomputable def jr':Mf->Str
 | .append=>"append"
 | .join=>"join"
noncomputable def dm':Bf->Str
 | .len=>"len"
 | .abs=>"abs"
 | .int=>"int"
 | .str=>"str"
 | .isinstance=>"isinstance"
 | .any=>"any"
 | .max=>"max"
 | .min=>"min"
 | .tuple=>"tuple"
 | .sortK=>"sorted"
 | .listD=>"list"
 | .lenD=>"len"
noncomputable def ln':R2:=fun x y H Q=>match x,y with
 | .str z,.int i=>z.length<=sizeLine/\∃c,atI z.cps.toList i=some c/\Q (.str ⟨#[c]⟩) H
 |x,y=>h4' K x y H Q\/iz' K x y H Q
noncomputable def rSl:V->Option Int->Option Int->Hp->VK->Prop:=fun x lo hi H Q=>match x with
 | .str a=>a.length<=sizeLine/\Q (.str (Txt.slice a lo hi)) H
 |x=>tH' K x lo hi H Q\/tG' K x lo hi H Q\/tN' K x lo hi H Q
end
noncomputable def vY':Zf->CmpOp
 | .eqB=>.Eq
 | .ninB=>.NotIn
 | .ltS=>.Lt
 | .inP=>.In
noncomputable def rZf:Zf->R2
 | .eqB=>vS' false
 | .ninB=>q6'
 | .ltS=>fun x y H Q=>∃i j,x=.str i/\y=.str j/\Q (.bl (decide (i.cps.toList<j.cps.toList))) H
 | .inP=>vX'
structure Rc where
 N:List Str
 B:List Str
 K:W.Frag
 fs:Str->Option Sp
 xk:L2.St->XK:=fun _=>E0
 cl:Str->Option Addr:=fun _=>none
noncomputable def lo' (neg:Bool) (ty td:TE):TE:=uG' neg ty td
noncomputable def lp':Cts->Nat
 | .nil=>0
 | .cons _ r=>lp' r+1
mutual
noncomputable def tE (C:Rc):Ce->TE
 | .var i=>tA' i
 | .int n=>tC (.int n)
 | .bl b=>tC (.bl b)
 | .non=>tC .non
 | .str x=>tC (.str x)
 | .ty n=>tC (.ty n)
 | .bin op a b=>tOp (ey' C.K op) (tE C a) (tE C b)
 | .not a=>n2' (tE C a)
 | .and a b=>kG' (tE C a) (tE C b)
 | .or a b=>tC' (tE C a) (tE C b)
 | .cmp op a b=>tOp (cd' C.K op) (tE C a) (tE C b)
 | .ife q a b=>tIf (tQ C q) (tE C a) (tE C b)
 | .tup es=>uk' (tA C es)
 | .lst es=>ul' (tA C es)
 | .idx a b=>tOp (ln' C.K) (tE C a) (tE C b)
 | .cut a lo hi=>tSl (rSl C.K) (tE C a) (tO C lo) (tO C hi)
 | .call f es=>fun σ H Q=>match C.fs f with
  |some sp=>kQ' sp [] (C.xk σ) (tA C es) σ H Q
  |none=>False
 | .blt f es=>tCB (cF' C.K f) (tA C es)
 | .met m o es=>tBM C.K (e5' m) (lm' C.K m) (tE C o) (tA C es)
 | .dnt=>iV'
 | .dix a b=>oE' (tE C a) (tE C b)
 | .din neg a b=>lo' neg (tE C a) (tE C b)
 | .dcy k v own t it q=>dl' own (tI C it) (tG C t) (tQo C q) (cE' (tE C k) (tE C v)) [] (fun _ a=>.dT (plT a)) okT
 | .dcz k v own t it q ws t2 it2 q2=>dl' own (tI C it) (tG C t) (tQo C q) (dy' (tI C it2) (aE' ws (tG C t2) (tQo C q2) (cE' (tE C k) (tE C v)))) [] (fun _ a=>.dT (plT a)) okT
 | .ssp elt own t it q ws t2 it2 q2=>uH' own (tI C it) (tG C t) (tQo C q) (dy' (tI C it2) (aE' ws (tG C t2) (tQo C q2) (e4' (tE C elt))))
 | .comp elt own t it q r=>hr' own (tI C it) (tG C t) (tQo C q) (tR C r (dx' (tE C elt)))
noncomputable def tA (C:Rc):Ces->TA
 | .nil=>kA'
 | .cons e r=>cJ' (tE C e) (tA C r)
noncomputable def tQ (C:Rc):Cq->TT
 | .val e=>fun σ H Q=>tE C e σ H fun x H'=>∃k,qw' C.K x H' k/\Q k H'
 | .not q=>tZ' (tQ C q)
 | .and a b=>qa' (tQ C a) (tQ C b)
 | .or a b=>tOr (tQ C a) (tQ C b)
 | .cmp op a b=>fq' (tOp (cd' C.K op) (tE C a) (tE C b))
 | .din neg a b=>fq' (lo' neg (tE C a) (tE C b))
 | .cmw k a b=>fq' (tOp (rZf k) (tE C a) (tE C b))
noncomputable def tQo (C:Rc):Cqo->TT
 | .none=>fun _ H Q=>Q true H
 | .some q=>tQ C q
noncomputable def tO (C:Rc):Co->TO
 | .none=>fr'
 | .some e=>oi' (tE C e)
noncomputable def tI (C:Rc):Ci->TI
 | .val e=>uq' C.K (tE C e)
 | .range1 a=>oa' (cJ' (tE C a) kA')
 | .enum a=>oy' C.K (tE C a)
 | .dk e=>uI' (tE C e)
noncomputable def tG (C:Rc):Ct->TG
 | .name i=>h9' i
 | .tup ts=>uJ' C.K (lp' ts) (tGs C ts)
 | .sub o i=>t6' (tE C o) (tE C i) dw'
noncomputable def tGs (C:Rc):Cts->TGs
 | .nil=>t5'
 | .cons t r=>n8' (tG C t) (tGs C r)
noncomputable def tR (C:Rc):Cc->TL (List V)->TL (List V)
 | .nil,em=>em
 | .cons ws t it q r,em=>dy' (tI C it) (aE' ws (tG C t) (tQo C q) (tR C r em))
end
mutual
noncomputable def tS (C:Rc):Cs->TS
 | .expr e=>n5' (tE C e)
 | .ret e=>t1' (tE C e)
 | .asg t e=>tD' (tE C e) (tG C t)
 | .par i j a b=>t7' i j (cJ' (tE C a) (cJ' (tE C b) kA'))
 | .aug i sub e=>t8' i (tE C e) (ipI fun i j=>if sub then i-j else i+j)
 | .ite q a b=>t2' (tQ C q) (tSs C a) (tSs C b)
 | .whl q b=>ib' (tQ C q) (tSs C b)
 | .for_ t it b=>t9' (tI C it) (tG C t) (tSs C b)
 | .dput o i e=>oF' (tE C o) (tE C i) (tE C e)
noncomputable def tSs (C:Rc):Css->TS
 | .nil=>n3'
 | .cons s r=>t0' (tS C s) (tSs C r)
end
noncomputable def vis (sc:Scope) (x:Str):Bool:=match sc.names.lookup x with
 |some .local=>true
 |some .cell=>true
 |some .free=>true
 |_=>false
noncomputable def locb (sc:Scope) (x:Str):Bool:=match sc.names.lookup x with
 |some .local=>true
 |some .cell=>true
 |_=>false
noncomputable def glb (sc:Scope) (x:Str):Bool:=decide (sc.names.lookup x=some .globalImplicit)
noncomputable def dn' (N:List Str) (i:Nat) (x:Str):Bool:=decide (N[i]?=some x)&&!(x == ("__debug__":Str))&&!(x == ("__classdict__":Str))
noncomputable def aN':Expr->Bool
 | .Starred ..=>false
 |_=>true
noncomputable def aZ':Expr->Bool
 | .Set ..=>false
 |_=>true
noncomputable def bU':Expr->Bool
 | .Slice ..=>false
 |_=>true
noncomputable def mG':Expr->Bool
 | .Call _ [] _ _=>false
 |_=>true
noncomputable def mH':Expr->Bool
 | .UnaryOp .Not _ _=>false
 | .BoolOp ..=>false
 | .IfExp ..=>false
 | .Compare ..=>false
 |_=>true
noncomputable def e6':List String:=["list","tuple","str","bool","int","dict","ValueError"]
noncomputable def js' (N:List Str) (sc scope:Scope) (own:List Nat):Bool:=
 decide (scope.kind=.function)&&
 scope.names.all (fun x=>(decide (x.2≠.local) || decide (scope.names.lookup x.1=some .local))&&(decide (x.2≠.cell) || decide (scope.names.lookup x.1=some .cell))&&
  (decide (x.2≠.free) || decide (sc.names.lookup x.1=some .cell) || decide (sc.names.lookup x.1=some .free)))&&
 (List.range N.length).all (fun i=>match N[i]? with
  |some x=>(decide (scope.names.lookup x≠some .local)&&decide (scope.names.lookup x≠some .cell)) || decide (i∈own)
  |none=>true)
noncomputable def hT':Ci->Expr->Bool
 | .enum _,.Tuple ..=>true
 | .enum _,_=>false
 |_,_=>true
mutual
noncomputable def fM' (own:List Nat):Ct->Bool
 | .name i=>decide (i∈own)
 | .tup ts=>jt' own ts
 | .sub _ _=>false
noncomputable def jt' (own:List Nat):Cts->Bool
 | .nil=>true
 | .cons t r=>fM' own t&&jt' own r
end
noncomputable def tld (B:List Str):Bool:=decide (("~":Str)∈B)
noncomputable def hat (B:List Str):Bool:=decide (("^":Str)∈B)
noncomputable def pct (B:List Str):Bool:=decide (("%":Str)∈B)
noncomputable def p2' (x:Str):Str:=⟨#[33]++x.cps⟩
theorem aj' {P:Prop} (h:false=true):P:=(Bool.false_ne_true h).elim
theorem fN' {a b:Bool} (h:(a&&b)=true):a=true/\b=true:=by
 cases a with
 |true=>exact⟨rfl,h⟩
 |false=>exact aj' h
noncomputable def uM' (e:Expr) (f:Expr->Expr->Bool):Bool:=match e with
 | .BoolOp .And [x,y] _=>f x y
 | .BoolOp .And (x :: y :: z :: r) pos=>f x (.BoolOp .And (y :: z :: r) pos)
 |_=>false
theorem ju' {e:Expr} {f:Expr->Expr->Bool} (h:uM' e f=true):(∃x y pos,e=.BoolOp .And [x,y] pos/\f x y=true)\/∃x y z r pos,e=.BoolOp .And (x :: y :: z :: r) pos/\f x (.BoolOp .And (y :: z :: r) pos)=true:=by
 cases e with
 |BoolOp o vs pos=>
  cases o with
  |And=>
   cases vs with
   |nil=>exact aj' h
   |cons x r=>
    cases r with
    |nil=>exact aj' h
    |cons y r=>
     cases r with
     |nil=>exact .inl ⟨x,y,pos,rfl,h⟩
     |cons z r=>exact .inr ⟨x,y,z,r,pos,rfl,h⟩
  |_=>exact aj' h
 |_=>exact aj' h
noncomputable def vOr (e:Expr) (f:Expr->Expr->Bool):Bool:=match e with
 | .BoolOp .Or [x,y] _=>f x y
 | .BoolOp .Or (x :: y :: z :: r) pos=>f x (.BoolOp .Or (y :: z :: r) pos)
 |_=>false
theorem mI' {e:Expr} {f:Expr->Expr->Bool} (h:vOr e f=true):(∃x y pos,e=.BoolOp .Or [x,y] pos/\f x y=true)\/∃x y z r pos,e=.BoolOp .Or (x :: y :: z :: r) pos/\f x (.BoolOp .Or (y :: z :: r) pos)=true:=by
 cases e with
 |BoolOp o vs pos=>
  cases o with
  |Or=>
   cases vs with
   |nil=>exact aj' h
   |cons x r=>
    cases r with
    |nil=>exact aj' h
    |cons y r=>
     cases r with
     |nil=>exact .inl ⟨x,y,pos,rfl,h⟩
     |cons z r=>exact .inr ⟨x,y,z,r,pos,rfl,h⟩
  |_=>exact aj' h
 |_=>exact aj' h
noncomputable def ba' {α:Type} (z:List α) (f:Bool):Bool:=match z with
 | []=>f
 |_=>false
theorem ak' {α:Type} {z:List α} {f:Bool} (h:ba' z f=true):z=[]/\f=true:=by
 cases z with
 |nil=>exact⟨rfl,h⟩
 |_=>exact aj' h
noncomputable def aG' {α:Type} (z:List α) (f:α->List α->Bool):Bool:=match z with
 |x :: r=>f x r
 |_=>false
theorem ai' {α:Type} {z:List α} {f:α->List α->Bool} (h:aG' z f=true):∃x r,z=x :: r/\f x r=true:=by
 cases z with
 |cons x r=>exact⟨x,r,rfl,h⟩
 |_=>exact aj' h
noncomputable def jv' {α:Type} (z:Option α) (f:Bool):Bool:=match z with
 |none=>f
 |_=>false
theorem e7' {α:Type} {z:Option α} {f:Bool} (h:jv' z f=true):z=none/\f=true:=by
 cases z with
 |none=>exact⟨rfl,h⟩
 |_=>exact aj' h
noncomputable def jw' {α:Type} (z:Option α) (f:α->Bool):Bool:=match z with
 |some x=>f x
 |_=>false
theorem e8' {α:Type} {z:Option α} {f:α->Bool} (h:jw' z f=true):∃x,z=some x/\f x=true:=by
 cases z with
 |some x=>exact⟨x,rfl,h⟩
 |_=>exact aj' h
noncomputable def eh' (z:Comprehension) (f:Expr->Expr->List Expr->Int->Bool):Bool:=f z.target z.iter z.ifs z.is_async
theorem bm' {z:Comprehension} {f:Expr->Expr->List Expr->Int->Bool} (h:eh' z f=true):∃a b c d,z=⟨a,b,c,d⟩/\f a b c d=true:=by
 cases z
 exact⟨_,_,_,_,rfl,h⟩
noncomputable def bK' (z:Expr) (f:Str->Pos->Bool):Bool:=match z with
 | .Name x0 x1=>f x0 x1
 |_=>false
theorem a3' {z f} (h:bK' z f=true):∃x0 x1,z=.Name x0 x1/\f x0 x1=true:=by
 cases z with
 |Name x0 x1=>exact⟨x0,x1,rfl,h⟩
 |_=>exact aj' h
noncomputable def bg' (z:Expr) (f:Const->Nat->Pos->Bool):Bool:=match z with
 | .Constant x0 x1 x2=>f x0 x1 x2
 |_=>false
theorem a4' {z f} (h:bg' z f=true):∃x0 x1 x2,z=.Constant x0 x1 x2/\f x0 x1 x2=true:=by
 cases z with
 |Constant x0 x1 x2=>exact⟨x0,x1,x2,rfl,h⟩
 |_=>exact aj' h
noncomputable def mJ' (z:Const) (f:Int->Bool):Bool:=match z with
 | .int x0=>f x0
 |_=>false
theorem jx' {z f} (h:mJ' z f=true):∃x0,z=.int x0/\f x0=true:=by
 cases z with
 |int x0=>exact⟨x0,rfl,h⟩
 |_=>exact aj' h
noncomputable def jy' (z:Const) (f:Bool->Bool):Bool:=match z with
 | .bool x0=>f x0
 |_=>false
theorem hU' {z f} (h:jy' z f=true):∃x0,z=.bool x0/\f x0=true:=by
 cases z with
 |bool x0=>exact⟨x0,rfl,h⟩
 |_=>exact aj' h
noncomputable def jz' (z:Const) (f:Bool):Bool:=match z with
 | .none=>f
 |_=>false
theorem hV' {z f} (h:jz' z f=true):z=.none/\f=true:=by
 cases z with
 |none=>exact⟨rfl,h⟩
 |_=>exact aj' h
noncomputable def mK' (z:Const) (f:Str->Bool):Bool:=match z with
 | .str x0=>f x0
 |_=>false
theorem jA' {z f} (h:mK' z f=true):∃x0,z=.str x0/\f x0=true:=by
 cases z with
 |str x0=>exact⟨x0,rfl,h⟩
 |_=>exact aj' h
noncomputable def gs' (z:Expr) (f:Expr->Operator->Expr->Pos->Bool):Bool:=match z with
 | .BinOp x0 x1 x2 x3=>f x0 x1 x2 x3
 |_=>false
theorem fO' {z f} (h:gs' z f=true):∃x0 x1 x2 x3,z=.BinOp x0 x1 x2 x3/\f x0 x1 x2 x3=true:=by
 cases z with
 |BinOp x0 x1 x2 x3=>exact⟨x0,x1,x2,x3,rfl,h⟩
 |_=>exact aj' h
noncomputable def dQ' (z:Expr) (f:UnaryOp->Expr->Pos->Bool):Bool:=match z with
 | .UnaryOp x0 x1 x2=>f x0 x1 x2
 |_=>false
theorem ei' {z f} (h:dQ' z f=true):∃x0 x1 x2,z=.UnaryOp x0 x1 x2/\f x0 x1 x2=true:=by
 cases z with
 |UnaryOp x0 x1 x2=>exact⟨x0,x1,x2,rfl,h⟩
 |_=>exact aj' h
noncomputable def mL' (z:UnaryOp) (f:Bool):Bool:=match z with
 | .Not=>f
 |_=>false
theorem jB' {z f} (h:mL' z f=true):z=.Not/\f=true:=by
 cases z with
 |Not=>exact⟨rfl,h⟩
 |_=>exact aj' h
noncomputable def dR' (z:Expr) (f:Expr->List CmpOp->List Expr->Pos->Bool):Bool:=match z with
 | .Compare x0 x1 x2 x3=>f x0 x1 x2 x3
 |_=>false
theorem ej' {z f} (h:dR' z f=true):∃x0 x1 x2 x3,z=.Compare x0 x1 x2 x3/\f x0 x1 x2 x3=true:=by
 cases z with
 |Compare x0 x1 x2 x3=>exact⟨x0,x1,x2,x3,rfl,h⟩
 |_=>exact aj' h
noncomputable def gt' (z:Expr) (f:Expr->Expr->Expr->Pos->Bool):Bool:=match z with
 | .IfExp x0 x1 x2 x3=>f x0 x1 x2 x3
 |_=>false
theorem fP' {z f} (h:gt' z f=true):∃x0 x1 x2 x3,z=.IfExp x0 x1 x2 x3/\f x0 x1 x2 x3=true:=by
 cases z with
 |IfExp x0 x1 x2 x3=>exact⟨x0,x1,x2,x3,rfl,h⟩
 |_=>exact aj' h
noncomputable def cS' (z:Expr) (f:List Expr->Nat->Pos->Bool):Bool:=match z with
 | .Tuple x0 x1 x2=>f x0 x1 x2
 |_=>false
theorem b9' {z f} (h:cS' z f=true):∃x0 x1 x2,z=.Tuple x0 x1 x2/\f x0 x1 x2=true:=by
 cases z with
 |Tuple x0 x1 x2=>exact⟨x0,x1,x2,rfl,h⟩
 |_=>exact aj' h
noncomputable def jC' (z:Expr) (f:List Expr->Pos->Bool):Bool:=match z with
 | .List x0 x1=>f x0 x1
 |_=>false
theorem hW' {z f} (h:jC' z f=true):∃x0 x1,z=.List x0 x1/\f x0 x1=true:=by
 cases z with
 |List x0 x1=>exact⟨x0,x1,rfl,h⟩
 |_=>exact aj' h
noncomputable def bn' (z:Expr) (f:Expr->Expr->Pos->Bool):Bool:=match z with
 | .Subscript x0 x1 x2=>f x0 x1 x2
 |_=>false
theorem bh' {z f} (h:bn' z f=true):∃x0 x1 x2,z=.Subscript x0 x1 x2/\f x0 x1 x2=true:=by
 cases z with
 |Subscript x0 x1 x2=>exact⟨x0,x1,x2,rfl,h⟩
 |_=>exact aj' h
noncomputable def gu' (z:Expr) (f:Option Expr->Option Expr->Option Expr->Pos->Bool):Bool:=match z with
 | .Slice x0 x1 x2 x3=>f x0 x1 x2 x3
 |_=>false
theorem fQ' {z f} (h:gu' z f=true):∃x0 x1 x2 x3,z=.Slice x0 x1 x2 x3/\f x0 x1 x2 x3=true:=by
 cases z with
 |Slice x0 x1 x2 x3=>exact⟨x0,x1,x2,x3,rfl,h⟩
 |_=>exact aj' h
noncomputable def do' (z:Expr) (f:Expr->List Expr->List Keyword->Pos->Bool):Bool:=match z with
 | .Call x0 x1 x2 x3=>f x0 x1 x2 x3
 |_=>false
theorem bV' {z f} (h:do' z f=true):∃x0 x1 x2 x3,z=.Call x0 x1 x2 x3/\f x0 x1 x2 x3=true:=by
 cases z with
 |Call x0 x1 x2 x3=>exact⟨x0,x1,x2,x3,rfl,h⟩
 |_=>exact aj' h
noncomputable def cG' (z:Expr) (f:Expr->Str->Pos->Bool):Bool:=match z with
 | .Attribute x0 x1 x2=>f x0 x1 x2
 |_=>false
theorem dp' {z f} (h:cG' z f=true):∃x0 x1 x2,z=.Attribute x0 x1 x2/\f x0 x1 x2=true:=by
 cases z with
 |Attribute x0 x1 x2=>exact⟨x0,x1,x2,rfl,h⟩
 |_=>exact aj' h
noncomputable def jD' (z:Expr) (f:List (Option Expr)->List Expr->Pos->Bool):Bool:=match z with
 | .Dict x0 x1 x2=>f x0 x1 x2
 |_=>false
theorem hX' {z f} (h:jD' z f=true):∃x0 x1 x2,z=.Dict x0 x1 x2/\f x0 x1 x2=true:=by
 cases z with
 |Dict x0 x1 x2=>exact⟨x0,x1,x2,rfl,h⟩
 |_=>exact aj' h
noncomputable def ca' (z:Expr) (f:Expr->Expr->List Comprehension->Scope->Pos->Bool):Bool:=match z with
 | .DictComp x0 x1 x2 x3 x4=>f x0 x1 x2 x3 x4
 |_=>false
theorem b0' {z f} (h:ca' z f=true):∃x0 x1 x2 x3 x4,z=.DictComp x0 x1 x2 x3 x4/\f x0 x1 x2 x3 x4=true:=by
 cases z with
 |DictComp x0 x1 x2 x3 x4=>exact⟨x0,x1,x2,x3,x4,rfl,h⟩
 |_=>exact aj' h
noncomputable def cb' (z:Expr) (f:Expr->List Comprehension->Scope->Pos->Bool):Bool:=match z with
 | .ListComp x0 x1 x2 x3=>f x0 x1 x2 x3
 |_=>false
theorem b1' {z f} (h:cb' z f=true):∃x0 x1 x2 x3,z=.ListComp x0 x1 x2 x3/\f x0 x1 x2 x3=true:=by
 cases z with
 |ListComp x0 x1 x2 x3=>exact⟨x0,x1,x2,x3,rfl,h⟩
 |_=>exact aj' h
noncomputable def jE' (z:Stmt) (f:Expr->Pos->Bool):Bool:=match z with
 | .Expr x0 x1=>f x0 x1
 |_=>false
theorem hY' {z f} (h:jE' z f=true):∃x0 x1,z=.Expr x0 x1/\f x0 x1=true:=by
 cases z with
 |Expr x0 x1=>exact⟨x0,x1,rfl,h⟩
 |_=>exact aj' h
noncomputable def e9' (z:Stmt) (f:Option Expr->Pos->Bool):Bool:=match z with
 | .Return x0 x1=>f x0 x1
 |_=>false
theorem fa' {z f} (h:e9' z f=true):∃x0 x1,z=.Return x0 x1/\f x0 x1=true:=by
 cases z with
 |Return x0 x1=>exact⟨x0,x1,rfl,h⟩
 |_=>exact aj' h
noncomputable def cm' (z:Stmt) (f:List Expr->Expr->Pos->Bool):Bool:=match z with
 | .Assign x0 x1 x2=>f x0 x1 x2
 |_=>false
theorem bL' {z f} (h:cm' z f=true):∃x0 x1 x2,z=.Assign x0 x1 x2/\f x0 x1 x2=true:=by
 cases z with
 |Assign x0 x1 x2=>exact⟨x0,x1,x2,rfl,h⟩
 |_=>exact aj' h
noncomputable def dS' (z:Expr) (f:Expr->List Comprehension->Scope->Pos->Bool):Bool:=match z with
 | .SetComp x0 x1 x2 x3=>f x0 x1 x2 x3
 |_=>false
theorem ek' {z f} (h:dS' z f=true):∃x0 x1 x2 x3,z=.SetComp x0 x1 x2 x3/\f x0 x1 x2 x3=true:=by
 cases z with
 |SetComp x0 x1 x2 x3=>exact⟨x0,x1,x2,x3,rfl,h⟩
 |_=>exact aj' h
noncomputable def cH' (z:Stmt) (f:Expr->Operator->Expr->Pos->Bool):Bool:=match z with
 | .AugAssign x0 x1 x2 x3=>f x0 x1 x2 x3
 |_=>false
theorem dq' {z f} (h:cH' z f=true):∃x0 x1 x2 x3,z=.AugAssign x0 x1 x2 x3/\f x0 x1 x2 x3=true:=by
 cases z with
 |AugAssign x0 x1 x2 x3=>exact⟨x0,x1,x2,x3,rfl,h⟩
 |_=>exact aj' h
noncomputable def rI' (z:Stmt) (f:Expr->List Stmt->List Stmt->Pos->Bool):Bool:=match z with
 | .If x0 x1 x2 x3=>f x0 x1 x2 x3
 |_=>false
theorem lq' {z f} (h:rI' z f=true):∃x0 x1 x2 x3,z=.If x0 x1 x2 x3/\f x0 x1 x2 x3=true:=by
 cases z with
 |If x0 x1 x2 x3=>exact⟨x0,x1,x2,x3,rfl,h⟩
 |_=>exact aj' h
noncomputable def gv' (z:Stmt) (f:Expr->List Stmt->List Stmt->Pos->Bool):Bool:=match z with
 | .While x0 x1 x2 x3=>f x0 x1 x2 x3
 |_=>false
theorem fR' {z f} (h:gv' z f=true):∃x0 x1 x2 x3,z=.While x0 x1 x2 x3/\f x0 x1 x2 x3=true:=by
 cases z with
 |While x0 x1 x2 x3=>exact⟨x0,x1,x2,x3,rfl,h⟩
 |_=>exact aj' h
noncomputable def mM' (z:Stmt) (f:Expr->Expr->List Stmt->List Stmt->Pos->Bool):Bool:=match z with
 | .For x0 x1 x2 x3 x4=>f x0 x1 x2 x3 x4
 |_=>false
theorem jF' {z f} (h:mM' z f=true):∃x0 x1 x2 x3 x4,z=.For x0 x1 x2 x3 x4/\f x0 x1 x2 x3 x4=true:=by
 cases z with
 |For x0 x1 x2 x3 x4=>exact⟨x0,x1,x2,x3,x4,rfl,h⟩
 |_=>exact aj' h
noncomputable def v1 (zz:Expr) (f:Str->Bool):Bool:=bK' zz fun y1 y2=>f y1
theorem uN' {zz f} {P:Prop} (h:v1 zz f=true) (k:∀x w1,zz=.Name x w1->f x=true->P):P:=by
 obtain⟨y1,y2,e0,h⟩:=a3' h
 exact k y1 y2 (by rw[e0]) h
noncomputable def v2 (zz:Expr) (f:Int->Bool):Bool:=bg' zz fun y1 y2 y3=>mJ' y1 fun y4=>f y4
theorem wE' {zz f} {P:Prop} (h:v2 zz f=true) (k:∀m w1 w2,zz=.Constant (.int m) w1 w2->f m=true->P):P:=by
 obtain⟨y1,y2,y3,e0,h⟩:=a4' h
 obtain⟨y4,e1,h⟩:=jx' h
 exact k y4 y2 y3 (by rw[e0,e1]) h
noncomputable def v3 (zz:Expr) (f:Bool->Bool):Bool:=bg' zz fun y1 y2 y3=>jy' y1 fun y4=>f y4
theorem wF' {zz f} {P:Prop} (h:v3 zz f=true) (k:∀c w1 w2,zz=.Constant (.bool c) w1 w2->f c=true->P):P:=by
 obtain⟨y1,y2,y3,e0,h⟩:=a4' h
 obtain⟨y4,e1,h⟩:=hU' h
 exact k y4 y2 y3 (by rw[e0,e1]) h
noncomputable def v4 (zz:Expr) (f:Bool):Bool:=bg' zz fun y1 y2 y3=>jz' y1 (f)
theorem wG' {zz f} {P:Prop} (h:v4 zz f=true) (k:∀w1 w2,zz=.Constant .none w1 w2->f=true->P):P:=by
 obtain⟨y1,y2,y3,e0,h⟩:=a4' h
 obtain⟨e1,h⟩:=hV' h
 exact k y2 y3 (by rw[e0,e1]) h
noncomputable def v5 (zz:Expr) (f:Str->Bool):Bool:=bg' zz fun y1 y2 y3=>mK' y1 fun y4=>f y4
theorem wH' {zz f} {P:Prop} (h:v5 zz f=true) (k:∀y w1 w2,zz=.Constant (.str y) w1 w2->f y=true->P):P:=by
 obtain⟨y1,y2,y3,e0,h⟩:=a4' h
 obtain⟨y4,e1,h⟩:=jA' h
 exact k y4 y2 y3 (by rw[e0,e1]) h
noncomputable def v6 (zz:Expr) (f:Expr->Operator->Expr->Bool):Bool:=gs' zz fun y1 y2 y3 y4=>f y1 y2 y3
theorem wI' {zz f} {P:Prop} (h:v6 zz f=true) (k:∀ea op' eb w1,zz=.BinOp ea op' eb w1->f ea op' eb=true->P):P:=by
 obtain⟨y1,y2,y3,y4,e0,h⟩:=fO' h
 exact k y1 y2 y3 y4 (by rw[e0]) h
noncomputable def v8 (zz:Expr) (f:Expr->Bool):Bool:=dQ' zz fun y1 y2 y3=>mL' y1 (f y2)
theorem vZ' {zz f} {P:Prop} (h:v8 zz f=true) (k:∀ea w1,zz=.UnaryOp .Not ea w1->f ea=true->P):P:=by
 obtain⟨y1,y2,y3,e0,h⟩:=ei' h
 obtain⟨e1,h⟩:=jB' h
 exact k y2 y3 (by rw[e0,e1]) h
noncomputable def v9 (zz:Expr) (f:Expr->CmpOp->Expr->Bool):Bool:=dR' zz fun y1 y2 y3 y4=>aG' y2 fun y5 y6=>ba' y6 (aG' y3 fun y7 y8=>ba' y8 (f y1 y5 y7))
theorem rJ' {zz f} {P:Prop} (h:v9 zz f=true) (k:∀ea op' eb w1,zz=.Compare ea (op' :: []) (eb :: []) w1->f ea op' eb=true->P):P:=by
 obtain⟨y1,y2,y3,y4,e0,h⟩:=ej' h
 obtain⟨y5,y6,e1,h⟩:=ai' h
 obtain⟨e2,h⟩:=ak' h
 obtain⟨y7,y8,e3,h⟩:=ai' h
 obtain⟨e4,h⟩:=ak' h
 exact k y1 y5 y7 y4 (by rw[e0,e1,e2,e3,e4]) h
noncomputable def v11 (zz:Expr) (f:Expr->Expr->Expr->Bool):Bool:=gt' zz fun y1 y2 y3 y4=>f y1 y2 y3
theorem uO' {zz f} {P:Prop} (h:v11 zz f=true) (k:∀eq ea eb w1,zz=.IfExp eq ea eb w1->f eq ea eb=true->P):P:=by
 obtain⟨y1,y2,y3,y4,e0,h⟩:=fP' h
 exact k y1 y2 y3 y4 (by rw[e0]) h
noncomputable def v12 (zz:Expr) (f:List Expr->Bool):Bool:=cS' zz fun y1 y2 y3=>f y1
theorem rK' {zz f} {P:Prop} (h:v12 zz f=true) (k:∀xs w1 w2,zz=.Tuple xs w1 w2->f xs=true->P):P:=by
 obtain⟨y1,y2,y3,e0,h⟩:=b9' h
 exact k y1 y2 y3 (by rw[e0]) h
noncomputable def v13 (zz:Expr) (f:List Expr->Bool):Bool:=jC' zz fun y1 y2=>f y1
theorem uP' {zz f} {P:Prop} (h:v13 zz f=true) (k:∀xs w1,zz=.List xs w1->f xs=true->P):P:=by
 obtain⟨y1,y2,e0,h⟩:=hW' h
 exact k y1 y2 (by rw[e0]) h
noncomputable def v14 (zz:Expr) (f:Expr->Expr->Bool):Bool:=bn' zz fun y1 y2 y3=>f y1 y2
theorem o1' {zz f} {P:Prop} (h:v14 zz f=true) (k:∀ea eb w1,zz=.Subscript ea eb w1->f ea eb=true->P):P:=by
 obtain⟨y1,y2,y3,e0,h⟩:=bh' h
 exact k y1 y2 y3 (by rw[e0]) h
noncomputable def v15 (zz:Expr) (f:Expr->Option Expr->Option Expr->Bool):Bool:=bn' zz fun y1 y2 y3=>gu' y2 fun y4 y5 y6 y7=>jv' y6 (f y1 y4 y5)
theorem uQ' {zz f} {P:Prop} (h:v15 zz f=true) (k:∀ea l h w1 w2,zz=.Subscript ea (.Slice l h none w1) w2->f ea l h=true->P):P:=by
 obtain⟨y1,y2,y3,e0,h⟩:=bh' h
 obtain⟨y4,y5,y6,y7,e1,h⟩:=fQ' h
 obtain⟨e2,h⟩:=e7' h
 exact k y1 y4 y5 y7 y3 (by rw[e0,e1,e2]) h
noncomputable def v16 (zz:Expr) (f:Str->Expr->List Expr->Bool):Bool:=do' zz fun y1 y2 y3 y4=>bK' y1 fun y5 y6=>aG' y2 fun y7 y8=>ba' y3 (f y5 y7 y8)
theorem rL' {zz f} {P:Prop} (h:v16 zz f=true) (k:∀x w1 e r w2,zz=.Call (.Name x w1) (e :: r) [] w2->f x e r=true->P):P:=by
 obtain⟨y1,y2,y3,y4,e0,h⟩:=bV' h
 obtain⟨y5,y6,e1,h⟩:=a3' h
 obtain⟨y7,y8,e2,h⟩:=ai' h
 obtain⟨e3,h⟩:=ak' h
 exact k y5 y6 y7 y8 y4 (by rw[e0,e1,e2,e3]) h
noncomputable def v17 (zz:Expr) (f:Expr->Str->Pos->List Expr->Pos->Bool):Bool:=do' zz fun y1 y2 y3 y4=>cG' y1 fun y5 y6 y7=>ba' y3 (f y5 y6 y7 y2 y4)
theorem uR' {zz f} {P:Prop} (h:v17 zz f=true) (k:∀eo nm apos args pos,zz=.Call (.Attribute eo nm apos) args [] pos->f eo nm apos args pos=true->P):P:=by
 obtain⟨y1,y2,y3,y4,e0,h⟩:=bV' h
 obtain⟨y5,y6,y7,e1,h⟩:=dp' h
 obtain⟨e2,h⟩:=ak' h
 exact k y5 y6 y7 y2 y4 (by rw[e0,e1,e2]) h
noncomputable def v18 (zz:Expr) (f:Bool):Bool:=jD' zz fun y1 y2 y3=>ba' y1 (ba' y2 (f))
theorem uS' {zz f} {P:Prop} (h:v18 zz f=true) (k:∀w1,zz=.Dict [] [] w1->f=true->P):P:=by
 obtain⟨y1,y2,y3,e0,h⟩:=hX' h
 obtain⟨e1,h⟩:=ak' h
 obtain⟨e2,h⟩:=ak' h
 exact k y3 (by rw[e0,e1,e2]) h
noncomputable def v81 (zz:Expr) (f:Str->Expr->Expr->Expr->List Expr->Int->Expr->Expr->List Expr->Int->Scope->Bool):Bool:=do' zz fun y1 y2 y3 y4=>bK' y1 fun y5 y6=>aG' y2 fun y7 y8=>ba' y8 (ba' y3 (dS' y7 fun y9 y10 y11 y12=>aG' y10 fun y13 y14=>eh' y13 fun y15 y16 y17 y18=>aG' y14 fun y19 y20=>eh' y19 fun y21 y22 y23 y24=>ba' y20 (f y5 y9 y15 y16 y17 y18 y21 y22 y23 y24 y11)))
theorem uT' {zz f} {P:Prop} (h:v81 zz f=true) (k:∀n1 w1 ee tg iter ifs a tg2 iter2 ifs2 a2 scope w2 w3,zz=.Call (.Name n1 w1) ((.SetComp ee (⟨tg,iter,ifs,a⟩ :: (⟨tg2,iter2,ifs2,a2⟩ :: [])) scope w2) :: []) [] w3->f n1 ee tg iter ifs a tg2 iter2 ifs2 a2 scope=true->P):P:=by
 obtain⟨y1,y2,y3,y4,e0,h⟩:=bV' h
 obtain⟨y5,y6,e1,h⟩:=a3' h
 obtain⟨y7,y8,e2,h⟩:=ai' h
 obtain⟨e3,h⟩:=ak' h
 obtain⟨e4,h⟩:=ak' h
 obtain⟨y9,y10,y11,y12,e5,h⟩:=ek' h
 obtain⟨y13,y14,e6,h⟩:=ai' h
 obtain⟨y15,y16,y17,y18,e7,h⟩:=bm' h
 obtain⟨y19,y20,e8,h⟩:=ai' h
 obtain⟨y21,y22,y23,y24,e9,h⟩:=bm' h
 obtain⟨e10,h⟩:=ak' h
 exact k y5 y6 y9 y15 y16 y17 y18 y21 y22 y23 y24 y11 y12 y4 (by rw[e0,e1,e2,e3,e4,e5,e6,e7,e8,e9,e10]) h
noncomputable def v23 (zz:Expr) (f:Str->Expr->Bool):Bool:=do' zz fun y1 y2 y3 y4=>bK' y1 fun y5 y6=>aG' y2 fun y7 y8=>ba' y8 (ba' y3 (f y5 y7))
theorem rM' {zz f} {P:Prop} (h:v23 zz f=true) (k:∀x w1 y w2,zz=.Call (.Name x w1) (y :: []) [] w2->f x y=true->P):P:=by
 obtain⟨y1,y2,y3,y4,e0,h⟩:=bV' h
 obtain⟨y5,y6,e1,h⟩:=a3' h
 obtain⟨y7,y8,e2,h⟩:=ai' h
 obtain⟨e3,h⟩:=ak' h
 obtain⟨e4,h⟩:=ak' h
 exact k y5 y6 y7 y4 (by rw[e0,e1,e2,e3,e4]) h
noncomputable def v25 (zz:Expr) (f:Expr->Expr->Expr->Expr->List Expr->Int->Scope->Bool):Bool:=ca' zz fun y1 y2 y3 y4 y5=>aG' y3 fun y6 y7=>eh' y6 fun y8 y9 y10 y11=>ba' y7 (f y1 y2 y8 y9 y10 y11 y4)
theorem uU' {zz f} {P:Prop} (h:v25 zz f=true) (k:∀ke ve tg iter ifs a scope w1,zz=.DictComp ke ve (⟨tg,iter,ifs,a⟩ :: []) scope w1->f ke ve tg iter ifs a scope=true->P):P:=by
 obtain⟨y1,y2,y3,y4,y5,e0,h⟩:=b0' h
 obtain⟨y6,y7,e1,h⟩:=ai' h
 obtain⟨y8,y9,y10,y11,e2,h⟩:=bm' h
 obtain⟨e3,h⟩:=ak' h
 exact k y1 y2 y8 y9 y10 y11 y4 y5 (by rw[e0,e1,e2,e3]) h
noncomputable def v82 (zz:Expr) (f:Expr->Expr->Expr->Expr->List Expr->Int->Expr->Expr->List Expr->Int->Scope->Bool):Bool:=ca' zz fun y1 y2 y3 y4 y5=>aG' y3 fun y6 y7=>eh' y6 fun y8 y9 y10 y11=>aG' y7 fun y12 y13=>eh' y12 fun y14 y15 y16 y17=>ba' y13 (f y1 y2 y8 y9 y10 y11 y14 y15 y16 y17 y4)
theorem uV' {zz f} {P:Prop} (h:v82 zz f=true) (k:∀ke ve tg iter ifs a tg2 iter2 ifs2 a2 scope w1,zz=.DictComp ke ve (⟨tg,iter,ifs,a⟩ :: (⟨tg2,iter2,ifs2,a2⟩ :: [])) scope w1->f ke ve tg iter ifs a tg2 iter2 ifs2 a2 scope=true->P):P:=by
 obtain⟨y1,y2,y3,y4,y5,e0,h⟩:=b0' h
 obtain⟨y6,y7,e1,h⟩:=ai' h
 obtain⟨y8,y9,y10,y11,e2,h⟩:=bm' h
 obtain⟨y12,y13,e3,h⟩:=ai' h
 obtain⟨y14,y15,y16,y17,e4,h⟩:=bm' h
 obtain⟨e5,h⟩:=ak' h
 exact k y1 y2 y8 y9 y10 y11 y14 y15 y16 y17 y4 y5 (by rw[e0,e1,e2,e3,e4,e5]) h
noncomputable def v26 (zz:Expr) (f:Expr->Expr->Expr->List Expr->Int->Scope->Bool):Bool:=cb' zz fun y1 y2 y3 y4=>aG' y2 fun y5 y6=>eh' y5 fun y7 y8 y9 y10=>ba' y6 (f y1 y7 y8 y9 y10 y3)
theorem uW' {zz f} {P:Prop} (h:v26 zz f=true) (k:∀ee tg iter ifs a scope w1,zz=.ListComp ee (⟨tg,iter,ifs,a⟩ :: []) scope w1->f ee tg iter ifs a scope=true->P):P:=by
 obtain⟨y1,y2,y3,y4,e0,h⟩:=b1' h
 obtain⟨y5,y6,e1,h⟩:=ai' h
 obtain⟨y7,y8,y9,y10,e2,h⟩:=bm' h
 obtain⟨e3,h⟩:=ak' h
 exact k y1 y7 y8 y9 y10 y3 y4 (by rw[e0,e1,e2,e3]) h
noncomputable def v27 (zz:Expr) (f:Expr->Expr->Expr->List Expr->Int->Expr->Expr->List Expr->Int->Scope->Bool):Bool:=cb' zz fun y1 y2 y3 y4=>aG' y2 fun y5 y6=>eh' y5 fun y7 y8 y9 y10=>aG' y6 fun y11 y12=>eh' y11 fun y13 y14 y15 y16=>ba' y12 (f y1 y7 y8 y9 y10 y13 y14 y15 y16 y3)
theorem uX' {zz f} {P:Prop} (h:v27 zz f=true) (k:∀ee tg iter ifs a tg2 iter2 ifs2 a2 scope w1,zz=.ListComp ee (⟨tg,iter,ifs,a⟩ :: (⟨tg2,iter2,ifs2,a2⟩ :: [])) scope w1->f ee tg iter ifs a tg2 iter2 ifs2 a2 scope=true->P):P:=by
 obtain⟨y1,y2,y3,y4,e0,h⟩:=b1' h
 obtain⟨y5,y6,e1,h⟩:=ai' h
 obtain⟨y7,y8,y9,y10,e2,h⟩:=bm' h
 obtain⟨y11,y12,e3,h⟩:=ai' h
 obtain⟨y13,y14,y15,y16,e4,h⟩:=bm' h
 obtain⟨e5,h⟩:=ak' h
 exact k y1 y7 y8 y9 y10 y13 y14 y15 y16 y3 y4 (by rw[e0,e1,e2,e3,e4,e5]) h
noncomputable def v29 (zz:List Expr) (f:Bool):Bool:=ba' zz (f)
theorem jG' {zz f} {P:Prop} (h:v29 zz f=true) (k:zz=[]->f=true->P):P:=by
 obtain⟨e0,h⟩:=ak' h
 exact k (by rw[e0]) h
noncomputable def v30 (zz:List Expr) (f:Expr->List Expr->Bool):Bool:=aG' zz fun y1 y2=>f y1 y2
theorem lr' {zz f} {P:Prop} (h:v30 zz f=true) (k:∀x xs,zz=(x :: xs)->f x xs=true->P):P:=by
 obtain⟨y1,y2,e0,h⟩:=ai' h
 exact k y1 y2 (by rw[e0]) h
noncomputable def v31 (zz:List Expr) (f:Expr->Bool):Bool:=aG' zz fun y1 y2=>ba' y2 (f y1)
theorem uY' {zz f} {P:Prop} (h:v31 zz f=true) (k:∀e,zz=(e :: [])->f e=true->P):P:=by
 obtain⟨y1,y2,e0,h⟩:=ai' h
 obtain⟨e1,h⟩:=ak' h
 exact k y1 (by rw[e0,e1]) h
noncomputable def v32 (zz:Option Expr) (f:Bool):Bool:=jv' zz (f)
theorem uZ' {zz f} {P:Prop} (h:v32 zz f=true) (k:zz=none->f=true->P):P:=by
 obtain⟨e0,h⟩:=e7' h
 exact k (by rw[e0]) h
noncomputable def v33 (zz:Option Expr) (f:Expr->Bool):Bool:=jw' zz fun y1=>f y1
theorem u0' {zz f} {P:Prop} (h:v33 zz f=true) (k:∀y,zz=(some y)->f y=true->P):P:=by
 obtain⟨y1,e0,h⟩:=e8' h
 exact k y1 (by rw[e0]) h
noncomputable def v36 (zz:Stmt) (f:Expr->Bool):Bool:=jE' zz fun y1 y2=>f y1
theorem u1' {zz f} {P:Prop} (h:v36 zz f=true) (k:∀x w1,zz=.Expr x w1->f x=true->P):P:=by
 obtain⟨y1,y2,e0,h⟩:=hY' h
 exact k y1 y2 (by rw[e0]) h
noncomputable def v37 (zz:Stmt) (f:Expr->Bool):Bool:=e9' zz fun y1 y2=>jw' y1 fun y3=>f y3
theorem u2' {zz f} {P:Prop} (h:v37 zz f=true) (k:∀x w1,zz=.Return (some x) w1->f x=true->P):P:=by
 obtain⟨y1,y2,e0,h⟩:=fa' h
 obtain⟨y3,e1,h⟩:=e8' h
 exact k y3 y2 (by rw[e0,e1]) h
noncomputable def v39 (zz:Stmt) (f:Expr->Expr->Bool):Bool:=cm' zz fun y1 y2 y3=>aG' y1 fun y4 y5=>ba' y5 (f y4 y2)
theorem u3' {zz f} {P:Prop} (h:v39 zz f=true) (k:∀tg x w1,zz=.Assign (tg :: []) x w1->f tg x=true->P):P:=by
 obtain⟨y1,y2,y3,e0,h⟩:=bL' h
 obtain⟨y4,y5,e1,h⟩:=ai' h
 obtain⟨e2,h⟩:=ak' h
 exact k y4 y2 y3 (by rw[e0,e1,e2]) h
noncomputable def v43 (zz:Stmt) (f:Str->Pos->Str->Pos->Expr->Expr->Bool):Bool:=cm' zz fun y1 y2 y3=>aG' y1 fun y4 y5=>cS' y4 fun y6 y7 y8=>aG' y6 fun y9 y10=>bK' y9 fun y11 y12=>aG' y10 fun y13 y14=>bK' y13 fun y15 y16=>ba' y14 (ba' y5 (cS' y2 fun y17 y18 y19=>aG' y17 fun y20 y21=>aG' y21 fun y22 y23=>ba' y23 (f y11 y12 y15 y16 y20 y22)))
theorem u4' {zz f} {P:Prop} (h:v43 zz f=true) (k:∀x px y py w1 w2 ea eb w3 w4 w5,zz=.Assign ((.Tuple ((.Name x px) :: ((.Name y py) :: [])) w1 w2) :: []) (.Tuple (ea :: (eb :: [])) w3 w4) w5->f x px y py ea eb=true->P):P:=by
 obtain⟨y1,y2,y3,e0,h⟩:=bL' h
 obtain⟨y4,y5,e1,h⟩:=ai' h
 obtain⟨y6,y7,y8,e2,h⟩:=b9' h
 obtain⟨y9,y10,e3,h⟩:=ai' h
 obtain⟨y11,y12,e4,h⟩:=a3' h
 obtain⟨y13,y14,e5,h⟩:=ai' h
 obtain⟨y15,y16,e6,h⟩:=a3' h
 obtain⟨e7,h⟩:=ak' h
 obtain⟨e8,h⟩:=ak' h
 obtain⟨y17,y18,y19,e9,h⟩:=b9' h
 obtain⟨y20,y21,e10,h⟩:=ai' h
 obtain⟨y22,y23,e11,h⟩:=ai' h
 obtain⟨e12,h⟩:=ak' h
 exact k y11 y12 y15 y16 y7 y8 y20 y22 y18 y19 y3 (by rw[e0,e1,e2,e3,e4,e5,e6,e7,e8,e9,e10,e11,e12]) h
noncomputable def v48 (zz:Stmt) (f:Expr->Expr->Expr->Bool):Bool:=cm' zz fun y1 y2 y3=>aG' y1 fun y4 y5=>bn' y4 fun y6 y7 y8=>ba' y5 (f y6 y7 y2)
theorem u5' {zz f} {P:Prop} (h:v48 zz f=true) (k:∀eo ei w1 ee w2,zz=.Assign ((.Subscript eo ei w1) :: []) ee w2->f eo ei ee=true->P):P:=by
 obtain⟨y1,y2,y3,e0,h⟩:=bL' h
 obtain⟨y4,y5,e1,h⟩:=ai' h
 obtain⟨y6,y7,y8,e2,h⟩:=bh' h
 obtain⟨e3,h⟩:=ak' h
 exact k y6 y7 y8 y2 y3 (by rw[e0,e1,e2,e3]) h
noncomputable def v49 (zz:Stmt) (f:Str->Operator->Expr->Bool):Bool:=cH' zz fun y1 y2 y3 y4=>bK' y1 fun y5 y6=>f y5 y2 y3
theorem u6' {zz f} {P:Prop} (h:v49 zz f=true) (k:∀x w1 op ee w2,zz=.AugAssign (.Name x w1) op ee w2->f x op ee=true->P):P:=by
 obtain⟨y1,y2,y3,y4,e0,h⟩:=dq' h
 obtain⟨y5,y6,e1,h⟩:=a3' h
 exact k y5 y6 y2 y3 y4 (by rw[e0,e1]) h
noncomputable def v50 (zz:Stmt) (f:Expr->List Stmt->List Stmt->Bool):Bool:=rI' zz fun y1 y2 y3 y4=>f y1 y2 y3
theorem u7' {zz f} {P:Prop} (h:v50 zz f=true) (k:∀x ss rs w1,zz=.If x ss rs w1->f x ss rs=true->P):P:=by
 obtain⟨y1,y2,y3,y4,e0,h⟩:=lq' h
 exact k y1 y2 y3 y4 (by rw[e0]) h
noncomputable def v51 (zz:Stmt) (f:Expr->List Stmt->Bool):Bool:=gv' zz fun y1 y2 y3 y4=>ba' y3 (f y1 y2)
theorem u8' {zz f} {P:Prop} (h:v51 zz f=true) (k:∀x ss w1,zz=.While x ss [] w1->f x ss=true->P):P:=by
 obtain⟨y1,y2,y3,y4,e0,h⟩:=fR' h
 obtain⟨e1,h⟩:=ak' h
 exact k y1 y2 y4 (by rw[e0,e1]) h
noncomputable def v52 (zz:Stmt) (f:Expr->Expr->List Stmt->Bool):Bool:=mM' zz fun y1 y2 y3 y4 y5=>ba' y4 (f y1 y2 y3)
theorem u9' {zz f} {P:Prop} (h:v52 zz f=true) (k:∀tg iter ss w1,zz=.For tg iter ss [] w1->f tg iter ss=true->P):P:=by
 obtain⟨y1,y2,y3,y4,y5,e0,h⟩:=jF' h
 obtain⟨e1,h⟩:=ak' h
 exact k y1 y2 y3 y5 (by rw[e0,e1]) h
noncomputable def v56 (zz:List Stmt) (f:Bool):Bool:=ba' zz (f)
theorem va' {zz f} {P:Prop} (h:v56 zz f=true) (k:zz=[]->f=true->P):P:=by
 obtain⟨e0,h⟩:=ak' h
 exact k (by rw[e0]) h
noncomputable def v57 (zz:List Stmt) (f:Stmt->List Stmt->Bool):Bool:=aG' zz fun y1 y2=>f y1 y2
theorem vb' {zz f} {P:Prop} (h:v57 zz f=true) (k:∀x xs,zz=(x :: xs)->f x xs=true->P):P:=by
 obtain⟨y1,y2,e0,h⟩:=ai' h
 exact k y1 y2 (by rw[e0]) h
mutual
noncomputable def mE (N B:List Str) (sc:Scope):Ce->Expr->Bool
 | .var i,e=>v1 e fun x=>dn' N i x&&vis sc x
 | .int n,e=>v2 e fun m=>decide (n=m)
 | .bl b,e=>v3 e fun c=>decide (b=c)
 | .non,e=>v4 e (true)
 | .str x,e=>v5 e fun y=>decide (x=y)
 | .ty n,e=>v1 e fun x=>decide (x=Str.ofString n)&&glb sc x&&e6'.contains n&&decide (x∈B)
 | .bin op a b,e=>v6 e fun ea op' eb=>decide (op=op')&&mE N B sc a ea&&mE N B sc b eb
 | .not a,e=>v8 e fun ea=>mE N B sc a ea
 | .and a b,e=>uM' e fun x y=>mE N B sc a x&&mE N B sc b y
 | .or a b,e=>vOr e fun x y=>mE N B sc a x&&mE N B sc b y
 | .cmp op a b,e=>v9 e fun ea op' eb=>decide (op=op')&&mE N B sc a ea&&mE N B sc b eb&&aZ' eb
 | .ife q a b,e=>v11 e fun eq ea eb=>mQ N B sc q eq&&mE N B sc a ea&&mE N B sc b eb
 | .tup es,e=>v12 e fun xs=>mA N B sc es xs
 | .lst es,e=>v13 e fun xs=>mA N B sc es xs
 | .idx a b,e=>v14 e fun ea eb=>mE N B sc a ea&&mE N B sc b eb&&bU' eb
 | .cut a lo hi,e=>v15 e fun ea l h=>mE N B sc a ea&&mO N B sc lo l&&mO N B sc hi h
 | .call f es,e=>v16 e fun x e r=>decide (x=f)&&glb sc x&&mA N B sc es (e :: r)&&!(x == ("__debug__":Str))&&!(hat B)&&!(tld B&&decide (p2' x∈B))
 | .blt f es,e=>v16 e fun x e r=>decide (x=dm' f)&&glb sc x&&mA N B sc es (e :: r)&&decide (x∈B)&&(!(hat B) || decide (f=.isinstance))
 | .met m o es,e=>v17 e fun eo nm apos args pos=>decide (nm=jr' m)&&mE N B sc o eo&&mG' eo&&(apos.endLine == pos.line)&&mA N B sc es args&&decide (args.length<28)
 | .dnt,e=>v18 e (true)
 | .dix a b,e=>v14 e fun ea eb=>mE N B sc a ea&&mE N B sc b eb&&bU' eb
 | .din neg a b,e=>v9 e fun ea op' eb=>decide (op'=if neg then .NotIn else .In)&&mE N B sc a ea&&mE N B sc b eb&&aZ' eb
 | .ssp elt own t it q ws t2 it2 q2,e=>v81 e fun n1 ee tg iter ifs a tg2 iter2 ifs2 a2 scope=>decide (n1="sorted")&&glb sc n1&&decide (n1∈B)&&!(hat B)&&js' N sc scope own&&mE N ("~" :: B) scope elt ee&&fM' own t&&decide (a=0)&&mI N B sc it iter&&hT' it tg&&aZ' iter&&mT N ("~" :: B) scope t tg&&mQo N ("~" :: B) scope q ifs&&
    decide (a2=0)&&mI N ("~" :: B) scope it2 iter2&&hT' it2 tg2&&aZ' iter2&&mT N ("~" :: B) scope t2 tg2&&mQo N ("~" :: B) scope q2 ifs2&&fM' ws t2&&ws.all (fun j=>decide (j∈own))
 | .dcy k v own t it q,e=>v25 e fun ke ve tg iter ifs a scope=>!(hat B)&&js' N sc scope own&&mE N ("~" :: B) scope k ke&&mE N ("~" :: B) scope v ve&&fM' own t&&decide (a=0)&&mI N B sc it iter&&hT' it tg&&aZ' iter&&mT N ("~" :: B) scope t tg&&mQo N ("~" :: B) scope q ifs
 | .dcz k v own t it q ws t2 it2 q2,e=>v82 e fun ke ve tg iter ifs a tg2 iter2 ifs2 a2 scope=>!(hat B)&&js' N sc scope own&&mE N ("~" :: B) scope k ke&&mE N ("~" :: B) scope v ve&&fM' own t&&decide (a=0)&&mI N B sc it iter&&hT' it tg&&aZ' iter&&mT N ("~" :: B) scope t tg&&mQo N ("~" :: B) scope q ifs&&
    decide (a2=0)&&mI N ("~" :: B) scope it2 iter2&&hT' it2 tg2&&aZ' iter2&&mT N ("~" :: B) scope t2 tg2&&mQo N ("~" :: B) scope q2 ifs2&&fM' ws t2&&ws.all (fun j=>decide (j∈own))
 | .comp elt own t it q .nil,e=>v26 e fun ee tg iter ifs a scope=>!(hat B)&&js' N sc scope own&&mE N ("~" :: B) scope elt ee&&fM' own t&&decide (a=0)&&mI N B sc it iter&&hT' it tg&&aZ' iter&&mT N ("~" :: B) scope t tg&&mQo N ("~" :: B) scope q ifs
 | .comp elt own t it q (.cons ws t2 it2 q2 .nil),e=>v27 e fun ee tg iter ifs a tg2 iter2 ifs2 a2 scope=>!(hat B)&&js' N sc scope own&&mE N ("~" :: B) scope elt ee&&fM' own t&&decide (a=0)&&mI N B sc it iter&&hT' it tg&&aZ' iter&&mT N ("~" :: B) scope t tg&&mQo N ("~" :: B) scope q ifs&&
    decide (a2=0)&&mI N ("~" :: B) scope it2 iter2&&hT' it2 tg2&&aZ' iter2&&mT N ("~" :: B) scope t2 tg2&&mQo N ("~" :: B) scope q2 ifs2&&fM' ws t2&&ws.all (fun j=>decide (j∈own))
 | .comp _ _ _ _ _ (.cons _ _ _ _ (.cons _ _ _ _ _)),_=>false
noncomputable def mA (N B:List Str) (sc:Scope):Ces->List Expr->Bool
 | .nil,es=>v29 es (true)
 | .cons e r,es=>v30 es fun x xs=>mE N B sc e x&&aN' x&&mA N B sc r xs
noncomputable def mQ (N B:List Str) (sc:Scope):Cq->Expr->Bool
 | .val e,x=>mE N B sc e x&&mH' x
 | .not q,x=>v8 x fun y=>mQ N B sc q y
 | .and a b,e=>uM' e fun x y=>mQ N B sc a x&&mQ N B sc b y
 | .or a b,e=>vOr e fun x y=>mQ N B sc a x&&mQ N B sc b y
 | .cmp op a b,e=>v9 e fun ea op' eb=>decide (op=op')&&mE N B sc a ea&&mE N B sc b eb&&aZ' eb
 | .din neg a b,e=>v9 e fun ea op' eb=>decide (op'=if neg then .NotIn else .In)&&mE N B sc a ea&&mE N B sc b eb&&aZ' eb
 | .cmw k a b,e=>v9 e fun ea op' eb=>decide (op'=vY' k)&&mE N B sc a ea&&mE N B sc b eb&&aZ' eb
noncomputable def mQo (N B:List Str) (sc:Scope):Cqo->List Expr->Bool
 | .none,es=>v29 es (true)
 | .some q,es=>v31 es fun e=>mQ N B sc q e
noncomputable def mO (N B:List Str) (sc:Scope):Co->Option Expr->Bool
 | .none,x=>v32 x (true)
 | .some e,x=>v33 x fun y=>mE N B sc e y
noncomputable def mI (N B:List Str) (sc:Scope):Ci->Expr->Bool
 | .val e,x=>mE N B sc e x
 | .range1 a,x=>v23 x fun n y=>decide (n="range")&&glb sc n&&decide (n∈B)&&mE N B sc a y&&aN' y
 | .enum a,x=>v23 x fun n y=>decide (n="enumerate")&&glb sc n&&decide (n∈B)&&mE N B sc a y&&aN' y
 | .dk e,x=>mE N B sc e x
noncomputable def mT (N B:List Str) (sc:Scope):Ct->Expr->Bool
 | .name i,e=>v1 e fun x=>dn' N i x&&locb sc x
 | .tup ts,e=>v12 e fun es=>mTs N B sc ts es&&!(hat B)
 | .sub o i,e=>v14 e fun eo ei=>mE N B sc o eo&&mE N B sc i ei&&bU' ei
noncomputable def mTs (N B:List Str) (sc:Scope):Cts->List Expr->Bool
 | .nil,es=>v29 es (true)
 | .cons t r,es=>v30 es fun x xs=>mT N B sc t x&&aN' x&&mTs N B sc r xs
end
noncomputable def fS':Ce->Bool
 | .dcy _ _ _ _ _ _=>true
 | .dcz _ _ _ _ _ _ _ _ _ _=>true
 |_=>false
mutual
noncomputable def mS (N B:List Str) (sc:Scope):Cs->Stmt->Bool
 | .expr e,s=>v36 s fun x=>mE N B sc e x&&(match e with | .comp ..=>false|_=>true)&&!fS' e
 | .ret e,s=>v37 s fun x=>mE N B sc e x
 | .asg t e,s=>v39 s fun tg x=>mE N B sc e x&&!fS' e&&mT N B sc t tg&&aN' tg&&(match tg,x with
   | .Tuple ..,.Tuple vs _ _=>vs.all (foldedForSure 8)
   | .Tuple ..,.ListComp ..=>false
   |_,_=>true)
 | .par i j a b,s=>v43 s fun x px y py ea eb=>dn' N i x&&dn' N j y&&decide (i≠j)&&decide (sc.names.lookup x=some .local)&&decide (sc.names.lookup y=some .local)&&
    mE N B sc a ea&&mE N B sc b eb&&aN' ea&&aN' eb&&(px.line == py.line)&&(!(foldedForSure 8 ea&&foldedForSure 8 eb))&&(!(constantsAlone 8 ea&&constantsAlone 8 eb))&&!(hat B)
 | .dput o i e,s=>v48 s fun eo ei ee=>mE N B sc o eo&&mE N B sc i ei&&bU' ei&&mE N B sc e ee&&(match ee with
   | .ListComp ..=>false
   | .SetComp ..=>false
   | .DictComp ..=>false
   |_=>true)
 | .aug i sub e,s=>v49 s fun x op ee=>dn' N i x&&locb sc x&&mE N B sc e ee&&decide (op=if sub then .Sub else .Add)
 | .ite q a b,s=>v50 s fun x ss rs=>mQ N B sc q x&&mSs N B sc a ss&&mSs N B sc b rs
 | .whl q b,s=>v51 s fun x ss=>mQ N B sc q x&&mSs N B sc b ss
 | .for_ t it b,s=>v52 s fun tg iter ss=>mI N B sc it iter&&hT' it tg&&aZ' iter&&mT N B sc t tg&&mSs N B sc b ss&&!(hat B)
noncomputable def mSs (N B:List Str) (sc:Scope):Css->List Stmt->Bool
 | .nil,ss=>v56 ss (true)
 | .cons s r,ss=>v57 ss fun x xs=>mS N B sc s x&&mSs N B sc r xs
end
def o2' (CX:CXT) (X:Cx) (xk:L2.St->XK):Prop:=∀(pins:List (Addr×Obj)) (σ:L2.St) (H:Hp) (s:Shared) (e:Value) (s':Shared),Inv X pins σ H s->CX X.stack H s (xk σ) e s'->X.xe e s'
theorem mN' {X:Cx} {xk:L2.St->XK}:o2' CX0 X xk:=fun _ _ _ _ _ _ _ h=>h.elim
structure Rok (C:Rc) (B:List Str) (X:Cx) (sc:Scope):Prop where
 hN:X.N=C.N
 nd:C.N.Nodup
 hK:X.K=C.K
 own:PassesOwn (model X.prog X.w) X.A X.env X.xe
 calm:hat B=false->X.calm=true
 hu:X.A.units+64<cLine
 gd:X.A.guards=some []
 loc:∀x,sc.names.lookup x=some .local->X.env.scope.names.lookup x=some .local
 cel:∀x,sc.names.lookup x=some .cell->X.env.scope.names.lookup x=some .cell/\X.fn x=true
 fre:∀x,sc.names.lookup x=some .free->X.env.scope.names.lookup x=some .cell\/X.env.scope.names.lookup x=some .free
 glo:∀x,sc.names.lookup x=some .globalImplicit->X.env.kindOf x=some .globalImplicit
 fn:∀x sp,C.fs x=some sp->hat B=false->(tld B=true->p2' x∉B)->∃f fd ps k CX,FnOk X.prog X.w X.K X.mg X.base CX k f fd ps sp/\Room k X.A/\X.mg x=some (.ref f)/\W.keepIn X.K (.ref f)=true/\dv' X.K fd ps []/\(CX=CX0\/CX=CX1 X.prog X.w X.mg/\p2' x∈B)/\o2' CX X C.xk
 blt:∀x∈B,X.mg x=none
 mrk:X.mg "~"=none/\X.mg "^"=none/\X.mg "%"=none
 cls:∀c Ca,C.cl c=some Ca->X.mg c=some (.ref Ca)/\W.nsIn X.K mainGlobals c=some (some (.ref Ca))
 fx:tld B=false->FnCx X
 nohat:tld B=false->hat B=false
 xr:tld B=false->pct B=false->∀nm Ca pins σ H s e t,C.cl nm=some Ca->Inv X pins σ H s->H e=none->X.s₀.heap.get? e=none->(∀p∈X.pn++pins,p.1≠e)->s.heap.get? e=some { cls:=.ref Ca,data:=.fields #[.ref t,.none,.none,.none,.bool false,.none] }->C.xk σ (.str nm 0) none H->X.xe (.ref e) s
theorem Rok.hu1 {C:Rc} {B:List Str} {X:Cx} {sc:Scope} (R:Rok C B X sc):X.A.units+1<cLine:=by have:=R.hu;omega
section
variable {C:Rc} {B:List Str} {X:Cx} {sc:Scope}
set_option tactic.hygienic true in
theorem Rok.vis (R:Rok C B X sc) {x:Str} (h:R3.vis sc x=true):Vis X.env.scope x:=by
 unfold R3.vis at h
 split at h
 .rename_i e;exact .inl (R.loc x e)
 .rename_i e;exact .inr (.inl (R.cel x e).1)
 .rename_i e
  rcases R.fre x e with q|q
  .exact .inr (.inl q)
  .exact .inr (.inr q)
 .cases h
set_option tactic.hygienic true in
theorem Rok.locb (R:Rok C B X sc) {x:Str} (h:R3.locb sc x=true):Loc X.env.scope x/\(X.fn x=true\/X.env.scope.names.lookup x=some .local):=by
 unfold R3.locb at h
 split at h
 .rename_i e;exact⟨.inl (R.loc x e),.inr (R.loc x e)⟩
 .rename_i e;exact⟨.inr (R.cel x e).1,.inl (R.cel x e).2⟩
 .cases h
theorem Rok.glb (R:Rok C B X sc) {x:Str} (h:R3.glb sc x=true):Gl X x:=R.glo x (of_decide_eq_true h)
theorem bz' {N:List Str} {i:Nat} {x:Str} (h:dn' N i x=true):N[i]?=some x/\(x == ("__debug__":Str))=false/\(x == ("__classdict__":Str))=false:=by
 unfold dn' at h
 simp only[Bool.and_eq_true,decide_eq_true_eq,Bool.not_eq_true']at h
 exact⟨h.1.1,h.1.2,h.2⟩
theorem as' {e:Expr} {es:List Expr} {env:Env} (h:aN' e=true):starEach (e :: es) env=(false,eval e env) :: starEach es env:=by
 cases e<;>first|rfl|cases h
theorem el' {N B:List Str} {sc:Scope} {env:Env} {pos:Pos}:∀{es:Ces} {xs:List Expr},mA N B sc es xs=true->(backTo pos (starEach xs env)).any (·.1)=false
 | .nil,xs,h=>by
  refine jG' h fun e0 g=>?_
  clear h
  subst e0
  revert g
  intro h
  rfl
 | .cons e r,xs,h=>by
  refine lr' h fun x xs e0 g=>?_
  clear h
  subst e0
  revert g
  intro h
  simp only[Bool.and_eq_true]at h
  rw[as' h.1.2]
  have ih:=el' (env:=env) (pos:=pos) (es:=r) h.2
  exact ih
theorem a0' {e:Expr} {env:Env} (h:aZ' e=true) (x:Value):foldedSetIterable e env x=pure x:=by
 cases e<;>first|rfl|cases h
theorem bC' {op:CmpOp} {e:Expr} (h:aZ' e=true):behindInMarks op e=false:=by
 cases e<;>first|rfl|cases h
theorem gw' {e:Expr} (h:bU' e=true):iy' e:=by
 intro o i
 cases e<;>first|rfl|cases h
theorem jH' {e:Expr} {f:Str} {env:Env} {w:Sem Value} (h:mG' e=true):attributeBase e f env w=w:=by
 cases e with
 |Call g args kw pos=>
  cases args with
  |nil=>cases h
  |cons a r=>cases g<;>rfl
 |_=>rfl
theorem jI' {e:Expr} {env:Env} (h:mH' e=true) (w:Sem Value):isTrue e env w=(do let v <- w;standAt e.pos;holding [v] (truthy v)):=by
 cases e with
 |UnaryOp op a p=>cases op<;>first|rfl|cases h
 |_=>first|rfl|cases h
theorem OpR.imp {f:Value->Value->Sem Value} {r r':R2} (h:OpR X f r) (i:∀x y H Q,r' x y H Q->r x y H Q):OpR X f r':=fun pins s σ H x y v u Q I rx ry q=>h pins s σ H x y v u Q I rx ry (i _ _ _ _ q)
theorem aH'.imp {f:Value} {r r':List V->Hp->VK->Prop} (h:aH' X f r) (i:∀xs H Q,r' xs H Q->r xs H Q):aH' X f r':=fun pins s σ H xs us Q I rv q=>h pins s σ H xs us Q I rv (i _ _ _ q)
theorem ixM:IxR X (ln' X.K):=by
 intro value slice pins s σ H x y v u Q I rx ry q hp
 refine qF' value slice pins s σ H x y v u Q I rx ry ?_ hp
 unfold ln' at q
 split at q
 .obtain⟨z,c,hc,q⟩:=q
  exact .inr (.inr ⟨_,_,c,rfl,rfl,z,hc,q⟩)
 .rcases q with q|q
  .exact .inl q
  .exact .inr (.inl q)
theorem rN' {CX:CXT} {k:Nat} {f:Addr} {fd:FuncData} {ps:List Str} {sp:Sp} {dvs:List V} {ds:List Value} {E:XK} {pins:List (Addr×Obj)} {σ:L2.St} {H:Hp} {s:Shared} {Q:VK} {us:List Value} {vs:List V} (F:FnOk X.prog X.w X.K X.mg X.base CX k f fd ps sp) (hr:Room k X.A) (hb:dv' X.K fd ps ds) (hd:az' dvs ds)
  (hx:∀e s',CX X.stack H s E e s'->X.xe e s') (I:Inv X pins σ H s) (r:az' vs us) (h:sp (vs++dvs) H Q E):wpAny (model X.prog X.w) X.A (call (.ref f) us) (EP X pins σ Q) X.xe s:=by
 have r2:=r.append hd
 have hl:(us++ds).length=ps.length:=r2.length ▸ F.len _ _ _ _ h
 have go:=F.run X.A X.stack s H ⟨us,[]⟩ (us++ds) (vs++dvs) Q E hr I.env0 (hb s us I.kIn hl) r2 h
 refine wpAny_call (codeAny_mono go fun r s' hq=>?_)
 match r,hq with
 | .error e,hq=>exact hx e s' hq
 | .ok (.ret u),hq=>exact I.after hq
theorem ls' {CX:CXT} {k:Nat} {f:Addr} {fd:FuncData} {ps:List Str} {sp:Sp} {dvs:List V} {ds:List Value} {xk:L2.St->XK} {x:Str} {p pos:Pos} {e:Expr} {es:List Expr} {t:TA} (F:FnOk X.prog X.w X.K X.mg X.base CX k f fd ps sp) (hr:Room k X.A) (hg:Gl X x) (hm:X.mg x=some (.ref f)) (hk:W.keepIn X.K (.ref f)=true) (hb:dv' X.K fd ps ds) (hd:az' dvs ds) (hx:o2' CX X xk)
  (ha:PA X (e :: es) t) (hdb:(x == ("__debug__":Str))=false) (he:starEach (e :: es) X.env=(false,eval e X.env) :: starEach es X.env) (hpl:(backTo pos (starEach es X.env)).any (·.1)=false):
  PE X (.Call (.Name x p) (e :: es) [] pos) (fun σ H Q=>kQ' sp dvs (xk σ) t σ H Q):=by
 intro pins s σ H Q I h
 refine wpAny_Call_Name_kw (nZ' I hg hm ?_ hdb)
 exact W.callWith_K (h₀:=X.base) I.ok.mod.kin hk (thn (ha pos pins s σ H _ I h) fun us s1 ⟨vs,H1,I1,r,q⟩=>⟨I1.kIn,rN' F hr hb hd (fun e s' c=>hx pins σ H1 s1 e s' I1 c) I1 r q⟩) he hpl
theorem o3' {a:Int} (h:a.natAbs<2 ^ 100):(Builtin.Int.intBits a:Int)<=100:=by
 unfold Builtin.Int.intBits
 by_cases h0:a.natAbs=0
 .rw[if_pos (by simpa using h0)];decide
 .rw[if_neg (by simpa using h0)]
  have:=(Nat.log2_lt h0).mpr h
  omega
theorem o4' {X:Cx}:OpR X (binaryOp .LShift) (rI uL' fun i j=>.int (i*2 ^ j.toNat)):=opI fun _ _ _ _ _ _ _ hc q=>lshift_int hc.1 (by have:=o3' hc.2.2;have:=hc.2.1;omega) q
theorem rO' (op:Operator):OpR X (binaryOp op) (ey' X.K op):=by
 cases op with
 |Add=>
  refine OpR.imp ((qn'.or g6').or (qI'.or (ol'.or k7'))) fun x y H Q q=>?_
  unfold ey' at q
  dsimp only at q
  split at q
  .exact .inl (.inl ⟨_,_,rfl,rfl,q⟩)
  .exact .inl (.inr ⟨_,_,rfl,rfl,q.1,q.2⟩)
  .exact .inr q
 |Sub=>exact qo'
 |Mult=>
  refine OpR.imp (oB'.or (hw'.or qJ')) fun x y H Q q=>?_
  unfold ey' at q
  dsimp only at q
  split at q
  .refine .inl ⟨_,_,rfl,rfl,?_,q.2⟩
   rcases q.1 with h|h|h
   .exact tF'.ok (.inl h)
   .exact tF'.ok (.inr h)
   .exact h
  .exact .inr (.inl ⟨_,_,rfl,rfl,q.1,q.2.1,q.2.2.1,q.2.2.2⟩)
  .exact .inr (.inr q)
 |Mod=>exact qp'
 |FloorDiv=>
  refine OpR.imp (oc'.or k2') fun x y H Q q=>?_
  obtain⟨i,j,h1,h2,⟨h3,h4⟩,q⟩:=q
  rcases h4 with h4|h4
  .exact .inl ⟨i,j,h1,h2,⟨h3,h4⟩,q⟩
  .exact .inr ⟨i,j,h1,h2,⟨h3,h4⟩,q⟩
 |Pow=>exact qq'
 |LShift=>exact o4'
 |RShift=>exact qr'
 |MatMult=>exact fun _ _ _ _ _ _ _ _ _ _ _ _ h=>h.elim
 |Div=>exact fun _ _ _ _ _ _ _ _ _ _ _ _ h=>h.elim
 |BitOr=>exact fun _ _ _ _ _ _ _ _ _ _ _ _ h=>h.elim
 |BitXor=>exact fun _ _ _ _ _ _ _ _ _ _ _ _ h=>h.elim
 |BitAnd=>exact oJ'
theorem mO' (hu':X.A.units+64<cLine) (op:CmpOp):OpR X (compareOp op) (cd' X.K op):=by
 cases op with
 |Eq=>
  refine OpR.imp (ue'.or ((qR' (by omega)).or (q2' hu'))) fun x y H Q q=>?_
  unfold cd' at q
  dsimp only at q
  split at q
  .exact .inr q
  .exact .inl q
 |NotEq=>
  refine OpR.imp (uf'.or ((qS' (by omega)).or (q3' hu'))) fun x y H Q q=>?_
  unfold cd' at q
  dsimp only at q
  split at q
  .exact .inr q
  .exact .inl q
 |Lt=>exact ug'
 |LtE=>exact uh'
 |Gt=>
  refine OpR.imp (ui'.or qZ') fun x y H Q q=>?_
  unfold cd' at q
  dsimp only at q
  split at q
  .exact .inr q
  .exact .inl q
 |GtE=>exact uj'
 |Is=>
  refine OpR.imp (qv'.or qU') fun x y H Q q=>?_
  unfold cd' at q
  dsimp only at q
  split at q
  .exact .inr q
  .exact .inl q
 |IsNot=>
  refine OpR.imp (od'.or iQ') fun x y H Q q=>?_
  unfold cd' at q
  dsimp only at q
  split at q
  .exact .inr q
  .exact .inl q
 |In=>
  refine OpR.imp (qY'.or iA') fun x y H Q q=>?_
  unfold cd' at q
  dsimp only at q
  split at q
  .exact .inl q
  .exact .inr q
 |NotIn=>
  refine OpR.imp (iX'.or eI') fun x y H Q q=>?_
  unfold cd' at q
  dsimp only at q
  split at q
  .exact .inl q
  .exact .inr q
theorem vc' (hu':X.A.units+64<cLine) (k:Zf):OpR X (compareOp (vY' k)) (rZf k):=by
 cases k with
 |eqB=>exact q5' hu'
 |ninB=>exact oK' hu'
 |ltS=>exact ik'
 |inP=>exact rF' hu'
theorem vd':SlR X (rSl X.K):=by
 intro pins s σ H x v vl vu lo hi sl Q I rx hs pl pu q
 refine(on'.or (qB'.or (k9'.or qQ'))) pins s σ H x v vl vu lo hi sl Q I rx hs pl pu ?_
 unfold rSl at q
 split at q
 .exact .inr (.inr (.inr ⟨_,rfl,q.1,q.2⟩))
 .rcases q with q|q|q
  .exact .inl q
  .exact .inr (.inl q)
  .exact .inr (.inr (.inl q))
inductive BltIs:Bf->Prop where
 |fn (f:Bf) (id:String) (hv:bootBuiltins (dm' f)=some (.builtin id)) (h:∀X:Cx,(X.calm=true\/f=.isinstance)->aH' X (.builtin id) (cF' X.K f)):BltIs f
 |ty (f:Bf) (T:String) (hv:bootBuiltins (dm' f)=some (.type T)) (h:∀X:Cx,(X.calm=true\/f=.isinstance)->aH' X (.type T) (cF' X.K f)):BltIs f
theorem rP' (f:Bf):BltIs f:=by
 cases f with
 |len=>exact .fn _ "len" (by decide +kernel) fun X _=>kP'
 |abs=>exact .fn _ "abs" (by decide +kernel) fun X _=>kO'
 |int=>
  refine .ty _ "int" (by decide +kernel) fun X _=>aH'.imp iZ' fun xs H Q q=>?_
  unfold cF' at q
  dsimp only at q
  split at q
  .exact .inl (.inl (.inl ⟨_,rfl,q⟩))
  .exact .inl (.inl (.inr ⟨_,rfl,q⟩))
  .obtain⟨n,h1,h2,q⟩:=q
   exact .inl (.inr ⟨_,n,rfl,h1,h2,q⟩)
  .obtain⟨rfl,n,h1,q⟩:=q
   exact .inr ⟨_,n,rfl,h1,q⟩
  .exact q.elim
 |str=>exact .ty _ "str" (by decide +kernel) fun X _=>eB'
 |sortK=>exact .fn _ "sorted" (by decide +kernel) fun X _=>hM'
 |listD=>exact .ty _ "list" (by decide +kernel) fun X c0=>have c:X.calm=true:=c0.resolve_right (fun z=>by cases z);fL' c
 |lenD=>exact .fn _ "len" (by decide +kernel) fun X _=>hQ'
 |isinstance=>exact .fn _ "isinstance" (by decide +kernel) fun X _=>aH'.imp k0' fun _ _ _ q=>q.resolve_right id
 |any=>exact .fn _ "any" (by decide +kernel) fun X c0=>have c:X.calm=true:=c0.resolve_right (fun z=>by cases z);iN' c
 |max=>
  refine .fn _ "max" (by decide +kernel) fun X c0=>have c:X.calm=true:=c0.resolve_right (fun z=>by cases z);aH'.imp ((in' c).or (iO' c)) fun xs H Q q=>?_
  unfold cF' at q
  dsimp only at q
  split at q
  .exact .inl ⟨_,_,rfl,q⟩
  .exact .inr q
 |min=>
  refine .fn _ "min" (by decide +kernel) fun X c0=>have c:X.calm=true:=c0.resolve_right (fun z=>by cases z);aH'.imp ((io' c).or (iP' c)) fun xs H Q q=>?_
  unfold cF' at q
  dsimp only at q
  split at q
  .exact .inl ⟨_,_,rfl,q⟩
  .exact .inr q
 |tuple=>exact .ty _ "tuple" (by decide +kernel) fun X _=>d2'
structure MetIs (m:Mf) (id:String):Prop where
 pa:PlainAttrs (e5' m)
 slot:Slot (e5' m) (jr' m) id
 ty:typeOf (.builtin id)=pure (.type "method_descriptor")
 h:∀X:Cx,MtR X id (lm' X.K m)
theorem rQ' (m:Mf):∃id,MetIs m id:=by
 cases m with
 |append=>exact⟨_,F.plainAttrs_list,F.slot_list_append,F.type_list_append,fun _=>iC'⟩
 |join=>exact⟨_,F.plainAttrs_str,F.slot_str_join,F.type_str_join,fun _=>oA'⟩
end
theorem cx' {N:List Str} {sc scope:Scope} {own:List Nat} (h:js' N sc scope own=true):scope.kind=.function/\(∀x∈scope.names,x.2=.local->scope.names.lookup x.1=some .local)/\(∀n,(n,NameKind.cell)∈scope.names->scope.names.lookup n=some .cell)/\
  (∀n,(n,NameKind.free)∈scope.names->sc.names.lookup n=some .cell\/sc.names.lookup n=some .free)/\∀(i:Nat) (x:Str),N[i]?=some x->(scope.names.lookup x=some .local\/scope.names.lookup x=some .cell)->i∈own:=by
 unfold js' at h
 simp only[Bool.and_eq_true,decide_eq_true_eq,List.all_eq_true,Bool.or_eq_true]at h
 obtain⟨⟨hk,hn⟩,ho⟩:=h
 refine⟨hk,fun x hx e=>?_,fun n hn'=>?_,fun n hn'=>?_,fun i x e hx=>?_⟩
 .exact(hn x hx).1.1.resolve_left fun q=>q e
 .exact(hn _ hn').1.2.resolve_left fun q=>q rfl
 .rcases(hn _ hn').2 with(q|q)|q
  .exact absurd rfl q
  .exact .inl q
  .exact .inr q
 .have:=ho i (List.mem_range.mpr (List.getElem?_eq_some_iff.mp e).1)
  rw[e]at this
  simp only[Bool.or_eq_true,Bool.and_eq_true,decide_eq_true_eq]at this
  rcases this with⟨q1,q2⟩|q
  .rcases hx with z|z
   .exact absurd z q1
   .exact absurd z q2
  .exact q
theorem Rok.compSc {C:Rc} {B:List Str} {X:Cx} {sc scope:Scope} {own:List Nat} (R:Rok C B X sc) (h:js' C.N sc scope own=true):CompSc X scope:=by
 obtain⟨h1,h2,h3,h4,h5⟩:=cx' h
 refine⟨h1,h2,h3,fun n hn=>?_⟩
 rcases h4 n hn with q|q
 .exact .inl (R.cel n q).1
 .exact R.fre n q
theorem cT' {B:List Str}:tld ("~" :: B)=true:=decide_eq_true (List.mem_cons_self)
theorem Rok.comp {C:Rc} {B:List Str} {X:Cx} {sc scope:Scope} {own:List Nat} (R:Rok C B X sc) (hh:hat B=false) (h:js' C.N sc scope own=true) (s0:Shared) (H0:Hp) (ex:List Addr):Rok C ("~" :: B) (X.comp scope s0 H0 ex) scope:=by
 refine⟨R.hN,R.nd,R.hK,PassesOwn.never,fun _=>R.calm hh,R.hu,R.gd,fun x e=>lookup_relabel_local e,fun x e=>⟨?_,?_⟩,fun x e=>?_,fun x e=>?_,fun x sp e _ ht=>?_,fun x hx=>?_,R.mrk,R.cls,(fun z=>by rw[cT']at z;cases z),(fun z=>by rw[cT']at z;cases z),(fun z=>by rw[cT']at z;cases z)⟩
 .obtain⟨k',e1,e2⟩:=aV' (env:=X.env) e
  rcases e2 with rfl|⟨q,_⟩
  .exact e1
  .cases q
 .exact W.cellsFrom_some _ _ _ (.inl e)
 .obtain⟨k',e1,e2⟩:=aV' (env:=X.env) e
  rcases e2 with rfl|⟨_,rfl⟩
  .exact .inr e1
  .exact .inl e1
 .obtain⟨k',e1,e2⟩:=aV' (env:=X.env) e
  rcases e2 with rfl|⟨q,_⟩
  .exact e1
  .cases q
 .have hb:p2' x∉B:=fun z=>ht cT' (List.mem_cons_of_mem _ z)
  obtain⟨f,fd,ps,k,CX,h1,h2,h3,h4,h5,h6,_⟩:=R.fn x sp e hh fun _=>hb
  rcases h6 with rfl|⟨_,z⟩
  .exact⟨f,fd,ps,k,CX0,h1,h2,h3,h4,h5,.inl rfl,mN'⟩
  .exact absurd z hb
 .rcases List.mem_cons.mp hx with rfl|hx
  .exact R.mrk.1
  .exact R.blt x hx
mutual
theorem gx' (C:Rc) (own:List Nat):∀(t:Ct),fM' own t=true->∀(x:V) (σ:L2.St) (H:Hp) (Q Q':L2.St->Hp->Prop),tG C t x σ H Q->(∀σ2 H2,Q σ2 H2->Ext own σ σ2->Q' σ2 H2)->tG C t x σ H Q'
 | .name i,h,x,σ,H,Q,Q',q,m=>by
  obtain⟨q1,q2⟩:=iG' (of_decide_eq_true (show decide (i∈own)=true from h)) x σ H Q q
  exact m _ _ q1 q2
 | .tup ts,h,x,σ,H,Q,Q',q,m=>by
  replace h:jt' own ts=true:=h
  obtain⟨a,xs,e,hs,hl,q⟩:=q
  exact⟨a,xs,e,hs,hl,fb' C own ts h xs σ H Q Q' q m⟩
 | .sub _ _,h,_,_,_,_,_,_,_=>aj' h
theorem fb' (C:Rc) (own:List Nat):∀(ts:Cts),jt' own ts=true->∀(xs:List V) (σ:L2.St) (H:Hp) (Q Q':L2.St->Hp->Prop),tGs C ts xs σ H Q->(∀σ2 H2,Q σ2 H2->Ext own σ σ2->Q' σ2 H2)->tGs C ts xs σ H Q'
 | .nil,h,xs,σ,H,Q,Q',q,m=>by
  replace q:xs=[]/\Q σ H:=q
  exact And.intro q.1 (m _ _ q.2 Ext.refl)
 | .cons t r,h,xs,σ,H,Q,Q',q,m=>by
  replace h:=fN' (show(fM' own t&&jt' own r)=true from h)
  replace q:∃v vr,xs=v :: vr/\tG C t v σ H fun σ' H'=>tGs C r vr σ' H' Q:=q
  obtain⟨v,vr,e,q⟩:=q
  show ∃v vr,xs=v :: vr/\tG C t v σ H fun σ' H'=>tGs C r vr σ' H' Q'
  exact⟨v,vr,e,gx' C own t h.1 v σ H _ _ q fun σ2 H2 q2 x2=>fb' C own r h.2 vr σ2 H2 _ _ q2 fun σ3 H3 q3 x3=>m _ _ q3 (x2.trans x3)⟩
end
theorem bM' {C:Rc} {own:List Nat} {t:Ct} (h:fM' own t=true):pV' own (tG C t):=fun x σ H Q q=>gx' C own t h x σ H Q _ q fun _ _ q x=>⟨q,x⟩
theorem cc':∀{ts:Cts} {es:List Expr} {N B:List Str} {sc:Scope} {env:Env},mTs N B sc ts es=true->(assignEach es env).length=lp' ts/\(assignEach es env).findIdx? (·.1)=none
 | .nil,es,N,B,sc,env,h=>by
  refine jG' h fun e0 g=>?_
  clear h
  subst e0
  revert g
  intro h
  exact⟨rfl,rfl⟩
 | .cons t r,es,N,B,sc,env,h=>by
  refine lr' h fun x xs e0 g=>?_
  clear h
  subst e0
  revert g
  intro h
  simp only[Bool.and_eq_true]at h
  obtain⟨h1,h2⟩:=cc' (env:=env) h.2
  have e:assignEach (x :: xs) env=(false,assign x env) :: assignEach xs env:=by
   have hs:=h.1.2
   cases x<;>first|rfl|cases hs
  rw[e]
  refine⟨by rw[List.length_cons,h1];rfl,?_⟩
  rw[List.findIdx?_cons,h2]
  rfl
theorem fT' {x:Expr} {xs:List Expr} {env:Env} (hs:aN' x=true):(assignEach (x :: xs) env).map (·.2)=assign x env :: (assignEach xs env).map (·.2):=by
 cases x<;>first|rfl|cases hs
theorem o5' {o i:Expr} {pos:Pos} {env:Env} (h:bU' i=true) (v:Value):assign (.Subscript o i pos) env v=(do
   let ov <- holding [v] (eval o env)
   let iv <- holding [v,ov] (eval i env)
   standAt pos
   holding [v,ov,iv] (setItem ov iv v)
   release [v,ov,iv] []):=by
 cases i<;>first|rfl|cases h
noncomputable def o6' (C:Rc) (X:Cx) (e:Expr):Ce->Prop
 | .comp elt own t it q r=>∃tg iter ifs nx scope pos,CompIn X e scope tg iter ifs nx (tG C t) (tQo C q) (tR C r (dx' (tE C elt))) own/\PI X tg iter (tI C it)/\
   eval e X.env=comprehension e scope X.env pos (newList []) false (eval iter X.env)/\(∀u,evalThenUse e X.env u=(do let _ <- comprehension e scope X.env pos (newList []) false (eval iter X.env) (some u)))/\
   ∀y py line,∃b,swapsWith e (some (.Name y py)) line X.env=pure b
 |_=>True
theorem lu' (P w it D env ee tg iter ifs tg2 iter2 ifs2 scope pos):(model P w).den (.compLoop (.ListComp ee [⟨tg,iter,ifs,0⟩,⟨tg2,iter2,ifs2,0⟩] scope pos) 0 it (.ref D) env)=(aW' (.ListComp ee [⟨tg,iter,ifs,0⟩,⟨tg2,iter2,ifs2,0⟩] scope pos) 0 tg iter ifs (aX' (.ListComp ee [⟨tg,iter,ifs,0⟩,⟨tg2,iter2,ifs2,0⟩] scope pos) 0 iter2 (.ref D) env) it (.ref D) env).onRaise (fun x=>do noteFrame x env;theTreesLotGoes x):=by
 show(compTurn _ _ _ _ _).onRaise _=_
 congr 1
 unfold aW' aX'
 simp only[bind_assoc,pure_bind]
 rfl
noncomputable def rR' (ke ve:Expr) (D:Addr) (env:Env):Sem Unit:=do
 let kv <- eval ke env
 let vv <- holding [kv] (eval ve env)
 match Value.ref D with
 | .ref d=>do
  standAt { ke.pos with endLine:=ve.pos.endLine,endCol:=ve.pos.endCol }
  holding [kv,vv] (dictSet d kv vv)
 |_=>unsupported "internal:dictcomp"
theorem wJ' {N B:List Str} {sc:Scope} {elt:Ce} {own:List Nat} {t:Ct} {it:Ci} {q:Cqo} {e:Expr} (h:mE N B sc (.comp elt own t it q .nil) e=true):∃ee tg iter ifs scope pos,e=.ListComp ee [⟨tg,iter,ifs,0⟩] scope pos/\
  hat B=false/\js' N sc scope own=true/\mE N ("~" :: B) scope elt ee=true/\fM' own t=true/\mI N B sc it iter=true/\hT' it tg=true/\aZ' iter=true/\mT N ("~" :: B) scope t tg=true/\mQo N ("~" :: B) scope q ifs=true:=by
 refine uW' h fun ee tg iter ifs a scope w1 e0 g=>?_
 clear h
 subst e0
 revert g
 intro h
 simp only[Bool.and_eq_true,decide_eq_true_eq,Bool.not_eq_true']at h
 obtain⟨⟨⟨⟨⟨⟨⟨⟨⟨hh,hsc⟩,helt⟩,hown⟩,rfl⟩,h1⟩,h2⟩,h3⟩,h4⟩,h5⟩:=h
 exact⟨_,_,_,_,_,_,rfl,hh,hsc,helt,hown,h1,h2,h3,h4,h5⟩
theorem wK' {N B:List Str} {sc:Scope} {elt:Ce} {own:List Nat} {t:Ct} {it:Ci} {q:Cqo} {ws:List Nat} {t2:Ct} {it2:Ci} {q2:Cqo} {e:Expr} (h:mE N B sc (.comp elt own t it q (.cons ws t2 it2 q2 .nil)) e=true):
  ∃ee tg iter ifs tg2 iter2 ifs2 scope pos,e=.ListComp ee [⟨tg,iter,ifs,0⟩,⟨tg2,iter2,ifs2,0⟩] scope pos/\
  hat B=false/\js' N sc scope own=true/\mE N ("~" :: B) scope elt ee=true/\fM' own t=true/\mI N B sc it iter=true/\hT' it tg=true/\aZ' iter=true/\mT N ("~" :: B) scope t tg=true/\mQo N ("~" :: B) scope q ifs=true/\
  mI N ("~" :: B) scope it2 iter2=true/\hT' it2 tg2=true/\aZ' iter2=true/\mT N ("~" :: B) scope t2 tg2=true/\mQo N ("~" :: B) scope q2 ifs2=true/\fM' ws t2=true/\∀j∈ws,j∈own:=by
 refine uX' h fun ee tg iter ifs a tg2 iter2 ifs2 a2 scope w1 e0 g=>?_
 clear h
 subst e0
 revert g
 intro h
 simp only[Bool.and_eq_true,decide_eq_true_eq,List.all_eq_true,Bool.not_eq_true']at h
 obtain⟨⟨⟨⟨⟨⟨⟨⟨⟨⟨⟨⟨⟨⟨⟨⟨⟨hh,hsc⟩,helt⟩,hown⟩,rfl⟩,h1⟩,h2⟩,h3⟩,h4⟩,h5⟩,rfl⟩,g1⟩,g2⟩,g3⟩,g4⟩,g5⟩,g6⟩,g7⟩:=h
 exact⟨_,_,_,_,_,_,_,_,_,rfl,hh,hsc,helt,hown,h1,h2,h3,h4,h5,g1,g2,g3,g4,g5,g6,g7⟩
theorem wL' {N B:List Str} {sc:Scope} {elt:Ce} {own:List Nat} {t:Ct} {it:Ci} {q:Cqo} {ws:List Nat} {t2:Ct} {it2:Ci} {q2:Cqo} {ws3:List Nat} {t3:Ct} {it3:Ci} {q3:Cqo} {r4:Cc} {e:Expr} (h:mE N B sc (.comp elt own t it q (.cons ws t2 it2 q2 (.cons ws3 t3 it3 q3 r4))) e=true):False:=by
 exact aj' h
set_option maxHeartbeats 4000000
theorem jJ' (P w it D env ke ve tg iter ifs tg2 iter2 ifs2 scope pos):(model P w).den (.compLoop (.DictComp ke ve [⟨tg,iter,ifs,0⟩,⟨tg2,iter2,ifs2,0⟩] scope pos) 0 it (.ref D) env)=(aW' (.DictComp ke ve [⟨tg,iter,ifs,0⟩,⟨tg2,iter2,ifs2,0⟩] scope pos) 0 tg iter ifs (aX' (.DictComp ke ve [⟨tg,iter,ifs,0⟩,⟨tg2,iter2,ifs2,0⟩] scope pos) 0 iter2 (.ref D) env) it (.ref D) env).onRaise (fun x=>do noteFrame x env;theTreesLotGoes x):=by
 show(compTurn _ _ _ _ _).onRaise _=_
 congr 1
 unfold aW' aX'
 simp only[bind_assoc,pure_bind]
 rfl
theorem jK' (P w it D env ee tg iter ifs tg2 iter2 ifs2 scope pos):(model P w).den (.compLoop (.SetComp ee [⟨tg,iter,ifs,0⟩,⟨tg2,iter2,ifs2,0⟩] scope pos) 0 it (.ref D) env)=(aW' (.SetComp ee [⟨tg,iter,ifs,0⟩,⟨tg2,iter2,ifs2,0⟩] scope pos) 0 tg iter ifs (aX' (.SetComp ee [⟨tg,iter,ifs,0⟩,⟨tg2,iter2,ifs2,0⟩] scope pos) 0 iter2 (.ref D) env) it (.ref D) env).onRaise (fun x=>do noteFrame x env;theTreesLotGoes x):=by
 show(compTurn _ _ _ _ _).onRaise _=_
 congr 1
 unfold aW' aX'
 simp only[bind_assoc,pure_bind]
 rfl
mutual
theorem sE0 {C:Rc}:∀(c:Ce) {B:List Str} {X:Cx} {sc:Scope} {e:Expr},Rok C B X sc->mE C.N B sc c e=true->PE X e (tE C c)/\o6' C X e c
 | .var i,B,X,sc,e,R,h=>by
  refine⟨?_,trivial⟩
  refine uN' h fun x w1 e0 g=>?_
  clear h
  subst e0
  revert g
  intro h
  simp only[Bool.and_eq_true]at h
  obtain⟨h1,h2,h3⟩:=bz' h.1
  rw[show tE C (.var i)=(tA' i) from rfl]
  exact l9' (by rw[R.hN];exact h1) (R.vis h.2) h2 h3
 | .int n,B,X,sc,e,R,h=>by
  refine⟨?_,trivial⟩
  refine wE' h fun m w1 w2 e0 g=>?_
  clear h
  subst e0
  revert g
  intro h
  cases of_decide_eq_true h
  rw[show tE C (.int n)=(tC (.int n)) from rfl]
  exact p7'
 | .bl n,B,X,sc,e,R,h=>by
  refine⟨?_,trivial⟩
  refine wF' h fun c w1 w2 e0 g=>?_
  clear h
  subst e0
  revert g
  intro h
  cases of_decide_eq_true h
  rw[show tE C (.bl n)=(tC (.bl n)) from rfl]
  exact tY'
 | .non,B,X,sc,e,R,h=>by
  refine⟨?_,trivial⟩
  refine wG' h fun w1 w2 e0 g=>?_
  clear h
  subst e0
  revert g
  intro h
  rw[show tE C .non=(tC .non) from rfl]
  exact p8'
 | .str n,B,X,sc,e,R,h=>by
  refine⟨?_,trivial⟩
  refine wH' h fun y w1 w2 e0 g=>?_
  clear h
  subst e0
  revert g
  intro h
  cases of_decide_eq_true h
  rw[show tE C (.str n)=(tC (.str n)) from rfl]
  exact p9'
 | .ty n,B,X,sc,e,R,h=>by
  refine⟨?_,trivial⟩
  refine uN' h fun x w1 e0 g=>?_
  clear h
  subst e0
  revert g
  intro h
  simp only[Bool.and_eq_true,decide_eq_true_eq]at h
  obtain⟨⟨⟨rfl,h2⟩,h3⟩,h4⟩:=h
  rw[show tE C (.ty n)=(tC (.ty n)) from rfl]
  have hb:bootBuiltins (Str.ofString n)=some (.type n)/\Str.ofString n≠"__name__"/\(Str.ofString n == ("__debug__":Str))=false:=by
   simp only[e6',List.contains_iff_mem,List.mem_cons,List.not_mem_nil,or_false]at h3
   rcases h3 with rfl|rfl|rfl|rfl|rfl|rfl|rfl<;>decide +kernel
  exact n0' (v:=.ty n) (R.glb h2) (R.blt _ h4) hb.1 rfl hb.2.1 hb.2.2
 | .bin op a b,B,X,sc,e,R,h=>by
  refine⟨?_,trivial⟩
  refine wI' h fun ea op' eb w1 e0 g=>?_
  clear h
  subst e0
  revert g
  intro h
  simp only[Bool.and_eq_true,decide_eq_true_eq]at h
  obtain⟨⟨rfl,h1⟩,h2⟩:=h
  rw[show tE C (.bin op a b)=(tOp (ey' C.K op) (tE C a) (tE C b)) from rfl]
  rw[<- R.hK]
  exact ub' (rO' _) ((sE0 a R h1).1) ((sE0 b R h2).1)
 | .not a,B,X,sc,e,R,h=>by
  refine⟨?_,trivial⟩
  refine vZ' h fun ea w1 e0 g=>?_
  clear h
  subst e0
  revert g
  intro h
  rw[show tE C (.not a)=(n2' (tE C a)) from rfl]
  exact qf' ((sE0 a R h).1)
 | .and a b,B,X,sc,e,R,h=>by
  refine⟨?_,trivial⟩
  replace h:=ju' h
  rcases h with⟨x,y,pos,rfl,h⟩|⟨x,y,z,r,pos,rfl,h⟩
  .simp only[Bool.and_eq_true]at h
   rw[show tE C (.and a b)=(kG' (tE C a) (tE C b)) from rfl]
   exact me' ((sE0 a R h.1).1) (md' ((sE0 b R h.2).1))
  .simp only[Bool.and_eq_true]at h
   rw[show tE C (.and a b)=(kG' (tE C a) (tE C b)) from rfl]
   exact me' ((sE0 a R h.1).1) ((sE0 b R h.2).1)
 | .or a b,B,X,sc,e,R,h=>by
  refine⟨?_,trivial⟩
  replace h:=mI' h
  rcases h with⟨x,y,pos,rfl,h⟩|⟨x,y,z,r,pos,rfl,h⟩
  .simp only[Bool.and_eq_true]at h
   rw[show tE C (.or a b)=(tC' (tE C a) (tE C b)) from rfl]
   exact qe' ((sE0 a R h.1).1) (md' ((sE0 b R h.2).1))
  .simp only[Bool.and_eq_true]at h
   rw[show tE C (.or a b)=(tC' (tE C a) (tE C b)) from rfl]
   exact qe' ((sE0 a R h.1).1) ((sE0 b R h.2).1)
 | .cmp op a b,B,X,sc,e,R,h=>by
  refine⟨?_,trivial⟩
  refine rJ' h fun ea op' eb w1 e0 g=>?_
  clear h
  subst e0
  revert g
  intro h
  simp only[Bool.and_eq_true,decide_eq_true_eq]at h
  obtain⟨⟨⟨rfl,h1⟩,h2⟩,h3⟩:=h
  rw[show tE C (.cmp op a b)=(tOp (cd' C.K op) (tE C a) (tE C b)) from rfl]
  rw[<- R.hK]
  exact oe' (mO' R.hu _) ((sE0 a R h1).1) ((sE0 b R h2).1) (bC' h3)
 | .ife q a b,B,X,sc,e,R,h=>by
  refine⟨?_,trivial⟩
  refine uO' h fun eq ea eb w1 e0 g=>?_
  clear h
  subst e0
  revert g
  intro h
  simp only[Bool.and_eq_true]at h
  rw[show tE C (.ife q a b)=(tIf (tQ C q) (tE C a) (tE C b)) from rfl]
  exact kH' (sQ q R h.1.1).1 ((sE0 a R h.1.2).1) ((sE0 b R h.2).1)
 | .tup es,B,X,sc,e,R,h=>by
  refine⟨?_,trivial⟩
  refine rK' h fun xs w1 w2 e0 g=>?_
  clear h
  subst e0
  revert g
  intro h
  rw[show tE C (.tup es)=(uk' (tA C es)) from rfl]
  exact qy' (sA es R h)
 | .lst es,B,X,sc,e,R,h=>by
  refine⟨?_,trivial⟩
  refine uP' h fun xs w1 e0 g=>?_
  clear h
  subst e0
  revert g
  intro h
  rw[show tE C (.lst es)=(ul' (tA C es)) from rfl]
  exact qz' (sA es R h)
 | .idx a b,B,X,sc,e,R,h=>by
  refine⟨?_,trivial⟩
  refine o1' h fun ea eb w1 e0 g=>?_
  clear h
  subst e0
  revert g
  intro h
  simp only[Bool.and_eq_true]at h
  rw[show tE C (.idx a b)=(tOp (ln' C.K) (tE C a) (tE C b)) from rfl]
  rw[<- R.hK]
  exact un' ixM ((sE0 a R h.1.1).1) ((sE0 b R h.1.2).1) (gw' h.2)
 | .cut a lo hi,B,X,sc,e,R,h=>by
  refine⟨?_,trivial⟩
  refine uQ' h fun ea l h_ w1 w2 e0 g=>?_
  clear h
  subst e0
  revert g
  intro h
  simp only[Bool.and_eq_true]at h
  rw[show tE C (.cut a lo hi)=(tSl (rSl C.K) (tE C a) (tO C lo) (tO C hi)) from rfl]
  rw[<- R.hK]
  exact kU' vd' ((sE0 a R h.1.1).1) (sO lo R h.1.2) (sO hi R h.2)
 | .call f es,B,X,sc,e,R,h=>by
  refine⟨?_,trivial⟩
  refine rL' h fun x w1 e r pos e0 g=>?_
  clear h
  subst e0
  revert g
  intro h
  simp only[Bool.and_eq_true,decide_eq_true_eq,Bool.not_eq_true']at h
  obtain⟨⟨⟨⟨⟨rfl,h1⟩,h2⟩,h3⟩,hh⟩,h6⟩:=h
  rw[show tE C (.call x es)=(fun σ H Q=>match C.fs x with|some sp=>kQ' sp [] (C.xk σ) (tA C es) σ H Q|none=>False) from rfl]
  have ht:tld B=true->p2' x∉B:=fun t m=>by rw[t,decide_eq_true m]at h6;cases h6
  cases hf:C.fs x with
  |none=>exact fun _ _ _ _ _ _ q=>q.elim
  |some sp=>
   obtain⟨f,fd,ps,k,CX,F,hr,hm,hk,hb,_,hx⟩:=R.fn x sp hf hh ht
   have hs:aN' e=true:=by
    cases es with
    |nil=>exact aj' h2
    |cons c r=>exact(fN' (fN' h2).1).2
   have hp:(backTo pos (starEach r X.env)).any (·.1)=false:=by
    have q:=el' (env:=X.env) (pos:=pos) h2
    rw[as' hs]at q
    exact q
   exact ls' F hr (R.glb h1) hm hk hb .nil hx (sA es R h2) h3 (as' hs) hp
 | .blt f es,B,X,sc,e,R,h=>by
  refine⟨?_,trivial⟩
  refine rL' h fun x w1 e r pos e0 g=>?_
  clear h
  subst e0
  revert g
  intro h
  simp only[Bool.and_eq_true,decide_eq_true_eq,Bool.or_eq_true,Bool.not_eq_true']at h
  obtain⟨⟨⟨⟨rfl,h1⟩,h2⟩,h4⟩,h5⟩:=h
  have hcc:X.calm=true\/f=.isinstance:=h5.imp R.calm id
  rw[show tE C (.blt f es)=(tCB (cF' C.K f) (tA C es)) from rfl]
  have hs:aN' e=true:=by
   cases es with
   |nil=>exact aj' h2
   |cons c r=>exact(fN' (fN' h2).1).2
  have hp:(backTo pos (starEach r X.env)).any (·.1)=false:=by
   have q:=el' (env:=X.env) (pos:=pos) h2
   rw[as' hs]at q
   exact q
  rw[<- R.hK]
  have hn:dm' f≠"__name__"/\(dm' f == ("__debug__":Str))=false:=by cases f<;>decide +kernel
  cases rP' f with
  |fn id hv hc=>exact kR' (hc X hcc) (R.glb h1) (R.blt _ h4) hv (sA es R h2) hn.1 hn.2 (as' hs) hp
  |ty T hv hc=>exact iv' (hc X hcc) (R.glb h1) (R.blt _ h4) hv (sA es R h2) hn.1 hn.2 (as' hs) hp
 | .dnt,B,X,sc,e,R,h=>by
  refine⟨?_,trivial⟩
  refine uS' h fun w1 e0 g=>?_
  clear h
  subst e0
  revert g
  intro h
  rw[show tE C .dnt=(iV') from rfl];exact k4'
 | .dix a b,B,X,sc,e,R,h=>by
  refine⟨?_,trivial⟩
  refine o1' h fun ea eb w1 e0 g=>?_
  clear h
  subst e0
  revert g
  intro h
  simp only[Bool.and_eq_true]at h
  rw[show tE C (.dix a b)=(oE' (tE C a) (tE C b)) from rfl]
  exact oG' R.hu1 (sE0 a R h.1.1).1 (sE0 b R h.1.2).1 (gw' h.2)
 | .din neg a b,B,X,sc,e,R,h=>by
  refine⟨?_,trivial⟩
  refine rJ' h fun ea op' eb w1 e0 g=>?_
  clear h
  subst e0
  revert g
  intro h
  simp only[Bool.and_eq_true,decide_eq_true_eq]at h
  obtain⟨⟨⟨rfl,h1⟩,h2⟩,h3⟩:=h
  rw[show tE C (.din neg a b)=(lo' neg (tE C a) (tE C b)) from rfl]
  cases neg with
  |true=>exact ma' (e3' R.hu1 (sE0 a R h1).1 (sE0 b R h2).1) (bC' h3)
  |false=>exact ma' (mE' R.hu1 (sE0 a R h1).1 (sE0 b R h2).1) (bC' h3)
 | .met m o es,B,X,sc,e,R,h=>by
  refine⟨?_,trivial⟩
  refine uR' h fun eo nm apos args pos e0 g=>?_
  clear h
  subst e0
  revert g
  intro h
  simp only[Bool.and_eq_true,decide_eq_true_eq]at h
  obtain⟨⟨⟨⟨⟨rfl,h1⟩,h2⟩,h3⟩,h4⟩,h5⟩:=h
  rw[show tE C (.met m o es)=(tBM C.K (e5' m) (lm' C.K m) (tE C o) (tA C es)) from rfl]
  rw[<- R.hK]
  obtain⟨id,M⟩:=rQ' m
  cases args with
  |nil=>
   cases es with
   |cons c r=>exact aj' h4
   |nil=>
    exact qH' M.pa M.slot M.ty (M.h X) ((sE0 o R h1).1) (jH' h2) h3
  |cons a r=>
   have hs:aN' a=true:=by
    cases es with
    |nil=>exact aj' h4
    |cons c r=>exact(fN' (fN' h4).1).2
   have hq:=el' (env:=X.env) (pos:=pos) h4
   have hp:(backTo pos (starEach r X.env)).any (·.1)=false:=by
    rw[as' hs]at hq
    exact hq
   refine uo' M.pa M.slot M.ty (M.h X) ((sE0 o R h1).1) (sA es R h4) (jH' h2) ?_ h3 (as' hs) hp
   have e1:(backTo pos (starEach (a :: r) X.env)).all (fun x=>!x.1)=true:=by
    rw[List.all_eq_true]
    intro x hx
    rw[List.any_eq_false]at hq
    simpa using hq x hx
   rw[e1]
   show(true&&true&&decide ((a :: r).length+0+0<30))=true
   simp only[Bool.true_and,decide_eq_true_eq]
   omega
 | .ssp elt own t it q ws t2 it2 q2,B,X,sc,e,R,h=>by
  refine⟨?_,trivial⟩
  refine uT' h fun n1 w1 ee tg iter ifs a tg2 iter2 ifs2 a2 scope w2 w3 e0 g=>?_
  clear h
  subst e0
  revert g
  intro h
  simp only[Bool.and_eq_true,decide_eq_true_eq,Bool.not_eq_true',List.all_eq_true]at h
  obtain⟨⟨⟨⟨⟨⟨⟨⟨⟨⟨⟨⟨⟨⟨⟨⟨⟨⟨⟨⟨rfl,g1⟩,g2⟩,hh⟩,hsc⟩,helt⟩,hown⟩,rfl⟩,h1⟩,h2⟩,h3⟩,h4⟩,h5⟩,rfl⟩,f1⟩,f2⟩,f3⟩,f4⟩,f5⟩,f6⟩,f7⟩:=h
  rw[show tE C (.ssp elt own t it q ws t2 it2 q2)=(uH' own (tI C it) (tG C t) (tQo C q) (dy' (tI C it2) (aE' ws (tG C t2) (tQo C q2) (e4' (tE C elt))))) from rfl]
  refine rA' (nx:=fun D env=>aX' (.SetComp ee [⟨tg,iter,ifs,0⟩,⟨tg2,iter2,ifs2,0⟩] scope w2) 0 iter2 (.ref D) env) (R.glb g1) (R.blt _ g2) ⟨R.compSc hsc,?_,⟨_,rfl⟩,a0' h3,R.calm hh,fun _ _ _=>⟨rfl,rfl⟩,fun _ _ _ _=>⟨rfl,rfl⟩,fun _ _ _ _ _=>jK' _ _ _ _ _ _ _ _ _ _ _ _ _ _,fun _ _ _ _ _=>rfl,bM' hown,?_⟩ (sI it R h1 h2) rfl rfl
  .rw[R.hN];exact(cx' hsc).2.2.2.2
  .intro s0 H0 ex D
   have R':=R.comp hh hsc s0 H0 ex
   refine⟨sG t R' h4,sQo q R' h5,ws,f7,?_⟩
   exact d5' (nx:=do let v <- eval ee (X.comp scope s0 H0 ex).env;standAt ee.pos;let _ <- call (.builtin "set.add") [.ref D,v]) rfl (R.calm hh) (fun _=>rfl) (fun _=>rfl) (fun _=>rfl) (fun _=>rfl) (fun _=>rfl) (fun _=>rfl) ⟨_,rfl,rfl⟩ (a0' f3) (sI it2 R' f1 f2) (sG t2 R' f4) (bM' f6) (sQo q2 R' f5) (jl' R'.hu1 rfl (sE0 elt R' helt).1) (by simp) eg'
 | .dcy k v own t it q,B,X,sc,e,R,h=>by
  refine⟨?_,trivial⟩
  refine uU' h fun ke ve tg iter ifs a scope p2 e0 g=>?_
  clear h
  subst e0
  revert g
  intro h
  simp only[Bool.and_eq_true,decide_eq_true_eq,Bool.not_eq_true']at h
  obtain⟨⟨⟨⟨⟨⟨⟨⟨⟨⟨hh,hsc⟩,hke⟩,hve⟩,hown⟩,rfl⟩,h1⟩,h2⟩,h3⟩,h4⟩,h5⟩:=h
  rw[show tE C (.dcy k v own t it q)=(dl' own (tI C it) (tG C t) (tQo C q) (cE' (tE C k) (tE C v)) [] (fun _ a=>.dT (plT a)) okT) from rfl]
  refine gl' (Is:=pZ' X.prog X.w) (nx:=fun D env=>rR' ke ve D env) gm' (fun _=>rfl) eZ' cl' mD' ⟨R.compSc hsc,?_,⟨[],rfl⟩,a0' h3,R.calm hh,fun _ _ _=>⟨rfl,rfl⟩,fun _ _ _ _=>⟨rfl,rfl⟩,fun _ _ _ _ _=>rfl,fun _ _ _ _ _=>rfl,bM' hown,?_⟩ (sI it R h1 h2) rfl
  .rw[R.hN];exact(cx' hsc).2.2.2.2
  .intro s0 H0 ex D
   have R':=R.comp hh hsc s0 H0 ex
   exact⟨sG t R' h4,sQo q R' h5,[],by simp,e0' R'.hu1 rfl (sE0 k R' hke).1 (sE0 v R' hve).1⟩
 | .dcz k v own t it q ws t2 it2 q2,B,X,sc,e,R,h=>by
  refine⟨?_,trivial⟩
  refine uV' h fun ke ve tg iter ifs a tg2 iter2 ifs2 a2 scope p2 e0 g=>?_
  clear h
  subst e0
  revert g
  intro h
  simp only[Bool.and_eq_true,decide_eq_true_eq,Bool.not_eq_true',List.all_eq_true]at h
  obtain⟨⟨⟨⟨⟨⟨⟨⟨⟨⟨⟨⟨⟨⟨⟨⟨⟨⟨hh,hsc⟩,hke⟩,hve⟩,hown⟩,rfl⟩,h1⟩,h2⟩,h3⟩,h4⟩,h5⟩,rfl⟩,f1⟩,f2⟩,f3⟩,f4⟩,f5⟩,f6⟩,f7⟩:=h
  rw[show tE C (.dcz k v own t it q ws t2 it2 q2)=(dl' own (tI C it) (tG C t) (tQo C q) (dy' (tI C it2) (aE' ws (tG C t2) (tQo C q2) (cE' (tE C k) (tE C v)))) [] (fun _ a=>.dT (plT a)) okT) from rfl]
  refine gl' (Is:=pZ' X.prog X.w) (nx:=fun D env=>aX' (.DictComp ke ve [⟨tg,iter,ifs,0⟩,⟨tg2,iter2,ifs2,0⟩] scope p2) 0 iter2 (.ref D) env) gm' (fun _=>rfl) eZ' cl' mD' ⟨R.compSc hsc,?_,⟨_,rfl⟩,a0' h3,R.calm hh,fun _ _ _=>⟨rfl,rfl⟩,fun _ _ _ _=>⟨rfl,rfl⟩,fun _ _ _ _ _=>jJ' _ _ _ _ _ _ _ _ _ _ _ _ _ _ _,fun _ _ _ _ _=>rfl,bM' hown,?_⟩ (sI it R h1 h2) rfl
  .rw[R.hN];exact(cx' hsc).2.2.2.2
  .intro s0 H0 ex D
   have R':=R.comp hh hsc s0 H0 ex
   refine⟨sG t R' h4,sQo q R' h5,ws,f7,?_⟩
   exact d5' (nx:=rR' ke ve D (X.comp scope s0 H0 ex).env) rfl (R.calm hh) (fun _=>rfl) (fun _=>rfl) (fun _=>rfl) (fun _=>rfl) (fun _=>rfl) (fun _=>rfl) ⟨_,rfl,rfl⟩ (a0' f3) (sI it2 R' f1 f2) (sG t2 R' f4) (bM' f6) (sQo q2 R' f5) (e0' R'.hu1 rfl (sE0 k R' hke).1 (sE0 v R' hve).1) (by simp) cl'
 | .comp elt own t it q .nil,B,X,sc,e,R,h=>by
  have D:o6' C X e (.comp elt own t it q .nil):=by
   obtain⟨ee,tg,iter,ifs,scope,pos,rfl,hh,hsc,helt,hown,h1,h2,h3,h4,h5⟩:=wJ' h
   refine⟨tg,iter,ifs,fun D env=>do let _ <- call (.builtin "list.append") [.ref D,<- eval ee env],scope,_,⟨R.compSc hsc,?_,⟨[],rfl⟩,a0' h3,R.calm hh,fun _ _ _=>⟨rfl,rfl⟩,fun _ _ _ _=>⟨rfl,rfl⟩,fun _ _ _ _ _=>rfl,fun _ _ _ _ _=>rfl,bM' hown,?_⟩,sI it R h1 h2,rfl,fun _=>rfl,fun _ _ _=>⟨_,rfl⟩⟩
   .rw[R.hN];exact(cx' hsc).2.2.2.2
   .intro s0 H0 ex D
    have R':=R.comp hh hsc s0 H0 ex
    refine⟨sG t R' h4,sQo q R' h5,[],by simp,?_⟩
    exact f6' rfl (sE0 elt R' helt).1
  refine⟨?_,D⟩
  obtain⟨tg,iter,ifs,nx,scope,pos,D,hi,he,_⟩:=D
  rw[show tE C (.comp elt own t it q .nil)=(hr' own (tI C it) (tG C t) (tQo C q) (tR C .nil (dx' (tE C elt)))) from rfl]
  exact iH' D hi he
 | .comp elt own t it q (.cons ws t2 it2 q2 .nil),B,X,sc,e,R,h=>by
  have D:o6' C X e (.comp elt own t it q (.cons ws t2 it2 q2 .nil)):=by
   obtain⟨ee,tg,iter,ifs,tg2,iter2,ifs2,scope,pos,rfl,hh,hsc,helt,hown,h1,h2,h3,h4,h5,g1,g2,g3,g4,g5,g6,g7⟩:=wK' h
   refine⟨tg,iter,ifs,fun D env=>aX' (.ListComp ee [⟨tg,iter,ifs,0⟩,⟨tg2,iter2,ifs2,0⟩] scope pos) 0 iter2 (.ref D) env,scope,_,⟨R.compSc hsc,?_,⟨_,rfl⟩,a0' h3,R.calm hh,fun _ _ _=>⟨rfl,rfl⟩,fun _ _ _ _=>⟨rfl,rfl⟩,fun _ _ _ _ _=>lu' _ _ _ _ _ _ _ _ _ _ _ _ _ _,fun _ _ _ _ _=>rfl,bM' hown,?_⟩,sI it R h1 h2,rfl,fun _=>rfl,fun _ _ _=>⟨_,rfl⟩⟩
   .rw[R.hN];exact(cx' hsc).2.2.2.2
   .intro s0 H0 ex D
    have R':=R.comp hh hsc s0 H0 ex
    refine⟨sG t R' h4,sQo q R' h5,ws,g7,?_⟩
    exact d5' (nx:=do let _ <- call (.builtin "list.append") [.ref D,<- eval ee (X.comp scope s0 H0 ex).env]) rfl (R.calm hh) (fun _=>rfl) (fun _=>rfl) (fun _=>rfl) (fun _=>rfl) (fun _=>rfl) (fun _=>rfl) ⟨_,rfl,rfl⟩ (a0' g3) (sI it2 R' g1 g2) (sG t2 R' g4) (bM' g6) (sQo q2 R' g5) (f6' rfl (sE0 elt R' helt).1) (by simp) d3'
  refine⟨?_,D⟩
  obtain⟨tg,iter,ifs,nx,scope,pos,D,hi,he,_⟩:=D
  rw[show tE C (.comp elt own t it q (.cons ws t2 it2 q2 .nil))=(hr' own (tI C it) (tG C t) (tQo C q) (tR C (.cons ws t2 it2 q2 .nil) (dx' (tE C elt)))) from rfl]
  exact iH' D hi he
 | .comp elt own t it q (.cons ws t2 it2 q2 (.cons _ _ _ _ _)),B,X,sc,e,R,h=>(wL' h).elim
termination_by structural c=>c
theorem sA {C:Rc}:∀(es:Ces) {B:List Str} {X:Cx} {sc:Scope} {xs:List Expr},Rok C B X sc->mA C.N B sc es xs=true->PA X xs (tA C es)
 | .nil,B,X,sc,xs,R,h=>by
  refine jG' h fun e0 g=>?_
  clear h
  subst e0
  revert g
  intro h
  rw[show tA C .nil=(kA') from rfl]
  exact f5'
 | .cons e r,B,X,sc,xs,R,h=>by
  refine lr' h fun x xs e0 g=>?_
  clear h
  subst e0
  revert g
  intro h
  simp only[Bool.and_eq_true]at h
  rw[show tA C (.cons e r)=(cJ' (tE C e) (tA C r)) from rfl]
  exact cZ' ((sE0 e R h.1.1).1) (sA r R h.2) (as' h.1.2)
termination_by structural c=>c
theorem sQ {C:Rc}:∀(q:Cq) {B:List Str} {X:Cx} {sc:Scope} {e:Expr},Rok C B X sc->mQ C.N B sc q e=true->PT X e (tQ C q)/\((∃op vs pos,e=.BoolOp op vs pos)->PW X e (tQ C q))
 | .val c,B,X,sc,e,R,h=>by
  replace h:=fN' h
  refine⟨?_,fun⟨op,vs,pos,z⟩=>?_⟩
  .rw[show tQ C (.val c)=(fun σ H Q=>tE C c σ H fun x H'=>∃k,qw' C.K x H' k/\Q k H') from rfl]
   rw[<- R.hK]
   exact kN' (sE0 c R h.1).1 (jI' h.2)
  .subst z;exact aj' h.2
 | .din neg a b,B,X,sc,e,R,h=>by
  refine rJ' h fun ea op' eb w1 e0 g=>?_
  clear h
  subst e0
  revert g
  intro h
  simp only[Bool.and_eq_true,decide_eq_true_eq]at h
  obtain⟨⟨⟨rfl,h1⟩,h2⟩,h3⟩:=h
  rw[show tQ C (.din neg a b)=(fq' (lo' neg (tE C a) (tE C b))) from rfl]
  cases neg with
  |true=>exact⟨mb' (e3' R.hu1 (sE0 a R h1).1 (sE0 b R h2).1) (bC' h3),fun⟨op,vs,pos,z⟩=>by cases z⟩
  |false=>exact⟨mb' (mE' R.hu1 (sE0 a R h1).1 (sE0 b R h2).1) (bC' h3),fun⟨op,vs,pos,z⟩=>by cases z⟩
 | .cmw k a b,B,X,sc,e,R,h=>by
  refine rJ' h fun ea op' eb w1 e0 g=>?_
  clear h
  subst e0
  revert g
  intro h
  simp only[Bool.and_eq_true,decide_eq_true_eq]at h
  obtain⟨⟨⟨rfl,h1⟩,h2⟩,h3⟩:=h
  rw[show tQ C (.cmw k a b)=(fq' (tOp (rZf k) (tE C a) (tE C b))) from rfl]
  exact⟨il' (vc' R.hu _) (sE0 a R h1).1 (sE0 b R h2).1 (bC' h3),fun⟨op,vs,pos,z⟩=>by cases z⟩
 | .not q,B,X,sc,e,R,h=>by
  refine vZ' h fun y w1 e0 g=>?_
  clear h
  subst e0
  revert g
  intro h
  rw[show tQ C (.not q)=(tZ' (tQ C q)) from rfl]
  exact⟨qd' (sQ q R h).1,fun⟨op,vs,pos,z⟩=>by cases z⟩
 | .and a b,B,X,sc,e,R,h=>by
  replace h:=ju' h
  rcases h with⟨x,y,pos,rfl,h⟩|⟨x,y,z,r,pos,rfl,h⟩
  .simp only[Bool.and_eq_true]at h
   rw[show tQ C (.and a b)=(qa' (tQ C a) (tQ C b)) from rfl]
   have w:PW X (.BoolOp .And [x,y] pos) (qa' (tQ C a) (tQ C b)):=mc' (sQ a R h.1).1 (n1' (sQ b R h.2).1)
   exact⟨w.pt,fun _=>w⟩
  .simp only[Bool.and_eq_true]at h
   rw[show tQ C (.and a b)=(qa' (tQ C a) (tQ C b)) from rfl]
   have w:=mc' (sQ a R h.1).1 ((sQ b R h.2).2 ⟨_,_,_,rfl⟩)
   exact⟨w.pt,fun _=>w⟩
 | .or a b,B,X,sc,e,R,h=>by
  replace h:=mI' h
  rcases h with⟨x,y,pos,rfl,h⟩|⟨x,y,z,r,pos,rfl,h⟩
  .simp only[Bool.and_eq_true]at h
   rw[show tQ C (.or a b)=(tOr (tQ C a) (tQ C b)) from rfl]
   have w:PW X (.BoolOp .Or [x,y] pos) (tOr (tQ C a) (tQ C b)):=qc' (sQ a R h.1).1 (qb' (sQ b R h.2).1)
   exact⟨w.pt,fun _=>w⟩
  .simp only[Bool.and_eq_true]at h
   rw[show tQ C (.or a b)=(tOr (tQ C a) (tQ C b)) from rfl]
   have w:=qc' (sQ a R h.1).1 ((sQ b R h.2).2 ⟨_,_,_,rfl⟩)
   exact⟨w.pt,fun _=>w⟩
 | .cmp op a b,B,X,sc,e,R,h=>by
  refine rJ' h fun ea op' eb w1 e0 g=>?_
  clear h
  subst e0
  revert g
  intro h
  simp only[Bool.and_eq_true,decide_eq_true_eq]at h
  obtain⟨⟨⟨rfl,h1⟩,h2⟩,h3⟩:=h
  rw[show tQ C (.cmp op a b)=(fq' (tOp (cd' C.K op) (tE C a) (tE C b))) from rfl]
  rw[<- R.hK]
  exact⟨il' (mO' R.hu _) (sE0 a R h1).1 (sE0 b R h2).1 (bC' h3),fun⟨op,vs,pos,z⟩=>by cases z⟩
termination_by structural c=>c
theorem sQo {C:Rc}:∀(q:Cqo) {B:List Str} {X:Cx} {sc:Scope} {es:List Expr},Rok C B X sc->mQo C.N B sc q es=true->PTs X es (tQo C q)
 | .none,B,X,sc,es,R,h=>by
  refine jG' h fun e0 g=>?_
  clear h
  subst e0
  revert g
  intro h
  rw[show tQo C .none=(fun _ H Q=>Q true H) from rfl];exact ot'
 | .some q,B,X,sc,es,R,h=>by
  refine uY' h fun e e0 g=>?_
  clear h
  subst e0
  revert g
  intro h
  rw[show tQo C (.some q)=(tQ C q) from rfl];exact ou' (sQ q R h).1
termination_by structural c=>c
theorem sO {C:Rc}:∀(o:Co) {B:List Str} {X:Cx} {sc:Scope} {e:Option Expr},Rok C B X sc->mO C.N B sc o e=true->PO X e (tO C o)
 | .none,B,X,sc,e,R,h=>by
  refine uZ' h fun e0 g=>?_
  clear h
  subst e0
  revert g
  intro h
  rw[show tO C .none=(fr') from rfl];exact oj'
 | .some c,B,X,sc,e,R,h=>by
  refine u0' h fun y e0 g=>?_
  clear h
  subst e0
  revert g
  intro h
  rw[show tO C (.some c)=(oi' (tE C c)) from rfl];exact ok' (sE0 c R h).1
termination_by structural c=>c
theorem sI {C:Rc}:∀(i:Ci) {B:List Str} {X:Cx} {sc:Scope} {x tg:Expr},Rok C B X sc->mI C.N B sc i x=true->hT' i tg=true->PI X tg x (tI C i)
 | .val c,B,X,sc,x,tg,R,h,_=>by
  rw[show tI C (.val c)=(uq' C.K (tE C c)) from rfl]
  rw[<- R.hK]
  exact qM' (sE0 c R h).1
 | .range1 a,B,X,sc,x,tg,R,h,_=>by
  refine rM' h fun n w1 y w2 e0 g=>?_
  clear h
  subst e0
  revert g
  intro h
  simp only[Bool.and_eq_true,decide_eq_true_eq]at h
  obtain⟨⟨⟨⟨rfl,h1⟩,h2⟩,h3⟩,h4⟩:=h
  rw[show tI C (.range1 a)=(oa' (cJ' (tE C a) kA')) from rfl]
  exact if' (R.glb h1) (R.blt _ h2) (cZ' (sE0 a R h3).1 f5' (as' h4)) (as' h4)
 | .enum a,B,X,sc,x,tg,R,h,hz=>by
  refine rM' h fun n w1 y w2 e0 g=>?_
  clear h
  subst e0
  revert g
  intro h
  simp only[Bool.and_eq_true,decide_eq_true_eq]at h
  obtain⟨⟨⟨⟨rfl,h1⟩,h2⟩,h3⟩,h4⟩:=h
  rw[show tI C (.enum a)=(oy' C.K (tE C a)) from rfl]
  rw[<- R.hK]
  cases tg with
  |Tuple es k p=>exact oz' (R.glb h1) (R.blt _ h2) (cZ' (sE0 a R h3).1 f5' (as' h4)) (as' h4)
  |_=>cases hz
 | .dk c,B,X,sc,x,tg,R,h,_=>by
  rw[show tI C (.dk c)=(uI' (tE C c)) from rfl]
  exact rB' (sE0 c R h).1
termination_by structural c=>c
theorem sG {C:Rc}:∀(t:Ct) {B:List Str} {X:Cx} {sc:Scope} {e:Expr},Rok C B X sc->mT C.N B sc t e=true->PG X e (tG C t)
 | .name i,B,X,sc,e,R,h=>by
  refine uN' h fun x w1 e0 g=>?_
  clear h
  subst e0
  revert g
  intro h
  simp only[Bool.and_eq_true]at h
  obtain⟨h1,h2,h3⟩:=bz' h.1
  obtain⟨h4,h5⟩:=R.locb h.2
  rw[show tG C (.name i)=(h9' i) from rfl]
  exact n7' (by rw[R.hN];exact R.nd) (by rw[R.hN];exact h1) h4 h5
 | .tup ts,B,X,sc,e,R,h=>by
  refine rK' h fun es w1 w2 e0 g=>?_
  clear h
  subst e0
  revert g
  intro h
  rw[show tG C (.tup ts)=(uJ' C.K (lp' ts) (tGs C ts)) from rfl]
  rw[<- R.hK]
  simp only[Bool.and_eq_true,Bool.not_eq_true']at h
  exact rC' (R.calm h.2) (sGs ts R h.1) (cc' h.1).1 (cc' h.1).2
 | .sub o i,B,X,sc,e,R,h=>by
  refine o1' h fun eo ei w1 e0 g=>?_
  clear h
  subst e0
  revert g
  intro h
  simp only[Bool.and_eq_true]at h
  rw[show tG C (.sub o i)=(t6' (tE C o) (tE C i) dw') from rfl]
  exact qi' (sE0 o R h.1.1).1 (sE0 i R h.1.2).1 kW' (o5' h.2)
termination_by structural c=>c
theorem sGs {C:Rc}:∀(ts:Cts) {B:List Str} {X:Cx} {sc:Scope} {es:List Expr},Rok C B X sc->mTs C.N B sc ts es=true->PGs X es (tGs C ts)
 | .nil,B,X,sc,es,R,h=>by
  refine jG' h fun e0 g=>?_
  clear h
  subst e0
  revert g
  intro h
  rw[show tGs C .nil=(t5') from rfl];exact n9'
 | .cons t r,B,X,sc,es,R,h=>by
  refine lr' h fun x xs e0 g=>?_
  clear h
  subst e0
  revert g
  intro h
  simp only[Bool.and_eq_true]at h
  rw[show tGs C (.cons t r)=(n8' (tG C t) (tGs C r)) from rfl]
  exact kJ' (sG t R h.1.1) (sGs r R h.2) (fT' h.1.2)
termination_by structural c=>c
end
theorem sE {C:Rc} {B:List Str} (c:Ce) {X:Cx} {sc:Scope} {e:Expr} (R:Rok C B X sc) (h:mE C.N B sc c e=true):PE X e (tE C c):=(sE0 c R h).1
end R3
set_option maxHeartbeats 4000000
namespace R3
open PySem PySem.Spec PyProof.Rows L2
noncomputable def dr':Expr->Bool
 | .ListComp ..=>false
 | .SetComp ..=>false
 | .DictComp ..=>false
 |_=>true
theorem lv' {x tg:Expr} {l:Nat} {env:Env} (h:dr' x=true):swapsWithSole [tg] x l env=pure false:=by
 cases x<;>first|rfl|cases h
theorem hZ' {x:Expr} {l:Nat} {env:Env} (h:dr' x=true):swapsWith x none l env=pure false:=by
 cases x<;>first|rfl|cases h
set_option tactic.hygienic true in
theorem jL' {N B:List Str} {sc:Scope} {c:Ce} {x:Expr} (h:mE N B sc c x=true) (hd:fS' c=false) (hx:dr' x=false):∃elt own t it q r,c=.comp elt own t it q r/\∃ee gens scope pos,x=.ListComp ee gens scope pos:=by
 cases x<;>first|(cases hx;done)|skip
 .cases c<;>first|(exact aj' h)|(cases hd;done)|exact⟨_,_,_,_,_,_,rfl,_,_,_,_,rfl⟩
 .cases c<;>first|(exact aj' h)|(cases hd;done)|(rename_i r;cases r<;>first|(exact aj' h)|(cases hd;done)|(rename_i r;cases r<;>first|(exact aj' h)|(cases hd;done)|(rename_i r;cases r<;>exact aj' h)))
 .cases c<;>first|(exact aj' h)|(cases hd;done)|(rename_i r;cases r<;>first|(exact aj' h)|(cases hd;done)|(rename_i r;cases r<;>first|(exact aj' h)|(cases hd;done)|(rename_i r;cases r<;>exact aj' h)))
noncomputable def mP':Expr->Bool
 | .Starred ..=>true
 |_=>false
theorem nst {e:Expr} (h:aN' e=true):mP' e=false:=by
 cases e<;>first|rfl|cases h
theorem fU' {x y:Str} {px py pt pt2:Pos} {kt k2:Nat} {ea eb:Expr} {env:Env} (hb:env.scope.kind=.function) (kx:env.kindOf x=some .local) (ky:env.kindOf y=some .local) (hxy:x≠y) (hl:px.line=py.line) (h8:aN' ea=true) (h9:aN' eb=true)
  (h11:(foldedForSure 8 ea&&foldedForSure 8 eb)=false) (h12:(constantsAlone 8 ea&&constantsAlone 8 eb)=false):swappedStores [.Tuple [.Name x px,.Name y py] kt pt] (.Tuple [ea,eb] k2 pt2) env=pure (some [x,y]):=by
 have hbk:env.blockKind=.function:=by unfold Env.blockKind;rw[hb];rfl
 have p1:(Expr.Name x px).pos=px:=rfl
 have p2:(Expr.Name y py).pos=py:=rfl
 have hyx:(y == x)=false:=by simpa using fun z=>hxy z.symm
 have s1:[ea,eb].any mP'=false:=by
  rw[List.any_cons,List.any_cons,List.any_nil,nst h8,nst h9]
  rfl
 have s2:[ea,eb].all (foldedForSure 8)=false:=by
  rw[List.all_cons,List.all_cons,List.all_nil,Bool.and_true];exact h11
 have s3:[ea,eb].all (constantsAlone 8)=false:=by
  rw[List.all_cons,List.all_cons,List.all_nil,Bool.and_true];exact h12
 have s4:([x,y].eraseDups).length=2:=by
  simp[List.eraseDups_cons,hxy,hyx]
 unfold swappedStores
 dsimp only
 refine(if_neg ?_).trans ((if_neg (Bool.eq_false_iff.mp s1)).trans ?_)
 .simp[hbk]
 rw[s2,s3]
 simp[kx,ky,p1,p2,hl,List.filterMap_cons,s4]
theorem cy' {tg:Expr} {env:Env} (h:aN' tg=true):(assignEach [tg] env).map (·.2)=[assign tg env]:=by
 cases tg<;>first|rfl|cases h
noncomputable def o7':Expr->Expr->Bool
 | .Tuple ..,.Tuple ..=>false
 | .List ..,.Tuple ..=>false
 |_,_=>true
theorem dT' {tg x:Expr} {env:Env} (h:o7' tg x=true):swappedStores [tg] x env=pure none:=by
 cases tg<;>first|rfl|(cases x<;>first|rfl|cases h)
theorem fc' {tg:Expr} {vs:List Expr} {k:Nat} {pos:Pos} {env:Env} (h:vs.all (foldedForSure 8)=true):swappedStores [tg] (.Tuple vs k pos) env=pure none:=by
 have key:∀ts:List Expr,swappedStores [.Tuple ts 0 pos] (.Tuple vs k pos) env=pure none:=by
  intro ts
  unfold swappedStores
  dsimp only
  split
  .rfl
  .split
   .rfl
   .split
    .rfl
    .rfl
 cases tg<;>first|rfl|exact key _
theorem o8' {N B:List Str} {sc:Scope} {t:Ct} {a:List Expr} {p:Pos} (h:mT N B sc t (.List a p)=true):False:=by
 cases t<;>exact aj' h
section
variable {C:Rc} {B:List Str} {X:Cx} {sc:Scope}
end
set_option maxHeartbeats 4000000
mutual
theorem sS:∀(c:Cs) {C:Rc} {B:List Str} {X:Cx} {sc:Scope} {s:Stmt},Rok C B X sc->X.env.scope.kind=.function->mS C.N B sc c s=true->PS X s (tS C c)
 | .expr e,C,B,X,sc,s,R,hk,h=>by
  refine u1' h fun x w1 e0 g=>?_
  clear h
  subst e0
  revert g
  intro h
  obtain⟨hc,hd⟩:=fN' h
  clear h
  obtain⟨hc,hm⟩:=fN' hc
  replace hd:fS' e=false:=by cases z:fS' e with
   |false=>rfl
   |true=>rw[z]at hd;exact aj' hd
  rw[show tS C (.expr e)=(n5' (tE C e)) from rfl]
  refine n6' (sE e R hc) (hZ' ?_)
  cases hx:dr' x with
  |true=>rfl
  |false=>
   obtain⟨elt,own,t,it,q,r,rfl,_⟩:=jL' hc hd hx
   exact aj' hm
 | .ret e,C,B,X,sc,s,R,hk,h=>by
  refine u2' h fun x w1 e0 g=>?_
  clear h
  subst e0
  revert g
  intro h
  rw[show tS C (.ret e)=(t1' (tE C e)) from rfl]
  exact qg' (sE e R h)
 | .asg t e,C,B,X,sc,s,R,hk,h=>by
  refine u3' h fun tg x pos e0 g=>?_
  clear h
  subst e0
  revert g
  intro h
  obtain⟨h,h4⟩:=fN' h
  obtain⟨h,h3⟩:=fN' h
  obtain⟨h,h2⟩:=fN' h
  obtain⟨h1,h0⟩:=fN' h
  replace h0:fS' e=false:=by cases z:fS' e with
   |false=>rfl
   |true=>rw[z]at h0;exact aj' h0
  rw[show tS C (.asg t e)=(tD' (tE C e) (tG C t)) from rfl]
  have hw:swappedStores [tg] x X.env=pure none:=by
   cases tg with
   |Tuple a b c=>cases x<;>first|exact dT' rfl|exact fc' h4|exact aj' h4
   |List a b=>exact(o8' h2).elim
   |_=>exact dT' rfl
  cases hx:dr' x with
  |true=>exact ia' (sE e R h1) (sG t R h2) (lv' hx) hw (cy' h3)
  |false=>
   obtain⟨elt,own,t',it,q,r,rfl,ee,gens,scope,p2,rfl⟩:=jL' h1 h0 hx
   have D:=(sE0 _ R h1).2
   obtain⟨tg',iter,ifs,nx,scope',pos',D,hi,he,hu,hsw⟩:=D
   cases t with
   |name i=>
    cases tg with
    |Name y py=>
     obtain⟨b,hb⟩:=hsw y py pos.line
     cases b with
     |true=>
      replace h2:=fN' h2
      obtain⟨g1,g2,g3⟩:=bz' h2.1
      obtain⟨g4,g5⟩:=R.locb h2.2
      exact ht' D hi (by rw[R.hN];exact R.nd) (by rw[R.hN];exact g1) g4 g5 (hu _) hb
     |false=>exact ia' (sE _ R h1) (sG _ R h2) hb hw (cy' h3)
    |_=>exact aj' h2
   |tup ts=>
    cases tg with
    |Tuple a b c=>exact aj' h4
    |_=>exact aj' h2
   |sub o i=>
    cases tg with
    |Subscript a b c=>exact ia' (sE _ R h1) (sG _ R h2) rfl hw (cy' h3)
    |_=>exact aj' h2
 | .par i j a b,C,B,X,sc,s,R,hk,h=>by
  refine u4' h fun x px y py kt pt ea eb k2 pt2 pos e0 g=>?_
  clear h
  subst e0
  revert g
  intro h
  simp only[Bool.and_eq_true,decide_eq_true_eq,Bool.not_eq_true',beq_iff_eq]at h
  obtain⟨⟨⟨⟨⟨⟨⟨⟨⟨⟨⟨⟨h1,h2⟩,h3⟩,h4⟩,h5⟩,h6⟩,h7⟩,h8⟩,h9⟩,h10⟩,h11⟩,h12⟩,hh⟩:=h
  obtain⟨g1,g2,g3⟩:=bz' h1
  obtain⟨f1,f2,f3⟩:=bz' h2
  rw[show tS C (.par i j a b)=(t7' i j (cJ' (tE C a) (cJ' (tE C b) kA'))) from rfl]
  have lx:=R.loc x h4
  have ly:=R.loc y h5
  refine qj' (R.calm hh) (by rw[R.hN];exact R.nd) (by rw[R.hN];exact g1) (by rw[R.hN];exact f1) h3 lx ly (cZ' (sE a R h6) (cZ' (sE b R h7) f5' (as' h9)) (as' h8)) ?_
  have hxy:x≠y:=fun z=>h3 (dZ' R.nd g1 (z ▸ f1))
  exact fU' hk lx ly hxy h10 h8 h9 h11 h12
 | .dput o i e,C,B,X,sc,s,R,hk,h=>by
  refine u5' h fun eo ei w1 ee w2 e0 g=>?_
  clear h
  subst e0
  revert g
  intro h
  simp only[Bool.and_eq_true]at h
  obtain⟨⟨⟨⟨h1,h2⟩,h3⟩,h4⟩,h5⟩:=h
  rw[show tS C (.dput o i e)=(oF' (tE C o) (tE C i) (tE C e)) from rfl]
  refine oH' R.hu1 (sE o R h1) (sE i R h2) (sE e R h4) ?_
  cases ee<;>first|rfl|cases h5
 | .aug i sub e,C,B,X,sc,s,R,hk,h=>by
  refine u6' h fun x w1 op ee w2 e0 g=>?_
  clear h
  subst e0
  revert g
  intro h
  simp only[Bool.and_eq_true,decide_eq_true_eq]at h
  obtain⟨⟨⟨h1,h2⟩,h3⟩,rfl⟩:=h
  obtain⟨g1,g2,g3⟩:=bz' h1
  obtain⟨g4,g5⟩:=R.locb h2
  rw[show tS C (.aug i sub e)=(t8' i (tE C e) (ipI fun i j=>if sub then i-j else i+j)) from rfl]
  cases sub with
  |true=>exact mf' (by rw[R.hN];exact R.nd) (by rw[R.hN];exact g1) g4 (sE e R h3) ql' g5
  |false=>exact mf' (by rw[R.hN];exact R.nd) (by rw[R.hN];exact g1) g4 (sE e R h3) qk' g5
 | .ite q a b,C,B,X,sc,s,R,hk,h=>by
  refine u7' h fun x ss rs w1 e0 g=>?_
  clear h
  subst e0
  revert g
  intro h
  simp only[Bool.and_eq_true]at h
  rw[show tS C (.ite q a b)=(t2' (tQ C q) (tSs C a) (tSs C b)) from rfl]
  exact t3' (sQ q R h.1.1).1 (sSs a R hk h.1.2) (sSs b R hk h.2)
 | .whl q b,C,B,X,sc,s,R,hk,h=>by
  refine u8' h fun x ss w1 e0 g=>?_
  clear h
  subst e0
  revert g
  intro h
  simp only[Bool.and_eq_true]at h
  rw[show tS C (.whl q b)=(ib' (tQ C q) (tSs C b)) from rfl]
  exact kK' R.own (sQ q R h.1).1 (sSs b R hk h.2)
 | .for_ t it b,C,B,X,sc,s,R,hk,h=>by
  refine u9' h fun tg iter ss w1 e0 g=>?_
  clear h
  subst e0
  revert g
  intro h
  simp only[Bool.and_eq_true,Bool.not_eq_true']at h
  obtain⟨⟨⟨⟨⟨h1,h2⟩,h3⟩,h4⟩,h5⟩,hh⟩:=h
  rw[show tS C (.for_ t it b)=(t9' (tI C it) (tG C t) (tSs C b)) from rfl]
  exact qm' R.own (R.calm hh) (sI it R h1 h2) (sG t R h4) (sSs b R hk h5) (a0' h3)
theorem sSs:∀(c:Css) {C:Rc} {B:List Str} {X:Cx} {sc:Scope} {ss:List Stmt},Rok C B X sc->X.env.scope.kind=.function->mSs C.N B sc c ss=true->PSs X ss (tSs C c)
 | .nil,C,B,X,sc,ss,R,hk,h=>by
  refine va' h fun e0 g=>?_
  clear h
  subst e0
  revert g
  intro h
  rw[show tSs C .nil=(n3') from rfl];exact n4'
 | .cons c r,C,B,X,sc,ss,R,hk,h=>by
  refine vb' h fun x xs e0 g=>?_
  clear h
  subst e0
  revert g
  intro h
  simp only[Bool.and_eq_true]at h
  rw[show tSs C (.cons c r)=(t0' (tS C c) (tSs C r)) from rfl]
  exact kI' (sS c R hk h.1) (sSs r R hk h.2)
end
section
variable {P:Program} {w:World} {K:W.Frag} {mg:Str->Option Value} {base:Heap}
structure Ask (P:Program) (w:World) (K:W.Frag) (mg:Str->Option Value) (base:Heap) (k:Nat) (C:Rc):Prop where
 fs:∀y sp',C.fs y=some sp'->∃f' fd' ps',(FnOk P w K mg base CX0 k f' fd' ps' sp'\/FnOk P w K mg base (CX1 P w mg) k f' fd' ps' sp'/\p2' y∈C.B)/\mg y=some (.ref f')/\W.keepIn K (.ref f')=true/\dv' K fd' ps' []
 B:∀y∈C.B,mg y=none
 mrk:mg "~"=none/\mg "^"=none/\mg "%"=none
 cl:∀c Ca,C.cl c=some Ca->mg c=some (.ref Ca)/\W.nsIn K mainGlobals c=some (some (.ref Ca))
 nt:tld C.B=false
 nh:hat C.B=false
theorem o9' {x qual:Str} {st:Stmt} {f:Addr} {fd:FuncData} {ps:List Str} {k:Nat} {sp:Sp} (F:Fun K x qual st f fd) (C:Rc) (S:FnScope C.N ps (ac' st)) (hK:C.K=K) (code:Css) (hm:mSs C.N C.B (ac' st) code (ap' st)=true)
  (len:∀vs H Q E,sp vs H Q E->vs.length=ps.length) (ask:Ask P w K mg base k C) (hxk:C.xk=fun _=>E0)
  (hbody:∀vs H Q E,sp vs H Q E->tSs C code { nx:=fun _ H'=>Q .non H',rt:=Q } (aU' C.N vs) H):FnOk P w K mg base CX0 (k+1) f fd ps sp:=by
 refine F.ok S len fun cdv A outer s H vs Q E hr h=>⟨_,sSs code (sc:=ac' st) (B:=C.B) ?_ S.kind hm,hbody vs H Q E h⟩
 refine⟨rfl,S.nd,hK.symm,PassesOwn.never,fun _=>rfl,hr.units,hr.gd,fun _ e=>e,fun _ e=>⟨e,rfl⟩,fun _ e=>.inr e,fun _ e=>e,fun y sp' e _ _=>?_,ask.B,ask.mrk,ask.cl,fun _=>⟨rfl,fun _=>rfl,rfl,rfl⟩,fun _=>ask.nh,fun _ _ nm Ca pins σ H s e t _ _ _ _ _ _ z=>?_⟩
 .obtain⟨f',fd',ps',h1,h2,h3,h4⟩:=ask.fs y sp' e
  rcases h1 with h1|⟨h1,hb⟩
  .exact⟨f',fd',ps',k,CX0,h1,hr,h2,h3,h4,.inl rfl,mN'⟩
  .refine⟨f',fd',ps',k,_,h1,hr,h2,h3,h4,.inr ⟨rfl,hb⟩,?_⟩
   rintro pins σ H s e s' I ⟨ea,T,Ca,nm,H',_,_,_,_,_,_,_,_,_,_,_,z⟩
   rw[hxk]at z
   exact z.elim
 .rw[hxk]at z
  exact z.elim
end
def lw' (a:Addr) (k:Nat) (h:Heap):Prop:=∃(x y z:Int) (t1 t2 t3:Tok) (n:Nat),h.get? a=some { cls:=.type "list",data:=.seq #[.int x t1,.int y t2,.int z t3] n }/\0<=x/\0<=y/\y<2 ^ 62/\0<=z/\z<=k
noncomputable def cK' (a:Addr) (k:Nat):HO:=.ext (lw' a k)
noncomputable def fe' (x y z:Int):HO:=.lst [.int x,.int y,.int z]
theorem rS' {a:Addr} {n k:Nat} (e:cK' a n=cK' a k):n<=k:=by
 have e1:lw' a n=lw' a k:=HO.ext.inj e
 let o:Obj:={ cls:=.type "list",data:=.seq #[.int 0 0,.int 0 0,.int n 0] 0 }
 let h0:Heap:={ (default:Heap)with objs:=Array.replicate a default }
 have hs:h0.objs.size=a:=Array.size_replicate
 have g:(h0.push o).get? a=some o:=by
  have:=Heap.get?_push_size h0 (o:=o) rfl
  rw[hs]at this
  exact this
 have q:lw' a n (h0.push o):=⟨0,0,n,0,0,0,0,g,by omega,by omega,by decide,by omega,by omega⟩
 rw[e1]at q
 obtain⟨x,y,z,t1,t2,t3,m,g2,_,_,_,_,hz⟩:=q
 rw[g]at g2
 have g3:=Option.some.inj g2
 have g4:(#[.int 0 0,.int 0 0,.int n 0]:Array Value)=#[.int x t1,.int y t2,.int z t3]:=by
  have:o.data=_:=congrArg Obj.data g3
  injection this
 have g6:=congrArg Array.toList g4
 simp only[List.cons.injEq,Value.int.injEq]at g6
 have g5:(n:Int)=z:=g6.2.2.1.1
 omega
theorem jM' {P:Program} {w:World} {H:Hp} {h:Heap} {b:Addr} {x y z:Int} {k:Nat} (hok:HOk P w H h) (e:H b=some (fe' x y z)) (hx:0<=x) (hy:0<=y) (hy2:y<2 ^ 62) (hz:0<=z) (hk:z<=k):HOk P w (upd H b (cK' b k)) h:=by
 intro c o ec
 by_cases hc:c=b
 .subst hc
  rw[aa']at ec
  cases ec
  obtain⟨_,its,n,rv,g⟩:=(show av' P w H h c (.lst _) from hok c _ e)
  cases rv with
  |cons r1 r=>
   cases r with
   |cons r2 r=>
    cases r with
    |cons r3 r=>
     cases r
     obtain⟨t1,rfl⟩:=r1
     obtain⟨t2,rfl⟩:=r2
     obtain⟨t3,rfl⟩:=r3
     refine⟨⟨x,y,z,t1,t2,t3,n,g,hx,hy,hy2,hz,hk⟩,⟨_,g⟩,fun h1 h2 q kk=>?_⟩
     obtain⟨x,y,z,t1,t2,t3,n,g,r⟩:=q
     exact⟨x,y,z,t1,t2,t3,n,kk _ g,r⟩
 .rw[ab' hc]at ec
  have ne:∀d u,H d=some u->(∀xs,u≠.lst xs)->d≠b:=fun d u q nu z=>by subst z;rw[e]at q;cases q;exact nu _ rfl
  exact(hok c o ec).stay (fun _ _ _ q=>q) (fun d q=>by rw[ab' (ne d _ q fun _ z=>by cases z)];exact q) fun d xs q=>by rw[ab' (ne d _ q fun _ z=>by cases z)];exact q
theorem lx' {P:Program} {w:World} {H:Hp} {h:Heap} {b:Addr} {k:Nat} (hok:HOk P w H h) (e:H b=some (cK' b k)):∃x y z:Int,0<=x/\0<=y/\y<2 ^ 62/\0<=z/\z<=k/\HOk P w (upd H b (fe' x y z)) h:=by
 obtain⟨⟨x,y,z,t1,t2,t3,n,g,hx,hy,hy2,hz,hk⟩,_,_⟩:=(show av' P w H h b (.ext _) from hok b _ e)
 refine⟨x,y,z,hx,hy,hy2,hz,hk,fun c o ec=>?_⟩
 by_cases hc:c=b
 .subst hc
  rw[aa']at ec
  cases ec
  exact⟨by show 3<=sizeLine;decide,[.int x t1,.int y t2,.int z t3],n,.cons ⟨_,rfl⟩ (.cons ⟨_,rfl⟩ (.cons ⟨_,rfl⟩ .nil)),g⟩
 .rw[ab' hc]at ec
  have ne:∀d u,H d=some u->(∀φ,u≠.ext φ)->d≠b:=fun d u q nu z=>by subst z;rw[e]at q;cases q;exact nu _ rfl
  exact(hok c o ec).stay (fun _ _ _ q=>q) (fun d q=>by rw[ab' (ne d _ q fun _ z=>by cases z)];exact q) fun d xs q=>by rw[ab' (ne d _ q fun _ z=>by cases z)];exact q
theorem ly' {fs ex:List Addr} {H H':Hp} {h h':Heap} {b:Addr} {xs:List V} {o:HO} (u:Un fs ex H H' h h') (e:H' b=some (.lst xs)):Un fs ex H (upd H' b o) h h' where
 keep:=u.keep
 slot:=u.slot
 free:=fun c ob q n hx=>by
  have z:=u.free c ob q n hx
  rw[ab' (fun z2=>by subst z2;rw[e]at z;cases z)]
  exact z
 there:=u.there
 tups:=fun c ys q=>by
  have z:=u.tups c ys q
  rw[ab' (fun z2=>by subst z2;rw[e]at z;cases z)]
  exact z
 frzs:=fun c ob ys q=>by
  have z:=u.frzs c ob ys q
  rw[ab' (fun z2=>by subst z2;rw[e]at z;cases z)]
  exact z
 tbls:=fun c ps q=>by
  obtain⟨m,z⟩:=u.tbls c ps q
  exact⟨m,by rw[ab' (fun z2=>by subst z2;rw[e]at z;cases z)];exact z⟩
theorem pa' {fs ex:List Addr} {H H':Hp} {h h':Heap} {b:Addr} {φ:Heap->Prop} {o:HO} (u:Un fs ex (upd H b o) H' h h') (e:H b=some (.ext φ)):Un fs ex H H' h h':=by
 have ne:∀c,H c=none->c≠b:=fun c n z=>by subst z;rw[e]at n;cases n
 have ne2:∀c v,H c=some v->(∀ψ,v≠.ext ψ)->c≠b:=fun c v q nv z=>by subst z;rw[e]at q;cases q;exact nv _ rfl
 exact⟨fun c ob q n=>u.keep c ob q (by rw[ab' (ne c n)];exact n),fun c ob q n=>u.slot c ob q (by rw[ab' (ne c n)];exact n),fun c ob q n=>u.free c ob q (by rw[ab' (ne c n)];exact n),u.there,
  fun c ys q=>u.tups c ys (by rw[ab' (ne2 c _ q fun _ z=>by cases z)];exact q),fun c ob ys q=>u.frzs c ob ys (by rw[ab' (ne2 c _ q fun _ z=>by cases z)];exact q),fun c ps q=>u.tbls c ps (by rw[ab' (ne2 c _ q fun _ z=>by cases z)];exact q)⟩
section
variable {P:Program} {w:World} {K:W.Frag} {mg:Str->Option Value} {base:Heap} {k:Nat} {f:Addr} {fd:FuncData} {ps:List Str} {sp sp':Sp}
def v0' (Q:VK) (v:V) (H:Hp):Prop:=∃b x y z m,H b=some (fe' x y z)/\0<=x/\0<=y/\y<2 ^ 62/\0<=z/\z<=((m:Nat):Int)/\Q v (upd H b (cK' b m))
theorem jN' (F:FnOk P w K mg base CX0 k f fd ps sp) (h:∀vs H Q E,sp' vs H Q E->sp vs H (v0' Q) E):FnOk P w K mg base CX0 k f fd ps sp':=by
 refine⟨fun vs H Q E q=>F.len vs H _ E (h _ _ _ _ q),fun A outer s H args us vs Q E hr e0 hb hv hs=>?_⟩
 refine codeAny_mono (F.run A outer s H args us vs _ E hr e0 hb hv (h _ _ _ _ hs)) fun r s' hq=>?_
 cases r with
 |error e=>exact hq
 |ok fl=>
  cases fl with
  |next=>exact hq
  |brk=>exact hq
  |cont=>exact hq
  |ret u=>
   obtain⟨v,H',os,bare,un,hok,rv,b,x,y,z,m,eb,hx,hy,hy2,hz,hm,q⟩:=hq
   exact⟨v,_,os,bare,ly' un eb,jM' hok eb hx hy hy2 hz hm,rv,q⟩
theorem pb' (F:FnOk P w K mg base CX0 k f fd ps sp) (h:∀vs H Q E,sp' vs H Q E->∃b n,H b=some (cK' b n)/\∀x y z,0<=x->0<=y->y<2 ^ 62->0<=z->z<=((n:Nat):Int)->sp vs (upd H b (fe' x y z)) Q E) (len:∀vs H Q E,sp' vs H Q E->vs.length=ps.length):FnOk P w K mg base CX0 k f fd ps sp':=by
 refine⟨len,fun A outer s H args us vs Q E hr e0 hb hv hs=>?_⟩
 obtain⟨b,n,eb,hsp⟩:=h _ _ _ _ hs
 obtain⟨x,y,z,hx,hy,hy2,hz,hn,hok⟩:=lx' e0.hok eb
 have ne:∀c,H c=none->c≠b:=fun c n z=>by subst z;rw[eb]at n;cases n
 have e1:Env0 P w K mg base A outer s (upd H b (fe' x y z)):=⟨e0.frames,e0.mod,fun c o e=>⟨(e0.bs c o e).1,by rw[ab' (ne c (e0.bs c o e).2)];exact(e0.bs c o e).2⟩,e0.bsz,e0.funs,fun c hc=>by rw[ab' (ne c (e0.frf c hc))];exact e0.frf c hc,hok,e0.bare⟩
 refine codeAny_mono (F.run A outer s _ args us vs Q E hr e1 hb hv (hsp x y z hx hy hy2 hz hn)) fun r s' hq=>?_
 cases r with
 |error e=>exact hq
 |ok fl=>
  cases fl with
  |next=>exact hq
  |brk=>exact hq
  |cont=>exact hq
  |ret u=>
   obtain⟨v,H',os,bare,un,hok,rv,q⟩:=hq
   exact⟨v,H',os,bare,pa' un eb,hok,rv,q⟩
end
structure Go (c:Nat) (H H':Hp):Prop where
 box:∀a n,H a=some (cK' a n)->∃m,m<=n+c/\H' a=some (cK' a m)
 oth:∀a o,H a=some o->(∀φ,o≠.ext φ)->H' a=some o
 free:∀a,H' a=none->H a=none
theorem Go.of_same {c:Nat} {H H':Hp} (h:a1' H H'):Go c H H':=⟨fun a n e=>⟨n,by omega,h a _ e⟩,fun a o e _=>h a o e,fun a e=>h.free e⟩
theorem Go.refl {c:Nat} {H:Hp}:Go c H H:=.of_same (a1'.refl H)
theorem Go.trans {c d:Nat} {H H1 H2:Hp} (a:Go c H H1) (b:Go d H1 H2):Go (c+d) H H2:=⟨fun p n e=>by
  obtain⟨m,hm,e1⟩:=a.box p n e
  obtain⟨m',hm',e2⟩:=b.box p m e1
  exact⟨m',by omega,e2⟩,fun p o e no=>b.oth p o (a.oth p o e no) no,fun p e=>a.free p (b.free p e)⟩
theorem Go.mono {c d:Nat} {H H1:Hp} (a:Go c H H1) (h:c<=d):Go d H H1:=⟨fun p n e=>by
  obtain⟨m,hm,e1⟩:=a.box p n e
  exact⟨m,by omega,e1⟩,a.oth,a.free⟩
theorem Go.lst {c:Nat} {H H1:Hp} (a:Go c H H1) {p:Addr} {xs:List V} (e:H p=some (.lst xs)):H1 p=some (.lst xs):=a.oth p _ e fun _ z=>by cases z
theorem Go.tup {c:Nat} {H H1:Hp} (a:Go c H H1) {p:Addr} {xs:List V} (e:H p=some (.tup xs)):H1 p=some (.tup xs):=a.oth p _ e fun _ z=>by cases z
theorem Go.seq {c:Nat} {K:W.Frag} {H H1:Hp} (g:Go c H H1) {a:Addr} {xs:List V} (h:SqL K H a xs):SqL K H1 a xs:=by
 rcases h with(h|⟨o,h⟩)|h
 .exact .inl (.inl (g.lst h))
 .exact .inl (.inr ⟨o,g.oth _ _ h fun _ z=>by cases z⟩)
 .exact .inr h
theorem Go.draw {H:Hp} {b:Addr} {n m:Nat} (e:H b=some (cK' b n)) (h:m<=n+1) (o:HO):Go 1 H (upd (upd H b o) b (cK' b m)):=by
 rw[fo']
 refine⟨fun p k q=>?_,fun p u q no=>?_,fun p q=>?_⟩
 .by_cases hp:p=b
  .subst hp
   rw[e]at q
   have:=rS' (Option.some.inj q)
   exact⟨m,by omega,aa'⟩
  .exact⟨k,by omega,by rw[ab' hp];exact q⟩
 .rw[ab']
  .exact q
  .intro z
   subst z
   rw[e]at q
   cases q
   exact no _ rfl
 .by_cases hp:p=b
  .subst hp
   rw[aa']at q
   cases q
  .rw[ab' hp]at q
   exact q
section
variable {C:Rc} {σ:L2.St} {H:Hp} {Q:VK} {D:Ends} {Qb:Bool->Hp->Prop}
def kV (o:Option (Option V)) (H:Hp) (Q:VK):Prop:=∃v,o=some (some v)/\Q v H
theorem jO' {v:V}:kV (some (some v)) H Q=Q v H:=propext ⟨fun⟨u,e,q⟩=>by cases e;exact q,fun q=>⟨v,rfl,q⟩⟩
theorem mQ' {i:Nat}:tE C (.var i) σ H Q=kV σ[i]? H Q:=rfl
theorem mR' {n:Int}:tE C (.int n) σ H Q=Q (.int n) H:=rfl
theorem rT' {b:Bool}:tE C (.bl b) σ H Q=Q (.bl b) H:=rfl
theorem mS':tE C .non σ H Q=Q .non H:=rfl
theorem mT' {x:Str}:tE C (.str x) σ H Q=Q (.str x) H:=rfl
theorem rU' {x:String}:tE C (.ty x) σ H Q=Q (.ty x) H:=rfl
noncomputable def kB1 (C:Rc) (σ:L2.St) (op:Operator) (b:Ce) (Q:VK):VK:=fun x H=>tE C b σ H fun y H2=>ey' C.K op x y H2 Q
noncomputable def kB2 (C:Rc) (op:Operator) (x:V) (Q:VK):VK:=fun y H=>ey' C.K op x y H Q
theorem mU' {op:Operator} {a b:Ce}:tE C (.bin op a b) σ H Q=tE C a σ H (kB1 C σ op b Q):=rfl
theorem mV' {op:Operator} {b:Ce} {x:V}:kB1 C σ op b Q x H=tE C b σ H (kB2 C op x Q):=rfl
theorem mW' {op:Operator} {x y:V}:kB2 C op x Q y H=ey' C.K op x y H Q:=rfl
noncomputable def kC1 (C:Rc) (σ:L2.St) (op:CmpOp) (b:Ce) (Q:VK):VK:=fun x H=>tE C b σ H fun y H2=>cd' C.K op x y H2 Q
noncomputable def kC2 (C:Rc) (op:CmpOp) (x:V) (Q:VK):VK:=fun y H=>cd' C.K op x y H Q
theorem mX' {op:CmpOp} {a b:Ce}:tE C (.cmp op a b) σ H Q=tE C a σ H (kC1 C σ op b Q):=rfl
theorem mY' {op:CmpOp} {b:Ce} {x:V}:kC1 C σ op b Q x H=tE C b σ H (kC2 C op x Q):=rfl
theorem mZ' {op:CmpOp} {x y:V}:kC2 C op x Q y H=cd' C.K op x y H Q:=rfl
noncomputable def kI1 (C:Rc) (σ:L2.St) (b:Ce) (Q:VK):VK:=fun x H=>tE C b σ H fun y H2=>ln' C.K x y H2 Q
noncomputable def kI2 (C:Rc) (x:V) (Q:VK):VK:=fun y H=>ln' C.K x y H Q
theorem m0' {a b:Ce}:tE C (.idx a b) σ H Q=tE C a σ H (kI1 C σ b Q):=rfl
theorem m1' {b:Ce} {x:V}:kI1 C σ b Q x H=tE C b σ H (kI2 C x Q):=rfl
theorem m2' {x y:V}:kI2 C x Q y H=ln' C.K x y H Q:=rfl
noncomputable def kT (Qb:Bool->Hp->Prop):VK:=fun x H=>∃k,x=.bl k/\Qb k H
theorem rV' {k:Bool}:kT Qb (.bl k) H=Qb k H:=propext ⟨fun⟨u,e,q⟩=>by cases e;exact q,fun q=>⟨k,rfl,q⟩⟩
theorem m3' {op:CmpOp} {a b:Ce}:tQ C (.cmp op a b) σ H Qb=tE C a σ H (kC1 C σ op b (kT Qb)):=rfl
noncomputable def rW' (Qb:Bool->Hp->Prop):Bool->Hp->Prop:=fun c H=>Qb (!c) H
theorem m4' {q:Cq}:tQ C (.not q) σ H Qb=tQ C q σ H (rW' Qb):=rfl
theorem gy' {c:Bool}:rW' Qb c H=Qb (!c) H:=rfl
noncomputable def pc' (C:Rc) (σ:L2.St) (b:Cq) (Qb:Bool->Hp->Prop):Bool->Hp->Prop:=fun c H=>if c=true then tQ C b σ H Qb else Qb false H
noncomputable def ve' (C:Rc) (σ:L2.St) (b:Cq) (Qb:Bool->Hp->Prop):Bool->Hp->Prop:=fun c H=>if c=true then Qb true H else tQ C b σ H Qb
theorem m5' {a b:Cq}:tQ C (.and a b) σ H Qb=tQ C a σ H (pc' C σ b Qb):=rfl
theorem rX' {a b:Cq}:tQ C (.or a b) σ H Qb=tQ C a σ H (ve' C σ b Qb):=rfl
theorem jP' {b:Cq}:pc' C σ b Qb true H=tQ C b σ H Qb:=rfl
theorem jQ' {b:Cq}:pc' C σ b Qb false H=Qb false H:=rfl
theorem m6' {b:Cq}:ve' C σ b Qb true H=Qb true H:=rfl
theorem m7' {b:Cq}:ve' C σ b Qb false H=tQ C b σ H Qb:=rfl
variable {K:W.Frag} {i j:Int} {x y:Str}
theorem rY':ey' K .Add (.int i) (.int j) H Q=Q (.int (i+j)) H:=rfl
theorem rZ':ey' K .Sub (.int i) (.int j) H Q=Q (.int (i-j)) H:=propext ⟨fun⟨_,_,e,e',q⟩=>by cases e;cases e';exact q,fun q=>⟨_,_,rfl,rfl,q⟩⟩
theorem r0':ey' K .Mult (.int i) (.int j) H Q=(rH' i j/\Q (.int (i*j)) H):=rfl
theorem m8':ey' K .Mult (.str x) (.int j) H Q=(-1000000<=j/\j<=1000000/\x.length*j.toNat<=1000000/\Q (.str (Txt.mul x j)) H):=rfl
theorem r1':ey' K .Mod (.int i) (.int j) H Q=(0<j/\Q (.int (i % j)) H):=propext ⟨fun⟨_,_,e,e',c,q⟩=>by cases e;cases e';exact⟨c,q⟩,fun q=>⟨_,_,rfl,rfl,q.1,q.2⟩⟩
theorem r2':ey' K .FloorDiv (.int i) (.int j) H Q=(rG' i j/\Q (.int (i / j)) H):=propext ⟨fun⟨_,_,e,e',c,q⟩=>by cases e;cases e';exact⟨c,q⟩,fun q=>⟨_,_,rfl,rfl,q.1,q.2⟩⟩
theorem r3':ey' K .Pow (.int i) (.int j) H Q=(ud' i j/\Q (.int (i ^ j.toNat)) H):=propext ⟨fun⟨_,_,e,e',c,q⟩=>by cases e;cases e';exact⟨c,q⟩,fun q=>⟨_,_,rfl,rfl,q.1,q.2⟩⟩
theorem v1':cd' K .Lt (.int i) (.int j) H Q=Q (.bl (decide (i<j))) H:=propext ⟨fun⟨_,_,e,e',q⟩=>by cases e;cases e';exact q,fun q=>⟨_,_,rfl,rfl,q⟩⟩
theorem v2':cd' K .Gt (.int i) (.int j) H Q=Q (.bl (decide (j<i))) H:=propext ⟨fun⟨_,_,e,e',q⟩=>by cases e;cases e';exact q,fun q=>⟨_,_,rfl,rfl,q⟩⟩
theorem v3':cd' K .GtE (.int i) (.int j) H Q=Q (.bl (decide (j<=i))) H:=propext ⟨fun⟨_,_,e,e',q⟩=>by cases e;cases e';exact q,fun q=>⟨_,_,rfl,rfl,q⟩⟩
theorem v4':cd' K .Eq (.int i) (.int j) H Q=Q (.bl (decide (i=j))) H:=by
 have e:decide (V.int i=V.int j)=decide (i=j):=by simp
 exact propext ⟨fun q=>e ▸ q.2,fun q=>⟨rfl,e.symm ▸ q⟩⟩
theorem r5':cd' K .Eq (.str x) (.str y) H Q=Q (.bl (decide (x=y))) H:=by
 have e:decide (V.str x=V.str y)=decide (x=y):=by simp
 exact propext ⟨fun q=>e ▸ q.2,fun q=>⟨rfl,e.symm ▸ q⟩⟩
theorem m9' {a:Addr}:ln' K (.ref a) (.int i) H Q=(h4' K (.ref a) (.int i) H Q\/iz' K (.ref a) (.int i) H Q):=rfl
noncomputable def na' (C:Rc) (r:Css) (D:Ends):Ends:={ D with nx:=tSs C r D }
theorem nb':tSs C .nil D σ H=D.nx σ H:=rfl
theorem jR' {s:Cs} {r:Css}:tSs C (.cons s r) D σ H=tS C s (na' C r D) σ H:=rfl
theorem nc' {r:Css}:(na' C r D).nx σ H=tSs C r D σ H:=rfl
theorem nd' {r:Css}:(na' C r D).rt=D.rt:=rfl
theorem ne' {r:Css}:(na' C r D).bk=D.bk:=rfl
theorem nf' {r:Css}:(na' C r D).ct=D.ct:=rfl
theorem r6' {e:Ce}:tS C (.ret e) D σ H=tE C e σ H D.rt:=rfl
noncomputable def r7' (D:Ends) (σ:L2.St):VK:=fun _ H=>D.nx σ H
theorem ng' {e:Ce}:tS C (.expr e) D σ H=tE C e σ H (r7' D σ):=rfl
theorem gz' {v:V}:r7' D σ v H=D.nx σ H:=rfl
noncomputable def v5' (i:Nat) (D:Ends) (σ:L2.St):VK:=fun x H=>D.nx (σ.set i (some x)) H
theorem r8' {i:Nat} {e:Ce}:tS C (.asg (.name i) e) D σ H=tE C e σ H (v5' i D σ):=rfl
theorem jS' {i:Nat} {v:V}:v5' i D σ v H=D.nx (σ.set i (some v)) H:=rfl
noncomputable def r9' (C:Rc) (o i:Ce) (D:Ends) (σ:L2.St):VK:=fun v H=>tE C o σ H fun p H1=>tE C i σ H1 fun k H2=>dw' p k v H2 fun H3=>D.nx σ H3
noncomputable def sa' (C:Rc) (i:Ce) (v:V) (D:Ends) (σ:L2.St):VK:=fun p H1=>tE C i σ H1 fun k H2=>dw' p k v H2 fun H3=>D.nx σ H3
noncomputable def sb' (p v:V) (D:Ends) (σ:L2.St):VK:=fun k H2=>dw' p k v H2 fun H3=>D.nx σ H3
theorem sc' {o i e:Ce}:tS C (.asg (.sub o i) e) D σ H=tE C e σ H (r9' C o i D σ):=rfl
theorem gA' {o i:Ce} {v:V}:r9' C o i D σ v H=tE C o σ H (sa' C i v D σ):=rfl
theorem gB' {i:Ce} {v p:V}:sa' C i v D σ p H=tE C i σ H (sb' p v D σ):=rfl
theorem gC' {v p k:V}:sb' p v D σ k H=dw' p k v H (D.nx σ):=rfl
noncomputable def kIf (C:Rc) (a b:Css) (D:Ends) (σ:L2.St):Bool->Hp->Prop:=fun c H=>if c=true then tSs C a D σ H else tSs C b D σ H
theorem v6' {q:Cq} {a b:Css}:tS C (.ite q a b) D σ H=tQ C q σ H (kIf C a b D σ):=rfl
theorem sd' {a b:Css}:kIf C a b D σ true H=tSs C a D σ H:=rfl
theorem se' {a b:Css}:kIf C a b D σ false H=tSs C b D σ H:=rfl
theorem ds' {p:Prop} [Decidable p] {F:Bool->Hp->Prop} (h1:p->F true H) (h2:¬p->F false H):F (decide p) H:=by
 by_cases h:p
 .rw[decide_eq_true h];exact h1 h
 .rw[decide_eq_false h];exact h2 h
end
section
variable {C:Rc} {σ:L2.St} {H:Hp} {Q:VK} {D:Ends} {Qb:Bool->Hp->Prop} {Qs:List V->Hp->Prop}
noncomputable def kA1 (C:Rc) (σ:L2.St) (r:Ces) (Qs:List V->Hp->Prop):VK:=fun x H=>tA C r σ H fun xs H2=>Qs (x :: xs) H2
noncomputable def kA2 (x:V) (Qs:List V->Hp->Prop):List V->Hp->Prop:=fun xs H=>Qs (x :: xs) H
theorem sf':tA C .nil σ H Qs=Qs [] H:=rfl
theorem nh' {e:Ce} {r:Ces}:tA C (.cons e r) σ H Qs=tE C e σ H (kA1 C σ r Qs):=rfl
theorem ni' {r:Ces} {x:V}:kA1 C σ r Qs x H=tA C r σ H (kA2 x Qs):=rfl
theorem nj' {x:V} {xs:List V}:kA2 x Qs xs H=Qs (x :: xs) H:=rfl
noncomputable def v7' (Q:VK):List V->Hp->Prop:=fun xs H=>xs.length<=sizeLine/\∀p,H p=none->Q (.ref p) (upd H p (.tup xs))
noncomputable def v8' (Q:VK):List V->Hp->Prop:=fun xs H=>xs.length<=sizeLine/\∀p,H p=none->Q (.ref p) (upd H p (.lst xs))
theorem nk' {es:Ces}:tE C (.tup es) σ H Q=tA C es σ H (v7' Q):=rfl
theorem nl' {es:Ces}:tE C (.lst es) σ H Q=tA C es σ H (v8' Q):=rfl
theorem jT' {xs:List V}:v7' Q xs H=(xs.length<=sizeLine/\∀p,H p=none->Q (.ref p) (upd H p (.tup xs))):=rfl
theorem jU' {xs:List V}:v8' Q xs H=(xs.length<=sizeLine/\∀p,H p=none->Q (.ref p) (upd H p (.lst xs))):=rfl
noncomputable def pd' (o:Option Sp) (E:XK) (Q:VK):List V->Hp->Prop:=fun vs H=>match o with
 |some sp=>sp (vs++[]) H Q E
 |none=>False
theorem pe' {f:Str} {es:Ces} {sp:Sp} (h:C.fs f=some sp):tE C (.call f es) σ H Q=tA C es σ H (pd' (some sp) (C.xk σ) Q):=by
 show(match C.fs f with|some sp=>kQ' sp [] (C.xk σ) (tA C es) σ H Q|none=>False)=_
 rw[h]
 rfl
theorem gD' {sp:Sp} {E:XK} {vs:List V}:pd' (some sp) E Q vs H=sp vs H Q E:=by
 show sp (vs++[]) H Q E=_
 rw[List.append_nil]
noncomputable def v9' (C:Rc) (f:Bf) (Q:VK):List V->Hp->Prop:=fun vs H=>cF' C.K f vs H Q
theorem sg' {f:Bf} {es:Ces}:tE C (.blt f es) σ H Q=tA C es σ H (v9' C f Q):=rfl
theorem jV' {f:Bf} {vs:List V}:v9' C f Q vs H=cF' C.K f vs H Q:=rfl
noncomputable def sh' (C:Rc) (σ:L2.St) (m:Mf) (es:Ces) (Q:VK):VK:=fun x H=>tyV C.K (e5' m) x H/\tA C es σ H fun xs H2=>lm' C.K m x xs H2 Q
noncomputable def si' (C:Rc) (m:Mf) (x:V) (Q:VK):List V->Hp->Prop:=fun xs H=>lm' C.K m x xs H Q
theorem nm' {m:Mf} {o:Ce} {es:Ces}:tE C (.met m o es) σ H Q=tE C o σ H (sh' C σ m es Q):=rfl
theorem gE' {m:Mf} {es:Ces} {x:V}:sh' C σ m es Q x H=(tyV C.K (e5' m) x H/\tA C es σ H (si' C m x Q)):=rfl
theorem gF' {m:Mf} {x:V} {xs:List V}:si' C m x Q xs H=lm' C.K m x xs H Q:=rfl
noncomputable def vf' (C:Rc) (σ:L2.St) (a b:Ce) (Q:VK):Bool->Hp->Prop:=fun c H=>if c=true then tE C a σ H Q else tE C b σ H Q
theorem nn' {q:Cq} {a b:Ce}:tE C (.ife q a b) σ H Q=tQ C q σ H (vf' C σ a b Q):=rfl
theorem no' {a b:Ce}:vf' C σ a b Q true H=tE C a σ H Q:=rfl
theorem np' {a b:Ce}:vf' C σ a b Q false H=tE C b σ H Q:=rfl
noncomputable def vg' (Q:VK):VK:=fun x H=>∃c,x=.bl c/\Q (.bl (!c)) H
theorem nq' {a:Ce}:tE C (.not a) σ H Q=tE C a σ H (vg' Q):=rfl
noncomputable def vh' (C:Rc) (σ:L2.St) (b:Ce) (Q:VK):VK:=fun x H=>∃c,x=.bl c/\if c=true then tE C b σ H Q else Q (.bl false) H
noncomputable def wM' (C:Rc) (σ:L2.St) (b:Ce) (Q:VK):VK:=fun x H=>∃c,x=.bl c/\if c=true then Q (.bl true) H else tE C b σ H Q
theorem nr' {a b:Ce}:tE C (.and a b) σ H Q=tE C a σ H (vh' C σ b Q):=rfl
theorem sj' {a b:Ce}:tE C (.or a b) σ H Q=tE C a σ H (wM' C σ b Q):=rfl
noncomputable def wa' (C:Rc) (Qb:Bool->Hp->Prop):VK:=fun x H=>∃k,qw' C.K x H k/\Qb k H
theorem ns' {e:Ce}:tQ C (.val e) σ H Qb=tE C e σ H (wa' C Qb):=rfl
theorem jW' {b:Bool}:wa' C Qb (.bl b) H=Qb b H:=propext ⟨fun⟨u,e,q⟩=>by
  have e:u=b:=e
  subst e
  exact q,fun q=>⟨b,rfl,q⟩⟩
noncomputable def sk' (C:Rc) (σ:L2.St) (lo hi:Co) (Q:VK):VK:=fun x H=>tO C lo σ H fun l H2=>tO C hi σ H2 fun u H3=>rSl C.K x l u H3 Q
noncomputable def sm' (C:Rc) (σ:L2.St) (hi:Co) (x:V) (Q:VK):Option Int->Hp->Prop:=fun l H=>tO C hi σ H fun u H3=>rSl C.K x l u H3 Q
noncomputable def sn' (C:Rc) (x:V) (l:Option Int) (Q:VK):Option Int->Hp->Prop:=fun u H=>rSl C.K x l u H Q
theorem nt' {a:Ce} {lo hi:Co}:tE C (.cut a lo hi) σ H Q=tE C a σ H (sk' C σ lo hi Q):=rfl
theorem gG' {lo hi:Co} {x:V}:sk' C σ lo hi Q x H=tO C lo σ H (sm' C σ hi x Q):=rfl
theorem gH' {hi:Co} {x:V} {l:Option Int}:sm' C σ hi x Q l H=tO C hi σ H (sn' C x l Q):=rfl
theorem gI' {x:V} {l u:Option Int}:sn' C x l Q u H=rSl C.K x l u H Q:=rfl
variable {Qo:Option Int->Hp->Prop}
noncomputable def so' (Qo:Option Int->Hp->Prop):VK:=fun x H=>∃i,x=.int i/\Qo (some i) H
theorem nu':tO C .none σ H Qo=Qo none H:=rfl
theorem nv' {e:Ce}:tO C (.some e) σ H Qo=tE C e σ H (so' Qo):=rfl
theorem ff' {i:Int}:so' Qo (.int i) H=Qo (some i) H:=propext ⟨fun⟨u,e,q⟩=>by cases e;exact q,fun q=>⟨i,rfl,q⟩⟩
theorem nw' {K:W.Frag} {a:Addr} {l u:Option Int}:rSl K (.ref a) l u H Q=(tH' K (.ref a) l u H Q\/tG' K (.ref a) l u H Q\/tN' K (.ref a) l u H Q):=rfl
noncomputable def wb' (i:Nat) (sub:Bool) (x:V) (D:Ends) (σ:L2.St):VK:=fun y H=>∃a b,x=.int a/\y=.int b/\D.nx (σ.set i (some (.int (if sub then a-b else a+b)))) H
theorem vi' {i:Nat} {sub:Bool} {e:Ce} {a:Int} (h:σ[i]?=some (some (.int a))):tS C (.aug i sub e) D σ H=tE C e σ H (wb' i sub (.int a) D σ):=by
 show(∃x,σ[i]?=some (some x)/\tE C e σ H fun y H1=>(ipI fun i j=>if sub then i-j else i+j) x y H1 fun z H2=>D.nx (σ.set i (some z)) H2)=_
 rw[h]
 exact propext ⟨fun⟨x,e,q⟩=>by cases e;exact q,fun q=>⟨_,rfl,q⟩⟩
theorem gJ' {i:Nat} {sub:Bool} {a b:Int}:wb' i sub (.int a) D σ (.int b) H=D.nx (σ.set i (some (.int (if sub then a-b else a+b)))) H:=propext ⟨fun⟨_,_,e,e',q⟩=>by cases e;cases e';exact q,fun q=>⟨_,_,rfl,rfl,q⟩⟩
noncomputable def pf' (C:Rc) (σ:L2.St) (i j:Nat) (b:Ce) (D:Ends):VK:=fun v H=>tE C b σ H fun w H1=>D.nx ((σ.set i (some v)).set j (some w)) H1
noncomputable def sq' (σ:L2.St) (i j:Nat) (v:V) (D:Ends):VK:=fun w H=>D.nx ((σ.set i (some v)).set j (some w)) H
theorem gK' {i j:Nat} {b:Ce} {v:V}:pf' C σ i j b D v H=tE C b σ H (sq' σ i j v D):=rfl
theorem gL' {i j:Nat} {v w:V}:sq' σ i j v D w H=D.nx ((σ.set i (some v)).set j (some w)) H:=rfl
end
noncomputable def cb (b:Bool):Nat:=if b then 49 else 48
noncomputable def tx (l:List Bool):Str:=⟨(l.map cb).toArray⟩
theorem sr' {a b:Bool} (h:cb a=cb b):a=b:=by cases a<;>cases b<;>first|rfl|cases h
theorem ss' {a b:List Bool} (h:tx a=tx b):a=b:=by
 have h1:(a.map cb).toArray=(b.map cb).toArray:=congrArg Str.cps h
 have h2:a.map cb=b.map cb:=by simpa using h1
 exact List.map_inj_right (f:=cb) (fun x y=>sr') |>.mp h2
theorem jX' {a:List Bool}:(tx a).length=a.length:=by show(a.map cb).toArray.size=_;simp
theorem su' {a:List Bool}:(tx a).cps.toList=a.map cb:=rfl
theorem nx' {a b:List Bool}:tx a++tx b=tx (a++b):=by
 show(⟨(a.map cb).toArray++(b.map cb).toArray⟩:Str)=⟨((a++b).map cb).toArray⟩
 simp
theorem sv':(PySem.Str.ofString "01")=tx [false,true]:=by decide +kernel
theorem ny':(PySem.Str.ofString "")=tx []:=by decide +kernel
theorem sw' {α:Type} {xs:List α} {i:Int} (h0:0<=i) (h1:i<xs.length):∃v,xs[i.toNat]?=some v/\atI xs i=some v:=by
 obtain⟨j,rfl⟩:=Int.eq_ofNat_of_zero_le h0
 have hk:j<xs.length:=by omega
 exact⟨xs[j],by simp,fu' (by rw[List.getElem?_eq_getElem hk])⟩
theorem aA' {N:List Str} {vs:List V} {n:Nat} (h:N.length=n):L2.aU' N vs=vs.map some++List.replicate (n-vs.length) none:=by subst h;rfl
section
variable {C:Rc} {σ:L2.St} {H:Hp} {Q:VK} {D:Ends} {Qb:Bool->Hp->Prop}
theorem nz' {i:Nat} {v:V} {R:L2.St->Hp->Prop}:tG C (.name i) v σ H R=R (σ.set i (some v)) H:=rfl
theorem nA' {i j:Nat} {a:Addr} {x y:V} {R:L2.St->Hp->Prop} (h:SqT C.K H a [x,y]) (q:R ((σ.set i (some x)).set j (some y)) H):tG C (.tup (.cons (.name i) (.cons (.name j) .nil))) (.ref a) σ H R:=
 ⟨a,[x,y],rfl,.inl h,rfl,_,_,rfl,_,_,rfl,rfl,q⟩
theorem sx' {i j k:Nat} {a:Addr} {x y z:V} {R:L2.St->Hp->Prop} (h:SqT C.K H a [x,y,z]) (q:R (((σ.set i (some x)).set j (some y)).set k (some z)) H):tG C (.tup (.cons (.name i) (.cons (.name j) (.cons (.name k) .nil)))) (.ref a) σ H R:=
 ⟨a,[x,y,z],rfl,.inl h,rfl,_,_,rfl,_,_,rfl,_,_,rfl,rfl,q⟩
def sy' (C:Rc) (t:Ct) (b:Css) (D:Ends) (σ:L2.St) (J:It) (H1:Hp):Prop:=∃W:Nat->Nat->L2.St->Hp->Prop,(∃m,W 0 m σ H1)/\∀i m σ H,W i m σ H->
 (J.stop i H/\D.nx σ H)\/(J.go i H/\∃N:L2.St->Hp->Prop,(∀σ' H',N σ' H'->∃m',m'<m/\W (i+1) m' σ' H')/\∀x H',J.yld i H x H'->tG C t x σ H' fun σ2 H2=>tSs C b { D with nx:=N,ct:=N,bk:=D.nx } σ2 H2)
theorem sz' {t:Ct} {it:Ci} {b:Css}:tS C (.for_ t it b) D σ H=tI C it σ H (sy' C t b D σ):=rfl
noncomputable def kIv (C:Rc) (R:It->Hp->Prop):VK:=fun x H1=>
 (∃a,x=.ref a/\(∃xs,SqL C.K H1 a xs)/\R (Itl C.K a) H1)\/(∃a,x=.ref a/\(∃xs,SqT C.K H1 a xs)/\R (Itt C.K a) H1)\/∃z,x=.str z/\R (Its z) H1
theorem sA' {e:Ce} {R:It->Hp->Prop}:tI C (.val e) σ H R=tE C e σ H (kIv C R):=rfl
noncomputable def kR1 (R:It->Hp->Prop):VK:=fun x H1=>∃j:Int,x=.int j/\-(2 ^ 62)<=j/\j<2 ^ 62/\R (Itr 0 j.toNat) H1
theorem lz' {e:Ce} {R:It->Hp->Prop}:tI C (.range1 e) σ H R=tE C e σ H fun x H1=>∃j:Int,[x]=[.int j]/\-(2 ^ 62)<=j/\j<2 ^ 62/\R (Itr 0 j.toNat) H1:=rfl
theorem fg' {e:Ce} {R:It->Hp->Prop}:tI C (.range1 e) σ H R=tE C e σ H (kR1 R):=by
 rw[lz']
 congr 1
 funext x H1
 unfold kR1
 simp only[List.cons.injEq,and_true]
noncomputable def wc' (R:It->Hp->Prop) (x:V):VK:=fun y H1=>∃i j:Int,x=.int i/\y=.int j/\(-(2 ^ 62)<=i/\i<2 ^ 62/\-(2 ^ 62)<=j/\j<2 ^ 62)/\R (Itr i (j-i).toNat) H1
noncomputable def wN' (C:Rc) (σ:L2.St) (e:Ce) (R:It->Hp->Prop):VK:=fun x H1=>tE C e σ H1 (wc' R x)
theorem jY' {e:Ce} {R:It->Hp->Prop} {x:V}:wN' C σ e R x H=tE C e σ H (wc' R x):=rfl
noncomputable def kZ2 (C:Rc) (R:It->Hp->Prop) (x:V):VK:=fun y H1=>∃(k j:Bool) (a b:Addr),x=.ref a/\y=.ref b/\(∃xs,Sq k C.K H1 a xs)/\(∃ys,Sq j C.K H1 b ys)/\R (wz' k j C.K a b) H1
noncomputable def kZ1 (C:Rc) (σ:L2.St) (e:Ce) (R:It->Hp->Prop):VK:=fun x H1=>tE C e σ H1 (kZ2 C R x)
theorem nB' {e:Ce} {R:It->Hp->Prop} {x:V}:kZ1 C σ e R x H=tE C e σ H (kZ2 C R x):=rfl
noncomputable def kEn (C:Rc) (R:It->Hp->Prop):VK:=fun x H1=>(∃a,x=.ref a/\(∃xs,SqL C.K H1 a xs)/\R (Ite C.K a) H1)\/(∃z,x=.str z/\R (tI' z) H1)\/∃a,x=.ref a/\(∃xs,SqT C.K H1 a xs)/\R (ox' C.K a) H1
theorem nC' {a:Ce} {R:It->Hp->Prop}:tI C (.enum a) σ H R=tE C a σ H (kEn C R):=by
 show(tE C a σ H fun x H1=>∃y,[x]=[y]/\((∃a,y=.ref a/\(∃xs,SqL C.K H1 a xs)/\R (Ite C.K a) H1)\/(∃z,y=.str z/\R (tI' z) H1)\/∃a,y=.ref a/\(∃xs,SqT C.K H1 a xs)/\R (ox' C.K a) H1))=_
 congr 1
 funext x H1
 unfold kEn
 exact propext ⟨fun⟨y,e,q⟩=>by cases e;exact q,fun q=>⟨x,rfl,q⟩⟩
theorem jZ' {R:It->Hp->Prop} {a:Addr} {xs:List V} (h:SqT C.K H a xs) (q:R (ox' C.K a) H):kEn C R (.ref a) H:=.inr (.inr ⟨a,rfl,⟨xs,h⟩,q⟩)
theorem cn' {R:It->Hp->Prop} {a:Addr} {xs:List V} (h:SqL C.K H a xs) (q:R (Itl C.K a) H):kIv C R (.ref a) H:=.inl ⟨a,rfl,⟨xs,h⟩,q⟩
theorem co' {R:It->Hp->Prop} {a:Addr} {xs:List V} (h:SqT C.K H a xs) (q:R (Itt C.K a) H):kIv C R (.ref a) H:=.inr (.inl ⟨a,rfl,⟨xs,h⟩,q⟩)
theorem dC' {R:It->Hp->Prop} {j:Int} (h0:-(2 ^ 62)<=j) (h1:j<2 ^ 62) (q:R (Itr 0 j.toNat) H):kR1 R (.int j) H:=⟨j,rfl,h0,h1,q⟩
theorem sB' {a:Addr} {xs:List V} {t:Ct} {b:Css} (Pv:Nat->L2.St->Hp->Prop) (h0:Pv 0 σ H) (hl:∀i σ H,i<=xs.length->Pv i σ H->SqL C.K H a xs)
  (hs:∀i x σ H,xs[i]?=some x->Pv i σ H->tG C t x σ H (tSs C b { D with nx:=Pv (i+1),ct:=Pv (i+1),bk:=D.nx })) (hd:∀σ H,Pv xs.length σ H->D.nx σ H):sy' C t b D σ (Itl C.K a) H:=kM' Pv h0 hl hs hd
theorem lA' {a:Addr} {xs:List V} {t:Ct} {b:Css} (Pv:Nat->L2.St->Hp->Prop) (h0:Pv 0 σ H) (hl:∀i σ H,i<=xs.length->Pv i σ H->SqT C.K H a xs)
  (hs:∀i x σ H,xs[i]?=some x->Pv i σ H->tG C t x σ H (tSs C b { D with nx:=Pv (i+1),ct:=Pv (i+1),bk:=D.nx })) (hd:∀σ H,Pv xs.length σ H->D.nx σ H):sy' C t b D σ (Itt C.K a) H:=ob' Pv h0 hl hs hd
theorem lB' {lo:Int} {n:Nat} {t:Ct} {b:Css} (Pv:Nat->L2.St->Hp->Prop) (h0:Pv 0 σ H)
  (hs:∀i σ H,i<n->Pv i σ H->tG C t (.int (lo+i)) σ H (tSs C b { D with nx:=Pv (i+1),ct:=Pv (i+1),bk:=D.nx })) (hd:∀σ H,Pv n σ H->D.nx σ H):sy' C t b D σ (Itr lo n) H:=ig' Pv h0 hs hd
theorem sC' {a:Addr} {xs:List V} {t:Ct} {b:Css} (Pv:Nat->L2.St->Hp->Prop) (h0:Pv 0 σ H) (hl:∀i σ H,i<=xs.length->Pv i σ H->SqT C.K H a xs)
  (hs:∀i x σ H p,xs[i]?=some x->H p=none->Pv i σ H->tG C t (.ref p) σ (upd H p (.tup [.int i,x])) (tSs C b { D with nx:=Pv (i+1),ct:=Pv (i+1),bk:=D.nx })) (hd:∀σ H,Pv xs.length σ H->D.nx σ H):sy' C t b D σ (ox' C.K a) H:=by
 refine⟨fun i m σ H=>m=xs.length-i/\i<=xs.length/\Pv i σ H,⟨xs.length,by simp,Nat.zero_le _,h0⟩,?_⟩
 rintro i m σ H ⟨rfl,hi,p⟩
 have q:=hl i σ H hi p
 by_cases hlt:i<xs.length
 .refine .inr ⟨⟨xs,xs[i],q,by simp[hlt]⟩,Pv (i+1),fun σ' H' p'=>⟨xs.length-(i+1),by omega,rfl,hlt,p'⟩,fun x H' y=>?_⟩
  obtain⟨ad,v,rfl,hn,y,rfl⟩:=y
  exact hs i v σ _ ad (y xs q) hn p
 .have e:i=xs.length:=by omega
  subst e
  exact .inl ⟨⟨xs,q,rfl⟩,hd σ H p⟩
noncomputable def tS' (C:Rc) (b:Css) (D:Ends) (N:L2.St->Hp->Prop) (σ:L2.St):Bool->Hp->Prop:=fun c H1=>if c=true then ∃N':L2.St->Hp->Prop,(∀σ' H',N' σ' H'->N σ' H')/\tSs C b { D with nx:=N',ct:=N',bk:=D.nx } σ H1 else D.nx σ H1
theorem nD' {q:Cq} {b:Css} (Pv:Nat->L2.St->Hp->Prop) (m:Nat) (h0:Pv m σ H) (hs:∀m σ H,Pv m σ H->tQ C q σ H (tS' C b D (fun σ' H'=>∃m',m'<m/\Pv m' σ' H') σ)):tS C (.whl q b) D σ H:=⟨Pv,⟨m,h0⟩,hs⟩
theorem nE' {b:Css} {N:L2.St->Hp->Prop} (h:tSs C b { D with nx:=N,ct:=N,bk:=D.nx } σ H):tS' C b D N σ true H:=⟨N,fun _ _ q=>q,h⟩
theorem j0' {b:Css} {N:L2.St->Hp->Prop} (h:D.nx σ H):tS' C b D N σ false H:=by unfold tS';rw[if_neg (by decide)];exact h
noncomputable def j1' (xs:List V) (P:List V->Hp->Prop):VK:=fun v H=>xs.length<sizeLine/\P (xs++[v]) H
noncomputable def kCT (C:Rc) (elt:Ce) (xs:List V) (P:List V->Hp->Prop) (σ:L2.St):Bool->Hp->Prop:=fun ok H=>if ok=true then tE C elt σ H (j1' xs P)else P xs H
noncomputable def kCG (C:Rc) (elt:Ce) (q:Cqo) (xs:List V) (P:List V->Hp->Prop):L2.St->Hp->Prop:=fun σ H=>tQo C q σ H (kCT C elt xs P σ)
theorem sD' {elt:Ce} {xs:List V} {P:List V->Hp->Prop}:kCG C elt .none xs P σ H=tE C elt σ H (j1' xs P):=rfl
theorem sE' {elt:Ce} {q:Cq} {xs:List V} {P:List V->Hp->Prop}:kCG C elt (.some q) xs P σ H=tQ C q σ H (kCT C elt xs P σ):=rfl
theorem sF' {elt:Ce} {xs:List V} {P:List V->Hp->Prop}:kCT C elt xs P σ true H=tE C elt σ H (j1' xs P):=rfl
theorem sG' {elt:Ce} {xs:List V} {P:List V->Hp->Prop}:kCT C elt xs P σ false H=P xs H:=rfl
theorem gM' {xs:List V} {P:List V->Hp->Prop} {v:V}:j1' xs P v H=(xs.length<sizeLine/\P (xs++[v]) H):=rfl
def p3' (Q:VK) (xs:List V) (H2:Hp):Prop:=∀p,H2 p=none->Q (.ref p) (upd H2 p (.lst xs))
def lC' (C:Rc) (elt:Ce) (own:List Nat) (t:Ct) (q:Cqo) (σ:L2.St) (Q:VK) (J:It) (H1:Hp):Prop:=aE' own (tG C t) (tQo C q) (dx' (tE C elt)) J σ [] H1 (p3' Q)
theorem j2' {elt:Ce} {own:List Nat} {t:Ct} {it:Ci} {q:Cqo}:tE C (.comp elt own t it q .nil) σ H Q=tI C it σ H (lC' C elt own t q σ Q):=rfl
theorem j3' {elt:Ce} {own:List Nat} {t:Ct} {q:Cqo} {J:It} {n:Nat} (Pv:Nat->List V->Hp->Prop) (h0:Pv 0 [] H) (hgo:∀i xs H,i<n->Pv i xs H->J.go i H) (hstop:∀xs H,Pv n xs H->J.stop n H)
  (hs:∀i xs H x H' (R:List V->Hp->Prop),i<n->Pv i xs H->J.yld i H x H'->(∀ys H2,Pv (i+1) ys H2->R ys H2)->tG C t x (clr own σ) H' (kCG C elt q xs R)) (hd:∀xs H,Pv n xs H->p3' Q xs H):lC' C elt own t q σ Q J H:=by
 refine⟨fun i m xs H=>m=n-i/\i<=n/\Pv i xs H,⟨n,by simp,Nat.zero_le _,h0⟩,?_⟩
 rintro i m xs H ⟨rfl,hi,p⟩
 by_cases hlt:i<n
 .refine .inr ⟨hgo i xs H hlt p,fun x H' y=>?_⟩
  exact hs i xs H x H' (fun c H4=>∃m',m'<n-i/\(m'=n-(i+1)/\i+1<=n/\Pv (i+1) c H4)) hlt p y fun ys H2 p2=>⟨n-(i+1),by omega,rfl,hlt,p2⟩
 .have e:i=n:=by omega
  subst e
  exact .inl ⟨hstop xs H p,hd xs H p⟩
theorem sH' {elt:Ce} {own:List Nat} {t:Ct} {q:Cqo} {a:Addr} {vs:List V} (Pv:Nat->List V->Hp->Prop) (h0:Pv 0 [] H) (hl:∀i xs H,Pv i xs H->SqL C.K H a vs)
  (hs:∀i xs H x (R:List V->Hp->Prop),vs[i]?=some x->Pv i xs H->(∀ys H2,Pv (i+1) ys H2->R ys H2)->tG C t x (clr own σ) H (kCG C elt q xs R)) (hd:∀xs H,Pv vs.length xs H->p3' Q xs H):lC' C elt own t q σ Q (Itl C.K a) H:=
 j3' (n:=vs.length) Pv h0 (fun i xs H hi p=>⟨vs,vs[i],hl i xs H p,by simp[hi]⟩) (fun xs H p=>⟨vs,hl _ xs H p,Nat.le_refl _⟩) (fun i xs H x H' R hi p y k=>by
  obtain⟨e,y⟩:=y
  subst e
  exact hs i xs H' x R (y vs (hl i xs H' p)) p k) hd
theorem j4' {elt:Ce} {own:List Nat} {t:Ct} {q:Cqo} {lo:Int} {n:Nat} (Pv:Nat->List V->Hp->Prop) (h0:Pv 0 [] H)
  (hs:∀i xs H (R:List V->Hp->Prop),i<n->Pv i xs H->(∀ys H2,Pv (i+1) ys H2->R ys H2)->tG C t (.int (lo+i)) (clr own σ) H (kCG C elt q xs R)) (hd:∀xs H,Pv n xs H->p3' Q xs H):lC' C elt own t q σ Q (Itr lo n) H:=
 j3' (n:=n) Pv h0 (fun i xs H hi p=>hi) (fun xs H p=>Nat.le_refl _) (fun i xs H x H' R hi p y k=>by
  obtain⟨e,rfl⟩:=y
  subst e
  exact hs i xs H' R hi p k) hd
end
section
variable {C:Rc} {K:W.Frag} {σ:L2.St} {H:Hp} {Q:VK} {D:Ends} {Qb:Bool->Hp->Prop}
theorem an' {f:Str} {es:Ces} {sp:Sp} (h:C.fs f=some sp) (q:tA C es σ H (pd' (some sp) (C.xk σ) Q)):tE C (.call f es) σ H Q:=by
 rw[pe' h]
 exact q
theorem fV' {a:Addr} {xs:List V} (h:SqL K H a xs) (q:Q (.int xs.length) H):cF' K .len [.ref a] H Q:=⟨_,_,rfl,.inl ⟨xs,h,rfl⟩,q⟩
theorem j5' {a:Addr} {xs:List V} (h:SqT K H a xs) (q:Q (.int xs.length) H):cF' K .len [.ref a] H Q:=⟨_,_,rfl,.inr ⟨xs,h,rfl⟩,q⟩
theorem nF' {i:Int}:cF' K .abs [.int i] H Q=Q (.int (if i<0 then -i else i)) H:=propext ⟨fun⟨u,e,q⟩=>by cases e;exact q,fun q=>⟨_,rfl,q⟩⟩
theorem dU' {i:Int}:cF' K .int [.int i] H Q=Q (.int i) H:=rfl
theorem fh' {k:Bool}:cF' K .int [.bl k] H Q=Q (.int (if k then 1 else 0)) H:=rfl
theorem j6' {i j:Int}:cF' K .max [.int i,.int j] H Q=Q (.int (if j > i then j else i)) H:=rfl
theorem j7' {i j:Int}:cF' K .min [.int i,.int j] H Q=Q (.int (if j<i then j else i)) H:=rfl
theorem sI' {a:Addr} {bs:List Bool} (h:SqL K H a (bs.map V.bl)) (q:Q (.bl (bs.any id)) H):cF' K .any [.ref a] H Q:=⟨a,bs,rfl,h,q⟩
theorem sJ' {x:V} {T c:String} (h:dL' H x=some T) (hT:T∈b3') (hc:c∈["bool","int","str","list","tuple","dict"]) (q:Q (.bl (isT T c)) H):cF' K .isinstance [x,.ty c] H Q:=.inl (.inl ⟨x,T,c,rfl,h,hT,hc,q⟩)
theorem gN' {a:Addr} {xs:List V} {i:Int} {v:V} (h:SqL K H a xs) (e:atI xs i=some v) (q:Q v H):h4' K (.ref a) (.int i) H Q\/iz' K (.ref a) (.int i) H Q:=.inl ⟨a,xs,i,v,rfl,rfl,h,e,q⟩
theorem aT' {a:Addr} {xs:List V} {i:Int} {v:V} (h:SqT K H a xs) (e:atI xs i=some v) (q:Q v H):h4' K (.ref a) (.int i) H Q\/iz' K (.ref a) (.int i) H Q:=.inr ⟨a,xs,i,v,rfl,rfl,h,e,q⟩
theorem pg' {α β:Type} {f:α->β} {xs:List α} {i:Int}:atI (xs.map f) i=(atI xs i).map f:=by
 unfold atI
 rw[List.length_map]
 cases ixN xs.length i with
 |none=>rfl
 |some j=>simp
theorem ph' {l:List Bool} {i:Int} {c:Bool} (hl:l.length<=sizeLine) (e:atI l i=some c) (q:Q (.str (tx [c])) H):ln' K (.str (tx l)) (.int i) H Q:=by
 refine⟨by rw[jX'];exact hl,cb c,?_,q⟩
 rw[su',pg',e]
 rfl
theorem sK' {a:Addr} {u v:V} {k:Bool} (h:SqL K H a [u,v]) (q:Q (if k then v else u) H):h4' K (.ref a) (.int (if k then 1 else 0)) H Q\/iz' K (.ref a) (.int (if k then 1 else 0)) H Q:=by
 refine gN' h ?_ q
 cases k<;>rfl
theorem vj' {x y:V} (h:qu' x y=true):cd' K .NotEq x y H Q=Q (.bl (!decide (x=y))) H:=by
 have e:cd' K .NotEq x y H Q=rNe x y H Q:=by
  unfold cd'
  dsimp only
  split
  .cases h
  .rfl
 rw[e]
 exact propext ⟨fun⟨_,q⟩=>q,fun q=>⟨h,q⟩⟩
theorem sL' {a b:Addr} {xs ys:List V} (h:SqL K H a xs) (h2:SqL K H b ys) (he:xs.length=ys.length->LEq xs ys) (q:Q (.bl (!decide (xs=ys))) H):cd' K .NotEq (.ref a) (.ref b) H Q:=.inl ⟨a,b,xs,ys,rfl,rfl,h,h2,he,q⟩
theorem j8' {a:Addr} {xs:List V} (h:SqL K H a xs) (q:∀p,H p=none->Q (.ref p) (upd H p (.tup xs))):cF' K .tuple [.ref a] H Q:=⟨a,xs,rfl,.inl ⟨h,q⟩⟩
theorem sM' {x y:Bool}:cd' K .NotEq (.bl x) (.bl y) H Q=Q (.bl (x != y)) H:=by
 have e:cd' K .NotEq (.bl x) (.bl y) H Q=Q (.bl (!decide (V.bl x=V.bl y))) H:=propext ⟨fun⟨_,q⟩=>q,fun q=>⟨rfl,q⟩⟩
 rw[e]
 cases x<;>cases y<;>rfl
theorem sN' {x y:Int}:cd' K .NotEq (.int x) (.int y) H Q=Q (.bl (!decide (x=y))) H:=by
 have e:cd' K .NotEq (.int x) (.int y) H Q=Q (.bl (!decide (V.int x=V.int y))) H:=propext ⟨fun⟨_,q⟩=>q,fun q=>⟨rfl,q⟩⟩
 rw[e]
 congr 3
 simp only[V.int.injEq]
theorem wd' {x:V}:cd' K .Is x .non H Q=Q (.bl (decide (x=.non))) H:=propext ⟨fun⟨_,q⟩=>q,fun q=>⟨rfl,q⟩⟩
theorem j9' {x:V}:cd' K .IsNot x .non H Q=Q (.bl (!decide (x=.non))) H:=propext ⟨fun⟨_,q⟩=>q,fun q=>⟨rfl,q⟩⟩
noncomputable def kG (C:Rc) (t:Ct) (D:Ends) (σ:L2.St):VK:=fun v H=>tG C t v σ H D.nx
theorem vk' {t:Ct} {e:Ce}:tS C (.asg t e) D σ H=tE C e σ H (kG C t D σ):=rfl
theorem sO' {i j:Nat} {a b:Ce}:tS C (.par i j a b) D σ H=tE C a σ H (pf' C σ i j b D):=by
 show(tE C a σ H fun x H1=>tE C b σ H1 fun y H2=>∃v w,[x,y]=[v,w]/\D.nx ((σ.set i (some v)).set j (some w)) H2)=_
 congr 1
 funext x H1
 unfold pf'
 congr 1
 funext y H2
 exact propext ⟨fun⟨v,w,e,q⟩=>by cases e;exact q,fun q=>⟨x,y,rfl,q⟩⟩
theorem lD' {xs:List V} {n:Nat}:kV' xs (some (n:Int)) none=xs.drop n:=by
 unfold kV'
 rw[HT.oh',HT.kS']
 rcases Nat.le_total n xs.length with h|h
 .rw[Nat.min_eq_left h,List.take_of_length_le (by simp)]
 .rw[Nat.min_eq_right h,List.drop_of_length_le h];simp
theorem pi' {a:Addr} {xs:List V} {lo hi:Option Int} (h:SqT K H a xs) (hn:¬(HT.sIx xs.length 0 lo=0/\HT.sIx xs.length xs.length hi=xs.length)) (q:∀p,H p=none->Q (.ref p) (upd H p (.tup (kV' xs lo hi)))):tH' K (.ref a) lo hi H Q\/tG' K (.ref a) lo hi H Q\/tN' K (.ref a) lo hi H Q:=.inr (.inl ⟨a,xs,rfl,h,hn,q⟩)
theorem ka' {a:Addr} {xs:List V} {y:V} (h:H a=some (.lst xs)) (hz:xs.length<sizeLine) (q:Q .non (upd H a (.lst (xs++[y])))):lm' K .append (.ref a) [y] H Q:=⟨a,xs,y,rfl,rfl,h,hz,q⟩
theorem tyL {a:Addr} {xs:List V} {m:Mf} (h:H a=some (.lst xs)) (hm:e5' m="list"):tyV K (e5' m) (.ref a) H:=.inl ⟨hm,xs,SqL.of h⟩
theorem ad' {H:Hp} {p:Addr} (h:H p=none) (o:HO):a1' H (upd H p o):=fun b u q=>by rw[ab' (ag' q h)];exact q
theorem at' {α:Type} {l:List α} {i:Nat} {c:α} (hc:l[i]?=some c):i<l.length:=by
 rcases Nat.lt_or_ge i l.length with h|h
 .exact h
 .rw[List.getElem?_eq_none_iff.mpr h]at hc;cases hc
theorem sP':tE C .dnt σ H Q=(∀p,H p=none->Q (.ref p) (upd H p (.dT []))):=rfl
noncomputable def we' (x:V) (Q:VK):VK:=fun y H=>∃a v,x=.ref a/\kB' H a y (some v)/\Q v H
noncomputable def wf' (C:Rc) (σ:L2.St) (b:Ce) (Q:VK):VK:=fun x H=>tE C b σ H (we' x Q)
theorem nG' {a b:Ce}:tE C (.dix a b) σ H Q=tE C a σ H (wf' C σ b Q):=rfl
theorem kb' {b:Ce} {x:V}:wf' C σ b Q x H=tE C b σ H (we' x Q):=rfl
theorem lE' {b:Bool} (q:Q (.str (tx [b])) H):cF' K .str [.int (if b then 1 else 0)] H Q:=by
 refine⟨_,rfl,by cases b<;>decide,?_⟩
 cases b
 .have e:(Str.ofString (toString (if false=true then(1:Int)else 0)))=tx [false]:=by decide +kernel
  rw[e];exact q
 .have e:(Str.ofString (toString (if true=true then(1:Int)else 0)))=tx [true]:=by decide +kernel
  rw[e];exact q
end
end R3
namespace R3
open PySem PySem.Spec PyProof.Rows L2 PySem.Builtin PySem.Builtin.Str
theorem pj':∀{ls:List (List Bool)},Txt.join (tx []) (ls.map tx)=tx ls.flatten:=by
 intro ls
 unfold Txt.join
 rw[StrLaws.glued_eq_join]
 induction ls with
 |nil=>rfl
 |cons l r ih=>
  cases r with
  |nil=>simp[Str.join]
  |cons y r=>
   rw[List.map_cons,List.map_cons]
   show tx l++tx []++Str.join (tx []) (List.map tx (y :: r))=_
   rw[ih,nx',nx']
   simp
section
variable {K:W.Frag} {H:Hp} {Q:VK}
theorem kc' {a:Addr} {ls:List (List Bool)} (h:SqL K H a (ls.map fun l=>V.str (tx l))) (hz:ls.flatten.length<=16000000) (q:Q (.str (tx ls.flatten)) H):lm' K .join (.str (tx [])) [.ref a] H Q:=by
 refine⟨tx [],a,ls.map tx,rfl,rfl,.inl (by rw[List.map_map];exact h),?_,by rw[pj'];exact q⟩
 have e:((ls.map tx).map (·.length)).sum=ls.flatten.length:=by
  rw[List.map_map,List.length_flatten]
  congr 1
  apply List.map_congr_left
  intro l _
  exact jX'
 rw[e,jX',List.length_nil,Nat.mul_zero]
 omega
end
section
variable {C:Rc} {K:W.Frag} {σ:L2.St} {H:Hp} {Q:VK} {D:Ends} {Qb:Bool->Hp->Prop} {i j:Int}
theorem sQ':ey' K .LShift (.int i) (.int j) H Q=(uL' i j/\Q (.int (i*2 ^ j.toNat)) H):=propext ⟨fun⟨_,_,e,e',c,q⟩=>by cases e;cases e';exact⟨c,q⟩,fun q=>⟨_,_,rfl,rfl,q.1,q.2⟩⟩
theorem sR':ey' K .RShift (.int i) (.int j) H Q=(0<=j/\Q (.int (i / 2 ^ j.toNat)) H):=propext ⟨fun⟨_,_,e,e',c,q⟩=>by cases e;cases e';exact⟨c,q⟩,fun q=>⟨_,_,rfl,rfl,q.1,q.2⟩⟩
theorem nH':ey' K .BitAnd (.int i) (.int j) H Q=((0<=i/\j=1)/\Q (.int (i % 2)) H):=propext ⟨fun⟨_,_,e,e',c,q⟩=>by cases e;cases e';exact⟨c,q⟩,fun q=>⟨_,_,rfl,rfl,q.1,q.2⟩⟩
noncomputable def wg' (R:It->Hp->Prop) (x y:V):VK:=fun z H1=>∃i j c:Int,x=.int i/\y=.int j/\z=.int c/\(-(2 ^ 60)<=i/\i<2 ^ 60/\-(2 ^ 60)<=j/\j<2 ^ 60/\(0<c/\c<2 ^ 29\/c=-1))/\R (Itc i c (uv' i j c)) H1
noncomputable def vl' (C:Rc) (σ:L2.St) (e:Ce) (R:It->Hp->Prop) (x:V):VK:=fun y H1=>tE C e σ H1 (wg' R x y)
noncomputable def wO' (C:Rc) (σ:L2.St) (e e':Ce) (R:It->Hp->Prop):VK:=fun x H1=>tE C e σ H1 (vl' C σ e' R x)
theorem kd' {e e':Ce} {R:It->Hp->Prop} {x:V}:wO' C σ e e' R x H=tE C e σ H (vl' C σ e' R x):=rfl
theorem ke' {e:Ce} {R:It->Hp->Prop} {x y:V}:vl' C σ e R x y H=tE C e σ H (wg' R x y):=rfl
noncomputable def kDk (R:It->Hp->Prop):VK:=fun x H1=>DkV x H1 R\/DtV x H1 R
theorem wP' {e:Ce} {R:It->Hp->Prop}:tI C (.dk e) σ H R=tE C e σ H (kDk R):=rfl
theorem sS' {R:It->Hp->Prop} {d:Addr} {kvs:List (List Key×V)} (h:Rd H d (.dT kvs)) (q:∀o (as:List Addr),as.length=kvs.length->(∀(i:Nat) a kv,as[i]?=some a->kvs[i]?=some kv->H a=some (.tup (kv.1.map L2.kV)))->R (p0' d o (as.map V.ref)) (upd H d (.frz o (.dT kvs)))):kDk R (.ref d) H:=.inr ⟨d,kvs,rfl,h,fun o as h1 h2 _=>q o as h1 h2⟩
def vm' (C:Rc) (elt:Ce) (ws:List Nat) (t2:Ct) (q2:Cqo) (xs:List V) (P:List V->Hp->Prop) (σ:L2.St) (J:It) (H1:Hp):Prop:=aE' ws (tG C t2) (tQo C q2) (dx' (tE C elt)) J σ xs H1 P
noncomputable def tT' (C:Rc) (elt:Ce) (ws:List Nat) (t2:Ct) (it2:Ci) (q2:Cqo) (xs:List V) (P:List V->Hp->Prop) (σ:L2.St):Bool->Hp->Prop:=fun ok H=>if ok=true then tI C it2 σ H (vm' C elt ws t2 q2 xs P σ)else P xs H
noncomputable def wh' (C:Rc) (elt:Ce) (q:Cqo) (ws:List Nat) (t2:Ct) (it2:Ci) (q2:Cqo) (xs:List V) (P:List V->Hp->Prop):L2.St->Hp->Prop:=fun σ H=>tQo C q σ H (tT' C elt ws t2 it2 q2 xs P σ)
theorem nI' {elt:Ce} {ws:List Nat} {t2:Ct} {it2:Ci} {q2:Cqo} {xs:List V} {P:List V->Hp->Prop}:wh' C elt .none ws t2 it2 q2 xs P σ H=tI C it2 σ H (vm' C elt ws t2 q2 xs P σ):=rfl
theorem nJ' {elt:Ce} {q:Cq} {ws:List Nat} {t2:Ct} {it2:Ci} {q2:Cqo} {xs:List V} {P:List V->Hp->Prop}:wh' C elt (.some q) ws t2 it2 q2 xs P σ H=tQ C q σ H (tT' C elt ws t2 it2 q2 xs P σ):=rfl
theorem nK' {elt:Ce} {ws:List Nat} {t2:Ct} {it2:Ci} {q2:Cqo} {xs:List V} {P:List V->Hp->Prop}:tT' C elt ws t2 it2 q2 xs P σ true H=tI C it2 σ H (vm' C elt ws t2 q2 xs P σ):=rfl
theorem nL' {elt:Ce} {ws:List Nat} {t2:Ct} {it2:Ci} {q2:Cqo} {xs:List V} {P:List V->Hp->Prop}:tT' C elt ws t2 it2 q2 xs P σ false H=P xs H:=rfl
def sT' (C:Rc) (elt:Ce) (own:List Nat) (t:Ct) (q:Cqo) (ws:List Nat) (t2:Ct) (it2:Ci) (q2:Cqo) (σ:L2.St) (Q:VK) (J:It) (H1:Hp):Prop:=aE' own (tG C t) (tQo C q) (dy' (tI C it2) (aE' ws (tG C t2) (tQo C q2) (dx' (tE C elt)))) J σ [] H1 (p3' Q)
theorem gO' {elt:Ce} {own:List Nat} {t:Ct} {it:Ci} {q:Cqo} {ws:List Nat} {t2:Ct} {it2:Ci} {q2:Cqo}:tE C (.comp elt own t it q (.cons ws t2 it2 q2 .nil)) σ H Q=tI C it σ H (sT' C elt own t q ws t2 it2 q2 σ Q):=rfl
end
noncomputable def cz' {α β:Type} (R:α->β->Prop):List α->List β->Prop
 | [],[]=>True
 |a :: as,b :: bs=>R a b/\cz' R as bs
 |_,_=>False
section
variable {α β:Type} {R S:α->β->Prop}
theorem cz'.mono (h:∀a b,R a b->S a b):∀{as:List α} {bs:List β},cz' R as bs->cz' S as bs
 | [],[],_=>trivial
 |_ :: _,_ :: _,q=>⟨h _ _ q.1,cz'.mono h q.2⟩
 | [],_ :: _,q=>q.elim
 |_ :: _,[],q=>q.elim
theorem cz'.len:∀{as:List α} {bs:List β},cz' R as bs->as.length=bs.length
 | [],[],_=>rfl
 |_ :: _,_ :: _,q=>by simp[cz'.len q.2]
 | [],_ :: _,q=>q.elim
 |_ :: _,[],q=>q.elim
theorem cz'.app:∀{as cs:List α} {bs ds:List β},cz' R as bs->cz' R cs ds->cz' R (as++cs) (bs++ds)
 | [],_,[],_,_,q=>q
 |_ :: _,_,_ :: _,_,p,q=>⟨p.1,cz'.app p.2 q⟩
 | [],_,_ :: _,_,p,_=>p.elim
 |_ :: _,_,[],_,p,_=>p.elim
theorem cz'.snoc {a:α} {b:β} {as:List α} {bs:List β} (h:cz' R as bs) (r:R a b):cz' R (as++[a]) (bs++[b]):=h.app ⟨r,trivial⟩
theorem cz'.get:∀{as:List α} {bs:List β} {i:Nat} {b:β},cz' R as bs->bs[i]?=some b->∃a,as[i]?=some a/\R a b
 | [],[],_,_,_,e=>by cases e
 |a :: _,_ :: _,0,_,q,e=>by cases e;exact⟨a,rfl,q.1⟩
 |_ :: as,_ :: bs,i+1,b,q,e=>by
  obtain⟨a,h1,h2⟩:=cz'.get (i:=i) (b:=b) q.2 (by simpa using e)
  exact⟨a,by simpa using h1,h2⟩
 | [],_ :: _,_,_,q,_=>q.elim
 |_ :: _,[],_,_,q,_=>q.elim
theorem cz'.getL:∀{as:List α} {bs:List β} {i:Nat} {a:α},cz' R as bs->as[i]?=some a->∃b,bs[i]?=some b/\R a b
 | [],[],_,_,_,e=>by cases e
 |_ :: _,b :: _,0,_,q,e=>by cases e;exact⟨b,rfl,q.1⟩
 |_ :: as,_ :: bs,i+1,a,q,e=>by
  obtain⟨b,h1,h2⟩:=cz'.getL (i:=i) (a:=a) q.2 (by simpa using e)
  exact⟨b,by simpa using h1,h2⟩
 | [],_ :: _,_,_,q,_=>q.elim
 |_ :: _,[],_,_,q,_=>q.elim
end
section
variable {C:Rc} {σ:L2.St} {H:Hp} {Q:VK} {D:Ends}
structure ClsG (C:Rc) (r:Str) (Cr:Addr) (L:List Str):Prop where
 own:C.cl r=some Cr
 e:∃Ce,C.cl "RunError"=some Ce/\W.exmOne C.K (.ref Cr) (.ref Ce)=some true
 ex:W.excIn C.K Cr bmV "ValueError.__new__"=true
 x:XCls C.K Cr
 kv:W.kitOne C.K (.ref Cr) (.type "ValueError")=some true
 k:∀c∈L,∃Cc,C.cl c=some Cc/\W.kitOne C.K (.ref Cr) (.ref Cc)=some (decide (c=r))
end
noncomputable def bi' (l:List (Str×Sp)) (y:Str):Option Sp:=l.lookup y
theorem ah' {x:Str} {s:Sp} {l:List (Str×Sp)}:bi' ((x,s) :: l) x=some s:=by unfold bi';simp
theorem af' {x y:Str} {s:Sp} {l:List (Str×Sp)} (h:(y == x)=false):bi' ((x,s) :: l) y=bi' l y:=by
 unfold bi'
 rw[List.lookup_cons,h]
theorem dV' {y:Str} {s:Sp}:∀{l:List (Str×Sp)},bi' l y=some s->(y,s)∈l
 | [],h=>by cases h
 |(x,t) :: l,h=>by
  unfold bi' at h
  rw[List.lookup_cons]at h
  cases e:y == x with
  |true=>
   rw[e]at h
   cases h
   rw[eq_of_beq e]
   exact List.mem_cons_self ..
  |false=>
   rw[e]at h
   exact List.mem_cons_of_mem _ (dV' h)
theorem bc' {P:Program} {w:World} {K:W.Frag} {mg:Str->Option Value} {base:Heap} {k:Nat} {l:List (Str×Sp)} (h:∀p∈l,∃f' fd' ps',FnOk P w K mg base CX0 k f' fd' ps' p.2/\mg p.1=some (.ref f')/\W.keepIn K (.ref f')=true/\dv' K fd' ps' []):
  ∀y sp',bi' l y=some sp'->∃f' fd' ps',FnOk P w K mg base CX0 k f' fd' ps' sp'/\mg y=some (.ref f')/\W.keepIn K (.ref f')=true/\dv' K fd' ps' []:=fun y sp' e=>h (y,sp') (dV' e)
theorem aB' {P:Program} {w:World} {K:W.Frag} {mg:Str->Option Value} {base:Heap} {x qual:Str} {st:Stmt} {f:Addr} {fd:FuncData} {ps:List Str} {k:Nat} {sp:Sp} (F:Fun K x qual st f fd) (C:Rc) (S:FnScope C.N ps (ac' st)) (hK:C.K=K) (code:Css) (hm:mSs C.N C.B (ac' st) code (ap' st)=true)
  (len:∀vs H Q E,sp vs H Q E->vs.length=ps.length)
  (hfs:∀y sp',C.fs y=some sp'->∃f' fd' ps',FnOk P w K mg base CX0 k f' fd' ps' sp'/\mg y=some (.ref f')/\W.keepIn K (.ref f')=true/\dv' K fd' ps' []) (hB:∀y∈C.B,mg y=none) (hmk:mg "~"=none/\mg "^"=none/\mg "%"=none) (nt:tld C.B=false) (nh:hat C.B=false) (hxk:C.xk=fun _=>E0) (hcl:C.cl=fun _=>none)
  (hbody:∀vs H Q E,sp vs H Q E->tSs C code { nx:=fun _ H'=>Q .non H',rt:=Q } (aU' C.N vs) H):FnOk P w K mg base CX0 (k+1) f fd ps sp:=
 o9' F C S hK code hm len ⟨fun y sp' e=>by
  obtain⟨f',fd',ps',h1,h2⟩:=hfs y sp' e
  exact⟨f',fd',ps',.inl h1,h2⟩,hB,hmk,(fun c Ca e=>by rw[hcl]at e;cases e),nt,nh⟩ hxk hbody
theorem mC {α:Type} {P:α->Prop} {a:α} {l:List α} (h:P a/\∀x∈l,P x):∀x∈a :: l,P x:=List.forall_mem_cons.mpr h
theorem mN {α:Type} {P:α->Prop}:∀x∈([]:List α),P x:=fun y hy=>absurd hy List.not_mem_nil
theorem tU' {α:Type} {P:List α->Prop} (h:∀x0,P [x0]):∀us:List α,us.length=1->P us
 | [x0],_=>h x0
theorem kC' {α:Type} {P:List α->Prop} (h:∀x0 x1,P [x0,x1]):∀us:List α,us.length=2->P us
 | [x0,x1],_=>h x0 x1
theorem wQ' {α:Type} {P:List α->Prop} (h:∀x0 x1 x2,P [x0,x1,x2]):∀us:List α,us.length=3->P us
 | [x0,x1,x2],_=>h x0 x1 x2
noncomputable def gP' {α:Type} (au':TL α) (b:α) (P:α->Hp->Prop) (σ:L2.St):Bool->Hp->Prop:=fun ok H=>if ok=true then au' σ b H P else P b H
noncomputable def fW' {α:Type} (tc:TT) (au':TL α) (b:α) (P:α->Hp->Prop):L2.St->Hp->Prop:=fun σ H=>tc σ H (gP' au' b P σ)
def kCl {α:Type} (own:List Nat) (g:TG) (tc:TT) (au':TL α) (σ:L2.St) (a:α) (N:α->Hp->Prop) (J:It) (H:Hp):Prop:=aE' own g tc au' J σ a H N
section
variable {C:Rc} {σ:L2.St} {H:Hp} {Q:VK} {D:Ends} {α:Type}
theorem pk' {au':TL α} {b:α} {P:α->Hp->Prop}:fW' (tQo C .none) au' b P σ H=au' σ b H P:=rfl
theorem pl' {q:Cq} {au':TL α} {b:α} {P:α->Hp->Prop}:fW' (tQo C (.some q)) au' b P σ H=tQ C q σ H (gP' au' b P σ):=rfl
theorem lF' {au':TL α} {b:α} {P:α->Hp->Prop}:gP' au' b P σ true H=au' σ b H P:=rfl
theorem lG' {au':TL α} {b:α} {P:α->Hp->Prop}:gP' au' b P σ false H=P b H:=rfl
theorem lH' {own:List Nat} {g:TG} {tc:TT} {au':TL α} {J:It} {a:α} {N:α->Hp->Prop} {n:Nat} (Pv:Nat->α->Hp->Prop) (h0:Pv 0 a H) (hgo:∀i b H,i<n->Pv i b H->J.go i H) (hstop:∀b H,Pv n b H->J.stop n H)
  (hs:∀i b H x H' (R:α->Hp->Prop),i<n->Pv i b H->J.yld i H x H'->(∀c H2,Pv (i+1) c H2->R c H2)->g x (clr own σ) H' (fW' tc au' b R)) (hd:∀b H,Pv n b H->N b H):kCl own g tc au' σ a N J H:=by
 refine⟨fun i m b H=>m=n-i/\i<=n/\Pv i b H,⟨n,by simp,Nat.zero_le _,h0⟩,?_⟩
 rintro i m b H ⟨rfl,hi,p⟩
 by_cases hlt:i<n
 .refine .inr ⟨hgo i b H hlt p,fun x H' y=>?_⟩
  exact hs i b H x H' (fun c H4=>∃m',m'<n-i/\(m'=n-(i+1)/\i+1<=n/\Pv (i+1) c H4)) hlt p y fun ys H2 p2=>⟨n-(i+1),by omega,rfl,hlt,p2⟩
 .have e:i=n:=by omega
  subst e
  exact .inl ⟨hstop b H p,hd b H p⟩
theorem wR' {own:List Nat} {g:TG} {tc:TT} {au':TL α} {b0:α} {N:α->Hp->Prop} {a:Addr} {vs:List V} (Pv:Nat->α->Hp->Prop) (h0:Pv 0 b0 H) (hl:∀i b H,Pv i b H->SqL C.K H a vs)
  (hs:∀i b H x (R:α->Hp->Prop),vs[i]?=some x->Pv i b H->(∀c H2,Pv (i+1) c H2->R c H2)->g x (clr own σ) H (fW' tc au' b R)) (hd:∀b H,Pv vs.length b H->N b H):kCl own g tc au' σ b0 N (Itl C.K a) H:=
 lH' (n:=vs.length) Pv h0 (fun i xs H hi p=>⟨vs,vs[i],hl i xs H p,by simp[hi]⟩) (fun xs H p=>⟨vs,hl _ xs H p,Nat.le_refl _⟩) (fun i xs H x H' R hi p y k=>by
  obtain⟨e,y⟩:=y
  subst e
  exact hs i xs H' x R (y vs (hl i xs H' p)) p k) hd
theorem sU' {own:List Nat} {g:TG} {tc:TT} {au':TL α} {b0:α} {N:α->Hp->Prop} {a:Addr} {vs:List V} (Pv:Nat->α->Hp->Prop) (h0:Pv 0 b0 H) (hl:∀i b H,Pv i b H->SqT C.K H a vs)
  (hs:∀i b H x p (R:α->Hp->Prop),vs[i]?=some x->H p=none->Pv i b H->(∀c H2,Pv (i+1) c H2->R c H2)->g (.ref p) (clr own σ) (upd H p (.tup [.int i,x])) (fW' tc au' b R)) (hd:∀b H,Pv vs.length b H->N b H):kCl own g tc au' σ b0 N (ox' C.K a) H:=
 lH' (n:=vs.length) Pv h0 (fun i xs H hi p=>⟨vs,vs[i],hl i xs H p,by simp[hi]⟩) (fun xs H p=>⟨vs,hl _ xs H p,rfl⟩) (fun i xs H x H' R hi p y k=>by
  obtain⟨ad,v,rfl,hn,y,rfl⟩:=y
  exact hs i xs H v ad R (y vs (hl i xs H p)) hn p k) hd
theorem vn' {own:List Nat} {g:TG} {tc:TT} {au':TL α} {b0:α} {N:α->Hp->Prop} {lo:Int} {n:Nat} (Pv:Nat->α->Hp->Prop) (h0:Pv 0 b0 H)
  (hs:∀i b H (R:α->Hp->Prop),i<n->Pv i b H->(∀c H2,Pv (i+1) c H2->R c H2)->g (.int (lo+i)) (clr own σ) H (fW' tc au' b R)) (hd:∀b H,Pv n b H->N b H):kCl own g tc au' σ b0 N (Itr lo n) H:=
 lH' (n:=n) Pv h0 (fun i xs H hi p=>hi) (fun xs H p=>Nat.le_refl _) (fun i xs H x H' R hi p y k=>by
  obtain⟨e,rfl⟩:=y
  subst e
  exact hs i xs H' R hi p k) hd
theorem lI' {elt:Ce} {own:List Nat} {t:Ct} {it:Ci} {q:Cqo} {ws:List Nat} {t2:Ct} {it2:Ci} {q2:Cqo} {r:Cc}:tE C (.comp elt own t it q (.cons ws t2 it2 q2 r)) σ H Q=tI C it σ H (kCl own (tG C t) (tQo C q) (tR C (.cons ws t2 it2 q2 r) (dx' (tE C elt))) σ [] (p3' Q)):=rfl
theorem pm' {ws:List Nat} {t:Ct} {it:Ci} {q:Cqo} {r:Cc} {em:TL (List V)} {b:List V} {P:List V->Hp->Prop}:tR C (.cons ws t it q r) em σ b H P=tI C it σ H (kCl ws (tG C t) (tQo C q) (tR C r em) σ b P):=rfl
theorem sV' {em:TL (List V)} {b:List V} {P:List V->Hp->Prop}:tR C .nil em σ b H P=em σ b H P:=rfl
theorem pn' {elt:Ce} {b:List V} {P:List V->Hp->Prop}:dx' (tE C elt) σ b H P=tE C elt σ H (j1' b P):=rfl
noncomputable def vo' (b:(Option Int->Bool)×Nat) (P:(Option Int->Bool)×Nat->Hp->Prop):VK:=fun v H=>∃k,v=kO k/\b.2<4000/\P (fun j=>b.1 j || decide (j=k),b.2+1) H
theorem lJ' {elt:Ce} {b:(Option Int->Bool)×Nat} {P:(Option Int->Bool)×Nat->Hp->Prop}:ru' (tE C elt) σ b H P=tE C elt σ H (vo' b P):=rfl
theorem po' {it:Ci} {own:List Nat} {g:TG} {tc:TT} {au':TL α} {b:α} {P:α->Hp->Prop}:dy' (tI C it) (aE' own g tc au') σ b H P=tI C it σ H (kCl own g tc au' σ b P):=rfl
noncomputable def wi' (a:List (Key×V)) (P:List (Key×V)->Hp->Prop) (y:V):VK:=fun v H2=>∃k,y=L2.kV k/\a.length<sizeLine/\P (fz' a k v) H2
noncomputable def wj' (C:Rc) (σ:L2.St) (v:Ce) (a:List (Key×V)) (P:List (Key×V)->Hp->Prop):VK:=fun y H1=>tE C v σ H1 (wi' a P y)
theorem lK' {k v:Ce} {a:List (Key×V)} {P:List (Key×V)->Hp->Prop}:rv' (tE C k) (tE C v) σ a H P=tE C k σ H (wj' C σ v a P):=rfl
theorem pp' {v:Ce} {a:List (Key×V)} {P:List (Key×V)->Hp->Prop} {y:V}:wj' C σ v a P y H=tE C v σ H (wi' a P y):=rfl
noncomputable def wk' (a:KTL) (P:KTL->Hp->Prop) (y:V):VK:=fun v H2=>∃(k:List Key) (b:Addr),y=.ref b/\H2 b=some (.tup (k.map L2.kV))/\okT a H2/\(∀x∈a,x.1≠k)/\a.length<sizeLine/\P (a++[(k,b,v)]) H2
noncomputable def wl' (C:Rc) (σ:L2.St) (v:Ce) (a:KTL) (P:KTL->Hp->Prop):VK:=fun y H1=>tE C v σ H1 (wk' a P y)
theorem lL' {k v:Ce} {a:KTL} {P:KTL->Hp->Prop}:cE' (tE C k) (tE C v) σ a H P=tE C k σ H (wl' C σ v a P):=rfl
theorem pq' {v:Ce} {a:KTL} {P:KTL->Hp->Prop} {y:V}:wl' C σ v a P y H=tE C v σ H (wk' a P y):=rfl
noncomputable def wm' (Q:VK):KTL->Hp->Prop:=fun a H2=>okT a H2/\∀p,H2 p=none->Q (.ref p) (upd H2 p (.dT (plT a)))
theorem sW' {k v:Ce} {own:List Nat} {t:Ct} {it:Ci} {q:Cqo}:tE C (.dcy k v own t it q) σ H Q=tI C it σ H (kCl own (tG C t) (tQo C q) (cE' (tE C k) (tE C v)) σ [] (wm' Q)):=rfl
theorem sX' {k v:Ce} {own:List Nat} {t:Ct} {it:Ci} {q:Cqo} {ws:List Nat} {t2:Ct} {it2:Ci} {q2:Cqo}:tE C (.dcz k v own t it q ws t2 it2 q2) σ H Q=tI C it σ H (kCl own (tG C t) (tQo C q) (dy' (tI C it2) (aE' ws (tG C t2) (tQo C q2) (cE' (tE C k) (tE C v)))) σ [] (wm' Q)):=rfl
noncomputable def sY' (b:List (List Int×Addr)) (P:List (List Int×Addr)->Hp->Prop):VK:=fun v H'=>∃(k:List Int) (p:Addr),v=.ref p/\H' p=some (.tup (k.map V.int))/\Trk H' b/\b.length<4000/\P (jk' b k p) H'
theorem lM' {elt:Ce} {b:List (List Int×Addr)} {P:List (List Int×Addr)->Hp->Prop}:e4' (tE C elt) σ b H P=tE C elt σ H (sY' b P):=rfl
noncomputable def wn' (Q:VK):List (List Int×Addr)->Hp->Prop:=fun a H2=>okP Q a H2/\∀p,H2 p=none->True
theorem sZ' {elt:Ce} {own:List Nat} {t:Ct} {it:Ci} {q:Cqo} {ws:List Nat} {t2:Ct} {it2:Ci} {q2:Cqo}:tE C (.ssp elt own t it q ws t2 it2 q2) σ H Q=tI C it σ H (kCl own (tG C t) (tQo C q) (dy' (tI C it2) (aE' ws (tG C t2) (tQo C q2) (e4' (tE C elt)))) σ [] (wn' Q)):=rfl
theorem s0' {a:List (List Int×Addr)} (h1:Trk H a) (h2:∃n,∀q∈a,q.1.length=n+1) (q:∀(l:Addr) (qs:List (List Int×Addr)),H l=none->qs.Perm a->(qs.Pairwise fun x y=>aS' (kI y.1) (kI x.1)=false)->Q (.ref l) (upd H l (.lst (qs.map fun q=>V.ref q.2)))):wn' Q a H:=⟨⟨h1,h2,q⟩,fun _ _=>trivial⟩
theorem gQ' {K:W.Frag} {a:Addr} {qs:List (Addr×List Itm)} {b:Bool} {sh:List Bool} (h:SqL K H a (qs.map fun q=>V.ref q.1)) (ht:∀q∈qs,SqT K H q.1 (q.2.map itV)) (hs:∀q∈qs,shp q.2=b :: sh)
  (q:∀p (qs':List (Addr×List Itm)),H p=none->qs'.Perm qs->(qs'.Pairwise fun x y=>aS' y.2 x.2=false)->Q (.ref p) (upd H p (.lst (qs'.map fun q=>V.ref q.1)))):cF' K .sortK [.ref a] H Q:=⟨a,qs,b,sh,rfl,h,ht,hs,q⟩
noncomputable def pr' (neg:Bool) (y:V) (Q:VK):VK:=fun x H2=>(∃a o,x=.ref a/\kB' H2 a y o/\Q (.bl (if neg then !o.isSome else o.isSome)) H2)\/tR' neg y x H2 Q
noncomputable def pt' (C:Rc) (σ:L2.St) (neg:Bool) (b:Ce) (Q:VK):VK:=fun y H1=>tE C b σ H1 (pr' neg y Q)
theorem s1' {neg:Bool} {a b:Ce}:tE C (.din neg a b) σ H Q=tE C a σ H (pt' C σ neg b Q):=rfl
theorem s2' {neg:Bool} {a b:Ce} {Qb:Bool->Hp->Prop}:tQ C (.din neg a b) σ H Qb=tE C a σ H (pt' C σ neg b (kT Qb)):=rfl
theorem lN' {neg:Bool} {b:Ce} {y:V}:pt' C σ neg b Q y H=tE C b σ H (pr' neg y Q):=rfl
theorem s4' {neg:Bool} {y:V} {p:Addr} {o:Option V} (h:kB' H p y o) (q:Q (.bl (if neg then !o.isSome else o.isSome)) H):pr' neg y Q (.ref p) H:=.inl ⟨p,o,rfl,h,q⟩
noncomputable def nM' (a:Addr) (y:V) (Q:VK):VK:=fun z H3=>∃o,kB' H3 a y o/\Q (o.getD z) H3
noncomputable def s5' (C:Rc) (σ:L2.St) (c:Ce) (a:Addr) (Q:VK):VK:=fun y H2=>tE C c σ H2 (nM' a y Q)
theorem kf' {c:Ce} {a:Addr} {y:V}:s5' C σ c a Q y H=tE C c σ H (nM' a y Q):=rfl
end
section
variable {C:Rc} {σ:L2.St} {H:Hp} {Q:VK} {Qb:Bool->Hp->Prop}
noncomputable def kW1 (C:Rc) (σ:L2.St) (k:Zf) (b:Ce) (Q:VK):VK:=fun x H=>tE C b σ H fun y H'=>rZf k x y H' Q
noncomputable def kW2 (k:Zf) (x:V) (Q:VK):VK:=fun y H=>rZf k x y H Q
theorem s6' {k:Zf} {a b:Ce}:tQ C (.cmw k a b) σ H Qb=tE C a σ H (kW1 C σ k b (kT Qb)):=rfl
theorem s7' {k:Zf} {b:Ce} {x:V}:kW1 C σ k b Q x H=tE C b σ H (kW2 k x Q):=rfl
theorem kg' {K:W.Frag} {a:Addr} {kvs:List (List Key×V)} (h:Rd H a (.dT kvs)) (q:∀l (as:List Addr),H l=none->KsA H as kvs->Q (.ref l) (upd H l (.lst (as.map V.ref)))):cF' K .listD [.ref a] H Q:=.inr ⟨a,kvs,rfl,h,q⟩
theorem s8' {x y:V} {k:List (List Int)} {L:List (List (List Int))} (h:LsR H (TpI H) x k) (h2:LsR H (LsR H (TpI H)) y L) (q:Q (.bl (decide (k∈L))) H):kW2 .inP x Q y H:=⟨k,L,h,h2,q⟩
theorem gR' {K:W.Frag} {a:Addr} {kvs:List (List Key×V)} (h:Rd H a (.dT kvs)) (q:Q (.int kvs.length) H):cF' K .lenD [.ref a] H Q:=.inr ⟨a,kvs,rfl,h,q⟩
section
variable {D:Ends}
noncomputable def wS' (x y z:V) (sub:Bool) (D:Ends) (σ:L2.St):VK:=fun w H4=>ipI (fun i j=>if sub then i-j else i+j) z w H4 fun u H5=>dw' x y u H5 fun H6=>D.nx σ H6
noncomputable def wo' (C:Rc) (e:Ce) (sub:Bool) (x:V) (D:Ends) (σ:L2.St):VK:=fun y H2=>h4' C.K x y H2 fun z H3=>tE C e σ H3 (wS' x y z sub D σ)
noncomputable def wT' (C:Rc) (i:Ce) (sub:Bool) (e:Ce) (D:Ends) (σ:L2.St):VK:=fun x H1=>tE C i σ H1 (wo' C e sub x D σ)
theorem pu' {i e:Ce} {sub:Bool} {x:V}:wT' C i sub e D σ x H=tE C i σ H (wo' C e sub x D σ):=rfl
noncomputable def vp' (x v:V) (D:Ends) (σ:L2.St):VK:=fun y H3=>∃a H4,x=.ref a/\pX' H3 a y v H4/\D.nx σ H4
noncomputable def vq' (C:Rc) (i:Ce) (v:V) (D:Ends) (σ:L2.St):VK:=fun x H2=>tE C i σ H2 (vp' x v D σ)
noncomputable def wp' (C:Rc) (o i:Ce) (D:Ends) (σ:L2.St):VK:=fun v H1=>tE C o σ H1 (vq' C i v D σ)
theorem s9' {o i e:Ce}:tS C (.dput o i e) D σ H=tE C e σ H (wp' C o i D σ):=rfl
theorem pv' {o i:Ce} {v:V}:wp' C o i D σ v H=tE C o σ H (vq' C i v D σ):=rfl
theorem pw' {i:Ce} {v x:V}:vq' C i v D σ x H=tE C i σ H (vp' x v D σ):=rfl
end
end
end R3
section
open PySem PySem.Spec PyProof.Rows L2 R3
set_option hygiene false in
local macro_rules | `(tactic| walk_at "sx") => `(tactic| simp only [mQ', mR', rT', mS', mT', rU', mU', mV', mW', mX', mY', mZ', m0', m1', m2', rV', m3', m4', gy', m5', rX', jP', jQ', m6', m7', sQ', sR', nH', kd', ke', nI', nJ', nK', nL', gO', rY', rZ', r0', m8', r1', r2', r3', v1', v2', v3', v4', r5', sM', sN', nG', kb', wd', j9', m9', nb', jR', nc', nd', ne', nf', r6', ng', gz', r8', jS', sc', gA', gB', gC', v6', sd', se', jO', ni', nj', sf', nh', nk', nl', jT', jU', gD', jV', nm', gE', gF', nn', no', np', nq', nr', sj', ns', jW', nt', gG', gH', gI', nu', nv', ff', nw', gJ', gK', gL', sO', nF', dU', fh', j6', j7', sv', ny', sz', sA', fg', jY', nB', nC', nz', j2', sD', sE', sF', sG', gM', clr, List.foldl_cons, List.foldl_nil, L2.aU', List.map_cons, List.map_nil, List.length_cons, List.length_nil, List.cons_append, List.nil_append, List.replicate, Nat.reduceSub, Nat.reduceAdd, List.set_cons_zero, List.set_cons_succ, List.getElem?_cons_zero, List.getElem?_cons_succ, reduceCtorEq, decide_true, decide_false, eq_self, Bool.not_true, Bool.not_false, bne_self_eq_false, BEq.rfl])
local macro_rules | `(tactic| walk_at "y") => `(tactic| try walk_at "sy")
set_option hygiene false in
local macro_rules | `(tactic| walk_at "sy") => `(tactic| simp only [wP', sP', s6', s7', s9', pv', pw', pu', lI', pm', sV', pn', s1', s2', lN', kf', sW', sX', sZ', lJ', lM', po', lK', pp', lL', pq', pk', pl', lF', lG', mQ', mR', rT', mS', mT', rU', mU', mV', mW', mX', mY', mZ', m0', m1', m2', rV', m3', m4', gy', m5', rX', jP', jQ', m6', m7', sQ', sR', nH', kd', ke', nI', nJ', nK', nL', gO', rY', rZ', r0', m8', r1', r2', r3', v1', v2', v3', v4', r5', sM', sN', nG', kb', wd', j9', m9', nb', jR', nc', nd', ne', nf', r6', ng', gz', r8', jS', sc', gA', gB', gC', v6', sd', se', jO', ni', nj', sf', nh', nk', nl', jT', jU', gD', sg', jV', nm', gE', gF', nn', no', np', nq', nr', sj', ns', jW', nt', gG', gH', gI', nu', nv', ff', nw', gJ', gK', gL', sO', nF', dU', fh', j6', j7', sv', ny', sz', sA', fg', jY', nB', nC', nz', j2', sD', sE', sF', sG', gM', clr, List.foldl_cons, List.foldl_nil, L2.aU', List.map_cons, List.map_nil, List.length_cons, List.length_nil, List.cons_append, List.nil_append, List.replicate, Nat.reduceSub, Nat.reduceAdd, List.set_cons_zero, List.set_cons_succ, List.getElem?_cons_zero, List.getElem?_cons_succ, reduceCtorEq, decide_true, decide_false, eq_self, Bool.not_true, Bool.not_false, bne_self_eq_false, BEq.rfl])
namespace LW
open PySem PySem.Spec PyProof.Rows L2 R3
noncomputable def cp':Css:=(.cons (.ite (.cmp .Lt (.var 1) (.blt .len (.cons (.var 0) .nil))) (.cons (.ret (.idx (.var 0) (.var 1)))
  .nil) .nil)
  (.cons (.ret (.int 0))
  .nil))
noncomputable def lO':Css:=(.cons (.asg (.name 2) (.call "_law_cell_at" (.cons (.var 0) (.cons (.var 1) .nil))))
  (.cons (.ret (.lst (.cons (.bin .Mult (.blt .abs (.cons (.var 2) .nil)) (.blt .int (.cons (.cmp .GtE (.blt .abs (.cons (.var 2) .nil)) (.bin .Pow (.int 10) (.int 18))) .nil))) (.cons (.bin .Add (.bin .Add (.bin .Mod (.var 2) (.int 2305843009213693951)) (.bin .Mult (.int 39373) (.var 1))) (.int 17)) (.cons (.int 0) .nil)))))
  .nil))
noncomputable def gS':Css:=(.cons (.ite (.cmp .Gt (.idx (.var 0) (.int 0)) (.int 0)) (.cons (.asg (.name 2) (.bin .Mod (.idx (.var 0) (.int 0)) (.var 1)))
  (.cons (.asg (.sub (.var 0) (.int 0)) (.bin .FloorDiv (.idx (.var 0) (.int 0)) (.var 1)))
  (.cons (.ret (.var 2))
  .nil))) .nil)
  (.cons (.asg (.sub (.var 0) (.int 2)) (.bin .Add (.idx (.var 0) (.int 2)) (.int 1)))
  (.cons (.asg (.name 3) (.bin .Mod (.bin .Mult (.bin .Add (.idx (.var 0) (.int 1)) (.bin .Mult (.int 48271) (.idx (.var 0) (.int 2)))) (.bin .Add (.int 39373) (.idx (.var 0) (.int 2)))) (.int 2147483647)))
  (.cons (.asg (.name 4) (.bin .Mod (.bin .Mult (.bin .Add (.var 3) (.idx (.var 0) (.int 2))) (.bin .Add (.bin .Mod (.var 3) (.int 40009)) (.int 7))) (.int 2147483629)))
  (.cons (.ret (.bin .Mod (.bin .FloorDiv (.bin .Mod (.bin .Add (.bin .Mult (.var 4) (.int 48271)) (.var 3)) (.int 2147483587)) (.int 64)) (.var 1)))
  .nil)))))
def dW' (K:W.Frag):Sp:=fun vs H Q _=>∃(a:Addr) (ns:List Int) (k:Int),vs=[.ref a,.int k]/\SqL K H a (ns.map V.int)/\0<=k/\∀c:Int,Q (.int c) H
theorem lP' {ns:List Int} {k:Int} (h0:0<=k) (h1:k<ns.length):∃c:Int,atI (ns.map V.int) k=some (.int c):=by
 obtain⟨j,rfl⟩:=Int.eq_ofNat_of_zero_le h0
 have hk:j<ns.length:=by omega
 exact⟨ns[j],fu' (by rw[List.getElem?_map,List.getElem?_eq_getElem hk];rfl)⟩
theorem kh' {C:Rc} (hN:C.N.length=2):∀vs H Q E,dW' C.K vs H Q E->tSs C cp' { nx:=fun _ H'=>Q .non H',rt:=Q } (L2.aU' C.N vs) H:=by
 intro vs H Q E h
 obtain⟨a,ns,k,rfl,hs,hk,q⟩:=h
 rw[aA' hN]
 unfold cp'
 walk_at "y"
 refine fV' hs ?_
 rw[List.length_map]
 walk_at "y"
 refine ds' (fun c=>?_) fun _=>?_
 .obtain⟨v,hv⟩:=lP' hk c
  walk_at "y"
  exact gN' hs hv (q v)
 .walk_at "y"
  exact q 0
def ki' (K:W.Frag):Sp:=fun vs H Q _=>∃(a:Addr) (ns:List Int) (k:Int),vs=[.ref a,.int k]/\SqL K H a (ns.map V.int)/\0<=k/\k<=1000/\∀(p:Addr) (x y:Int),H p=none->0<=x->0<=y->y<2 ^ 62->Q (.ref p) (upd H p (fe' x y 0))
theorem lQ' {C:Rc} (hN:C.N.length=3) (hf:C.fs "_law_cell_at"=some (dW' C.K)):∀vs H Q E,ki' C.K vs H Q E->tSs C lO' { nx:=fun _ H'=>Q .non H',rt:=Q } (L2.aU' C.N vs) H:=by
 intro vs H Q E h
 obtain⟨a,ns,k,rfl,hs,hk,hk2,q⟩:=h
 rw[aA' hN]
 unfold lO'
 walk_at "y"
 refine an' hf ?_
 walk_at "y"
 refine⟨a,ns,k,rfl,hs,hk,fun c=>?_⟩
 walk_at "y"
 have hm0:0<=c % 2305843009213693951:=Int.emod_nonneg _ (by decide)
 have hm1:c % 2305843009213693951<2305843009213693951:=Int.emod_lt_of_pos _ (by decide)
 refine⟨⟨by decide,by decide,by decide⟩,?_,by decide,.inl ⟨by decide,by decide⟩,by decide,fun p hp=>q p _ _ hp ?_ ?_ ?_⟩
 .refine .inr (.inl ⟨?_,?_⟩)<;>split<;>split<;>decide
 .split<;>split<;>omega
 .omega
 .omega
section
variable {K:W.Frag} {H:Hp} {b:Addr} {x y z:Int} {Q:VK}
theorem ix0 (h:H b=some (fe' x y z)) (q:Q (.int x) H):h4' K (.ref b) (.int 0) H Q\/iz' K (.ref b) (.int 0) H Q:=.inl ⟨b,_,0,_,rfl,rfl,SqL.of h,rfl,q⟩
theorem ix1 (h:H b=some (fe' x y z)) (q:Q (.int y) H):h4' K (.ref b) (.int 1) H Q\/iz' K (.ref b) (.int 1) H Q:=.inl ⟨b,_,1,_,rfl,rfl,SqL.of h,rfl,q⟩
theorem ix2 (h:H b=some (fe' x y z)) (q:Q (.int z) H):h4' K (.ref b) (.int 2) H Q\/iz' K (.ref b) (.int 2) H Q:=.inl ⟨b,_,2,_,rfl,rfl,SqL.of h,rfl,q⟩
theorem st0 {u:Int} {Q:Hp->Prop} (h:H b=some (fe' x y z)) (q:Q (upd H b (fe' u y z))):dw' (.ref b) (.int 0) (.int u) H Q:=⟨b,_,0,0,rfl,rfl,h,rfl,q⟩
theorem st2 {u:Int} {Q:Hp->Prop} (h:H b=some (fe' x y z)) (q:Q (upd H b (fe' x y u))):dw' (.ref b) (.int 2) (.int u) H Q:=⟨b,_,2,2,rfl,rfl,h,rfl,q⟩
end
def em':Sp:=fun vs H Q _=>∃(b:Addr) (x y z m:Int),vs=[.ref b,.int m]/\H b=some (fe' x y z)/\0<=x/\0<=y/\y<2 ^ 62/\0<=z/\z<=2 ^ 40/\0<m/\m<4611686018427387904/\
 ∀(r x' z':Int),0<=r->r<m->0<=x'->0<=z'->z'<=z+1->Q (.int r) (upd H b (fe' x' y z'))
theorem kj' {C:Rc} (hN:C.N.length=5):∀vs H Q E,em' vs H Q E->tSs C gS' { nx:=fun _ H'=>Q .non H',rt:=Q } (L2.aU' C.N vs) H:=by
 intro vs H Q E h
 obtain⟨b,x,y,z,m,rfl,hb,hx,hy,hy2,hz,hz2,hm,hm2,q⟩:=h
 rw[aA' hN]
 unfold gS'
 walk_at "sy"
 refine ix0 hb ?_
 walk_at "sy"
 refine ds' (fun c=>?_) fun _=>?_
 .walk_at "sy"
  refine ix0 hb ?_
  walk_at "sy"
  refine⟨hm,?_⟩
  refine ix0 hb ?_
  walk_at "sy"
  refine⟨⟨hm,.inr (Nat.lt_of_lt_of_le ((Nat.log2_lt (by omega)).mpr (show m.natAbs<2 ^ 62 by omega)) (by decide))⟩,st0 hb ?_⟩
  walk_at "sy"
  exact q _ _ _ (Int.emod_nonneg _ (by omega)) (Int.emod_lt_of_pos _ hm) (Int.ediv_nonneg hx (by omega)) hz (by omega)
 .walk_at "sy"
  refine ix2 hb ?_
  walk_at "sy"
  refine st2 hb ?_
  have hb':upd H b (fe' x y (z+1)) b=some (fe' x y (z+1)):=aa'
  walk_at "sy"
  refine ix1 hb' ?_
  walk_at "sy"
  refine ix2 hb' ?_
  walk_at "sy"
  refine⟨.inl ⟨by decide,by decide⟩,?_⟩
  refine ix2 hb' ?_
  walk_at "sy"
  refine⟨.inr (.inl ⟨by omega,by omega⟩),by decide,?_⟩
  refine ix2 hb' ?_
  walk_at "sy"
  generalize (y+48271*(z+1))*(39373+(z+1)) % 2147483647=once
  have ho0:0<=once % 40009:=Int.emod_nonneg _ (by decide)
  have ho1:once % 40009<40009:=Int.emod_lt_of_pos _ (by decide)
  refine⟨by decide,.inr (.inl ⟨by omega,by omega⟩),by decide,.inr (.inl ⟨by decide,by decide⟩),by decide,⟨by decide,by decide⟩,hm,?_⟩
  exact q _ _ _ (Int.emod_nonneg _ (by omega)) (Int.emod_lt_of_pos _ hm) hx (by omega) (by omega)
def bA':Sp:=fun vs H Q _=>∃(b:Addr) (n:Nat) (m:Int),vs=[.ref b,.int m]/\H b=some (cK' b n)/\n<=2 ^ 40/\0<m/\m<4611686018427387904/\∀(r:Int) (H':Hp),0<=r->r<m->Go 1 H H'->Q (.int r) H'
theorem px' {P:Program} {w:World} {K:W.Frag} {mg:Str->Option Value} {base:Heap} {k:Nat} {f:Addr} {fd:FuncData} {ps:List Str} (hp:ps.length=2) (F:FnOk P w K mg base CX0 k f fd ps em'):FnOk P w K mg base CX0 k f fd ps bA':=by
 refine pb' (jN' (sp':=fun vs H Q E=>em' vs H (v0' Q) E) F fun _ _ _ _ h=>h) (fun vs H Q E h=>?_) fun vs H Q E h=>?_
 .obtain⟨b,n,m,rfl,hb,hn,hm,hm2,q⟩:=h
  refine⟨b,n,hb,fun x y z hx hy hy2 hz hzn=>⟨b,x,y,z,m,rfl,aa',hx,hy,hy2,hz,by omega,hm,hm2,fun r x' z' h1 h2 h3 h4 h5=>?_⟩⟩
  refine⟨b,x',y,z',n+1,aa',h3,hy,hy2,h4,by omega,?_⟩
  refine q r _ h1 h2 ?_
  rw[fo']
  exact Go.draw hb (Nat.le_refl _) _
 .obtain⟨b,n,m,rfl,_⟩:=h
  rw[hp]
  rfl
def h0' (K:W.Frag):Sp:=fun vs H Q _=>∃(a:Addr) (ns:List Int) (k:Int),vs=[.ref a,.int k]/\SqL K H a (ns.map V.int)/\0<=k/\k<=1000/\∀(p:Addr),H p=none->Q (.ref p) (upd H p (cK' p 0))
theorem ta' {P:Program} {w:World} {K:W.Frag} {mg:Str->Option Value} {base:Heap} {k:Nat} {f:Addr} {fd:FuncData} {ps:List Str} (F:FnOk P w K mg base CX0 k f fd ps (ki' K)):FnOk P w K mg base CX0 k f fd ps (h0' K):=by
 refine jN' F fun vs H Q E h=>?_
 obtain⟨a,ns,k,rfl,hs,h0,h1,q⟩:=h
 refine⟨a,ns,k,rfl,hs,h0,h1,fun p x y hp hx hy hy2=>⟨p,x,y,0,0,aa',hx,hy,hy2,by omega,by omega,?_⟩⟩
 rw[fo']
 exact q p hp
theorem _root_.R3.Go.boxed {c n:Nat} {H H':Hp} {b:Addr} (g:Go c H H') (h:H b=some (cK' b n)) (hn:n+c<=2 ^ 40):∃m,H' b=some (cK' b m)/\m<=n+c/\m<=2 ^ 40:=by
 obtain⟨m,hm,e⟩:=g.box b n h
 exact⟨m,e,hm,by omega⟩
section
variable {K:W.Frag} {H:Hp} {Q:VK}
theorem wq' {x:V} {T c:String} {k:Bool} (h:dL' H x=some T) (hk:isT T c=k) (hT:T∈b3') (hc:c∈["bool","int","str","list","tuple","dict"]) (q:Q (.bl k) H):cF' K .isinstance [x,.ty c] H Q:=sJ' h hT hc (by rw[hk];exact q)
end
end LW
namespace SR
open PySem PySem.Spec PyProof.Rows L2 R3 LW
theorem py':∀{l:List Bool},(l.map fun c=>[c]).flatten=l
 | []=>rfl
 |c :: r=>by rw[List.map_cons,List.flatten_cons,py'];rfl
noncomputable def sm (l:List Bool):Int:=(l.count true:Int)-(l.count false:Int)
section
variable {K:W.Frag} {H:Hp} {Q:VK}
end
noncomputable def pz' (l:List Bool):List V:=(l.map fun c=>[c]).map fun l=>V.str (tx l)
theorem lR' {l:List Bool}:(pz' l).length=l.length:=by unfold pz';simp
theorem kk' {l:List Bool} {c:Bool}:pz' l++[V.str (tx [c])]=pz' (l++[c]):=by unfold pz';simp
theorem lS' {K:W.Frag} {H:Hp} {Q:VK} {a:Addr} {l:List Bool} (h:SqL K H a (pz' l)) (hz:l.length<=16000000) (q:Q (.str (tx l)) H):lm' K .join (.str (tx [])) [.ref a] H Q:=by
 refine kc' (ls:=l.map fun c=>[c]) h (by rw[py'];exact hz) ?_
 rw[py']
 exact q
noncomputable def tn (l:List Bool) (n:Nat):List Bool:=(l.take n).map (!·)++l.drop n
theorem kl' {K:W.Frag} {H:Hp} {Q:VK} {n:Int} (q:Q (.str (tx [decide (n % 2=1)])) H):cF' K .str [.int (n % 2)] H Q:=by
 have e:n % 2=if decide (n % 2=1)=true then 1 else 0:=by
  have:=Int.emod_two_eq n
  rcases this with h|h<;>rw[h]<;>rfl
 rw[e]
 exact lE' q
theorem dt' {m:Nat} {n:Int} (h:n=m):(1:Int)*2 ^ n.toNat=((2 ^ m:Nat):Int):=by
 subst h
 rw[Int.one_mul,Int.toNat_natCast]
 norm_cast
end SR
namespace BK
open PySem PySem.Spec PyProof.Rows L2 R3 LW SR
noncomputable def tV (l:List Bool):V:=.str (tx l)
noncomputable def bks (m:Nat) (l:List Bool) (n:Nat):List (List Bool):=(List.range n).map fun i=>(l.drop (i*m)).take m
end BK
namespace LW
open PySem PySem.Spec PyProof.Rows L2 R3
def Tp (H H':Hp):Prop:=∀a xs,H a=some (.tup xs)->H' a=some (.tup xs)
theorem Tp.trans {H H1 H2:Hp} (a:Tp H H1) (b:Tp H1 H2):Tp H H2:=fun c x h=>b c x (a c x h)
theorem _root_.R3.Go.tp {c:Nat} {H H':Hp} (g:Go c H H'):Tp H H':=fun a xs h=>g.tup h
theorem bj' {H H':Hp} (s:a1' H H'):Tp H H':=fun a xs h=>s _ _ h
theorem fi' {H:Hp} {p:Addr} (h:H p=none) (o:HO):Tp H (upd H p o):=bj' (ad' h o)
theorem nN' {H:Hp} {p:Addr} {xs:List V} (h:H p=some (.lst xs)) (o:HO):Tp H (upd H p o):=fun a ys e=>by
 rw[ab' (fun z=>by subst z;rw[h]at e;cases e)]
 exact e
theorem _root_.R3.Go.upd {c:Nat} {H H':Hp} {l:Addr} {o:HO} (g:Go c H H') (h:H l=none):Go c H (L2.upd H' l o):=by
 refine⟨fun a n e=>?_,fun a u e no=>?_,fun a e=>?_⟩
 .obtain⟨m,hm,e1⟩:=g.box a n e
  exact⟨m,hm,by rw[ab' (ag' e h)];exact e1⟩
 .rw[ab' (ag' e h)]
  exact g.oth a u e no
 .by_cases hl:a=l
  .subst hl
   exact h
  .rw[ab' hl]at e
   exact g.free a e
theorem aR' {Q:VK} {m:Int} {H0 H:Hp} {b:Addr} {n0 c:Nat} (hb:H0 b=some (cK' b n0)) (g:Go c H0 H) (hn:n0+c<=2 ^ 40) (hm:0<m) (hm2:m<4611686018427387904) (q:∀r H',0<=r->r<m->Go 1 H H'->Go (c+1) H0 H'->Q (.int r) H'):bA' [.ref b,.int m] H Q E0:=by
 obtain⟨n,hb1,_,hn1⟩:=g.boxed hb hn
 exact⟨b,n,m,rfl,hb1,hn1,hm,hm2,fun r H' h0 h1 g1=>q r H' h0 h1 g1 (g.trans g1)⟩
end LW
namespace LW
open PySem PySem.Spec PyProof.Rows L2 R3
noncomputable def gT':Css:=(.cons (.ret (.met .join (.str "") (.cons (.comp (.idx (.str "01") (.call "_law_take" (.cons (.var 0) (.cons (.int 2) .nil)))) [2] (.name 2) (.range1 (.var 1)) .none .nil) .nil)))
  .nil)
def dX':Sp:=fun vs H Q _=>∃(b:Addr) (n N:Nat),vs=[.ref b,.int N]/\H b=some (cK' b n)/\n<=2 ^ 39/\N<=500/\∀(r:List Bool) (H':Hp),r.length=N->Go N H H'->Q (.str (tx r)) H'
theorem km' {C:Rc} (hN:C.N.length=3) (hT:C.fs "_law_take"=some bA'):∀vs H Q E,dX' vs H Q E->tSs C gT' { nx:=fun _ H'=>Q .non H',rt:=Q } (L2.aU' C.N vs) H:=by
 intro vs H Q E h
 obtain⟨b,n,N,rfl,hb,hn,hN5,q⟩:=h
 rw[aA' hN]
 unfold gT'
 walk_at "sy"
 refine⟨rfl,?_⟩
 refine dC' (by omega) (by omega) (j4' (fun i xs H'=>(∃r:List Bool,xs=(r.map fun c=>[c]).map (fun l=>V.str (tx l))/\r.length=i)/\Go i H H') ⟨⟨[],rfl,rfl⟩,Go.refl⟩ ?_ ?_)
 .rintro i xs H1 R hi ⟨⟨r,rfl,hr⟩,g1⟩ hR
  walk_at "sy"
  refine an' hT ?_
  walk_at "sy"
  refine aR' hb g1 (by omega) (by omega) (by omega) fun r2 H2 h20 h21 g12 g2=>?_
  walk_at "sy"
  obtain⟨c0,hc0⟩:∃c0,atI [false,true] r2=some c0:=by
   have:r2=0\/r2=1:=by omega
   rcases this with rfl|rfl
   .exact⟨false,rfl⟩
   .exact⟨true,rfl⟩
  refine ph' (by decide) hc0 ?_
  walk_at "sy"
  exact⟨by simp only[List.length_map];exact aI' (by omega),hR _ _ ⟨⟨r++[c0],by simp,by simp[hr]⟩,g2⟩⟩
 .rintro xs H1 ⟨⟨r,rfl,hr⟩,g1⟩ p hp
  rw[Int.toNat_natCast]at hr g1
  walk_at "sy"
  have ef:(r.map fun c=>[c]).flatten=r:=by
   clear hr hp
   induction r with
   |nil=>rfl
   |cons c r ih=>rw[List.map_cons,List.flatten_cons,ih];rfl
  refine kc' (ls:=r.map fun c=>[c]) (SqL.of aa') (by rw[ef];omega) ?_
  rw[ef]
  exact q r _ hr (g1.upd (g1.free _ hp))
end LW
namespace K42
open PySem PySem.Spec PyProof.Rows L2 R3 LW
noncomputable def cq':List Str:=["_law_script","_law_k"]
noncomputable def bN':List Str:=["len"]
noncomputable def lT':List Str:=["_law_script","_law_k","_law_cell"]
noncomputable def kn':List Str:=["abs","int"]
noncomputable def ko':List Str:=["_law_box_here","_law_many","_law_found","_law_once","_law_twice"]
noncomputable def gU':List Str:=[]
noncomputable def kp':List Str:=["_law_box_here","_law_many","_law_k"]
noncomputable def gV':List Str:=["range"]
noncomputable def en':List Str:=["_law_number","_law_many","_law_k"]
noncomputable def cU':List Str:=["range","str"]
noncomputable def cV':Css:=(.cons (.ret (.met .join (.str "") (.cons (.comp (.blt .str (.cons (.bin .BitAnd (.bin .RShift (.var 0) (.bin .Sub (.bin .Sub (.var 1) (.int 1)) (.var 2))) (.int 1)) .nil)) [2] (.name 2) (.range1 (.var 1)) .none .nil) .nil)))
  .nil)
noncomputable def eo':List Str:=["_law_box_here","_law_p","_law_q","_law_many","_law_way","_law_few","_law_k","_law_rooms","_law_first","_law_step","_law_doors","_law_number","_law_row"]
noncomputable def cW':List Str:=["int","len","range","tuple"]
noncomputable def cX':Css:=(.cons (.asg (.name 1) (.idx (.lst (.cons (.int 1) (.cons (.int 1) (.cons (.int 1) (.cons (.int 2) (.cons (.int 2) (.cons (.int 3) (.cons (.int 1) (.cons (.int 4) .nil))))))))) (.call "_law_take" (.cons (.var 0) (.cons (.int 8) .nil)))))
  (.cons (.asg (.name 2) (.idx (.lst (.cons (.int 1) (.cons (.int 2) (.cons (.int 2) (.cons (.int 3) (.cons (.int 3) (.cons (.int 4) (.cons (.var 1) (.cons (.int 8) .nil))))))))) (.call "_law_take" (.cons (.var 0) (.cons (.int 8) .nil)))))
  (.cons (.asg (.name 3) (.bin .Add (.int 1) (.call "_law_take" (.cons (.var 0) (.cons (.int 4) .nil)))))
  (.cons (.ite (.cmp .Eq (.call "_law_take" (.cons (.var 0) (.cons (.int 8) .nil))) (.int 0)) (.cons (.asg (.name 3) (.bin .Add (.int 7) (.call "_law_take" (.cons (.var 0) (.cons (.int 18) .nil)))))
  .nil) .nil)
  (.cons (.asg (.name 4) (.call "_law_take" (.cons (.var 0) (.cons (.int 4) .nil))))
  (.cons (.ite (.cmp .Lt (.var 2) (.var 1)) (.cons (.asg (.name 4) (.int 0))
  .nil) .nil)
  (.cons (.asg (.name 5) (.comp (.call "_law_bits" (.cons (.var 0) (.cons (.var 2) .nil))) [6] (.name 6) (.range1 (.bin .Add (.int 2) (.call "_law_take" (.cons (.var 0) (.cons (.int 2) .nil))))) .none .nil))
  (.cons (.asg (.name 7) (.lst .nil))
  (.cons (.for_ (.name 6) (.range1 (.var 3)) (.cons (.par 8 9 (.call "_law_take" (.cons (.var 0) (.cons (.bin .LShift (.int 1) (.var 2)) .nil))) (.bin .Add (.int 1) (.bin .Mult (.int 2) (.call "_law_take" (.cons (.var 0) (.cons (.int 4) .nil))))))
  (.cons (.asg (.name 10) (.lst .nil))
  (.cons (.for_ (.name 11) (.range1 (.bin .LShift (.int 1) (.var 1))) (.cons (.asg (.name 12) (.idx (.lst (.cons (.call "_law_bits" (.cons (.var 0) (.cons (.var 2) .nil))) (.cons (.idx (.var 5) (.call "_law_take" (.cons (.var 0) (.cons (.blt .len (.cons (.var 5) .nil)) .nil)))) .nil))) (.blt .int (.cons (.cmp .Eq (.var 4) (.int 1)) .nil))))
  (.cons (.ite (.cmp .Gt (.var 4) (.int 1)) (.cons (.asg (.name 12) (.call "_law_row_by" (.cons (.bin .Mod (.bin .Add (.var 8) (.bin .Mult (.var 9) (.var 11))) (.bin .LShift (.int 1) (.var 2))) (.cons (.var 2) .nil))))
  .nil) .nil)
  (.cons (.expr (.met .append (.var 10) (.cons (.tup (.cons (.var 12) (.cons (.call "_law_take" (.cons (.var 0) (.cons (.var 3) .nil))) .nil))) .nil)))
  .nil))))
  (.cons (.expr (.met .append (.var 7) (.cons (.blt .tuple (.cons (.var 10) .nil)) .nil)))
  .nil)))))
  (.cons (.ret (.tup (.cons (.var 1) (.cons (.var 2) (.cons (.blt .tuple (.cons (.var 7) .nil)) .nil)))))
  .nil))))))))))
open SR BK
noncomputable abbrev Dr:=List Bool×Nat
def DrV (H:Hp) (v:V) (d:Dr):Prop:=∃p,v=.ref p/\H p=some (.tup [.str (tx d.1),.int d.2])
def RmV (H:Hp) (v:V) (R:List Dr):Prop:=∃p ds,v=.ref p/\H p=some (.tup ds)/\cz' (DrV H) ds R
def IsW (H:Hp) (a:Addr) (W:List (List Dr)):Prop:=∃vs,H a=some (.tup vs)/\cz' (RmV H) vs W
theorem DrV.mono {H H':Hp} (t:Tp H H') {v:V} {d:Dr} (h:DrV H v d):DrV H' v d:=let⟨p,e,q⟩:=h;⟨p,e,t _ _ q⟩
theorem RmV.mono {H H':Hp} (t:Tp H H') {v:V} {R:List Dr} (h:RmV H v R):RmV H' v R:=let⟨p,ds,e,q,r⟩:=h;⟨p,ds,e,t _ _ q,r.mono fun _ _=>DrV.mono t⟩
theorem IsW.mono {H H':Hp} (t:Tp H H') {a:Addr} {W:List (List Dr)} (h:IsW H a W):IsW H' a W:=let⟨vs,q,r⟩:=h;⟨vs,t _ _ q,r.mono fun _ _=>RmV.mono t⟩
def OkW (p:Nat) (W:List (List Dr)):Prop:=∀R∈W,R.length=2 ^ p/\∀d∈R,d.1.length<=8/\d.2<W.length
noncomputable def num (l:List Bool):Nat:=l.foldl (fun n b=>n*2+if b then 1 else 0) 0
noncomputable def vr' (W:List (List Dr)) (r i:Nat):Dr:=(((W[r]?).getD [])[i]?).getD ([],0)
noncomputable def wl (W:List (List Dr)):Nat->List (List Bool)->List (List Bool)×Nat
 |r,[]=>([],r)
 |r,b :: bs=>((vr' W r (num b)).1 :: (wl W (vr' W r (num b)).2 bs).1,(wl W (vr' W r (num b)).2 bs).2)
def kq':Sp:=fun vs H Q E=>∃(a:Addr) (W:List (List Dr)) (p r:Nat) (l:List Bool),vs=[.ref a,.int p,.int r,.str (tx l)]/\IsW H a W/\OkW p W/\1<=p/\p<=4/\r<W.length/\l.length<=200/\(∀n t H',l.length=n*p->a1' H H'->H' t=some (.tup [.str (tx (wl W r (bks p l n)).1.flatten),.int (wl W r (bks p l n)).2])->Q (.ref t) H')/\∀H',a1' H H'->l.length % p≠0->E (.str "BadBits" 0) none H'
def du':Sp:=fun vs H Q _=>∃(i:Int) (q:Nat),vs=[.int i,.int q]/\0<=i/\q<=8/\∀(l:List Bool) H',l.length=q->a1' H H'->Q (.str (tx l)) H'
theorem fX' {C:Rc} (hN:C.N.length=3):∀vs H Q E,du' vs H Q E->tSs C cV' { nx:=fun _ H'=>Q .non H',rt:=Q } (L2.aU' C.N vs) H:=by
 intro vs H Q E h
 obtain⟨i0,q0,rfl,hi0,hq0,q⟩:=h
 rw[aA' hN]
 unfold cV'
 walk_at "y"
 refine⟨rfl,?_⟩
 refine dC' (by omega) (by omega) (j4' (fun k xs H'=>(∃l:List Bool,l.length=k/\xs=pz' l)/\H'=H) ⟨⟨[],rfl,rfl⟩,rfl⟩ ?_ ?_)
 .rintro k xs H' R hk ⟨⟨l,hl,rfl⟩,rfl⟩ hR
  walk_at "y"
  refine⟨by omega,⟨Int.ediv_nonneg (by omega) (dF' _),trivial⟩,?_⟩
  refine kl' ?_
  walk_at "y"
  refine⟨by rw[lR'];exact aI' (by omega),hR _ _ ⟨⟨l++[_],by simp[hl],kk'⟩,rfl⟩⟩
 .rintro xs H' ⟨⟨l,hl,rfl⟩,rfl⟩ p3 hp3
  walk_at "y"
  refine lS' (SqL.of aa') (by omega) ?_
  exact q l _ (by omega) (ad' hp3 _)
def vt':Sp:=fun vs H Q E=>∃(a:Addr) (W:List (List Dr)) (p r:Nat) (l:List Bool),vs=[.ref a,.int p,.int r,.str (tx l)]/\IsW H a W/\OkW p W/\1<=p/\p<=4/\r<W.length/\l.length<=200/\l.length % p≠0/\∀H',a1' H H'->Q (.bl true) H'
def pA':Sp:=fun vs H Q E=>∃(a:Addr) (W:List (List Dr)) (p r n:Nat) (l:List Bool),vs=[.ref a,.int p,.int r,.str (tx l)]/\IsW H a W/\OkW p W/\1<=p/\p<=4/\r<W.length/\l.length<=200/\l.length=n*p/\∀H',a1' H H'->Q (.bl true) H'
def inB (a b:Nat) (v:V):Prop:=∃n:Nat,v=.int n/\a<=n/\n<=b
theorem fY' {K:W.Frag} {H:Hp} {Q:VK} {l:Addr} {xs:List V} {r:Int} {P:V->Prop} (h:SqL K H l xs) (h0:0<=r) (h1:r<xs.length) (hP:∀v∈xs,P v) (q:∀v,P v->Q v H):h4' K (.ref l) (.int r) H Q\/iz' K (.ref l) (.int r) H Q:=by
 obtain⟨v,hv,e⟩:=sw' h0 h1
 exact gN' h e (q v (hP v (List.mem_of_getElem? hv)))
def OkD (m:Nat) (R:List Dr):Prop:=∀d∈R,d.1.length<=8/\d.2<m
theorem OkD.snoc {m:Nat} {R:List Dr} {d:Dr} (h:OkD m R) (h1:d.1.length<=8) (h2:d.2<m):OkD m (R++[d]):=fun x hx=>by
 rcases List.mem_append.mp hx with hx|hx
 .exact h x hx
 .cases List.mem_singleton.mp hx
  exact⟨h1,h2⟩
def bD':Sp:=fun vs H Q _=>∃(b:Addr) (n:Nat),vs=[.ref b]/\H b=some (cK' b n)/\n<=2 ^ 38/\∀(t a:Addr) (p q:Nat) (W:List (List Dr)) (H':Hp),Go 6000 H H'->H' t=some (.tup [.int p,.int q,.ref a])->IsW H' a W->OkW p W->1<=p->p<=4->1<=W.length->W.length<=24->Q (.ref t) H'
theorem fZ' {C:Rc} (hN:C.N.length=13) (hT:C.fs "_law_take"=some bA') (hB:C.fs "_law_bits"=some dX') (hR:C.fs "_law_row_by"=some du'):∀vs H Q E,bD' vs H Q E->tSs C cX' { nx:=fun _ H'=>Q .non H',rt:=Q } (L2.aU' C.N vs) H:=by
 intro vs H Q E h
 obtain⟨b,n,rfl,hb,hn,q⟩:=h
 rw[aA' hN]
 unfold cX'
 walk_at "y"
 refine⟨by decide,fun l1 hl1=>?_⟩
 refine an' hT ?_
 walk_at "y"
 refine aR' hb ((Go.refl (c:=0)).upd hl1) (by omega) (by decide) (by decide) fun r1 H1 h10 h11 g1 g01=>?_
 have hl1':=g1.lst (show upd H l1 (.lst _) l1=_ from aa')
 walk_at "y"
 refine fY' (P:=inB 1 4) (SqL.of hl1') h10 (by exact h11) (by
  simp only[List.forall_mem_cons]
  exact⟨⟨1,rfl,by decide,by decide⟩,⟨1,rfl,by decide,by decide⟩,⟨1,rfl,by decide,by decide⟩,⟨2,rfl,by decide,by decide⟩,⟨2,rfl,by decide,by decide⟩,⟨3,rfl,by decide,by decide⟩,⟨1,rfl,by decide,by decide⟩,⟨4,rfl,by decide,by decide⟩,fun _ h=>nomatch h⟩) ?_
 rintro _ ⟨p,rfl,hp1,hp4⟩
 walk_at "y"
 refine⟨by decide,fun l2 hl2=>?_⟩
 refine an' hT ?_
 walk_at "y"
 refine aR' hb (g01.upd (g01.free _ hl2)) (by omega) (by decide) (by decide) fun r2 H2 h20 h21 g2 g02=>?_
 have hl2':=g2.lst (show upd H1 l2 (.lst _) l2=_ from aa')
 walk_at "y"
 refine fY' (P:=inB 1 8) (SqL.of hl2') h20 (by exact h21) (by
  simp only[List.forall_mem_cons]
  exact⟨⟨1,rfl,by decide,by decide⟩,⟨2,rfl,by decide,by decide⟩,⟨2,rfl,by decide,by decide⟩,⟨3,rfl,by decide,by decide⟩,⟨3,rfl,by decide,by decide⟩,⟨4,rfl,by decide,by decide⟩,⟨p,rfl,by omega,by omega⟩,⟨8,rfl,by decide,by decide⟩,fun _ h=>nomatch h⟩) ?_
 rintro _ ⟨z,rfl,hz1,hz8⟩
 walk_at "y"
 refine an' hT ?_
 walk_at "y"
 refine aR' hb g02 (by omega) (by decide) (by decide) fun r3 H3 h30 h31 g3 g03=>?_
 walk_at "y"
 refine an' hT ?_
 generalize hD:na' C _ _=D0
 have key:∀(m:Nat) H4,1<=m->m<=24->Go 5 H H4->D0.nx [some (.ref b),some (.int p),some (.int z),some (.int m),none,none,none,none,none,none,none,none,none] H4:=by
  intro m H4 hm1 hm2 g4
  rw[<- hD]
  walk_at "y"
  refine an' hT ?_
  walk_at "y"
  refine aR' hb g4 (by omega) (by decide) (by decide) fun r5 H5 h50 h51 g5 g05=>?_
  walk_at "y"
  generalize hD2:na' C _ _=D2
  have key2:∀(way:Int),D2.nx [some (.ref b),some (.int p),some (.int z),some (.int m),some (.int way),none,none,none,none,none,none,none,none] H5:=by
   intro way
   rw[<- hD2]
   walk_at "y"
   refine an' hT ?_
   walk_at "y"
   refine aR' hb g05 (by omega) (by decide) (by decide) fun r6 H6 h60 h61 g6 g06=>?_
   walk_at "y"
   refine dC' (by omega) (by omega) (j4' (fun i xs H'=>(∃fs:List (List Bool),xs=fs.map tV/\fs.length=i/\∀x∈fs,x.length<=8)/\Go (7+8*i) H H') ⟨⟨[],rfl,rfl,fun _ h=>nomatch h⟩,g06⟩ ?_ ?_)
   .rintro i xs H7 R hi ⟨⟨fs,rfl,hfs,hf8⟩,g7⟩ hR'
    have hi3:i<3:=by omega
    obtain⟨n7,hb7,hn7,_⟩:=g7.boxed hb (by omega)
    walk_at "y"
    refine an' hB ?_
    walk_at "y"
    refine⟨b,n7,z,rfl,hb7,by omega,by omega,fun r H8 hr g8=>?_⟩
    walk_at "y"
    refine⟨by rw[List.length_map];exact aI' (by omega),hR' _ _ ⟨⟨fs++[r],by rw[List.map_append];rfl,by simp[hfs],fun x hx=>?_⟩,(g7.trans g8).mono (by omega)⟩⟩
    rcases List.mem_append.mp hx with hx|hx
    .exact hf8 x hx
    .cases List.mem_singleton.mp hx
     omega
   rintro xs H7 ⟨⟨fs,rfl,hfs,hf8⟩,g7⟩ f hf
   have hfl:fs.length=2\/fs.length=3:=by omega
   have g8:=(g7.upd (g7.free _ hf) (o:=.lst (fs.map tV))).mono (d:=31) (by omega)
   have hf8':upd H7 f (.lst (fs.map tV)) f=some (.lst (fs.map tV)):=aa'
   generalize upd H7 f (.lst (fs.map tV))=H8 at g8 hf8' ⊢
   walk_at "y"
   refine⟨by decide,fun l hl=>?_⟩
   have hl0:=g8.free _ hl
   have hfl':f≠l:=ag' hf8' hl
   refine dC' (by omega) (by omega) (lB' (fun i σ H'=>(∃x6 x8 x9 x10 x11 x12,σ=[some (.ref b),some (.int p),some (.int z),some (.int m),some (.int way),some (.ref f),x6,some (.ref l),x8,x9,x10,x11,x12])/\Go (31+200*i) H H'/\H' f=some (.lst (fs.map tV))/\∃vs W,H' l=some (.lst vs)/\cz' (RmV H') vs W/\W.length=i/\∀R∈W,R.length=2 ^ p/\OkD m R) ⟨⟨_,_,_,_,_,_,rfl⟩,g8.upd hl0,by rw[ab' hfl'];exact hf8',[],[],aa',trivial,rfl,fun _ h=>nomatch h⟩ ?_ ?_)
   .rintro i σ H9 hi ⟨⟨x6,x8,x9,x10,x11,x12,rfl⟩,g9,hf9,vs,W,hl9,hW9,hWi,hok⟩
    have hi24:i<24:=by omega
    walk_at "y"
    refine an' hT ?_
    walk_at "y"
    refine⟨⟨by omega,by omega,by decide⟩,?_⟩
    rw[dt' (m:=z) rfl]
    have hz2:2 ^ z<=256:=Nat.pow_le_pow_right (n:=2) (j:=8) (by decide) hz8
    have hz0:0<2 ^ z:=Nat.two_pow_pos z
    refine aR' hb g9 (by omega) (by omega) (by omega) fun r10 H10 h100 h101 g10 g010=>?_
    walk_at "y"
    refine an' hT ?_
    walk_at "y"
    refine aR' hb g010 (by omega) (by omega) (by omega) fun r11 H11 h110 h111 g11 g011=>?_
    walk_at "y"
    refine⟨.inl ⟨by omega,by omega⟩,?_⟩
    have hf11:=g11.lst (g10.lst hf9)
    have hl11:=g11.lst (g10.lst hl9)
    have t911:=g10.tp.trans g11.tp
    walk_at "y"
    refine⟨by decide,fun d hd=>?_⟩
    have hd0:=g011.free _ hd
    have hfd:=ag' hf11 hd
    have hld:=ag' hl11 hd
    walk_at "y"
    refine⟨⟨by omega,by omega,by decide⟩,?_⟩
    rw[dt' (m:=p) rfl]
    have hp2:2 ^ p<=16:=Nat.pow_le_pow_right (n:=2) (j:=4) (by decide) hp4
    have hp0:0<2 ^ p:=Nat.two_pow_pos p
    generalize hPP:2 ^ p=P at hp2 hp0 hok ⊢
    refine dC' (by omega) (by omega) (lB' (fun j σ H'=>(∃x11 x12,σ=[some (.ref b),some (.int p),some (.int z),some (.int m),some (.int way),some (.ref f),some (.int (0+i)),some (.ref l),some (.int r10),some (.int (1+2*r11)),some (.ref d),x11,x12])/\Go (33+200*i+10*j) H H'/\Tp H9 H'/\H' f=some (.lst (fs.map tV))/\H' l=some (.lst vs)/\∃ds R,H' d=some (.lst ds)/\cz' (DrV H') ds R/\R.length=j/\OkD m R) ⟨⟨_,_,rfl⟩,(g011.upd hd0).mono (by omega),t911.trans (fi' hd _),by rw[ab' hfd];exact hf11,by rw[ab' hld];exact hl11,[],[],aa',trivial,rfl,fun _ h=>nomatch h⟩ ?_ ?_)
    .rintro j σ H12 hj ⟨⟨x11,x12,rfl⟩,g12,t12,hf12,hl12,ds,R,hd12,hR12,hRj,hokD⟩
     obtain⟨n12,hb12,hn12,_⟩:=g12.boxed hb (by omega)
     walk_at "y"
     refine an' hB ?_
     walk_at "y"
     refine⟨b,n12,z,rfl,hb12,by omega,by omega,fun rw1 H13 hrw1 g13=>?_⟩
     have g013:=g12.trans g13
     have hf13:=g13.lst hf12
     walk_at "y"
     refine an' hT ?_
     walk_at "y"
     refine fV' (SqL.of hf13) ?_
     rw[List.length_map]
     walk_at "y"
     refine aR' hb g013 (by omega) (by omega) (by omega) fun r14 H14 h140 h141 g14 g014=>?_
     have hf14:=g14.lst hf13
     walk_at "y"
     refine fY' (P:=fun v=>∃x,v=tV x/\x.length<=8) (SqL.of hf14) h140 (by rw[List.length_map];exact h141) (fun v hv=>by
      obtain⟨x,hx,rfl⟩:=List.mem_map.mp hv
      exact⟨x,rfl,hf8 x hx⟩) ?_
     rintro _ ⟨rw2,rfl,hrw2⟩
     walk_at "y"
     refine⟨by decide,fun y hy=>?_⟩
     have g15:=g014.upd (g014.free _ hy) (o:=.lst [.str (tx rw1),tV rw2])
     have hy':upd H14 y (.lst [.str (tx rw1),tV rw2]) y=some (.lst [.str (tx rw1),tV rw2]):=aa'
     have s15:=ad' hy (.lst [.str (tx rw1),tV rw2])
     generalize upd H14 y (.lst [.str (tx rw1),tV rw2])=H15 at g15 hy' s15 ⊢
     walk_at "y"
     refine sK' (SqL.of hy') ?_
     obtain⟨rw3,e3,hrw3⟩:∃rw3:List Bool,(if decide (way=1)=true then tV rw2 else V.str (tx rw1))=.str (tx rw3)/\rw3.length<=8:=by
      split
      .exact⟨rw2,rfl,hrw2⟩
      .exact⟨rw1,rfl,by omega⟩
     rw[e3]
     walk_at "y"
     generalize hD3:na' C _ _=D3
     have key3:∀(x:List Bool) H16,x.length<=8->a1' H15 H16->D3.nx [some (.ref b),some (.int p),some (.int z),some (.int m),some (.int way),some (.ref f),some (.int (0+i)),some (.ref l),some (.int r10),some (.int (1+2*r11)),some (.ref d),some (.int (0+j)),some (.str (tx x))] H16:=by
      intro x H16 hx s16
      rw[<- hD3]
      have g16:=g15.trans (Go.of_same (c:=0) s16)
      have hd16:=s16 _ _ (s15 _ _ (g14.lst (g13.lst hd12)))
      walk_at "y"
      refine⟨tyL hd16 rfl,?_⟩
      refine an' hT ?_
      walk_at "y"
      refine aR' hb g16 (by omega) (by omega) (by omega) fun r17 H17 h170 h171 g17 g017=>?_
      walk_at "y"
      refine⟨by decide,fun e he=>?_⟩
      have hd17:=g17.lst hd16
      have hd18:=ad' he (.tup [.str (tx x),.int r17]) _ _ hd17
      have he18:upd H17 e (.tup [.str (tx x),.int r17]) e=some (.tup [.str (tx x),.int r17]):=aa'
      have g18:=g017.upd (g017.free _ he) (o:=.tup [.str (tx x),.int r17])
      have s18:=ad' he (.tup [.str (tx x),.int r17])
      generalize upd H17 e (.tup [.str (tx x),.int r17])=H18 at hd18 he18 g18 s18 ⊢
      have hdd:=hR12.len
      walk_at "y"
      refine ka' hd18 (aI' (by omega)) ?_
      obtain⟨k,rfl⟩:=Int.eq_ofNat_of_zero_le h170
      have tl:Tp H18 (upd H18 d (.lst (ds++[.ref e]))):=nN' hd18 _
      have t1218:Tp H12 H18:=g13.tp.trans (g14.tp.trans ((bj' (s15.trans s16)).trans (g17.tp.trans (bj' s18))))
      have hf18:=s18 _ _ (g17.lst (s16 _ _ (s15 _ _ hf14)))
      have hl18:=s18 _ _ (g17.lst (s16 _ _ (s15 _ _ (g14.lst (g13.lst hl12)))))
      walk_at "y"
      refine⟨⟨_,_,rfl⟩,(g18.upd hd0).mono (by omega),t12.trans (t1218.trans tl),by rw[ab' hfd];exact hf18,by rw[ab' hld];exact hl18,ds++[.ref e],R++[(x,k)],aa',(hR12.mono fun _ _=>DrV.mono (t1218.trans tl)).snoc ⟨e,rfl,tl _ _ he18⟩,by simp[hRj],hokD.snoc hx (by omega)⟩
     refine ds' (fun hq=>?_) fun hq=>?_
     .walk_at "y"
      refine an' hR ?_
      walk_at "y"
      refine⟨.inl ⟨by omega,by omega⟩,⟨by omega,by omega,by decide⟩,?_⟩
      rw[dt' (m:=z) rfl]
      refine⟨by omega,_,z,rfl,Int.emod_nonneg _ (by omega),hz8,fun x H16 hx s16=>?_⟩
      walk_at "y"
      exact key3 x H16 (by omega) s16
     .walk_at "y"
      exact key3 rw3 H15 hrw3 (a1'.refl _)
    .rintro σ H12 ⟨⟨x11,x12,rfl⟩,g12,t12,hf12,hl12,ds,R,hd12,hR12,hRj,hokD⟩
     walk_at "y"
     refine⟨tyL hl12 rfl,?_⟩
     refine j8' (SqL.of hd12) fun u hu=>?_
     have hl13:=ad' hu (.tup ds) _ _ hl12
     have hf13:=ad' hu (.tup ds) _ _ hf12
     have hu13:upd H12 u (.tup ds) u=some (.tup ds):=aa'
     have t13:=fi' hu (.tup ds)
     have g13:=g12.upd (g12.free _ hu) (o:=.tup ds)
     generalize upd H12 u (.tup ds)=H13 at hl13 hf13 hu13 t13 g13 ⊢
     have hvl:=hW9.len
     walk_at "y"
     refine ka' hl13 (aI' (by omega)) ?_
     have tl:Tp H13 (upd H13 l (.lst (vs++[.ref u]))):=nN' hl13 _
     walk_at "y"
     refine⟨⟨_,_,_,_,_,_,rfl⟩,(g13.upd hl0).mono (by omega),by rw[ab' hfl'];exact hf13,vs++[.ref u],W++[R],aa',(hW9.mono fun _ _=>RmV.mono (t12.trans (t13.trans tl))).snoc ⟨u,ds,rfl,tl _ _ hu13,hR12.mono fun _ _=>DrV.mono (t13.trans tl)⟩,by simp[hWi],fun R' hR'=>?_⟩
     rcases List.mem_append.mp hR' with h|h
     .exact hok R' h
     .cases List.mem_singleton.mp h
      exact⟨by omega,hokD⟩
   .rintro σ H9 ⟨⟨x6,x8,x9,x10,x11,x12,rfl⟩,g9,hf9,vs,W,hl9,hW9,hWi,hok⟩
    walk_at "y"
    refine j8' (SqL.of hl9) fun a ha=>?_
    have ta:=fi' ha (.tup vs)
    have ha':upd H9 a (.tup vs) a=some (.tup vs):=aa'
    have g10:=g9.upd (g9.free _ ha) (o:=.tup vs)
    generalize upd H9 a (.tup vs)=H10 at ta ha' g10 ⊢
    walk_at "y"
    refine⟨by decide,fun t ht=>?_⟩
    have hWm:W.length=m:=by omega
    refine q t a p z W _ ((g10.upd (g10.free _ ht)).mono (by omega)) aa' ⟨vs,fi' ht _ _ _ ha',hW9.mono fun _ _=>RmV.mono (ta.trans (fi' ht _))⟩ (fun R hR=>?_) hp1 hp4 (by omega) (by omega)
    obtain⟨k1,k2⟩:=hok R hR
    exact⟨k1,fun d hd=>by rw[hWm];exact k2 d hd⟩
  refine ds' (fun hq=>?_) fun hq=>?_
  .walk_at "y"
   exact key2 0
  .walk_at "y"
   exact key2 r5
 walk_at "y"
 refine aR' hb g03 (by omega) (by decide) (by decide) fun r4 H4 h40 h41 g4 g04=>?_
 walk_at "y"
 refine ds' (fun hq=>?_) fun hq=>?_
 .walk_at "y"
  refine an' hT ?_
  walk_at "y"
  refine aR' hb g04 (by omega) (by decide) (by decide) fun r4' H4' h40' h41' g4' g04'=>?_
  walk_at "y"
  obtain⟨m,rfl⟩:=Int.eq_ofNat_of_zero_le h40'
  exact key (7+m) _ (by omega) (by omega) g04'
 .walk_at "y"
  obtain⟨m,rfl⟩:=Int.eq_ofNat_of_zero_le h30
  exact key (1+m) _ (by omega) (by omega) (g04.mono (by omega))
def kr' (K:W.Frag):Sp:=fun vs H Q _=>∃(a:Addr) (ns:List Int),vs=[.ref a]/\SqL K H a (ns.map V.int)/\ns.length<=63/\∀H',Q (.bl true) H'
structure FsLaw (C:Rc):Prop where
 box:C.fs "_law_box"=some (h0' C.K)
 take:C.fs "_law_take"=some bA'
 bits:C.fs "_law_bits"=some dX'
 writer:C.fs "_law_writer"=some bD'
 written:C.fs "written"=some kq'
 right:C.fs "_law_right"=some pA'
 refused:C.fs "_law_refused"=some vt'
end K42
namespace LW
open PySem PySem.Spec PyProof.Rows L2 R3
noncomputable def ow (f:Nat->Nat):Option Nat->Nat
 |none=>0
 |some m=>f m
noncomputable def oi (ns:List Int):Option Nat->Int
 |none=>0
 |some m=>ns.getD m 0
end LW
namespace WR
open PySem PySem.Spec PyProof.Rows L2 R3 LW SR BK K42
noncomputable def kd (n:Nat) (S:Nat->Bool):List (Key×V):=((List.range n).filter S).map fun i:Nat=>((Key.inl (i:Int):Key),V.bl true)
theorem nO' {C:Rc} {σ:L2.St} {H:Hp} {i j k:Nat} {a b:Addr} {x y z:V} {R:L2.St->Hp->Prop} (h:SqT C.K H a [x,.ref b]) (h2:SqT C.K H b [y,z]) (q:R (((σ.set i (some x)).set j (some y)).set k (some z)) H):tG C (.tup (.cons (.name i) (.cons (.tup (.cons (.name j) (.cons (.name k) .nil))) .nil))) (.ref a) σ H R:=
 ⟨a,[x,.ref b],rfl,.inl h,rfl,_,_,rfl,_,_,rfl,⟨b,[y,z],rfl,.inl h2,rfl,_,_,rfl,_,_,rfl,rfl,rfl,q⟩⟩
end WR
namespace PR
open PySem PySem.Spec PyProof.Rows L2 R3 LW
noncomputable def bv':List Str:=["writer","other","one"]
noncomputable def a5':List Str:=["len","range"]
noncomputable def a6':Css:=(.cons (.ret (.dcz (.tup (.cons (.var 2) (.cons (.var 1) .nil))) (.bl true) [1,2] (.name 1) (.range1 (.blt .len (.cons (.var 0) .nil))) .none [2] (.name 2) (.range1 (.bin .Add (.var 1) (.int 1))) .none))
  .nil)
noncomputable def bb':List Str:=["writer","pair","unlike","at","row","end","number","same","goal"]
noncomputable def aP':List Str:=["enumerate","max","min","sorted"]
noncomputable def aQ':Css:=(.cons (.ret (.ssp (.tup (.cons (.blt .min (.cons (.var 5) (.cons (.var 8) .nil))) (.cons (.blt .max (.cons (.var 5) (.cons (.var 8) .nil))) .nil))) [3,4,5,6,7,8] (.tup (.cons (.name 3) (.cons (.tup (.cons (.name 4) (.cons (.name 5) .nil))) .nil))) (.enum (.idx (.var 0) (.idx (.var 1) (.int 0)))) .none [6,7,8] (.tup (.cons (.name 6) (.cons (.tup (.cons (.name 7) (.cons (.name 8) .nil))) .nil))) (.enum (.idx (.var 0) (.idx (.var 1) (.int 1)))) (.some (.and (.cmp .Eq (.var 4) (.var 7)) (.not (.and (.val (.var 2)) (.cmp .Eq (.var 3) (.var 6))))))))
  .nil)
noncomputable def bO':List Str:=["writer","pair"]
noncomputable def bo':List Str:=[]
noncomputable def bp':Css:=(.cons (.ret (.dcy (.var 1) (.call "pairs_behind" (.cons (.var 0) (.cons (.var 1) (.cons (.bl false) .nil)))) [1] (.name 1) (.dk (.call "room_pairs" (.cons (.var 0) .nil))) .none))
  .nil)
noncomputable def bP':List Str:=["pairs","goals","pair"]
noncomputable def bq':List Str:=[]
noncomputable def br':Css:=(.cons (.for_ (.name 2) (.val (.var 0)) (.cons (.ite (.din false (.var 2) (.var 1)) (.cons (.ret (.bl true))
  .nil) .nil)
  .nil))
  (.cons (.ret (.bl false))
  .nil))
noncomputable def bQ':List Str:=["steps","pairs","pair"]
noncomputable def bs':List Str:=[]
noncomputable def bt':Css:=(.cons (.ret (.dcy (.var 2) (.bl true) [2] (.name 2) (.dk (.var 1)) (.some (.val (.call "leads_to" (.cons (.dix (.var 0) (.var 2)) (.cons (.var 1) .nil)))))))
  .nil)
open SR K42 WR
noncomputable def pk (q:Nat×Nat):List Key:=[.inl (q.1:Int),.inl (q.2:Int)]
noncomputable def rp (n:Nat):List (Nat×Nat):=(List.range n).flatMap fun o=>(List.range (o+1)).map fun e=>(e,o)
theorem cI' {n:Nat} {q:Nat×Nat}:q∈rp n↔q.1<=q.2/\q.2<n:=by
 unfold rp
 simp only[List.mem_flatMap,List.mem_range,List.mem_map]
 constructor
 .rintro⟨o,ho,e,he,rfl⟩
  exact⟨by show e<=o;omega,ho⟩
 .rintro⟨h1,h2⟩
  exact⟨q.2,h2,q.1,by omega,rfl⟩
theorem dY' {q q':Nat×Nat} (h:pk q=pk q'):q=q':=by
 unfold pk at h
 injection h with h1 h2
 injection h2 with h2 _
 injection h1 with h1
 injection h2 with h2
 obtain⟨a,b⟩:=q
 obtain⟨c,d⟩:=q'
 simp only at h1 h2
 rw[show a=c by omega,show b=d by omega]
theorem f0' {n:Nat}:rp (n+1)=rp n++(List.range (n+1)).map fun e=>(e,n):=by
 unfold rp
 conv=>lhs;rw[List.range_succ]
 rw[List.flatMap_append,List.flatMap_singleton]
noncomputable def dP (qs:List (Nat×Nat)) (v:Nat×Nat->V):List (List Key×V):=qs.map fun q=>(pk q,v q)
def nP':Sp:=fun vs H Q _=>∃(a:Addr) (W:List (List Dr)),vs=[.ref a]/\IsW H a W/\W.length<=30/\∀(p:Addr) (H':Hp),H p=none->a1' H H'->H' p=some (.dT (dP (rp W.length) fun _=>.bl true))->Q (.ref p) H'
theorem fj' {n:Nat} (h:n<=30):(rp n).length<=930:=by
 have:∀n,(rp n).length<=n*(n+1):=fun n=>by
  induction n with
  |zero=>exact Nat.le_refl _
  |succ n ih=>
   rw[f0',List.length_append,List.length_map,List.length_range]
   have e:(n+1)*(n+1+1)=n*(n+1)+2*(n+1):=by rw[Nat.mul_comm n (n+1),Nat.mul_add (n+1) (n+1) 1,Nat.mul_add (n+1) n 1];omega
   omega
 exact Nat.le_trans (this n) (Nat.mul_le_mul h (show n+1<=31 by omega))
def Ld (H:Hp) (qs:List (Nat×Nat)) (v:Nat×Nat->V) (a:KTL):Prop:=plT a=dP qs v/\okT a H
theorem Ld.mono {H H':Hp} (s:a1' H H') {qs:List (Nat×Nat)} {v:Nat×Nat->V} {a:KTL} (h:Ld H qs v a):Ld H' qs v a:=⟨h.1,fun x hx=>s _ _ (h.2 x hx)⟩
theorem Ld.keys {H:Hp} {qs:List (Nat×Nat)} {v:Nat×Nat->V} {a:KTL} (h:Ld H qs v a) {x:List Key×Addr×V} (hx:x∈a):∃q∈qs,x.1=pk q:=by
 have:(x.1,x.2.2)∈dP qs v:=by rw[<- h.1];exact List.mem_map.mpr ⟨x,hx,rfl⟩
 obtain⟨q,hq,e⟩:=List.mem_map.mp this
 exact⟨q,hq,by injection e with e _;exact e.symm⟩
theorem Ld.len {H:Hp} {qs:List (Nat×Nat)} {v:Nat×Nat->V} {a:KTL} (h:Ld H qs v a):a.length=qs.length:=by
 have:=congrArg List.length h.1
 unfold plT dP at this
 rwa [List.length_map,List.length_map]at this
theorem Ld.snoc {H:Hp} {qs:List (Nat×Nat)} {v:Nat×Nat->V} {a:KTL} (h:Ld H qs v a) {q:Nat×Nat} {b:Addr} (hb:H b=some (.tup ((pk q).map L2.kV))):Ld H (qs++[q]) v (a++[(pk q,b,v q)]):=by
 refine⟨?_,fun x hx=>?_⟩
 .show plT _=dP _ _
  unfold plT dP
  rw[List.map_append,List.map_append]
  have:=h.1
  unfold plT dP at this
  rw[this]
  rfl
 .rcases List.mem_append.mp hx with hx|hx
  .exact h.2 x hx
  .rw[List.mem_singleton.mp hx];exact hb
theorem pB' {C:Rc} (hN:C.N.length=3):∀vs H Q E,nP' vs H Q E->tSs C a6' { nx:=fun _ H'=>Q .non H',rt:=Q } (L2.aU' C.N vs) H:=by
 intro vs H Q E h
 obtain⟨a,W,rfl,hW,h30,q⟩:=h
 rw[aA' hN]
 unfold a6'
 obtain⟨wv,hwv,hwr⟩:=id hW
 have hwl:=hwr.len
 walk_at "y"
 refine j5' (SqT.of hwv) ?_
 rw[hwl]
 walk_at "y"
 refine dC' (by omega) (by omega) (vn' (n:=((W.length:Nat):Int).toNat) (fun o b H'=>o<=W.length/\Ld H' (rp o) (fun _=>.bl true) b/\a1' H H') ⟨Nat.zero_le _,⟨rfl,fun x hx=>absurd hx List.not_mem_nil⟩,a1'.refl _⟩ ?_ ?_)
 .rintro o b H1 R ho ⟨_,hb,s1⟩ hR
  have ho:o<W.length:=by omega
  rw[show(0:Int)+(o:Int)=((o:Nat):Int) by omega]
  walk_at "y"
  refine dC' (by omega) (by omega) (vn' (n:=(((o:Nat):Int)+1).toNat) (fun e b H'=>e<=o+1/\Ld H' (rp o++(List.range e).map fun e=>(e,o)) (fun _=>.bl true) b/\a1' H H') ⟨Nat.zero_le _,by simpa using hb,s1⟩ ?_ ?_)
  .rintro e b2 H2 R2 he ⟨_,hb2,s2⟩ hR2
   have he:e<o+1:=by omega
   rw[show(0:Int)+(e:Int)=((e:Nat):Int) by omega]
   walk_at "y"
   refine⟨show 2<=sizeLine by decide,fun p hp=>?_⟩
   have s3:=ad' hp (.tup [.int e,.int o])
   have h3:upd H2 p (.tup [.int e,.int o]) p=some (.tup ((pk (e,o)).map L2.kV)):=aa'
   generalize upd H2 p (.tup [.int e,.int o])=H3 at s3 h3 ⊢
   walk_at "y"
   have hl:(rp o++(List.range e).map fun e=>(e,o)).length<=1000:=by
    rw[List.length_append,List.length_map,List.length_range]
    have:=fj' (n:=o) (by omega)
    omega
   refine⟨pk (e,o),p,rfl,h3,(hb2.mono s3).2,fun x hx z=>?_,by rw[hb2.len];exact aI' hl,hR2 _ _ ⟨he,?_,s2.trans s3⟩⟩
   .obtain⟨q',hq',e'⟩:=hb2.keys hx
    have eq:=dY' (e'.symm.trans z)
    subst eq
    rcases List.mem_append.mp hq' with hq'|hq'
    .have:=(cI'.mp hq').2
     exact absurd this (Nat.lt_irrefl _)
    .obtain⟨e2,he2,z2⟩:=List.mem_map.mp hq'
     injection z2 with z2 _
     have:=List.mem_range.mp he2
     omega
   .have:=(hb2.mono s3).snoc (q:=(e,o)) h3
    rw[List.range_succ,List.map_append,<- List.append_assoc]
    exact this
  .rintro b2 H2 ⟨_,hb2,s2⟩
   refine hR _ _ ⟨ho,?_,s2⟩
   rw[show(((o:Nat):Int)+1).toNat=o+1 by omega]at hb2
   rw[f0']
   exact hb2
 .rintro b H1 ⟨_,hb,s1⟩
  rw[Int.toNat_natCast]at hb
  refine⟨hb.2,fun p hp=>?_⟩
  rw[hb.1]
  exact q p _ (s1.free hp) (s1.trans (ad' hp _)) aa'
noncomputable def kk (a b:Nat):List Int:=[((min a b:Nat):Int),((max a b:Nat):Int)]
def Pt (R S:List Dr) (u:Bool) (i j:Nat) (k:List Int):Prop:=∃d e,R[i]?=some d/\S[j]?=some e/\d.1=e.1/\¬(u=true/\i=j)/\k=kk d.2 e.2
def Bh (W:List (List Dr)) (x y:Nat) (u:Bool) (k:List Int):Prop:=∃i j,Pt (W.getD x []) (W.getD y []) u i j k
def nQ':Sp:=fun vs H Q _=>∃(a pr:Addr) (W:List (List Dr)) (p x y:Nat) (u:Bool),vs=[.ref a,.ref pr,.bl u]/\IsW H a W/\OkW p W/\p<=4/\W.length<=30/\H pr=some (.tup [.int x,.int y])/\x<W.length/\y<W.length/\
 ∀(l:Addr) (L:List (List Int×Addr)) (H':Hp),H l=none->a1' H H'->H' l=some (.lst (L.map fun q=>V.ref q.2))->Trk H' L->(∀k,k∈L.map (·.1)↔Bh W x y u k)->L.length<=256->Q (.ref l) H'
theorem bE' {H H':Hp} (s:a1' H H') {L:List (List Int×Addr)} (h:Trk H L):Trk H' L:=fun q hq=>s _ _ (h q hq)
theorem lU' {b:List (List Int×Addr)} {k k':List Int} {p:Addr}:k'∈(jk' b k p).map (·.1)↔k'∈b.map (·.1)\/k'=k:=by
 unfold jk'
 by_cases h:k∈b.map (·.1)
 .rw[if_pos h]
  exact⟨.inl,fun z=>z.elim id fun z=>z ▸ h⟩
 .rw[if_neg h,List.map_append,List.mem_append]
  simp
theorem lV' {H:Hp} {b:List (List Int×Addr)} {k:List Int} {p:Addr} (h:Trk H b) (hp:H p=some (.tup (k.map V.int))):Trk H (jk' b k p):=by
 unfold jk'
 by_cases z:k∈b.map (·.1)
 .rw[if_pos z];exact h
 .rw[if_neg z]
  intro q hq
  rcases List.mem_append.mp hq with hq|hq
  .exact h q hq
  .rw[List.mem_singleton.mp hq];exact hp
theorem lW' {b:List (List Int×Addr)} {k:List Int} {p:Addr}:(jk' b k p).length<=b.length+1:=by
 unfold jk'
 split
 .omega
 .rw[List.length_append];exact Nat.le_refl _
theorem ks' {a b:List Bool}:decide (tx a=tx b)=decide (a=b):=decide_eq_decide.mpr ⟨ss',fun z=>by rw[z]⟩
theorem eq' {H:Hp} {a:Addr} {W:List (List Dr)} (h:IsW H a W) {x:Nat} (hx:x<W.length):∃vs q ds,H a=some (.tup vs)/\atI vs (x:Int)=some (.ref q)/\H q=some (.tup ds)/\cz' (DrV H) ds (W.getD x []):=by
 obtain⟨vs,h1,h2⟩:=h
 have e:W[x]?=some (W.getD x []):=by rw[List.getD_eq_getElem?_getD,List.getElem?_eq_getElem hx];rfl
 obtain⟨v,ev,q,ds,rfl,hq,hd⟩:=h2.get e
 exact⟨vs,q,ds,h1,fu' ev,hq,hd⟩
theorem pC' {C:Rc} (hN:C.N.length=9):∀vs H Q E,nQ' vs H Q E->tSs C aQ' { nx:=fun _ H'=>Q .non H',rt:=Q } (L2.aU' C.N vs) H:=by
 intro vs H Q E h
 obtain⟨a,pr,W,p,x,y,u,rfl,hW,okW,hp4,h30,hpr,hx,hy,q⟩:=h
 rw[aA' hN]
 unfold aQ'
 obtain⟨vs,q1,ds,ha,e1,hq1,hd1⟩:=eq' hW hx
 obtain⟨vs',q2,es,ha',e2,hq2,hd2⟩:=eq' hW hy
 cases ha.symm.trans ha'
 have hR:(W.getD x []).length=2 ^ p:=(okW _ (by rw[List.getD_eq_getElem?_getD,List.getElem?_eq_getElem hx];exact List.getElem_mem hx)).1
 have hS:(W.getD y []).length=2 ^ p:=(okW _ (by rw[List.getD_eq_getElem?_getD,List.getElem?_eq_getElem hy];exact List.getElem_mem hy)).1
 have h16:2 ^ p<=16:=Nat.pow_le_pow_right (by decide) hp4
 generalize hRR:W.getD x []=R at hd1 hR
 generalize hSS:W.getD y []=S at hd2 hS
 have dl:=hd1.len
 have el:=hd2.len
 walk_at "y"
 refine aT' (SqT.of hpr) rfl ?_
 walk_at "y"
 refine aT' (SqT.of ha) e1 ?_
 walk_at "y"
 refine jZ' (SqT.of hq1) (sU' (vs:=ds) (fun i b H'=>i<=ds.length/\a1' H H'/\Trk H' b/\b.length<=i*16/\∀k,k∈b.map (·.1)↔∃i' j,i'<i/\Pt R S u i' j k) ⟨Nat.zero_le _,a1'.refl _,fun q hq=>absurd hq List.not_mem_nil,Nat.zero_le _,fun k=>⟨fun z=>absurd z List.not_mem_nil,fun⟨_,_,z,_⟩=>absurd z (Nat.not_lt_zero _)⟩⟩ (fun i b H' pv=>SqT.of (pv.2.1 _ _ hq1)) ?_ ?_)
 .rintro i b H1 v t Rk hv ht ⟨_,s1,htr,hbl,hmem⟩ hRk
  obtain⟨d,hd,dv,rfl,hdv⟩:=hd1.getL hv
  have hi:=at' hv
  have s2:=s1.trans (ad' ht (.tup [.int i,.ref dv]))
  have htr2:=bE' (ad' ht (.tup [.int i,.ref dv])) htr
  refine nO' (b:=dv) (SqT.of aa') (SqT.of (ad' ht _ _ _ (s1 _ _ hdv))) ?_
  generalize upd H1 t (.tup [.int i,.ref dv])=H2 at s2 htr2 ⊢
  walk_at "y"
  refine aT' (SqT.of (s2 _ _ hpr)) rfl ?_
  walk_at "y"
  refine aT' (SqT.of (s2 _ _ ha)) e2 ?_
  walk_at "y"
  refine jZ' (SqT.of (s2 _ _ hq2)) (sU' (vs:=es) (fun j b H'=>j<=es.length/\a1' H H'/\Trk H' b/\b.length<=i*16+j/\∀k,k∈b.map (·.1)↔(∃i' j',i'<i/\Pt R S u i' j' k)\/∃j',j'<j/\Pt R S u i j' k) ⟨Nat.zero_le _,s2,htr2,hbl,fun k=>by rw[hmem];exact⟨.inl,fun z=>z.elim id fun⟨_,z,_⟩=>absurd z (Nat.not_lt_zero _)⟩⟩ (fun i b H' pv=>SqT.of (pv.2.1 _ _ hq2)) ?_ ?_)
  .rintro j b2 H3 v2 t2 R2 hv2 ht2 ⟨_,s3,htr3,hbl3,hmem3⟩ hR2
   obtain⟨e,he,ev,rfl,hev⟩:=hd2.getL hv2
   have hj:=at' hv2
   have s4:=s3.trans (ad' ht2 (.tup [.int j,.ref ev]))
   have htr4:=bE' (ad' ht2 (.tup [.int j,.ref ev])) htr3
   refine nO' (b:=ev) (SqT.of aa') (SqT.of (ad' ht2 _ _ _ (s3 _ _ hev))) ?_
   generalize upd H3 t2 (.tup [.int j,.ref ev])=H4 at s4 htr4 ⊢
   have hPt:∀k,Pt R S u i j k↔d.1=e.1/\¬(u=true/\i=j)/\k=kk d.2 e.2:=fun k=>⟨fun⟨d',e',z1,z2,z3,z4,z5⟩=>by
    rw[hd]at z1
    rw[he]at z2
    cases z1
    cases z2
    exact⟨z3,z4,z5⟩,fun⟨z1,z2,z3⟩=>⟨d,e,hd,he,z1,z2,z3⟩⟩
   have fin:∀(b3:List (List Int×Addr)) (H5:Hp),a1' H H5->Trk H5 b3->b3.length<=i*16+j+1->(∀k,k∈b3.map (·.1)↔k∈b2.map (·.1)\/Pt R S u i j k)->R2 b3 H5:=fun b3 H5 s5 t5 l5 m5=>hR2 b3 H5 ⟨hj,s5,t5,l5,fun k=>by
    rw[m5,hmem3]
    constructor
    .rintro((z|⟨j',z1,z2⟩)|z)
     .exact .inl z
     .exact .inr ⟨j',by omega,z2⟩
     .exact .inr ⟨j,by omega,z⟩
    .rintro(z|⟨j',z1,z2⟩)
     .exact .inl (.inl z)
     .by_cases zj:j'=j
      .subst zj;exact .inr z2
      .exact .inl (.inr ⟨j',by omega,z2⟩)⟩
   have no:¬(d.1=e.1/\¬(u=true/\i=j))->R2 b2 H4:=fun hn=>fin b2 H4 s4 htr4 (by omega) fun k=>⟨.inl,fun z=>z.elim id fun z=>absurd ((hPt k).mp z) fun⟨z1,z2,_⟩=>hn ⟨z1,z2⟩⟩
   have kkv:∀(m M:Int),m=((min d.2 e.2:Nat):Int)->M=((max d.2 e.2:Nat):Int)->[V.int m,V.int M]=(kk d.2 e.2).map V.int:=fun m M h1 h2=>by rw[h1,h2];rfl
   have yes:∀t,H4 t=none->(d.1=e.1/\¬(u=true/\i=j))->R2 (jk' b2 (kk d.2 e.2) t) (upd H4 t (.tup ((kk d.2 e.2).map V.int))):=fun t ht hc=>fin _ _ (s4.trans (ad' ht _)) (lV' (bE' (ad' ht _) htr4) aa') (Nat.le_trans lW' (by omega)) fun k=>by
    rw[lU',hPt]
    exact⟨fun z=>z.imp id fun z=>⟨hc.1,hc.2,z⟩,fun z=>z.imp id fun z=>z.2.2⟩
   have b256:b2.length<4000:=by have:=Nat.mul_le_mul_right 16 (show i<=16 by omega);omega
   have emit:(d.1=e.1/\¬(u=true/\i=j))->2<=sizeLine/\∀(t:Addr),H4 t=none->sY' b2 R2 (V.ref t) (upd H4 t (HO.tup [V.int (if(e.2:Int)<(d.2:Int)then(e.2:Int)else(d.2:Int)),V.int (if(e.2:Int) > (d.2:Int)then(e.2:Int)else(d.2:Int))])):=fun hc=>by
    refine⟨show 2<=sizeLine by decide,fun t ht=>?_⟩
    rw[kkv _ _ (by split<;>omega) (by split<;>omega)]
    exact⟨kk d.2 e.2,t,rfl,aa',bE' (ad' ht _) htr4,b256,yes t ht hc⟩
   walk_at "y"
   rw[ks']
   by_cases hde:d.1=e.1
   .rw[decide_eq_true hde]
    cases u with
    |false=>
     walk_at "y"
     exact emit ⟨hde,fun z=>by cases z.1⟩
    |true=>
     walk_at "y"
     by_cases hij:i=j
     .rw[decide_eq_true (show(i:Int)=(j:Int) by omega)]
      walk_at "y"
      exact no fun z=>z.2 ⟨rfl,hij⟩
     .rw[decide_eq_false (show ¬(i:Int)=(j:Int) by omega)]
      walk_at "y"
      exact emit ⟨hde,fun z=>hij z.2⟩
   .rw[decide_eq_false hde]
    walk_at "y"
    exact no fun z=>hde z.1
  .rintro b2 H3 ⟨_,s3,htr3,hbl3,hmem3⟩
   refine hRk _ _ ⟨hi,s3,htr3,by rw[Nat.add_mul,Nat.one_mul];omega,fun k=>?_⟩
   rw[hmem3]
   constructor
   .rintro(⟨i',j',z1,z2⟩|⟨j',z1,z2⟩)
    .exact⟨i',j',by omega,z2⟩
    .exact⟨i,j',by omega,z2⟩
   .rintro⟨i',j',z1,z2⟩
    by_cases zi:i'=i
    .subst zi
     obtain⟨_,e',_,z4,_⟩:=id z2
     exact .inr ⟨j',by rw[el];exact at' z4,z2⟩
    .exact .inl ⟨i',j',by omega,z2⟩
 .rintro b H1 ⟨_,s1,htr,hbl,hmem⟩
  refine s0' htr ⟨1,fun q hq=>?_⟩ fun l qs hl hp hup=>?_
  .obtain⟨_,_,_,d,e,_,_,_,_,z⟩:=(hmem q.1).mp (List.mem_map.mpr ⟨q,hq,rfl⟩)
   rw[z]
   rfl
  .refine q l qs _ (s1.free hl) (s1.trans (ad' hl _)) aa' (fun q' hq'=>ad' hl _ _ _ (htr q' (hp.mem_iff.mp hq'))) (fun k=>?_) (by rw[hp.length_eq];have:=Nat.mul_le_mul_right 16 (show ds.length<=16 by omega);omega)
   rw[(hp.map (·.1)).mem_iff,hmem]
   unfold Bh
   rw[hRR,hSS]
   constructor
   .rintro⟨i,j,_,z⟩
    exact⟨i,j,z⟩
   .rintro⟨i,j,z⟩
    obtain⟨d,e,z1,_⟩:=id z
    exact⟨i,j,by rw[dl];exact at' z1,z⟩
noncomputable def kL (k:List Int):List Key:=k.map Key.inl
theorem wU' {k:List Int}:(kL k).map L2.kV=k.map V.int:=by
 unfold kL
 rw[List.map_map]
 rfl
noncomputable def kD' (kvs:List (List Key×V)) (k:List Int):Bool:=(fy' kvs (kL k)).isSome
def nR':Sp:=fun vs H Q _=>∃(l g:Addr) (L:List (List Int×Addr)) (kvs:List (List Key×V)),vs=[.ref l,.ref g]/\H l=some (.lst (L.map fun q=>V.ref q.2))/\Trk H L/\Rd H g (.dT kvs)/\Q (.bl (L.any fun q=>kD' kvs q.1)) H
theorem pD' {C:Rc} (hN:C.N.length=3):∀vs H Q E,nR' vs H Q E->tSs C br' { nx:=fun _ H'=>Q .non H',rt:=Q } (L2.aU' C.N vs) H:=by
 intro vs H Q E h
 obtain⟨l,g,L,kvs,rfl,hl,ht,hg,q⟩:=h
 rw[aA' hN]
 unfold br'
 walk_at "y"
 refine cn' (SqL.of hl) (sB' (xs:=L.map fun q=>V.ref q.2) (fun i σ H'=>(∃x2,σ=[some (.ref l),some (.ref g),x2])/\H'=H/\(L.take i).any (fun q=>kD' kvs q.1)=false) ⟨⟨_,rfl⟩,rfl,rfl⟩ (fun i σ H' _ pv=>SqL.of (by rw[pv.2.1];exact hl)) ?_ ?_)
 .rintro i v σ H' hv ⟨⟨x2,rfl⟩,rfl,hno⟩
  rw[List.getElem?_map]at hv
  obtain⟨p,hp,rfl⟩:=Option.map_eq_some_iff.mp hv
  have hpm:=List.mem_of_getElem? hp
  walk_at "y"
  refine s4' (o:=fy' kvs (kL p.1)) (.inr ⟨kvs,kL p.1,p.2,hg,rfl,by rw[wU'];exact ht p hpm,rfl⟩) ?_
  rw[show(if false=true then !(fy' kvs (kL p.1)).isSome else(fy' kvs (kL p.1)).isSome)=kD' kvs p.1 from rfl]
  cases hk:kD' kvs p.1 with
  |true=>
   walk_at "y"
   have e:(L.any fun q=>kD' kvs q.1)=true:=List.any_eq_true.mpr ⟨p,hpm,hk⟩
   rw[e]at q
   exact q
  |false=>
   walk_at "y"
   refine⟨⟨_,rfl⟩,trivial,?_⟩
   rw[List.take_succ,hp,List.any_append,hno]
   simp[hk]
 .rintro σ H' ⟨⟨x2,rfl⟩,rfl,hno⟩
  rw[List.length_map,List.take_length]at hno
  rw[hno]at q
  walk_at "y"
  exact q
def nD (u:HO):Prop:=(∀kvs,u≠.dT kvs)/\∀o kvs,u≠.frz o (.dT kvs)
def SmD (H H':Hp):Prop:=(∀a u,H a=some u->nD u->H' a=some u)/\∀a kvs,Rd H a (.dT kvs)->Rd H' a (.dT kvs)
theorem SmD.of {H H':Hp} (s:a1' H H'):SmD H H':=⟨fun a u e _=>s a u e,fun a kvs e=>e.imp (s a _) fun⟨o,z⟩=>⟨o,s a _ z⟩⟩
theorem SmD.rd {H H':Hp} (s:SmD H H') {a:Addr} {kvs:List (List Key×V)} (h:Rd H a (.dT kvs)):Rd H' a (.dT kvs):=s.2 a kvs h
theorem SmD.trans {H H' H'':Hp} (s:SmD H H') (t:SmD H' H''):SmD H H'':=⟨fun a u e n=>t.1 a u (s.1 a u e n) n,fun a kvs e=>t.rd (s.2 a kvs e)⟩
theorem tb' {xs:List V}:nD (.lst xs):=⟨fun _ z=>(nomatch z),fun _ _ z=>(nomatch z)⟩
theorem tc' {xs:List V}:nD (.tup xs):=⟨fun _ z=>(nomatch z),fun _ _ z=>(nomatch z)⟩
theorem SmD.lst {H H':Hp} (s:SmD H H') {a:Addr} {xs:List V} (h:H a=some (.lst xs)):H' a=some (.lst xs):=s.1 a _ h tb'
theorem SmD.tup {H H':Hp} (s:SmD H H') {a:Addr} {xs:List V} (h:H a=some (.tup xs)):H' a=some (.tup xs):=s.1 a _ h tc'
theorem SmD.free {H H':Hp} (s:SmD H H') {a:Addr} (h:H' a=none):H a=none:=by
 cases e:H a with
 |none=>rfl
 |some u=>
  by_cases z:∃kvs,Rd H a (.dT kvs)
  .obtain⟨kvs,z⟩:=z
   rcases s.2 a kvs z with z|⟨o,z⟩<;>rw[h]at z<;>cases z
  .have:=s.1 a u e ⟨fun kvs hz=>z ⟨kvs,.inl (by rw[e,hz])⟩,fun o kvs hz=>z ⟨kvs,.inr ⟨o,by rw[e,hz]⟩⟩⟩
   rw[h]at this
   cases this
theorem SmD.trk {H H':Hp} (s:SmD H H') {L:List (List Int×Addr)} (h:Trk H L):Trk H' L:=fun q hq=>s.tup (h q hq)
theorem SmD.frz {H:Hp} {a:Addr} {kvs:List (List Key×V)} (h:Rd H a (.dT kvs)) (o:Obj):SmD H (upd H a (.frz o (.dT kvs))):=by
 refine⟨fun b u e n=>?_,fun b kvs' e=>?_⟩
 .by_cases z:b=a
  .subst z
   rcases h with h|⟨o',h⟩
   .rw[h]at e;cases e;exact absurd rfl (n.1 kvs)
   .rw[h]at e;cases e;exact absurd rfl (n.2 o' kvs)
  .rw[ab' z];exact e
 .by_cases z:b=a
  .subst z
   have:kvs'=kvs:=by
    rcases h with h|⟨o1,h⟩<;>rcases e with e|⟨o2,e⟩<;>rw[h]at e<;>cases e<;>rfl
   subst this
   exact .inr ⟨o,aa'⟩
  .exact e.imp (fun e=>by rw[ab' z];exact e) fun⟨o2,e⟩=>⟨o2,by rw[ab' z];exact e⟩
theorem SmD.isW {H H':Hp} (s:SmD H H') {a:Addr} {W:List (List Dr)} (h:IsW H a W):IsW H' a W:=by
 obtain⟨vs,h1,h2⟩:=h
 refine⟨vs,s.tup h1,h2.mono fun v R hv=>?_⟩
 obtain⟨p,ds,e,hp,hd⟩:=hv
 exact⟨p,ds,e,s.tup hp,hd.mono fun v d hv=>let⟨q,e,z⟩:=hv;⟨q,e,s.tup z⟩⟩
theorem td' {C:Rc} {σ:L2.St} {H:Hp} {α:Type} {own:List Nat} {g:TG} {tc:TT} {au':TL α} {b0:α} {N:α->Hp->Prop} {d:Addr} {o:Obj} {ks:List V} (Pv:Nat->α->Hp->Prop) (h0:Pv 0 b0 H) (hl:∀i b H,Pv i b H->Fz H d o)
  (hs:∀i b H x (R:α->Hp->Prop),ks[i]?=some x->Pv i b H->(∀c H2,Pv (i+1) c H2->R c H2)->g x (clr own σ) H (fW' tc au' b R)) (hd:∀b H,Pv ks.length b H->N b H):kCl own g tc au' σ b0 N (p0' d o ks) H:=
 lH' (n:=ks.length) Pv h0 (fun i xs H hi p=>⟨hi,hl i xs H p⟩) (fun xs H p=>⟨Nat.le_refl _,hl _ xs H p⟩) (fun i xs H x H' R hi p y k=>by
  obtain⟨e,y⟩:=y
  subst e
  exact hs i xs H' x R y p k) hd
def StV (W:List (List Dr)) (u:Bool) (H:Hp) (x:Nat×Nat) (v:V):Prop:=∃(l:Addr) (L:List (List Int×Addr)),v=.ref l/\H l=some (.lst (L.map fun q=>V.ref q.2))/\Trk H L/\(∀k,k∈L.map (·.1)↔Bh W x.1 x.2 u k)/\L.length<=256
theorem StV.mono {W:List (List Dr)} {u:Bool} {H H':Hp} (s:SmD H H') {x:Nat×Nat} {v:V} (h:StV W u H x v):StV W u H' x v:=let⟨l,L,e,h1,h2,r⟩:=h;⟨l,L,e,s.lst h1,s.trk h2,r⟩
def te' (u:Bool):Sp:=fun vs H Q _=>∃(a:Addr) (W:List (List Dr)) (p:Nat),vs=[.ref a]/\IsW H a W/\OkW p W/\p<=4/\W.length<=30/\∀(d:Addr) (v:Nat×Nat->V) (H':Hp),H d=none->a1' H H'->H' d=some (.dT (dP (rp W.length) v))->(∀x∈rp W.length,StV W u H' x (v x))->Q (.ref d) H'
theorem tf' {n:Nat} {qs:List (Nat×Nat)} (hq:qs=rp n) {i:Nat} {x:Nat×Nat} (h:qs[i]?=some x):x.1<n/\x.2<n:=by
 have:=cI'.mp (hq ▸ List.mem_of_getElem? h)
 omega
theorem er':∀{n:Nat},(rp n).Nodup
 |0=>List.nodup_nil
 |n+1=>by
  rw[f0',List.nodup_append]
  refine⟨er',?_,fun a ha b hb e=>?_⟩
  .rw[List.Nodup,List.pairwise_map]
   exact List.pairwise_lt_range.imp fun {a b} h e=>by injection e with e;omega
  .obtain⟨c,_,rfl⟩:=List.mem_map.mp hb
   rw[e]at ha
   exact absurd (cI'.mp ha).2 (Nat.lt_irrefl _)
theorem kt' {α:Type} {qs:List α} (h:qs.Nodup) {i:Nat} {x:α} (hx:qs[i]?=some x):x∉qs.take i:=fun hm=>by
 obtain⟨j,hj,e⟩:=List.mem_iff_getElem.mp hm
 rw[List.length_take]at hj
 rw[List.getElem_take]at e
 have hi:=at' hx
 have hne:=List.pairwise_iff_getElem.mp h j i (by omega) hi (by omega)
 rw[List.getElem?_eq_getElem hi]at hx
 injection hx with hx
 exact hne (e.trans hx.symm)
theorem pE' {C:Rc} (hN:C.N.length=2) (hR:C.fs "room_pairs"=some nP') (hP:C.fs "pairs_behind"=some nQ'):∀vs H Q E,te' false vs H Q E->tSs C bp' { nx:=fun _ H'=>Q .non H',rt:=Q } (L2.aU' C.N vs) H:=by
 intro vs H Q E h
 obtain⟨a,W,p,rfl,hW,okW,hp4,h30,q⟩:=h
 rw[aA' hN]
 unfold bp'
 walk_at "y"
 refine an' hR ?_
 walk_at "y"
 refine⟨a,W,rfl,hW,h30,fun d H1 hd s1 hd1=>?_⟩
 refine sS' (Rd.of hd1) fun o as hal has=>?_
 have hal2:as.length=(rp W.length).length:=by rw[hal];unfold dP;rw[List.length_map]
 generalize hqs:rp W.length=qs at *
 have hFd:upd H1 d (.frz o (.dT (dP qs fun _=>.bl true))) d=some (.frz o (.dT (dP qs fun _=>.bl true))):=aa'
 have sF:a1' H (upd H1 d (.frz o (.dT (dP qs fun _=>.bl true)))):=fun b u e=>by
  rw[ab' (ag' e hd)]
  exact s1 _ _ e
 have hasF:∀(i:Nat) b x,as[i]?=some b->qs[i]?=some x->upd H1 d (.frz o (.dT (dP qs fun _=>.bl true))) b=some (.tup [.int x.1,.int x.2]):=fun i b x h1 h2=>by
  have:=has i b (pk x,.bl true) h1 (by unfold dP;rw[List.getElem?_map,h2];rfl)
  rw[ab' (fun z=>by rw[z,hd1]at this;cases this)]
  exact this
 generalize upd H1 d (.frz o (.dT (dP qs fun _=>.bl true)))=HF at hFd sF hasF ⊢
 refine td' (C:=C) (ks:=as.map V.ref) (fun i b H'=>i<=as.length/\a1' HF H'/\∃v:Nat×Nat->V,Ld H' (qs.take i) v b/\∀x∈qs.take i,StV W false H' x (v x)) ⟨Nat.zero_le _,a1'.refl _,fun _=>.non,⟨rfl,fun x hx=>absurd hx List.not_mem_nil⟩,fun x hx=>absurd hx List.not_mem_nil⟩ (fun i b H' pv=>⟨_,pv.2.1 _ _ hFd⟩) ?_ ?_
 .rintro i b H2 w R hw ⟨_,s2,v,hL,hv⟩ hR
  rw[List.getElem?_map]at hw
  obtain⟨t,ht,rfl⟩:=Option.map_eq_some_iff.mp hw
  have hi:=at' ht
  obtain⟨x,hx⟩:∃x,qs[i]?=some x:=⟨_,List.getElem?_eq_getElem (by omega)⟩
  have htx:=s2 _ _ (hasF i t x ht hx)
  obtain⟨hx1,hx2⟩:=tf' hqs.symm hx
  have sH2:=sF.trans s2
  walk_at "y"
  refine an' hP ?_
  walk_at "y"
  refine⟨a,t,W,p,x.1,x.2,false,rfl,hW.mono (bj' sH2),okW,hp4,h30,htx,hx1,hx2,fun l L H3 hl s3 hl3 htr hmem hlen=>?_⟩
  have hnew:x∉qs.take i:=kt' (hqs ▸ er') hx
  have hlq:(qs.take i).length<=1000:=by
   rw[List.length_take]
   have:=fj' h30
   rw[hqs]at this
   omega
  refine⟨pk x,t,rfl,s3 _ _ htx,(hL.mono s3).2,fun y hy z=>?_,by rw[hL.len];exact aI' hlq,hR _ _ ⟨hi,s2.trans s3,fun y=>if y=x then .ref l else v y,?_,fun y hy=>?_⟩⟩
  .obtain⟨q',hq',e'⟩:=hL.keys hy
   have eq:=dY' (e'.symm.trans z)
   subst eq
   exact hnew hq'
  .have e:Ld H3 (qs.take i) (fun y=>if y=x then .ref l else v y) b:=⟨by
    rw[(hL.mono s3).1]
    unfold dP
    refine List.map_congr_left fun y hy=>?_
    have z:y≠x:=fun z=>hnew (by rw[<- z];exact hy)
    show(pk y,v y)=(pk y,if y=x then V.ref l else v y)
    rw[if_neg z],(hL.mono s3).2⟩
   have:=e.snoc (q:=x) (b:=t) (s3 _ _ htx)
   rw[show(if x=x then V.ref l else v x)=V.ref l from if_pos rfl]at this
   rw[List.take_succ,hx]
   exact this
  .rw[List.take_succ,hx]at hy
   by_cases z:y=x
   .subst z
    rw[show(fun y'=>if y'=y then V.ref l else v y') y=V.ref l from if_pos rfl]
    exact⟨l,L,rfl,hl3,htr,hmem,hlen⟩
   .rw[show(fun y=>if y=x then V.ref l else v y) y=v y from if_neg z]
    rcases List.mem_append.mp hy with hy|hy
    .exact(hv y hy).mono (SmD.of s3)
    .exact absurd (List.mem_singleton.mp hy) z
 .rintro b H2 ⟨_,s2,v,hL,hv⟩
  rw[List.length_map,hal2,List.take_length]at hL hv
  refine⟨hL.2,fun c hc=>?_⟩
  rw[hL.1]
  have s3:=s2.trans (ad' hc (.dT (dP qs v)))
  exact q c v _ ((sF.trans s2).free hc) (sF.trans s3) aa' fun x hx=>(hv x hx).mono (SmD.of (ad' hc _))
theorem et' {α:Type} [DecidableEq α]:∀{l b:List α},l.Nodup->(∀i∈l,i∈b)->l.length<=b.length
 | [],_,_,_=>Nat.zero_le _
 |a :: l,b,h,hs=>by
  have ha:a∈b:=hs a (by simp)
  have:=et' (l:=l) (b:=b.erase a) (List.nodup_cons.mp h).2 fun i hi=>by
   have hne:i≠a:=fun e=>(List.nodup_cons.mp h).1 (by rw[<- e];exact hi)
   exact(List.mem_erase_of_ne hne).mpr (hs i (by simp[hi]))
  rw[List.length_erase_of_mem ha]at this
  have:=List.length_pos_of_mem ha
  rw[List.length_cons]
  omega
noncomputable def kP (y:Nat×Nat):List Int:=[(y.1:Int),(y.2:Int)]
theorem lX' {y:Nat×Nat}:kL (kP y)=pk y:=rfl
theorem nS' {y z:Nat×Nat} (h:kP y=kP z):y=z:=dY' (by rw[<- lX',<- lX',h])
theorem th' {a b:List Int} (h:kL a=kL b):a=b:=by
 unfold kL at h
 exact(List.map_inj_right (f:=Key.inl) (fun x y e=>by injection e)).mp h
theorem gW' {qs:List (Nat×Nat)} {v:Nat×Nat->V} {k:List Int}:kD' (dP qs v) k=true↔∃y∈qs,k=kP y:=by
 unfold kD'
 rw[<- d7',List.any_eq_true]
 unfold dP
 constructor
 .rintro⟨x,hx,e⟩
  obtain⟨y,hy,rfl⟩:=List.mem_map.mp hx
  have e:pk y=kL k:=of_decide_eq_true e
  exact⟨y,hy,th' (by rw[<- e,lX'])⟩
 .rintro⟨y,hy,rfl⟩
  exact⟨(pk y,v y),List.mem_map.mpr ⟨y,hy,rfl⟩,decide_eq_true (lX').symm⟩
def Ldt (W:List (List Dr)) (qs:List (Nat×Nat)) (x:Nat×Nat):Prop:=∃y∈qs,Bh W x.1 x.2 false (kP y)
open Classical in
noncomputable def gn (W:List (List Dr)) (qs:List (Nat×Nat)):List (Nat×Nat):=qs.filter fun x=>decide (Ldt W qs x)
theorem ku' {L:List (List Int×Addr)} {qs:List (Nat×Nat)} {v:Nat×Nat->V} {P:List Int->Prop} (h:∀k,k∈L.map (·.1)↔P k):(L.any fun q=>kD' (dP qs v) q.1)=true↔∃y∈qs,P (kP y):=by
 rw[List.any_eq_true]
 constructor
 .rintro⟨q,hq,e⟩
  obtain⟨y,hy,ek⟩:=gW'.mp e
  exact⟨y,hy,by rw[<- ek];exact(h _).mp (List.mem_map.mpr ⟨q,hq,rfl⟩)⟩
 .rintro⟨y,hy,hp⟩
  obtain⟨q,hq,e⟩:=List.mem_map.mp ((h _).mpr hp)
  exact⟨q,hq,gW'.mpr ⟨y,hy,e⟩⟩
theorem pF' {qs:List (Nat×Nat)} {v:Nat×Nat->V} {x:Nat×Nat} (h:x∈qs):fy' (dP qs v) (pk x)=some (v x):=by
 induction qs with
 |nil=>exact absurd h List.not_mem_nil
 |cons y qs ih=>
  unfold dP
  rw[List.map_cons]
  by_cases e:y=x
  .subst e
   exact cN' rfl
  .rw[cO' (fun z=>e (dY' z))]
   exact ih ((List.mem_cons.mp h).resolve_left fun z=>e z.symm)
def ti':Sp:=fun vs H Q _=>∃(s g:Addr) (W:List (List Dr)) (n:Nat) (v:Nat×Nat->V) (qs:List (Nat×Nat)),vs=[.ref s,.ref g]/\Rd H s (.dT (dP (rp n) v))/\(∀x∈rp n,StV W false H x (v x))/\Rd H g (.dT (dP qs fun _=>.bl true))/\qs.Nodup/\(∀x∈qs,x∈rp n)/\n<=30/\
 ∀(d:Addr) (H':Hp),H d=none->SmD H H'->H' d=some (.dT (dP (gn W qs) fun _=>.bl true))->Q (.ref d) H'
open Classical in
theorem pG' {C:Rc} (hN:C.N.length=3) (hL:C.fs "leads_to"=some nR'):∀vs H Q E,ti' vs H Q E->tSs C bt' { nx:=fun _ H'=>Q .non H',rt:=Q } (L2.aU' C.N vs) H:=by
 intro vs H Q E h
 obtain⟨s,g,W,n,v,qs,rfl,hs,hst,hg,hnd,hin,h30,q⟩:=h
 rw[aA' hN]
 unfold bt'
 have hlq:qs.length<=930:=Nat.le_trans (et' hnd hin) (fj' h30)
 walk_at "y"
 walk_at "y"
 refine sS' hg fun o as hal has=>?_
 have hal2:as.length=qs.length:=by rw[hal];unfold dP;rw[List.length_map]
 have sF:=SmD.frz hg o
 have hFd:upd H g (.frz o (.dT (dP qs fun _=>.bl true))) g=some (.frz o (.dT (dP qs fun _=>.bl true))):=aa'
 have hasF:∀(i:Nat) b x,as[i]?=some b->qs[i]?=some x->upd H g (.frz o (.dT (dP qs fun _=>.bl true))) b=some (.tup (( pk x).map L2.kV)):=fun i b x h1 h2=>by
  have:=has i b (pk x,.bl true) h1 (by unfold dP;rw[List.getElem?_map,h2];rfl)
  exact sF.tup this
 generalize upd H g (.frz o (.dT (dP qs fun _=>.bl true)))=HF at hFd sF hasF ⊢
 have hsF:=sF.rd hs
 have hgF:Rd HF g (.dT (dP qs fun _=>.bl true)):=.inr ⟨o,hFd⟩
 refine td' (C:=C) (ks:=as.map V.ref) (fun i b H'=>i<=as.length/\H'=HF/\Ld HF ((qs.take i).filter fun x=>decide (Ldt W qs x)) (fun _=>.bl true) b) ⟨Nat.zero_le _,rfl,⟨rfl,fun x hx=>absurd hx List.not_mem_nil⟩⟩ (fun i b H' pv=>⟨.dT (dP qs fun _=>.bl true),by rw[pv.2.1];exact hFd⟩) ?_ ?_
 .rintro i b H2 w R hw ⟨_,rfl,hLd⟩ hR
  rw[List.getElem?_map]at hw
  obtain⟨t,ht,rfl⟩:=Option.map_eq_some_iff.mp hw
  have hi:=at' ht
  obtain⟨x,hx⟩:∃x,qs[i]?=some x:=⟨_,List.getElem?_eq_getElem (by omega)⟩
  have hxm:=List.mem_of_getElem? hx
  have htx:=hasF i t x ht hx
  obtain⟨l,L,evl,hl,htr,hmem,hlen⟩:=(hst x (hin x hxm)).mono sF
  have hnew:x∉qs.take i:=kt' hnd hx
  have et:qs.take (i+1)=qs.take i++[x]:=by rw[List.take_succ,hx];rfl
  walk_at "y"
  refine an' hL ?_
  walk_at "y"
  refine⟨s,v x,rfl,.inr ⟨dP (rp n) v,pk x,t,hsF,rfl,htx,(pF' (hin x hxm)).symm⟩,?_⟩
  rw[evl]
  walk_at "y"
  refine⟨l,g,L,dP qs fun _=>.bl true,rfl,hl,htr,hgF,?_⟩
  have hiff:=ku' (qs:=qs) (v:=fun _=>.bl true) hmem
  have hfl:((qs.take i).filter fun x=>decide (Ldt W qs x)).length<=930:=Nat.le_trans (List.length_filter_le _ _) (by rw[List.length_take];omega)
  cases hb:L.any fun q=>kD' (dP qs fun _=>.bl true) q.1 with
  |true=>
   have hld:Ldt W qs x:=hiff.mp hb
   walk_at "y"
   refine⟨pk x,t,rfl,htx,hLd.2,fun y hy z=>?_,by rw[hLd.len];exact aI' (by omega),hR _ _ ⟨hi,rfl,?_⟩⟩
   .obtain⟨q',hq',e'⟩:=hLd.keys hy
    have eq:=dY' (e'.symm.trans z)
    subst eq
    exact hnew (List.mem_filter.mp hq').1
   .rw[et,List.filter_append]
    have:=hLd.snoc (q:=x) (b:=t) htx
    rw[show[x].filter (fun x=>decide (Ldt W qs x))=[x] by rw[List.filter_cons,if_pos (by simpa using hld)];rfl]
    exact this
  |false=>
   have hld:¬Ldt W qs x:=fun z=>by rw[hiff.mpr z]at hb;cases hb
   walk_at "y"
   refine hR _ _ ⟨hi,rfl,?_⟩
   rw[et,List.filter_append,show[x].filter (fun x=>decide (Ldt W qs x))=[] by rw[List.filter_cons,if_neg (by simpa using hld)];rfl,List.append_nil]
   exact hLd
 .rintro b H2 ⟨_,rfl,hLd⟩
  rw[List.length_map,hal2,List.take_length]at hLd
  refine⟨hLd.2,fun c hc=>?_⟩
  rw[hLd.1]
  exact q c _ (sF.free hc) (sF.trans (SmD.of (ad' hc _))) aa'
end PR
namespace K45
open PySem PySem.Spec PyProof.Rows L2 R3 LW
noncomputable def bw':List Str:=["writer","most","steps","parted","room","pair","alike","n","fewer"]
noncomputable def a7':List Str:=["len","range"]
noncomputable def a8':Css:=(.cons (.asg (.name 2) (.call "steps_of" (.cons (.var 0) .nil)))
  (.cons (.asg (.name 3) (.comp (.var 5) [4,5] (.name 4) (.range1 (.blt .len (.cons (.var 0) .nil))) .none (.cons [5] (.name 5) (.val (.call "pairs_behind" (.cons (.var 0) (.cons (.tup (.cons (.var 4) (.cons (.var 4) .nil))) (.cons (.bl true) .nil))))) .none .nil)))
  (.cons (.asg (.name 6) (.call "room_pairs" (.cons (.var 0) .nil)))
  (.cons (.asg (.name 7) (.int 0))
  (.cons (.whl (.and (.val (.call "leads_to" (.cons (.var 3) (.cons (.var 6) .nil)))) (.cmp .Lt (.var 7) (.var 1))) (.cons (.asg (.name 8) (.call "going_on" (.cons (.var 2) (.cons (.var 6) .nil))))
  (.cons (.ite (.cmp .Eq (.blt .lenD (.cons (.var 8) .nil)) (.blt .lenD (.cons (.var 6) .nil))) (.cons (.ret .non)
  .nil) .nil)
  (.cons (.asg (.name 6) (.var 8))
  (.cons (.aug 7 false (.int 1))
  .nil)))))
  (.cons (.ret (.ife (.val (.call "leads_to" (.cons (.var 3) (.cons (.var 6) .nil)))) .non (.var 7)))
  .nil))))))
noncomputable def vu':List Str:=["_law_writer_here","_law_pairs","_law_found","_law_one","_law_other","_law_door","_law_twin"]
noncomputable def tV':List Str:=["list","max","min"]
noncomputable def tW':Css:=(.cons (.asg (.name 2) .dnt)
  (.cons (.for_ (.tup (.cons (.name 3) (.cons (.name 4) .nil))) (.val (.var 1)) (.cons (.for_ (.name 5) (.val (.idx (.var 0) (.var 3))) (.cons (.for_ (.name 6) (.val (.idx (.var 0) (.var 4))) (.cons (.ite (.cmp .Eq (.idx (.var 5) (.int 0)) (.idx (.var 6) (.int 0))) (.cons (.dput (.var 2) (.tup (.cons (.blt .min (.cons (.idx (.var 5) (.int 1)) (.cons (.idx (.var 6) (.int 1)) .nil))) (.cons (.blt .max (.cons (.idx (.var 5) (.int 1)) (.cons (.idx (.var 6) (.int 1)) .nil))) .nil))) (.bl true))
  .nil) .nil)
  .nil))
  .nil))
  .nil))
  (.cons (.ret (.blt .listD (.cons (.var 2) .nil)))
  .nil)))
noncomputable def f1':List Str:=["_law_writer_here","_law_found","_law_doors","_law_at","_law_door","_law_twin"]
noncomputable def eu':List Str:=["enumerate","list","max","min"]
noncomputable def ev':Css:=(.cons (.asg (.name 1) .dnt)
  (.cons (.for_ (.name 2) (.val (.var 0)) (.cons (.for_ (.tup (.cons (.name 3) (.cons (.name 4) .nil))) (.enum (.var 2)) (.cons (.for_ (.name 5) (.val (.cut (.var 2) (.some (.bin .Add (.var 3) (.int 1))) .none)) (.cons (.ite (.cmp .Eq (.idx (.var 4) (.int 0)) (.idx (.var 5) (.int 0))) (.cons (.dput (.var 1) (.tup (.cons (.blt .min (.cons (.idx (.var 4) (.int 1)) (.cons (.idx (.var 5) (.int 1)) .nil))) (.cons (.blt .max (.cons (.idx (.var 4) (.int 1)) (.cons (.idx (.var 5) (.int 1)) .nil))) .nil))) (.bl true))
  .nil) .nil)
  .nil))
  .nil))
  .nil))
  (.cons (.ret (.blt .listD (.cons (.var 1) .nil)))
  .nil)))
noncomputable def pH':List Str:=["_law_writer_here","_law_most","_law_pairs","_law_known","_law_many","_law_pair"]
noncomputable def lY':List Str:=["any","sorted"]
noncomputable def lZ':Css:=(.cons (.asg (.name 2) (.call "_law_begun" (.cons (.var 0) .nil)))
  (.cons (.asg (.name 3) (.lst .nil))
  (.cons (.asg (.name 4) (.int 0))
  (.cons (.whl (.cmp .NotEq (.var 2) (.lst .nil)) (.cons (.ite (.or (.cmp .Eq (.var 4) (.var 1)) (.or (.val (.blt .any (.cons (.comp (.cmp .Eq (.idx (.var 5) (.int 0)) (.idx (.var 5) (.int 1))) [5] (.name 5) (.val (.var 2)) .none .nil) .nil))) (.cmw .inP (.blt .sortK (.cons (.var 2) .nil)) (.var 3)))) (.cons (.ret .non)
  .nil) .nil)
  (.cons (.expr (.met .append (.var 3) (.cons (.blt .sortK (.cons (.var 2) .nil)) .nil)))
  (.cons (.asg (.name 2) (.call "_law_on" (.cons (.var 0) (.cons (.var 2) .nil))))
  (.cons (.asg (.name 4) (.bin .Add (.var 4) (.int 1)))
  .nil)))))
  (.cons (.ret (.var 4))
  .nil)))))
noncomputable def l0':List Str:=["_law_script","_law_k","_law_box_here","_law_p","_law_q","_law_writer_here","_law_turn","_law_most","_law_due_here","_law_found"]
noncomputable def kv':List Str:=["bool","int","isinstance","len","min","range"]
noncomputable def l1':Css:=(.cons (.for_ (.name 1) (.range1 (.bin .Add (.int 1) (.blt .min (.cons (.int 4) (.cons (.blt .len (.cons (.var 0) .nil)) .nil))))) (.cons (.asg (.name 2) (.call "_law_box" (.cons (.var 0) (.cons (.var 1) .nil))))
  (.cons (.asg (.tup (.cons (.name 3) (.cons (.name 4) (.cons (.name 5) .nil)))) (.call "_law_writer" (.cons (.var 2) .nil)))
  (.cons (.for_ (.name 6) (.range1 (.int 3)) (.cons (.asg (.name 7) (.idx (.lst (.cons (.call "_law_take" (.cons (.var 2) (.cons (.int 7) .nil))) (.cons (.int 100) .nil))) (.blt .int (.cons (.cmp .Eq (.call "_law_take" (.cons (.var 2) (.cons (.int 8) .nil))) (.int 0)) .nil))))
  (.cons (.asg (.name 8) (.call "_law_due" (.cons (.var 5) (.cons (.var 7) .nil))))
  (.cons (.asg (.name 9) (.call "look_ahead" (.cons (.var 5) (.cons (.var 7) .nil))))
  (.cons (.ite (.or (.cmp .NotEq (.var 9) (.var 8)) (.or (.val (.blt .isinstance (.cons (.var 9) (.cons (.ty "bool") .nil)))) (.cmp .NotEq (.cmp .Is (.var 9) .non) (.cmp .Is (.var 8) .non)))) (.cons (.ret (.bl false))
  .nil) .nil)
  (.cons (.ite (.and (.cmp .IsNot (.var 8) .non) (.and (.cmp .Gt (.var 8) (.int 0)) (.cmp .IsNot (.call "look_ahead" (.cons (.var 5) (.cons (.bin .Sub (.var 8) (.int 1)) .nil))) .non))) (.cons (.ret (.bl false))
  .nil) .nil)
  .nil))))))
  .nil))))
  (.cons (.ret (.bl true))
  .nil))
open SR K42 WR PR
noncomputable def al (W:List (List Dr)):Nat->List (Nat×Nat)
 |0=>rp W.length
 |i+1=>gn W (al W i)
def Prt (W:List (List Dr)) (k:List Int):Prop:=∃r,r<W.length/\Bh W r r true k
def led (W:List (List Dr)) (i:Nat):Prop:=∃y∈al W i,Prt W (kP y)
theorem nT' {W:List (List Dr)} {qs:List (Nat×Nat)} {x:Nat×Nat} (h:x∈gn W qs):x∈qs:=(List.mem_filter.mp h).1
theorem pI' {W:List (List Dr)}:∀{i:Nat} {x:Nat×Nat},x∈al W i->x∈rp W.length
 |0,_,h=>h
 |i+1,_,h=>pI' (i:=i) (nT' h)
theorem tj' {W:List (List Dr)}:∀{i:Nat},(al W i).Nodup
 |0=>er'
 |i+1=>List.Nodup.sublist List.filter_sublist (tj' (i:=i))
theorem nU' {α:Type} {p:α->Bool}:∀{l:List α},l.length<=(l.filter p).length->l.filter p=l
 | [],_=>rfl
 |a :: l,h=>by
  have hle:=List.length_filter_le p l
  rw[List.filter_cons]at h ⊢
  by_cases z:p a=true
  .rw[if_pos z]at h ⊢
   rw[nU' (by simpa using h)]
  .rw[if_neg z]at h
   rw[List.length_cons]at h
   omega
theorem kw' {W:List (List Dr)} {i:Nat} (h:(al W (i+1)).length=(al W i).length):∀{j:Nat},i<=j->al W j=al W i
 |0,hj=>by rw[show i=0 by omega]
 |j+1,hj=>by
  have e:al W (i+1)=al W i:=nU' (Nat.le_of_eq h.symm)
  by_cases z:i=j+1
  .rw[z]
  .have ih:=kw' h (j:=j) (by omega)
   show gn W (al W j)=al W i
   rw[ih]
   exact e
def p4':Sp:=fun vs H Q _=>∃(a:Addr) (W:List (List Dr)) (p most:Nat),vs=[.ref a,.int most]/\IsW H a W/\OkW p W/\p<=4/\W.length<=30/\most<=1000/\
 (∀H',SmD H H'->(∀i,i<=most->led W i)->Q .non H')/\∀(i:Nat) H',SmD H H'->i<=most->¬led W i->(∀j,j<i->led W j)->Q (.int i) H'
structure FsLA (C:Rc):Prop where
 st:C.fs "steps_of"=some (te' false)
 pb:C.fs "pairs_behind"=some nQ'
 rp:C.fs "room_pairs"=some nP'
 lt:C.fs "leads_to"=some nR'
 go:C.fs "going_on"=some ti'
theorem pJ' {C:Rc} (hN:C.N.length=9) (F:FsLA C):∀vs H Q E,p4' vs H Q E->tSs C a8' { nx:=fun _ H'=>Q .non H',rt:=Q } (L2.aU' C.N vs) H:=by
 intro vs H Q E h
 obtain⟨a,W,p,most,rfl,hW,okW,hp4,h30,hmost,qn,qs⟩:=h
 rw[aA' hN]
 unfold a8'
 walk_at "y"
 refine an' F.st ?_
 walk_at "y"
 refine⟨a,W,p,rfl,hW,okW,hp4,h30,fun s v H1 hs s1 hs1 hst=>?_⟩
 have hW1:=hW.mono (bj' s1)
 obtain⟨wv,hwv,hwr⟩:=id hW1
 have hwl:=hwr.len
 walk_at "y"
 refine j5' (SqT.of hwv) ?_
 rw[hwl]
 walk_at "y"
 refine dC' (by omega) (by omega) (vn' (n:=((W.length:Nat):Int).toNat) (fun r xs H'=>r<=W.length/\a1' H1 H'/\∃L:List (List Int×Addr),xs=L.map (fun q=>V.ref q.2)/\Trk H' L/\L.length<=r*256/\∀k,k∈L.map (·.1)↔∃r',r'<r/\Bh W r' r' true k) ⟨Nat.zero_le _,a1'.refl _,[],rfl,fun q hq=>absurd hq List.not_mem_nil,Nat.zero_le _,fun k=>⟨fun z=>absurd z List.not_mem_nil,fun⟨_,z,_⟩=>absurd z (Nat.not_lt_zero _)⟩⟩ ?_ ?_)
 .rintro r xs H2 R hr ⟨_,s2,L,rfl,htr,hlen,hmem⟩ hR
  have hr:r<W.length:=by omega
  rw[show(0:Int)+(r:Int)=((r:Nat):Int) by omega]
  walk_at "y"
  refine an' F.pb ?_
  walk_at "y"
  refine⟨show 2<=sizeLine by decide,fun t ht=>?_⟩
  have s3:=ad' ht (.tup [.int r,.int r])
  have h3:upd H2 t (.tup [.int r,.int r]) t=some (.tup [.int r,.int r]):=aa'
  generalize upd H2 t (.tup [.int r,.int r])=H3 at s3 h3 ⊢
  have s13:=s2.trans s3
  walk_at "y"
  refine⟨a,t,W,p,r,r,true,rfl,hW1.mono (bj' s13),okW,hp4,h30,h3,hr,hr,fun l Lb H4 hl s4 hl4 htr2 hmem2 hlen2=>?_⟩
  have s14:=s13.trans s4
  have htr4:Trk H4 L:=bE' (s3.trans s4) htr
  refine cn' (SqL.of hl4) (wR' (vs:=Lb.map fun q=>V.ref q.2) (fun i xs H'=>i<=Lb.length/\H'=H4/\xs=(L++Lb.take i).map fun q=>V.ref q.2) ⟨Nat.zero_le _,rfl,by simp⟩ (fun i b H' pv=>SqL.of (by rw[pv.2.1];exact hl4)) ?_ ?_)
  .rintro i xs H5 w R2 hw ⟨_,rfl,rfl⟩ hR2
   rw[List.getElem?_map]at hw
   obtain⟨q,hq,rfl⟩:=Option.map_eq_some_iff.mp hw
   have hi:=at' hq
   walk_at "y"
   refine⟨?_,hR2 _ _ ⟨hi,rfl,?_⟩⟩
   .rw[List.length_map,List.length_append,List.length_take]
    have h1:L.length<=30*256:=Nat.le_trans hlen (Nat.mul_le_mul_right 256 (by omega))
    exact Nat.lt_of_le_of_lt (show _<=8000 by omega) (by decide)
   .rw[List.take_succ,hq]
    simp[List.map_append]
  .rintro xs H5 ⟨_,rfl,rfl⟩
   rw[List.length_map,List.take_length]
   refine hR _ _ ⟨hr,s14,L++Lb,rfl,fun q hq=>?_,by rw[List.length_append,Nat.add_mul,Nat.one_mul];omega,fun k=>?_⟩
   .rcases List.mem_append.mp hq with hq|hq
    .exact htr4 q hq
    .exact htr2 q hq
   .rw[List.map_append,List.mem_append,hmem,hmem2]
    constructor
    .rintro(⟨r',z1,z2⟩|z)
     .exact⟨r',by omega,z2⟩
     .exact⟨r,by omega,z⟩
    .rintro⟨r',z1,z2⟩
     by_cases z:r'=r
     .subst z;exact .inr z2
     .exact .inl ⟨r',by omega,z2⟩
 .rintro xs H2 ⟨_,s2,L,rfl,htr,hlen,hmem⟩
  rw[Int.toNat_natCast]at hlen hmem
  intro d hd
  have s3:=ad' hd (.lst (L.map fun q=>V.ref q.2))
  have h3:upd H2 d (.lst (L.map fun q=>V.ref q.2)) d=some (.lst (L.map fun q=>V.ref q.2)):=aa'
  have htr3:=bE' s3 htr
  generalize upd H2 d (.lst (L.map fun q=>V.ref q.2))=H3 at s3 h3 htr3 ⊢
  have hP:∀k,k∈L.map (·.1)↔Prt W k:=hmem
  have s13:=s2.trans s3
  have s03:=s1.trans s13
  walk_at "y"
  refine an' F.rp ?_
  walk_at "y"
  refine⟨a,W,rfl,hW.mono (bj' s03),h30,fun g H4 hg s4 hg4=>?_⟩
  have s04:=s03.trans s4
  have h4:=s4 _ _ h3
  have htr4:=bE' s4 htr3
  have hs4:Rd H4 s (.dT (dP (rp W.length) v)):=.inl (s4 _ _ (s13 _ _ hs1))
  have hst4:∀x∈rp W.length,StV W false H4 x (v x):=fun x hx=>(hst x hx).mono (SmD.of (s13.trans s4))
  walk_at "y"
  refine nD' (fun N σ H'=>∃(i:Nat) (g:Addr) (x8:Option V),N=most-i/\σ=[some (.ref a),some (.int most),some (.ref s),some (.ref d),none,none,some (.ref g),some (.int i),x8]/\i<=most/\Rd H' g (.dT (dP (al W i) fun _=>.bl true))/\SmD H4 H'/\∀j,j<i->led W j) _ ⟨0,g,_,rfl,rfl,Nat.zero_le _,.inl hg4,SmD.of (a1'.refl _),fun j hj=>absurd hj (Nat.not_lt_zero _)⟩ ?_
  rintro N σ H5 ⟨i,g5,x8,rfl,rfl,him,hg5,s5,hled⟩
  have hd5:=s5.lst h4
  have htr5:=s5.trk htr4
  have s05:SmD H H5:=(SmD.of s04).trans s5
  have hiff:=ku' (qs:=al W i) (v:=fun _=>.bl true) hP
  walk_at "y"
  refine an' F.lt ?_
  walk_at "y"
  refine⟨d,g5,L,dP (al W i) fun _=>.bl true,rfl,hd5,htr5,hg5,?_⟩
  cases hb:L.any fun q=>kD' (dP (al W i) fun _=>.bl true) q.1 with
  |false=>
   have hno:¬led W i:=fun z=>by rw[hiff.mpr z]at hb;cases hb
   walk_at "y"
   refine j0' ?_
   walk_at "y"
   refine an' F.lt ?_
   walk_at "y"
   refine⟨d,g5,L,dP (al W i) fun _=>.bl true,rfl,hd5,htr5,hg5,?_⟩
   rw[hb]
   walk_at "y"
   exact qs i _ s05 him hno hled
  |true=>
   have hyes:led W i:=hiff.mp hb
   walk_at "y"
   refine ds' (fun hlt=>?_) fun hlt=>?_
   .refine nE' ?_
    walk_at "y"
    refine an' F.go ?_
    walk_at "y"
    refine⟨s,g5,W,W.length,v,al W i,rfl,s5.rd hs4,fun x hx=>(hst4 x hx).mono s5,hg5,tj',fun x hx=>pI' hx,h30,fun f H6 hf s6 hf6=>?_⟩
    have hg6:=s6.rd hg5
    walk_at "y"
    refine gR' (.inl hf6) ?_
    walk_at "y"
    refine gR' hg6 ?_
    rw[show(dP (gn W (al W i)) fun _=>V.bl true).length=(al W (i+1)).length from List.length_map _,show(dP (al W i) fun _=>V.bl true).length=(al W i).length from List.length_map _]
    walk_at "y"
    have s06:=s05.trans s6
    refine ds' (fun heq=>?_) fun heq=>?_
    .walk_at "y"
     refine qn _ s06 fun j hj=>?_
     rcases Nat.lt_or_ge j i with z|z
     .exact hled j z
     .obtain⟨y,hy,hp⟩:=hyes
      exact⟨y,by rw[kw' (by omega) z];exact hy,hp⟩
    .walk_at "y"
     rw[vi' rfl]
     walk_at "y"
     refine⟨_,?_,i+1,f,_,rfl,by rfl,by omega,.inl hf6,s5.trans s6,fun j hj=>?_⟩
     .omega
     .by_cases z:j=i
      .subst z;exact hyes
      .exact hled j (by omega)
   .refine j0' ?_
    walk_at "y"
    refine an' F.lt ?_
    walk_at "y"
    refine⟨d,g5,L,dP (al W i) fun _=>.bl true,rfl,hd5,htr5,hg5,?_⟩
    rw[hb]
    walk_at "y"
    refine qn _ s05 fun j hj=>?_
    rcases Nat.lt_or_ge j i with z|z
    .exact hled j z
    .rw[show j=i by omega];exact hyes
noncomputable def Rn (W:List (List Dr)):Nat->Nat×Nat->Prop
 |0,q=>Prt W (kP q)
 |i+1,q=>∃x,x∈rp W.length/\Rn W i x/\Bh W x.1 x.2 false (kP q)
def NE (W:List (List Dr)) (i:Nat):Prop:=∃q,q∈rp W.length/\Rn W i q
theorem nV' {W:List (List Dr)} {qs:List (Nat×Nat)} {x:Nat×Nat}:x∈gn W qs↔x∈qs/\Ldt W qs x:=by
 unfold gn
 simp only[List.mem_filter,decide_eq_true_eq]
theorem f3' {W:List (List Dr)}:∀{b:Nat} {p:Nat×Nat},p∈al W (b+1)↔p∈rp W.length/\∃q∈al W b,Bh W p.1 p.2 false (kP q)
 |b,p=>by
  have h1:p∈al W (b+1)->p∈rp W.length/\∃q∈al W b,Bh W p.1 p.2 false (kP q):=fun h=>⟨pI' h,(nV'.mp h).2⟩
  refine⟨h1,fun⟨hp,q,hq,hb⟩=>nV'.mpr ⟨?_,q,hq,hb⟩⟩
  cases b with
  |zero=>exact hp
  |succ b=>exact f3'.mpr ⟨hp,q,nT' hq,hb⟩
theorem tk' {W:List (List Dr)}:∀{b a:Nat},NE W (a+b)↔∃q∈al W b,Rn W a q
 |0,a=>⟨fun⟨q,h1,h2⟩=>⟨q,h1,h2⟩,fun⟨q,h1,h2⟩=>⟨q,h1,h2⟩⟩
 |b+1,a=>by
  rw[show a+(b+1)=(a+1)+b by omega,tk']
  constructor
  .rintro⟨q,hq,x,hx,hr,hb⟩
   exact⟨x,f3'.mpr ⟨hx,q,hq,hb⟩,hr⟩
  .rintro⟨x,hx,hr⟩
   obtain⟨h1,q,hq,hb⟩:=f3'.mp hx
   exact⟨q,hq,x,h1,hr,hb⟩
theorem gX' {W:List (List Dr)} {i:Nat}:NE W i↔led W i:=by
 have:=tk' (W:=W) (b:=i) (a:=0)
 rw[Nat.zero_add]at this
 exact this
theorem vv' {x y:Nat}:kk x y=kP (min x y,max x y):=rfl
theorem pK' {x y:Nat}:kk x y=kk y x:=by unfold kk;rw[Nat.min_comm,Nat.max_comm]
theorem tl' {n x y:Nat} (hx:x<n) (hy:y<n):(min x y,max x y)∈rp n:=cI'.mpr ⟨by show min x y<=max x y;omega,by show max x y<n;omega⟩
theorem ew' {W:List (List Dr)} {x:Nat} (hx:x<W.length):W.getD x []∈W:=by
 rw[List.getD_eq_getElem?_getD,List.getElem?_eq_getElem hx];exact List.getElem_mem hx
theorem pL' {W:List (List Dr)} {p:Nat} (okW:OkW p W) {i r:Nat} (hr:r<W.length) (h:Rn W i (r,r)):∀{j:Nat},i<=j->NE W j:=by
 have key:∀k,∃r,r<W.length/\Rn W (i+k) (r,r):=fun k=>by
  induction k with
  |zero=>exact⟨r,hr,h⟩
  |succ k ih=>
   obtain⟨r,hr,h⟩:=ih
   have hl:=(okW _ (ew' hr)).1
   have h0:0<(W.getD r []).length:=by rw[hl];exact Nat.pow_pos (by decide)
   have hg:=List.getElem?_eq_getElem h0
   have ht:=((okW _ (ew' hr)).2 _ (List.getElem_mem h0)).2
   refine⟨((W.getD r [])[0]).2,ht,(r,r),cI'.mpr ⟨Nat.le_refl _,hr⟩,h,0,0,_,_,hg,hg,rfl,fun z=>(nomatch z.1),?_⟩
   rw[vv',Nat.min_self,Nat.max_self]
 intro j hj
 obtain⟨r,hr,h⟩:=key (j-i)
 rw[show i+(j-i)=j by omega]at h
 exact⟨_,cI'.mpr ⟨Nat.le_refl _,hr⟩,h⟩
theorem f4' {W:List (List Dr)} {i j:Nat} (h:∀q∈rp W.length,(Rn W i q↔Rn W j q)):∀{k:Nat},∀q∈rp W.length,(Rn W (i+k) q↔Rn W (j+k) q)
 |0=>h
 |k+1=>fun q hq=>⟨fun⟨x,hx,hr,hb⟩=>⟨x,hx,(f4' h (k:=k) x hx).mp hr,hb⟩,fun⟨x,hx,hr,hb⟩=>⟨x,hx,(f4' h (k:=k) x hx).mpr hr,hb⟩⟩
theorem l2' {W:List (List Dr)} {i j:Nat} (hij:i<j) (h:∀q∈rp W.length,(Rn W i q↔Rn W j q)) (hn:∀m,m<=j->NE W m):∀m,NE W m:=by
 intro m
 induction m using Nat.strongRecOn with
 |ind m ih=>
  rcases Nat.lt_or_ge j m with z|z
  .obtain⟨q,hq,hr⟩:=ih (i+(m-j)) (by omega)
   have:=(f4' h (k:=m-j) q hq).mp hr
   rw[show j+(m-j)=m by omega]at this
   exact⟨q,hq,this⟩
  .exact hn m z
noncomputable def pM' (qs:List (Nat×Nat)) (q:Nat×Nat):List (Nat×Nat):=if q∈qs then qs else qs++[q]
theorem gY' {qs:List (Nat×Nat)} {q x:Nat×Nat}:x∈pM' qs q↔x∈qs\/x=q:=by
 unfold pM'
 by_cases h:q∈qs
 .rw[if_pos h];exact⟨.inl,fun z=>z.elim id fun z=>z ▸ h⟩
 .rw[if_neg h,List.mem_append,List.mem_singleton]
theorem pN' {qs:List (Nat×Nat)} {q:Nat×Nat} (h:qs.Nodup):(pM' qs q).Nodup:=by
 unfold pM'
 by_cases z:q∈qs
 .rw[if_pos z];exact h
 .rw[if_neg z,List.nodup_append]
  exact⟨h,by simp,fun a ha b hb e=>z (by rw[<- List.mem_singleton.mp hb,<- e];exact ha)⟩
theorem tm' {qs:List (Nat×Nat)} {q:Nat×Nat}:fz' (dP qs fun _=>.bl true) (pk q) (.bl true)=dP (pM' qs q) fun _=>.bl true:=by
 have hany:((dP qs fun _=>V.bl true).any fun kv=>decide (kv.1=pk q))=true↔q∈qs:=by
  rw[List.any_eq_true]
  unfold dP
  constructor
  .rintro⟨x,hx,e⟩
   obtain⟨y,hy,rfl⟩:=List.mem_map.mp hx
   have:=dY' (of_decide_eq_true e)
   rw[<- this];exact hy
  .intro z
   exact⟨_,List.mem_map.mpr ⟨q,z,rfl⟩,decide_eq_true rfl⟩
 unfold fz' pM'
 by_cases h:q∈qs
 .rw[if_pos (hany.mpr h),if_pos h]
  unfold dP
  rw[List.map_map]
  refine List.map_congr_left fun y hy=>?_
  show(if pk y=pk q then(pk y,V.bl true)else(pk y,V.bl true))=_
  split<;>rfl
 .rw[if_neg (fun z=>h (hany.mp z)),if_neg h]
  unfold dP
  rw[List.map_append]
  rfl
def Gd (n:Nat) (H:Hp) (d:Addr) (P:Nat×Nat->Prop):Prop:=∃qs:List (Nat×Nat),H d=some (.dT (dP qs fun _=>.bl true))/\qs.Nodup/\(∀q∈qs,q∈rp n)/\∀q,q∈qs↔P q
theorem Gd.to {n:Nat} {H:Hp} {d:Addr} {P P':Nat×Nat->Prop} (h:Gd n H d P) (e:∀q,P q↔P' q):Gd n H d P':=let⟨qs,h1,h2,h3,h4⟩:=h;⟨qs,h1,h2,h3,fun q=>(h4 q).trans (e q)⟩
theorem Gd.same {n:Nat} {H H':Hp} (s:a1' H H') {d:Addr} {P:Nat×Nat->Prop} (h:Gd n H d P):Gd n H' d P:=let⟨qs,h1,r⟩:=h;⟨qs,s _ _ h1,r⟩
theorem Gd.put {D:Ends} {σ:L2.St} {n:Nat} {H:Hp} {d t:Addr} {P:Nat×Nat->Prop} {q:Nat×Nat} (h:Gd n H d P) (h30:n<=30) (hq:q∈rp n) (ht:H t=some (.tup [.int q.1,.int q.2]))
  (k:∀H',(∀b u,b≠d->H b=some u->H' b=some u)->(∀b,b≠d->H' b=H b)->Gd n H' d (fun x=>P x\/x=q)->D.nx σ H'):vp' (.ref d) (.bl true) D σ (.ref t) H:=by
 obtain⟨qs,h1,h2,h3,h4⟩:=h
 have hl:qs.length<=1000:=Nat.le_trans (et' h2 h3) (Nat.le_trans (fj' h30) (by decide))
 refine⟨d,_,rfl,pX'.t (k:=pk q) h1 ht (aI' (by unfold dP;rw[List.length_map];exact hl)),k _ (fun b u hb e=>by rw[ab' hb];exact e) (fun b hb=>ab' hb) ⟨pM' qs q,by rw[aa',tm'],pN' h2,fun x hx=>?_,fun x=>by rw[gY',h4]⟩⟩
 rcases gY'.mp hx with z|z
 .exact h3 x z
 .rw[z];exact hq
def Prs (n:Nat) (H:Hp) (l:Addr) (P:Nat×Nat->Prop):Prop:=∃T:List ((Nat×Nat)×Addr),H l=some (.lst (T.map fun t=>V.ref t.2))/\(∀t∈T,H t.2=some (.tup [.int t.1.1,.int t.1.2]))/\T.length<=1000/\(∀t∈T,t.1∈rp n)/\∀q,q∈T.map (·.1)↔P q
theorem Prs.same {n:Nat} {H H':Hp} (s:a1' H H') {l:Addr} {P:Nat×Nat->Prop} (h:Prs n H l P):Prs n H' l P:=let⟨T,h1,h2,r⟩:=h;⟨T,s _ _ h1,fun t ht=>s _ _ (h2 t ht),r⟩
theorem Prs.to {n:Nat} {H:Hp} {l:Addr} {P P':Nat×Nat->Prop} (h:Prs n H l P) (e:∀q,P q↔P' q):Prs n H l P':=let⟨T,h1,h2,h3,h4,h5⟩:=h;⟨T,h1,h2,h3,h4,fun q=>(h5 q).trans (e q)⟩
theorem Gd.list {C:Rc} {n:Nat} {H:Hp} {d:Addr} {P:Nat×Nat->Prop} {Q:VK} (h:Gd n H d P) (h30:n<=30) (k:∀l H',H l=none->a1' H H'->Prs n H' l P->Q (.ref l) H'):cF' C.K .listD [.ref d] H Q:=by
 obtain⟨qs,h1,h2,h3,h4⟩:=h
 have hl:qs.length<=1000:=Nat.le_trans (et' h2 h3) (Nat.le_trans (fj' h30) (by decide))
 refine kg' (.inl h1) fun l as hn hk=>?_
 obtain⟨hlen,hk⟩:=hk
 have hlen':as.length=qs.length:=by rw[hlen];exact List.length_map _
 have s:=ad' hn (.lst (as.map V.ref))
 have e1:((qs.zip as).map fun t=>V.ref t.2)=as.map V.ref:=by
  rw[show(fun t:(Nat×Nat)×Addr=>V.ref t.2)=V.ref∘Prod.snd from rfl,<- List.map_map,List.map_snd_zip (by omega)]
 have e2:(qs.zip as).map (·.1)=qs:=List.map_fst_zip (by omega)
 refine k l _ hn s ⟨qs.zip as,by rw[e1];exact aa',fun t ht=>?_,by rw[List.length_zip];omega,fun t ht=>?_,fun q=>by rw[e2];exact h4 q⟩
 .obtain⟨i,hi,e⟩:=List.mem_iff_getElem.mp ht
  rw[List.length_zip]at hi
  rw[List.getElem_zip]at e
  have hq:qs[i]?=some t.1:=by rw[List.getElem?_eq_getElem (by omega),<- e]
  have ha:as[i]?=some t.2:=by rw[List.getElem?_eq_getElem (by omega),<- e]
  have:=hk i t.2 (pk t.1,.bl true) ha (by unfold dP;rw[List.getElem?_map,hq];rfl)
  exact s _ _ this
 .exact h3 _ (by rw[<- e2];exact List.mem_map.mpr ⟨t,ht,rfl⟩)
theorem tn' {x y:Nat}:(if(y:Int)<(x:Int)then(y:Int)else(x:Int))=((min x y:Nat):Int):=by split<;>omega
theorem to' {x y:Nat}:(if(y:Int) > (x:Int)then(y:Int)else(x:Int))=((max x y:Nat):Int):=by split<;>omega
def PtQ (R S:List Dr) (i j:Nat) (q:Nat×Nat):Prop:=∃d e,R[i]?=some d/\S[j]?=some e/\d.1=e.1/\q=(min d.2 e.2,max d.2 e.2)
theorem kx' {R S:List Dr} {i j:Nat} {d e:Dr} (hd:R[i]?=some d) (he:S[j]?=some e) {q:Nat×Nat}:PtQ R S i j q↔d.1=e.1/\q=(min d.2 e.2,max d.2 e.2):=by
 constructor
 .rintro⟨d',e',z1,z2,z3,z4⟩
  rw[hd]at z1
  rw[he]at z2
  cases z1
  cases z2
  exact⟨z3,z4⟩
 .rintro⟨z3,z4⟩
  exact⟨d,e,hd,he,z3,z4⟩
theorem fk' {R S:List Dr} {i j:Nat} {q:Nat×Nat} {u:Bool} (h:¬(u=true/\i=j)):PtQ R S i j q↔Pt R S u i j (kP q):=
 ⟨fun⟨d,e,h1,h2,h3,h4⟩=>⟨d,e,h1,h2,h3,h,by rw[h4];rfl⟩,fun⟨d,e,h1,h2,h3,_,h4⟩=>⟨d,e,h1,h2,h3,nS' (by rw[h4];rfl)⟩⟩
def tp':Sp:=fun vs H Q _=>∃(a l:Addr) (W:List (List Dr)) (p:Nat) (P:Nat×Nat->Prop),vs=[.ref a,.ref l]/\IsW H a W/\OkW p W/\W.length<=30/\Prs W.length H l P/\
 ∀(l':Addr) (H':Hp),H l'=none->a1' H H'->Prs W.length H' l' (fun q=>∃x,x∈rp W.length/\P x/\Bh W x.1 x.2 false (kP q))->Q (.ref l') H'
theorem pO' {C:Rc} (hN:C.N.length=7):∀vs H Q E,tp' vs H Q E->tSs C tW' { nx:=fun _ H'=>Q .non H',rt:=Q } (L2.aU' C.N vs) H:=by
 intro vs H Q E h
 obtain⟨a,l,W,p,P,rfl,hW,okW,h30,hPr,q⟩:=h
 rw[aA' hN]
 unfold tW'
 obtain⟨T,hl,hT,hT9,hTr,hTP⟩:=hPr
 walk_at "y"
 intro d hd
 have s1:=ad' hd (.dT [])
 have hg1:Gd W.length (upd H d (.dT [])) d fun _=>False:=⟨[],aa',List.nodup_nil,fun q hq=>absurd hq List.not_mem_nil,fun q=>⟨fun z=>absurd z List.not_mem_nil,False.elim⟩⟩
 generalize upd H d (.dT [])=H1 at s1 hg1 ⊢
 walk_at "y"
 refine cn' (SqL.of (s1 _ _ hl)) (sB' (xs:=T.map fun t=>V.ref t.2) (fun m σ H'=>(∃x3 x4 x5 x6,σ=[some (.ref a),some (.ref l),some (.ref d),x3,x4,x5,x6])/\a1' H H'/\Gd W.length H' d fun q=>∃m' t i j,m'<m/\T[m']?=some t/\PtQ (W.getD t.1.1 []) (W.getD t.1.2 []) i j q) ⟨⟨_,_,_,_,rfl⟩,s1,hg1.to fun q=>⟨False.elim,fun⟨_,_,_,_,z,_⟩=>absurd z (Nat.not_lt_zero _)⟩⟩ (fun i σ H' _ pv=>SqL.of (pv.2.1 _ _ hl)) ?_ ?_)
 .rintro m v σ H2 hv ⟨⟨x3,x4,x5,x6,rfl⟩,s2,hg2⟩
  rw[List.getElem?_map]at hv
  obtain⟨t,ht,rfl⟩:=Option.map_eq_some_iff.mp hv
  have htm:=List.mem_of_getElem? ht
  have htr:=cI'.mp (hTr t htm)
  have hx:t.1.1<W.length:=by omega
  have hy:t.1.2<W.length:=htr.2
  refine nA' (SqT.of (s2 _ _ (hT t htm))) ?_
  obtain⟨vs,q1,ds,ha,e1,hq1,hd1⟩:=eq' hW hx
  obtain⟨vs',q2,es,ha',e2,hq2,hd2⟩:=eq' hW hy
  cases ha.symm.trans ha'
  have okR:=okW _ (ew' hx)
  have okS:=okW _ (ew' hy)
  generalize hRR:W.getD t.1.1 []=R at hd1 okR
  generalize hSS:W.getD t.1.2 []=S at hd2 okS
  walk_at "y"
  refine aT' (SqT.of (s2 _ _ ha)) e1 ?_
  walk_at "y"
  refine co' (SqT.of (s2 _ _ hq1)) (lA' (xs:=ds) (fun i σ H'=>(∃x5 x6,σ=[some (.ref a),some (.ref l),some (.ref d),some (.int t.1.1),some (.int t.1.2),x5,x6])/\a1' H H'/\Gd W.length H' d fun q=>(∃m' t i j,m'<m/\T[m']?=some t/\PtQ (W.getD t.1.1 []) (W.getD t.1.2 []) i j q)\/∃i' j,i'<i/\PtQ R S i' j q) ⟨⟨_,_,rfl⟩,s2,hg2.to fun q=>⟨.inl,fun z=>z.elim id fun⟨_,_,z,_⟩=>absurd z (Nat.not_lt_zero _)⟩⟩ (fun i σ H' _ pv=>SqT.of (pv.2.1 _ _ hq1)) ?_ ?_)
  .rintro i v σ H3 hv ⟨⟨x5,x6,rfl⟩,s3,hg3⟩
   obtain⟨dr,hdr,dv,rfl,hdv⟩:=hd1.getL hv
   walk_at "y"
   refine aT' (SqT.of (s3 _ _ ha)) e2 ?_
   walk_at "y"
   refine co' (SqT.of (s3 _ _ hq2)) (lA' (xs:=es) (fun j σ H'=>(∃x6,σ=[some (.ref a),some (.ref l),some (.ref d),some (.int t.1.1),some (.int t.1.2),some (.ref dv),x6])/\a1' H H'/\Gd W.length H' d fun q=>((∃m' t i j,m'<m/\T[m']?=some t/\PtQ (W.getD t.1.1 []) (W.getD t.1.2 []) i j q)\/∃i' j,i'<i/\PtQ R S i' j q)\/∃j',j'<j/\PtQ R S i j' q) ⟨⟨_,rfl⟩,s3,hg3.to fun q=>⟨.inl,fun z=>z.elim id fun⟨_,z,_⟩=>absurd z (Nat.not_lt_zero _)⟩⟩ (fun i σ H' _ pv=>SqT.of (pv.2.1 _ _ hq2)) ?_ ?_)
   .rintro j v2 σ H4 hv2 ⟨⟨x6,rfl⟩,s4,hg4⟩
    obtain⟨er,her,ev,rfl,hev⟩:=hd2.getL hv2
    walk_at "y"
    refine aT' (SqT.of (s4 _ _ hdv)) rfl ?_
    walk_at "y"
    refine aT' (SqT.of (s4 _ _ hev)) rfl ?_
    walk_at "y"
    rw[ks']
    have hP:∀q,PtQ R S i j q↔dr.1=er.1/\q=(min dr.2 er.2,max dr.2 er.2):=fun q=>kx' hdr her
    by_cases hde:dr.1=er.1
    .rw[decide_eq_true hde]
     walk_at "y"
     refine aT' (SqT.of (s4 _ _ hdv)) rfl ?_
     walk_at "y"
     refine aT' (SqT.of (s4 _ _ hev)) rfl ?_
     walk_at "y"
     refine aT' (SqT.of (s4 _ _ hdv)) rfl ?_
     walk_at "y"
     refine aT' (SqT.of (s4 _ _ hev)) rfl ?_
     walk_at "y"
     refine⟨show 2<=sizeLine by decide,fun t2 ht2=>?_⟩
     rw[tn',to']
     have s5:=s4.trans (ad' ht2 (.tup [.int ((min dr.2 er.2:Nat):Int),.int ((max dr.2 er.2:Nat):Int)]))
     have hg5:=hg4.same (ad' ht2 (.tup [.int ((min dr.2 er.2:Nat):Int),.int ((max dr.2 er.2:Nat):Int)]))
     refine hg5.put (q:=(min dr.2 er.2,max dr.2 er.2)) h30 (tl' (okR.2 _ (List.mem_of_getElem? hdr)).2 (okS.2 _ (List.mem_of_getElem? her)).2) aa' fun H6 k6 _ hg6=>?_
     walk_at "y"
     refine⟨⟨_,rfl⟩,fun b u e=>k6 b u (ag' e hd) (s5 b u e),hg6.to fun q=>?_⟩
     constructor
     .rintro((z|⟨j',z1,z2⟩)|z)
      .exact .inl z
      .exact .inr ⟨j',by omega,z2⟩
      .exact .inr ⟨j,by omega,(hP q).mpr ⟨hde,z⟩⟩
     .rintro(z|⟨j',z1,z2⟩)
      .exact .inl (.inl z)
      .by_cases zj:j'=j
       .subst zj;exact .inr ((hP q).mp z2).2
       .exact .inl (.inr ⟨j',by omega,z2⟩)
    .rw[decide_eq_false hde]
     walk_at "y"
     refine⟨⟨_,rfl⟩,s4,hg4.to fun q=>?_⟩
     constructor
     .rintro(z|⟨j',z1,z2⟩)
      .exact .inl z
      .exact .inr ⟨j',by omega,z2⟩
     .rintro(z|⟨j',z1,z2⟩)
      .exact .inl z
      .by_cases zj:j'=j
       .subst zj;exact absurd ((hP q).mp z2).1 hde
       .exact .inr ⟨j',by omega,z2⟩
   .rintro σ H4 ⟨⟨x6,rfl⟩,s4,hg4⟩
    walk_at "y"
    refine⟨⟨_,_,rfl⟩,s4,hg4.to fun q=>?_⟩
    constructor
    .rintro((z|⟨i',j',z1,z2⟩)|⟨j',z1,z2⟩)
     .exact .inl z
     .exact .inr ⟨i',j',by omega,z2⟩
     .exact .inr ⟨i,j',by omega,z2⟩
    .rintro(z|⟨i',j',z1,z2⟩)
     .exact .inl (.inl z)
     .by_cases zi:i'=i
      .subst zi
       obtain⟨_,e',_,z4,_⟩:=id z2
       exact .inr ⟨j',by rw[hd2.len];exact at' z4,z2⟩
      .exact .inl (.inr ⟨i',j',by omega,z2⟩)
  .rintro σ H3 ⟨⟨x5,x6,rfl⟩,s3,hg3⟩
   walk_at "y"
   refine⟨⟨_,_,_,_,rfl⟩,s3,hg3.to fun q=>?_⟩
   constructor
   .rintro(⟨m',t',i,j,z1,z2,z3⟩|⟨i,j,z1,z2⟩)
    .exact⟨m',t',i,j,by omega,z2,z3⟩
    .exact⟨m,t,i,j,by omega,ht,by rw[hRR,hSS];exact z2⟩
   .rintro⟨m',t',i,j,z1,z2,z3⟩
    by_cases zm:m'=m
    .subst zm
     rw[ht]at z2
     cases z2
     rw[hRR,hSS]at z3
     obtain⟨_,_,z4,_⟩:=id z3
     exact .inr ⟨i,j,by rw[hd1.len];exact at' z4,z3⟩
    .exact .inl ⟨m',t',i,j,by omega,z2,z3⟩
 .rintro σ H2 ⟨⟨x3,x4,x5,x6,rfl⟩,s2,hg2⟩
  walk_at "y"
  refine hg2.list h30 fun l' H3 hl' s3 hp3=>?_
  refine q l' H3 (s2.free hl') (s2.trans s3) (hp3.to fun q=>?_)
  rw[List.length_map]
  constructor
  .rintro⟨m,t,i,j,z1,z2,z3⟩
   have hm:=List.mem_of_getElem? z2
   exact⟨t.1,hTr t hm,(hTP t.1).mp (List.mem_map.mpr ⟨t,hm,rfl⟩),i,j,(fk' (fun z=>by cases z.1)).mp z3⟩
  .rintro⟨x,hx,hp,i,j,z⟩
   obtain⟨t,hm,rfl⟩:=List.mem_map.mp ((hTP x).mpr hp)
   obtain⟨m,hm,e⟩:=List.mem_iff_getElem.mp hm
   exact⟨m,t,i,j,hm,by rw[List.getElem?_eq_getElem hm,e],(fk' (fun z=>by cases z.1)).mpr z⟩
def tq':Sp:=fun vs H Q _=>∃(a:Addr) (W:List (List Dr)) (p:Nat),vs=[.ref a]/\IsW H a W/\OkW p W/\p<=4/\W.length<=30/\
 ∀(l':Addr) (H':Hp),H l'=none->a1' H H'->Prs W.length H' l' (fun q=>Prt W (kP q))->Q (.ref l') H'
theorem pP' {C:Rc} (hN:C.N.length=6):∀vs H Q E,tq' vs H Q E->tSs C ev' { nx:=fun _ H'=>Q .non H',rt:=Q } (L2.aU' C.N vs) H:=by
 intro vs H Q E h
 obtain⟨a,W,p,rfl,hW,okW,hp4,h30,q⟩:=h
 rw[aA' hN]
 unfold ev'
 obtain⟨ws,ha,hws⟩:=id hW
 walk_at "y"
 intro d hd
 have s1:=ad' hd (.dT [])
 have hg1:Gd W.length (upd H d (.dT [])) d fun _=>False:=⟨[],aa',List.nodup_nil,fun q hq=>absurd hq List.not_mem_nil,fun q=>⟨fun z=>absurd z List.not_mem_nil,False.elim⟩⟩
 generalize upd H d (.dT [])=H1 at s1 hg1 ⊢
 walk_at "y"
 refine co' (SqT.of (s1 _ _ ha)) (lA' (xs:=ws) (fun m σ H'=>(∃x2 x3 x4 x5,σ=[some (.ref a),some (.ref d),x2,x3,x4,x5])/\a1' H H'/\Gd W.length H' d fun q=>∃m' R i j,m'<m/\W[m']?=some R/\i<j/\PtQ R R i j q) ⟨⟨_,_,_,_,rfl⟩,s1,hg1.to fun q=>⟨False.elim,fun⟨_,_,_,_,z,_⟩=>absurd z (Nat.not_lt_zero _)⟩⟩ (fun i σ H' _ pv=>SqT.of (pv.2.1 _ _ ha)) ?_ ?_)
 .rintro m v σ H2 hv ⟨⟨x2,x3,x4,x5,rfl⟩,s2,hg2⟩
  obtain⟨R,hR,q1,ds,rfl,hq1,hd1⟩:=hws.getL hv
  have okR:=okW _ (List.mem_of_getElem? hR)
  have dl:=hd1.len
  walk_at "y"
  refine jZ' (SqT.of (s2 _ _ hq1)) (sC' (xs:=ds) (fun i σ H'=>(∃x3 x4 x5,σ=[some (.ref a),some (.ref d),some (.ref q1),x3,x4,x5])/\a1' H H'/\Gd W.length H' d fun q=>(∃m' R i j,m'<m/\W[m']?=some R/\i<j/\PtQ R R i j q)\/∃i' j,i'<i/\i'<j/\PtQ R R i' j q) ⟨⟨_,_,_,rfl⟩,s2,hg2.to fun q=>⟨.inl,fun z=>z.elim id fun⟨_,_,z,_⟩=>absurd z (Nat.not_lt_zero _)⟩⟩ (fun i σ H' _ pv=>SqT.of (pv.2.1 _ _ hq1)) ?_ ?_)
  .rintro i v σ H3 pr hv hpr ⟨⟨x3,x4,x5,rfl⟩,s3',hg3'⟩
   obtain⟨dr,hdr,dv,rfl,hdv⟩:=hd1.getL hv
   have hi:=at' hv
   have s3:=s3'.trans (ad' hpr (.tup [.int i,.ref dv]))
   have hg3:=hg3'.same (ad' hpr (.tup [.int i,.ref dv]))
   refine nA' (SqT.of aa') ?_
   generalize upd H3 pr (.tup [.int i,.ref dv])=H3 at s3 hg3 ⊢
   walk_at "y"
   refine pi' (SqT.of (s3 _ _ hq1)) (fun z=>by have z1:=z.1;simp only[HT.sIx]at z1;split at z1<;>omega) fun c hc=>?_
   rw[show(i:Int)+1=((i+1:Nat):Int) by omega,lD']
   have s4:=s3.trans (ad' hc (.tup (ds.drop (i+1))))
   have hg4:=hg3.same (ad' hc (.tup (ds.drop (i+1))))
   have hcc:upd H3 c (.tup (ds.drop (i+1))) c=some (.tup (ds.drop (i+1))):=aa'
   have hcd:c≠d:=by
    obtain⟨qs,z,_⟩:=hg3
    exact(ag' z hc).symm
   generalize upd H3 c (.tup (ds.drop (i+1)))=H4 at s4 hg4 hcc ⊢
   refine co' (SqT.of hcc) (lA' (xs:=ds.drop (i+1)) (fun j σ H'=>(∃x5,σ=[some (.ref a),some (.ref d),some (.ref q1),some (.int i),some (.ref dv),x5])/\a1' H H'/\H' c=some (.tup (ds.drop (i+1)))/\Gd W.length H' d fun q=>((∃m' R i j,m'<m/\W[m']?=some R/\i<j/\PtQ R R i j q)\/∃i' j,i'<i/\i'<j/\PtQ R R i' j q)\/∃j',i<j'/\j'<i+1+j/\PtQ R R i j' q) ⟨⟨_,rfl⟩,s4,hcc,hg4.to fun q=>⟨.inl,fun z=>z.elim id fun⟨_,z1,z2,_⟩=>absurd z1 (by omega)⟩⟩ (fun i σ H' _ pv=>SqT.of pv.2.2.1) ?_ ?_)
   .rintro j v2 σ H5 hv2 ⟨⟨x5,rfl⟩,s5,hc5,hg5⟩
    rw[List.getElem?_drop]at hv2
    obtain⟨er,her,ev,rfl,hev⟩:=hd1.getL hv2
    walk_at "y"
    refine aT' (SqT.of (s5 _ _ hdv)) rfl ?_
    walk_at "y"
    refine aT' (SqT.of (s5 _ _ hev)) rfl ?_
    walk_at "y"
    rw[ks']
    have hP:∀q,PtQ R R i (i+1+j) q↔dr.1=er.1/\q=(min dr.2 er.2,max dr.2 er.2):=fun q=>kx' hdr her
    by_cases hde:dr.1=er.1
    .rw[decide_eq_true hde]
     walk_at "y"
     refine aT' (SqT.of (s5 _ _ hdv)) rfl ?_
     walk_at "y"
     refine aT' (SqT.of (s5 _ _ hev)) rfl ?_
     walk_at "y"
     refine aT' (SqT.of (s5 _ _ hdv)) rfl ?_
     walk_at "y"
     refine aT' (SqT.of (s5 _ _ hev)) rfl ?_
     walk_at "y"
     refine⟨show 2<=sizeLine by decide,fun t2 ht2=>?_⟩
     rw[tn',to']
     have sn:=ad' ht2 (.tup [.int ((min dr.2 er.2:Nat):Int),.int ((max dr.2 er.2:Nat):Int)])
     have s6:=s5.trans sn
     refine(hg5.same sn).put (q:=(min dr.2 er.2,max dr.2 er.2)) h30 (tl' (okR.2 _ (List.mem_of_getElem? hdr)).2 (okR.2 _ (List.mem_of_getElem? her)).2) aa' fun H7 k7 _ hg7=>?_
     walk_at "y"
     refine⟨⟨_,rfl⟩,fun b u e=>k7 b u (ag' e hd) (s6 b u e),k7 _ _ hcd (sn _ _ hc5),hg7.to fun q=>?_⟩
     constructor
     .rintro((z|⟨j',z1,z2,z3⟩)|z)
      .exact .inl z
      .exact .inr ⟨j',z1,by omega,z3⟩
      .exact .inr ⟨i+1+j,by omega,by omega,(hP q).mpr ⟨hde,z⟩⟩
     .rintro(z|⟨j',z1,z2,z3⟩)
      .exact .inl (.inl z)
      .by_cases zj:j'=i+1+j
       .subst zj;exact .inr ((hP q).mp z3).2
       .exact .inl (.inr ⟨j',z1,by omega,z3⟩)
    .rw[decide_eq_false hde]
     walk_at "y"
     refine⟨⟨_,rfl⟩,s5,hc5,hg5.to fun q=>?_⟩
     constructor
     .rintro(z|⟨j',z1,z2,z3⟩)
      .exact .inl z
      .exact .inr ⟨j',z1,by omega,z3⟩
     .rintro(z|⟨j',z1,z2,z3⟩)
      .exact .inl z
      .by_cases zj:j'=i+1+j
       .subst zj;exact absurd ((hP q).mp z3).1 hde
       .exact .inr ⟨j',z1,by omega,z3⟩
   .rintro σ H5 ⟨⟨x5,rfl⟩,s5,hc5,hg5⟩
    walk_at "y"
    refine⟨⟨_,_,_,rfl⟩,s5,hg5.to fun q=>?_⟩
    rw[List.length_drop]
    constructor
    .rintro((z|⟨i',j',z1,z2,z3⟩)|⟨j',z1,z2,z3⟩)
     .exact .inl z
     .exact .inr ⟨i',j',by omega,z2,z3⟩
     .exact .inr ⟨i,j',by omega,z1,z3⟩
    .rintro(z|⟨i',j',z1,z2,z3⟩)
     .exact .inl (.inl z)
     .by_cases zi:i'=i
      .subst zi
       obtain⟨_,e',_,z4,_⟩:=id z3
       have:=at' z4
       exact .inr ⟨j',z2,by omega,z3⟩
      .exact .inl (.inr ⟨i',j',by omega,z2,z3⟩)
  .rintro σ H3 ⟨⟨x3,x4,x5,rfl⟩,s3,hg3⟩
   walk_at "y"
   refine⟨⟨_,_,_,_,rfl⟩,s3,hg3.to fun q=>?_⟩
   constructor
   .rintro(⟨m',R',i,j,z1,z2,z3⟩|⟨i,j,z1,z2⟩)
    .exact⟨m',R',i,j,by omega,z2,z3⟩
    .exact⟨m,R,i,j,by omega,hR,z2⟩
   .rintro⟨m',R',i,j,z1,z2,z3,z4⟩
    by_cases zm:m'=m
    .subst zm
     rw[hR]at z2
     cases z2
     obtain⟨_,_,z5,_⟩:=id z4
     exact .inr ⟨i,j,by rw[dl];exact at' z5,z3,z4⟩
    .exact .inl ⟨m',R',i,j,by omega,z2,z3,z4⟩
 .rintro σ H2 ⟨⟨x2,x3,x4,x5,rfl⟩,s2,hg2⟩
  walk_at "y"
  refine hg2.list h30 fun l' H3 hl' s3 hp3=>?_
  refine q l' H3 (s2.free hl') (s2.trans s3) (hp3.to fun q=>?_)
  rw[hws.len]
  constructor
  .rintro⟨m,R,i,j,z1,z2,z3,z4⟩
   refine⟨m,z1,i,j,?_⟩
   rw[show W.getD m []=R by rw[List.getD_eq_getElem?_getD,z2];rfl]
   exact(fk' (fun z=>by have:=z.2;omega)).mp z4
  .rintro⟨m,z1,i,j,z⟩
   have hR:W[m]?=some (W.getD m []):=by rw[List.getD_eq_getElem?_getD,List.getElem?_eq_getElem z1];rfl
   generalize W.getD m []=R at hR z
   have hne:i≠j:=by
    obtain⟨_,_,_,_,_,z5,_⟩:=id z
    exact fun e=>z5 ⟨rfl,e⟩
   rcases Nat.lt_or_ge i j with hij|hij
   .exact⟨m,R,i,j,z1,hR,hij,(fk' (fun z=>hne z.2)).mpr z⟩
   .refine⟨m,R,j,i,z1,hR,by omega,(fk' (u:=true) (fun z=>hne z.2.symm)).mpr ?_⟩
    obtain⟨d1,e1,z2,z3,z4,z5,z6⟩:=z
    exact⟨e1,d1,z3,z2,z4.symm,fun z=>hne z.2.symm,by rw[z6,pK']⟩
noncomputable def tI (t:(Nat×Nat)×Addr):Addr×List Itm:=(t.2,[.inl (t.1.1:Int),.inl (t.1.2:Int)])
def h1':Sp:=fun vs H Q _=>∃(a:Addr) (W:List (List Dr)) (p most:Nat),vs=[.ref a,.int most]/\IsW H a W/\OkW p W/\p<=4/\W.length<=30/\most<=500/\
 (∀H',a1' H H'->(∀i,i<=most->led W i)->Q .non H')/\∀(i:Nat) H',a1' H H'->i<=most->¬led W i->(∀j,j<i->led W j)->Q (.int i) H'
theorem nW' {H:Hp} {l:Addr} {T:List ((Nat×Nat)×Addr)} {qs:List (Addr×List Itm)} (hl:H l=some (.lst (qs.map fun q=>V.ref q.1))) (hp:qs.Perm (T.map tI)) (hT:∀t∈T,H t.2=some (.tup [.int t.1.1,.int t.1.2])):
  ∃ks:List (List Int),LsR H (TpI H) (.ref l) ks/\∀q,kP q∈ks↔q∈T.map (·.1):=by
 have hget:∀q∈qs,∃t∈T,q=tI t:=fun q hq=>let⟨t,h1,h2⟩:=List.mem_map.mp (hp.mem_iff.mp hq);⟨t,h1,h2.symm⟩
 refine⟨qs.map fun q=>q.2.map fun | .inl i=>i | .inr _=>0,⟨l,_,rfl,hl,by rw[List.length_map,List.length_map],fun i v k hv hk=>?_⟩,fun q=>?_⟩
 .rw[List.getElem?_map]at hv hk
  obtain⟨x,hx,rfl⟩:=Option.map_eq_some_iff.mp hv
  rw[hx]at hk
  obtain⟨t,ht,e⟩:=hget x (List.mem_of_getElem? hx)
  injection hk with hk
  refine⟨x.1,rfl,?_⟩
  rw[<- hk,e]
  exact hT t ht
 .rw[List.mem_map,List.mem_map]
  constructor
  .rintro⟨x,hx,e⟩
   obtain⟨t,ht,rfl⟩:=hget x hx
   exact⟨t,ht,nS' e⟩
  .rintro⟨t,ht,rfl⟩
   exact⟨tI t,hp.mem_iff.mpr (List.mem_map.mpr ⟨t,ht,rfl⟩),rfl⟩
theorem l3' {H H':Hp} (s:a1' H H') {v:V} {ks:List (List Int)} (h:LsR H (TpI H) v ks):LsR H' (TpI H') v ks:=by
 obtain⟨p,vs,e,h1,h2,h3⟩:=h
 exact⟨p,vs,e,s _ _ h1,h2,fun i v k hv hk=>let⟨q,e,z⟩:=h3 i v k hv hk;⟨q,e,s _ _ z⟩⟩
structure FsDue (C:Rc):Prop where
 bg:C.fs "_law_begun"=some tq'
 on:C.fs "_law_on"=some tp'
def Kn (W:List (List Dr)) (H:Hp) (kn:Addr) (i:Nat):Prop:=∃(vs:List V) (KL:List (List (List Int))),H kn=some (.lst vs)/\Pw (LsR H (TpI H)) vs KL/\vs.length<=i/\(∀v∈vs,v≠.ref kn)/\∀k∈KL,∃j,j<i/\∀q,q∈rp W.length->(kP q∈k↔Rn W j q)
theorem Kn.same {W:List (List Dr)} {H H':Hp} (s:a1' H H') {kn:Addr} {i:Nat} (h:Kn W H kn i):Kn W H' kn i:=let⟨vs,KL,h1,h2,r⟩:=h;⟨vs,KL,s _ _ h1,⟨h2.1,fun j v k hv hk=>l3' s (h2.2 j v k hv hk)⟩,r⟩
theorem ky' {H H':Hp} {kn:Addr} {xs:List V} (hk:H kn=some (.lst xs)) (s:∀b u,b≠kn->H b=some u->H' b=some u) {v:V} {ks:List (List Int)} (hv:v≠.ref kn) (h:LsR H (TpI H) v ks):LsR H' (TpI H') v ks:=by
 obtain⟨p,vs,e,h1,h2,h3⟩:=h
 exact⟨p,vs,e,s _ _ (fun z=>hv (by rw[e,z])) h1,h2,fun i v k hv hk'=>let⟨q,e,z⟩:=h3 i v k hv hk';⟨q,e,s _ _ (fun y=>by rw[y,hk]at z;cases z) z⟩⟩
theorem l4' {C:Rc} (hN:C.N.length=6) (F:FsDue C):∀vs H Q E,h1' vs H Q E->tSs C lZ' { nx:=fun _ H'=>Q .non H',rt:=Q } (L2.aU' C.N vs) H:=by
 intro vs H Q E h
 obtain⟨a,W,p,most,rfl,hW,okW,hp4,h30,hmost,qn,qs⟩:=h
 rw[aA' hN]
 unfold lZ'
 walk_at "y"
 refine an' F.bg ?_
 walk_at "y"
 refine⟨a,W,p,rfl,hW,okW,hp4,h30,fun l0 H1 hl0 s1 hp0=>?_⟩
 walk_at "y"
 refine⟨by decide,fun kn hkn=>?_⟩
 have s2:=s1.trans (ad' hkn (.lst []))
 have hp2:=hp0.same (ad' hkn (.lst []))
 have hk2:upd H1 kn (.lst []) kn=some (.lst []):=aa'
 have hHk:H kn=none:=s1.free hkn
 generalize upd H1 kn (.lst [])=H2 at s2 hp2 hk2 ⊢
 have hl0k:l0≠kn:=by
  obtain⟨_,z,_⟩:=hp0
  exact ag' z hkn
 have key0:Kn W H2 kn 0:=⟨[],[],hk2,⟨rfl,fun i v k hv=>by simp at hv⟩,Nat.le_refl _,fun v hv=>absurd hv List.not_mem_nil,fun k hk=>absurd hk List.not_mem_nil⟩
 walk_at "y"
 refine nD' (fun N σ H'=>∃(i:Nat) (l:Addr) (x5:Option V),N=most-i/\σ=[some (.ref a),some (.int most),some (.ref l),some (.ref kn),some (.int i),x5]/\i<=most/\l≠kn/\Prs W.length H' l (Rn W i)/\a1' H H'/\Kn W H' kn i/\∀j,j<i->NE W j) _ ⟨0,l0,_,rfl,rfl,Nat.zero_le _,hl0k,hp2,s2,key0,fun j hj=>absurd hj (Nat.not_lt_zero _)⟩ ?_
 rintro N σ H3 ⟨i,l,x5,rfl,rfl,him,hlk,hp3,s3,hk3,hne⟩
 obtain⟨T,hl3,hT,hT9,hTr,hTP⟩:=id hp3
 walk_at "y"
 refine⟨by decide,fun e0 he0=>?_⟩
 have sn:=ad' he0 (.lst [])
 have s4:=s3.trans sn
 have he4:upd H3 e0 (.lst []) e0=some (.lst []):=aa'
 have hl4:=sn _ _ hl3
 have hT4:∀t∈T,upd H3 e0 (.lst []) t.2=some (.tup [.int t.1.1,.int t.1.2]):=fun t ht=>sn _ _ (hT t ht)
 have hk4:Kn W (upd H3 e0 (.lst [])) kn i:=hk3.same sn
 generalize upd H3 e0 (.lst [])=H4 at sn s4 he4 hl4 hT4 hk4 ⊢
 refine sL' (SqL.of hl4) (SqL.of he4) (fun hz=>?_) ?_
 .have e:T.map (fun t=>V.ref t.2)=[]:=List.eq_nil_of_length_eq_zero hz
  rw[e]
  exact fun i x y hx=>by simp at hx
 by_cases hT0:T=[]
 .subst hT0
  rw[show(List.map (fun t:(Nat×Nat)×Addr=>V.ref t.2) [])=[] from rfl,decide_eq_true rfl]
  walk_at "y"
  refine j0' ?_
  walk_at "y"
  refine qs i _ s4 him (fun z=>?_) fun j hj=>gX'.mp (hne j hj)
  obtain⟨q,_,hq⟩:=gX'.mpr z
  exact absurd ((hTP q).mpr hq) List.not_mem_nil
 .have hyes:NE W i:=by
   cases T with
   |nil=>exact absurd rfl hT0
   |cons t T=>exact⟨t.1,hTr t (by simp),(hTP t.1).mp (by simp)⟩
  rw[decide_eq_false (fun z=>hT0 (List.map_eq_nil_iff.mp z))]
  walk_at "y"
  refine nE' ?_
  walk_at "y"
  by_cases him2:i=most
  .rw[decide_eq_true (show(i:Int)=(most:Int) by omega)]
   walk_at "y"
   refine qn _ s4 fun j hj=>gX'.mp ?_
   by_cases z:j=i
   .rw[z];exact hyes
   .exact hne j (by omega)
  rw[decide_eq_false (show ¬(i:Int)=(most:Int) by omega)]
  walk_at "y"
  refine cn' (SqL.of hl4) (sH' (vs:=T.map fun t=>V.ref t.2) (fun m xs H'=>m<=T.length/\H'=H4/\xs=((T.take m).map fun t=>decide (t.1.1=t.1.2)).map V.bl) ⟨Nat.zero_le _,rfl,rfl⟩ (fun m xs H' pv=>SqL.of (by rw[pv.2.1];exact hl4)) ?_ ?_)
  .rintro m xs H5 v R hv ⟨_,rfl,rfl⟩ hR
   rw[List.getElem?_map]at hv
   obtain⟨t,ht,rfl⟩:=Option.map_eq_some_iff.mp hv
   have hm:=at' ht
   have htt:=hT4 t (List.mem_of_getElem? ht)
   walk_at "y"
   refine aT' (SqT.of htt) rfl ?_
   walk_at "y"
   refine aT' (SqT.of htt) rfl ?_
   walk_at "y"
   refine⟨?_,hR _ _ ⟨hm,rfl,?_⟩⟩
   .rw[List.length_map,List.length_map,List.length_take]
    exact aI' (by omega)
   .rw[List.take_succ,ht,List.map_append,List.map_append]
    rw[show decide ((t.1.1:Int)=(t.1.2:Int))=decide (t.1.1=t.1.2) from decide_eq_decide.mpr (by omega)]
    rfl
  .rintro xs H5 ⟨_,rfl,rfl⟩
   rw[List.length_map,List.take_length]
   intro bl hbl
   have sb:=ad' hbl (.lst ((T.map fun t=>decide (t.1.1=t.1.2)).map V.bl))
   have s6:=s4.trans sb
   have hl6:=sb _ _ hl4
   have hT6:∀t∈T,_:=fun t ht=>sb _ _ (hT4 t ht)
   have hk6:=hk4.same sb
   have hbl6:upd H5 bl (.lst ((T.map fun t=>decide (t.1.1=t.1.2)).map V.bl)) bl=some (.lst ((T.map fun t=>decide (t.1.1=t.1.2)).map V.bl)):=aa'
   generalize upd H5 bl (.lst ((T.map fun t=>decide (t.1.1=t.1.2)).map V.bl))=H6 at sb s6 hl6 hT6 hk6 hbl6 ⊢
   refine sI' (SqL.of hbl6) ?_
   have none_of:∀H',a1' H H'->(∀j,i<=j->NE W j)->Q .non H':=fun H' s hall=>qn H' s fun j hj=>gX'.mp (by
    rcases Nat.lt_or_ge j i with z|z
    .exact hne j z
    .exact hall j z)
   cases hd:(T.map fun t=>decide (t.1.1=t.1.2)).any id with
   |true=>
    walk_at "y"
    refine none_of _ s6 fun j hj=>?_
    obtain⟨b,hb,hb1⟩:=List.any_eq_true.mp hd
    obtain⟨t,ht,rfl⟩:=List.mem_map.mp hb
    have e:t.1.1=t.1.2:=of_decide_eq_true hb1
    have hr:=(hTP t.1).mp (List.mem_map.mpr ⟨t,ht,rfl⟩)
    have hx:=(cI'.mp (hTr t ht)).2
    rw[show t.1=(t.1.2,t.1.2) from Prod.ext e rfl]at hr
    exact pL' okW hx hr hj
   |false=>
    walk_at "y"
    have hq6:(T.map fun t=>V.ref t.2)=(T.map tI).map fun q=>V.ref q.1:=by rw[List.map_map];rfl
    have hsq:∀q∈T.map tI,H6 q.1=some (.tup (q.2.map itV)):=fun q hq=>by
     obtain⟨t,ht,rfl⟩:=List.mem_map.mp hq
     exact hT6 t ht
    have hsh:∀q∈T.map tI,shp q.2=true :: [true]:=fun q hq=>by
     obtain⟨t,ht,rfl⟩:=List.mem_map.mp hq
     rfl
    refine gQ' (qs:=T.map tI) (by rw[<- hq6];exact SqL.of hl6) (fun q hq=>SqT.of (hsq q hq)) hsh fun sl qs' hsl hperm _=>?_
    have sc:=ad' hsl (.lst (qs'.map fun q=>V.ref q.1))
    have s7:=s6.trans sc
    have hl7:=sc _ _ hl6
    have hT7:∀t∈T,_:=fun t ht=>sc _ _ (hT6 t ht)
    have hk7:=hk6.same sc
    have hs7:upd H6 sl (.lst (qs'.map fun q=>V.ref q.1)) sl=some (.lst (qs'.map fun q=>V.ref q.1)):=aa'
    have hsq7:∀q∈T.map tI,_:=fun q hq=>sc _ _ (hsq q hq)
    generalize upd H6 sl (.lst (qs'.map fun q=>V.ref q.1))=H7 at sc s7 hl7 hT7 hk7 hs7 hsq7 ⊢
    obtain⟨ks,hks,hmem⟩:=nW' hs7 hperm hT7
    obtain⟨vs,KL,hkn7,hpw,hvl,hvn,hKL⟩:=id hk7
    walk_at "y"
    refine s8' hks ⟨kn,vs,rfl,hkn7,hpw⟩ ?_
    by_cases hin:ks∈KL
    .rw[decide_eq_true hin]
     walk_at "y"
     obtain⟨j,hj,hjq⟩:=hKL ks hin
     refine none_of _ s7 fun m hm=>l2' hj (fun q hq=>?_) (fun m' hm'=>?_) m
     .rw[<- hjq q hq,hmem,hTP]
     .by_cases z:m'=i
      .rw[z];exact hyes
      .exact hne m' (by omega)
    .rw[decide_eq_false hin]
     walk_at "y"
     refine⟨tyL hkn7 rfl,gQ' (qs:=T.map tI) (by rw[<- hq6];exact SqL.of hl7) (fun q hq=>SqT.of (hsq7 q hq)) hsh fun sl2 qs2 hsl2 hperm2 _=>?_⟩
     have sc2:=ad' hsl2 (.lst (qs2.map fun q=>V.ref q.1))
     have s8:=s7.trans sc2
     have hl8:=sc2 _ _ hl7
     have hT8:∀t∈T,_:=fun t ht=>sc2 _ _ (hT7 t ht)
     have hk8:=hk7.same sc2
     have hs8:upd H7 sl2 (.lst (qs2.map fun q=>V.ref q.1)) sl2=some (.lst (qs2.map fun q=>V.ref q.1)):=aa'
     have hsk:sl2≠kn:=(ag' hkn7 hsl2).symm
     generalize upd H7 sl2 (.lst (qs2.map fun q=>V.ref q.1))=H8 at sc2 s8 hl8 hT8 hk8 hs8 ⊢
     obtain⟨ks2,hks2,hmem2⟩:=nW' hs8 hperm2 hT8
     obtain⟨vs8,KL8,hkn8,hpw8,hvl8,hvn8,hKL8⟩:=id hk8
     walk_at "y"
     refine ka' hkn8 (aI' (by omega)) ?_
     have k9:∀b u,b≠kn->H8 b=some u->upd H8 kn (.lst (vs8++[.ref sl2])) b=some u:=fun b u hb e=>by rw[ab' hb];exact e
     have s9:a1' H (upd H8 kn (.lst (vs8++[.ref sl2]))):=fun b u e=>k9 b u (ag' e hHk) (s8 b u e)
     have hk9:Kn W (upd H8 kn (.lst (vs8++[.ref sl2]))) kn (i+1):=by
      refine⟨vs8++[.ref sl2],KL8++[ks2],aa',⟨by rw[List.length_append,List.length_append,hpw8.1];rfl,fun j v k hv hk=>?_⟩,by rw[List.length_append];show vs8.length+1<=i+1;omega,fun v hv=>?_,fun k hk=>?_⟩
      .rcases Nat.lt_or_ge j vs8.length with z|z
       .rw[List.getElem?_append_left z]at hv
        rw[List.getElem?_append_left (by rw[<- hpw8.1];exact z)]at hk
        exact ky' hkn8 k9 (hvn8 v (List.mem_of_getElem? hv)) (hpw8.2 j v k hv hk)
       .have hj:=at' hv
        rw[List.length_append]at hj
        have ej:j=vs8.length:=by have:[V.ref sl2].length=1:=rfl;omega
        subst ej
        rw[List.getElem?_append_right (Nat.le_refl _),Nat.sub_self]at hv
        rw[List.getElem?_append_right (by rw[hpw8.1];exact Nat.le_refl _),hpw8.1,Nat.sub_self]at hk
        cases hv
        cases hk
        exact ky' hkn8 k9 (fun z=>hsk (by injection z)) hks2
      .rcases List.mem_append.mp hv with hv|hv
       .exact hvn8 v hv
       .rw[List.mem_singleton.mp hv]
        exact fun z=>hsk (by injection z)
      .rcases List.mem_append.mp hk with hk|hk
       .obtain⟨j,hj,hq⟩:=hKL8 k hk
        exact⟨j,by omega,hq⟩
       .rw[List.mem_singleton.mp hk]
        exact⟨i,by omega,fun q hq=>by rw[hmem2,hTP]⟩
     have hp9:Prs W.length (upd H8 kn (.lst (vs8++[.ref sl2]))) l (Rn W i):=⟨T,k9 _ _ hlk hl8,fun t ht=>k9 _ _ (fun z=>by have:=hT8 t ht;rw[z,hkn8]at this;cases this) (hT8 t ht),hT9,hTr,hTP⟩
     generalize upd H8 kn (.lst (vs8++[.ref sl2]))=H9 at s9 hk9 hp9 ⊢
     walk_at "y"
     refine an' F.on ?_
     walk_at "y"
     refine⟨a,l,W,p,Rn W i,rfl,hW.mono (bj' s9),okW,h30,hp9,fun l' H10 hl' s10 hp10=>?_⟩
     walk_at "y"
     refine⟨_,?_,i+1,l',_,rfl,by rfl,by omega,?_,hp10,s9.trans s10,hk9.same s10,fun j hj=>?_⟩
     .omega
     .obtain⟨_,_,z,_⟩:=hk9
      exact(ag' z hl').symm
     .by_cases z:j=i
      .rw[z];exact hyes
      .exact hne j (by omega)
theorem tr' {K:W.Frag} {H H':Hp} (s:SmD H H') {a:Addr} {xs:List V} (h:SqL K H a xs):SqL K H' a xs:=by
 rcases h with(h|⟨o,h⟩)|h
 .exact .inl (.inl (s.lst h))
 .exact .inl (.inr ⟨o,s.1 _ _ h ⟨fun _ z=>(nomatch z),fun _ _ z=>(nomatch z)⟩⟩)
 .exact .inr h
theorem ts' {H H':Hp} (s:SmD H H') {b:Addr} {n:Nat} (h:H b=some (cK' b n)):H' b=some (cK' b n):=s.1 _ _ h ⟨fun _ z=>(nomatch z),fun _ _ z=>(nomatch z)⟩
structure FsLaw (C:Rc):Prop where
 box:C.fs "_law_box"=some (h0' C.K)
 take:C.fs "_law_take"=some bA'
 writer:C.fs "_law_writer"=some bD'
 due:C.fs "_law_due"=some h1'
 la:C.fs "look_ahead"=some p4'
theorem l5' {C:Rc} (hN:C.N.length=10) (F:FsLaw C):∀vs H Q E,kr' C.K vs H Q E->tSs C l1' { nx:=fun _ H'=>Q .non H',rt:=Q } (L2.aU' C.N vs) H:=by
 intro vs H Q E h
 obtain⟨a,ns,rfl,hs,h63,q⟩:=h
 rw[aA' hN]
 unfold l1'
 walk_at "y"
 refine fV' hs ?_
 rw[List.length_map]
 walk_at "y"
 obtain⟨N,eN,hN1,hN2⟩:∃N:Int,N=1+(if(ns.length:Int)<4 then(ns.length:Int)else 4)/\1<=N/\N<=5:=by
  refine⟨_,rfl,?_,?_⟩<;>split<;>omega
 rw[<- eN]
 refine dC' (by omega) (by omega) (lB' (fun i σ H'=>(∃x1 x2 x3 x4 x5 x6 x7 x8 x9,σ=[some (.ref a),x1,x2,x3,x4,x5,x6,x7,x8,x9])/\SqL C.K H' a (ns.map V.int)) ⟨⟨_,_,_,_,_,_,_,_,_,rfl⟩,hs⟩ ?_ ?_)
 .rintro i σ H0 hi ⟨⟨x1,x2,x3,x4,x5,x6,x7,x8,x9,rfl⟩,hs0⟩
  walk_at "y"
  refine an' F.box ?_
  walk_at "y"
  refine⟨a,ns,_,rfl,hs0,by omega,by omega,fun b hb=>?_⟩
  have hs1:=(ad' hb (cK' b 0)).seq hs0
  have hb1:upd H0 b (cK' b 0) b=some (cK' b 0):=aa'
  generalize upd H0 b (cK' b 0)=H1 at hs1 hb1 ⊢
  walk_at "y"
  rw[vk']
  refine an' F.writer ?_
  walk_at "y"
  refine⟨b,0,rfl,hb1,by omega,fun t w p z W H2 g2 ht hW okW hp1 hp4 hW1 hW24=>?_⟩
  refine sx' (C:=C) (SqT.of ht) ?_
  obtain⟨n2,hb2,hn2,_⟩:=g2.boxed hb1 (by decide)
  have hs2:=g2.seq hs1
  walk_at "y"
  refine dC' (by omega) (by omega) (lB' (fun j σ H'=>(∃x6 x7 x8 x9,σ=[some (.ref a),some (.int (0+i)),some (.ref b),some (.int p),some (.int z),some (.ref w),x6,x7,x8,x9])/\SqL C.K H' a (ns.map V.int)/\IsW H' w W/\∃n,H' b=some (cK' b n)/\n<=6000+200*j) ⟨⟨_,_,_,_,rfl⟩,hs2,hW,n2,hb2,by omega⟩ ?_ ?_)
  .rintro j σ H3 hj ⟨⟨x6,x7,x8,x9,rfl⟩,hs3,hW3,n3,hb3,hn3⟩
   have hj:j<3:=hj
   walk_at "y"
   refine an' F.take ?_
   walk_at "y"
   refine⟨b,n3,_,rfl,hb3,by omega,by omega,by omega,fun r0 H4 hr0 hr1 g4=>?_⟩
   obtain⟨r,rfl⟩:=Int.eq_ofNat_of_zero_le hr0
   obtain⟨n4,hb4,hn4,_⟩:=g4.boxed hb3 (by omega)
   have hs4:=g4.seq hs3
   have hW4:=hW3.mono g4.tp
   walk_at "y"
   refine⟨by decide,fun ml hml=>?_⟩
   have sm:=ad' hml (.lst [.int r,.int 100])
   have hm5:upd H4 ml (.lst [.int r,.int 100]) ml=some (.lst [.int r,.int 100]):=aa'
   have hs5:=sm.seq hs4
   have hb5:=sm _ _ hb4
   have hW5:=hW4.mono (bj' sm)
   generalize upd H4 ml (.lst [.int r,.int 100])=H5 at sm hm5 hs5 hb5 hW5 ⊢
   refine an' F.take ?_
   walk_at "y"
   refine⟨b,n4,_,rfl,hb5,by omega,by omega,by omega,fun u H6 hu0 hu1 g6=>?_⟩
   obtain⟨n6,hb6,hn6,_⟩:=g6.boxed hb5 (by omega)
   have hs6:=g6.seq hs5
   have hW6:=hW5.mono g6.tp
   walk_at "y"
   obtain⟨M,eM,hM⟩:∃M:Nat,atI [V.int r,V.int 100] (if decide (u=0)=true then 1 else 0)=some (.int M)/\M<=500:=by
    by_cases hu:u=0
    .rw[decide_eq_true hu];exact⟨100,rfl,by decide⟩
    .rw[decide_eq_false hu];exact⟨r,rfl,by omega⟩
   refine gN' (SqL.of (g6.lst hm5)) eM ?_
   walk_at "y"
   refine an' F.due ?_
   walk_at "y"
   have fin:∀H',SmD H6 H'->∀x7 x8 x9,(∃y6 y7 y8 y9,[some (V.ref a),some (V.int (0+i)),some (V.ref b),some (V.int p),some (V.int z),some (V.ref w),some (V.int (0+j)),x7,x8,x9]=[some (V.ref a),some (V.int (0+i)),some (V.ref b),some (V.int p),some (V.int z),some (V.ref w),y6,y7,y8,y9])/\SqL C.K H' a (ns.map V.int)/\IsW H' w W/\∃n,H' b=some (cK' b n)/\n<=6000+200*(j+1):=fun H' s x7 x8 x9=>⟨⟨_,_,_,_,rfl⟩,tr' s hs6,s.isW hW6,n6,ts' s hb6,by omega⟩
   refine⟨w,W,p,M,rfl,hW6,okW,hp4,by omega,hM,fun H7 s7 hall=>?_,fun k H7 s7 hk hno hyes=>?_⟩
   .walk_at "y"
    refine an' F.la ?_
    walk_at "y"
    refine⟨w,W,p,M,rfl,hW6.mono (bj' s7),okW,hp4,by omega,by omega,fun H8 s8 _=>?_,fun k' H8 s8 hk' hno' _=>absurd (hall k' hk') hno'⟩
    walk_at "y"
    rw[vj' (x:=.non) (y:=.non) rfl,decide_eq_true rfl]
    walk_at "y"
    refine wq' (T:="NoneType") (k:=false) rfl rfl (by decide) (by decide) ?_
    walk_at "y"
    exact fin H8 ((SmD.of s7).trans s8) _ _ _
   .walk_at "y"
    refine an' F.la ?_
    walk_at "y"
    refine⟨w,W,p,M,rfl,hW6.mono (bj' s7),okW,hp4,by omega,by omega,fun H8 s8 hall=>absurd (hall k hk) hno,fun k' H8 s8 hk' hno' hyes'=>?_⟩
    have ek:k'=k:=by
     rcases Nat.lt_trichotomy k' k with z|z|z
     .exact absurd (hyes k' z) hno'
     .exact z
     .exact absurd (hyes' k z) hno
    subst ek
    walk_at "y"
    refine wq' (T:="int") (k:=false) rfl rfl (by decide) (by decide) ?_
    walk_at "y"
    have s68:=(SmD.of s7).trans s8
    by_cases hk0:0<k'
    .rw[decide_eq_true (show(0:Int)<(k':Int) by omega)]
     walk_at "y"
     refine an' F.la ?_
     walk_at "y"
     refine⟨w,W,p,k'-1,by rw[show(k':Int)-1=((k'-1:Nat):Int) by omega],s68.isW hW6,okW,hp4,by omega,by omega,fun H9 s9 _=>?_,fun k2 H9 s9 hk2 hno2 _=>absurd (hyes k2 (by omega)) hno2⟩
     walk_at "y"
     exact fin H9 (s68.trans s9) _ _ _
    .rw[decide_eq_false (show ¬(0:Int)<(k':Int) by omega)]
     walk_at "y"
     exact fin H8 s68 _ _ _
  .rintro σ H3 ⟨⟨x6,x7,x8,x9,rfl⟩,hs3,hW3,n3,hb3,hn3⟩
   walk_at "y"
   exact⟨⟨_,_,_,_,_,_,_,_,_,rfl⟩,hs3⟩
 .rintro σ H0 ⟨⟨x1,x2,x3,x4,x5,x6,x7,x8,x9,rfl⟩,hs0⟩
  walk_at "y"
  exact q _
end K45
namespace K45
open PySem PySem.Spec PyProof.Rows L2 R3 LW SR BK K42 WR PR
noncomputable def top (i:Nat):Stmt:=PySem.Challenge.pw_runbound_k45_how_far_ahead.main.body.getD i (.Pass ⟨0,0,0,0⟩)
theorem wV':mSs bv' a5' (ac' (top 1)) a6' (ap' (top 1))=true:=by decide +kernel
theorem vw':FnScope bv' ["writer"] (ac' (top 1)):=⟨rfl,rfl,rfl,by decide +kernel,rfl,by decide +kernel,by decide +kernel⟩
theorem wW':mSs bb' aP' (ac' (top 2)) aQ' (ap' (top 2))=true:=by decide +kernel
theorem vx':FnScope bb' ["writer","pair","unlike"] (ac' (top 2)):=⟨rfl,rfl,rfl,by decide +kernel,rfl,by decide +kernel,by decide +kernel⟩
theorem wX':mSs bO' bo' (ac' (top 3)) bp' (ap' (top 3))=true:=by decide +kernel
theorem vy':FnScope bO' ["writer"] (ac' (top 3)):=⟨rfl,rfl,rfl,by decide +kernel,rfl,by decide +kernel,by decide +kernel⟩
theorem wY':mSs bP' bq' (ac' (top 4)) br' (ap' (top 4))=true:=by decide +kernel
theorem vz':FnScope bP' ["pairs","goals"] (ac' (top 4)):=⟨rfl,rfl,rfl,by decide +kernel,rfl,by decide +kernel,by decide +kernel⟩
theorem wZ':mSs bQ' bs' (ac' (top 5)) bt' (ap' (top 5))=true:=by decide +kernel
theorem vA':FnScope bQ' ["steps","pairs"] (ac' (top 5)):=⟨rfl,rfl,rfl,by decide +kernel,rfl,by decide +kernel,by decide +kernel⟩
theorem w0':mSs bw' a7' (ac' (top 6)) a8' (ap' (top 6))=true:=by decide +kernel
theorem vB':FnScope bw' ["writer","most"] (ac' (top 6)):=⟨rfl,rfl,rfl,by decide +kernel,rfl,by decide +kernel,by decide +kernel⟩
theorem tt':mSs cq' bN' (ac' (top 8)) cp' (ap' (top 8))=true:=by decide +kernel
theorem pQ':FnScope cq' ["_law_script","_law_k"] (ac' (top 8)):=⟨rfl,rfl,rfl,by decide +kernel,rfl,by decide +kernel,by decide +kernel⟩
theorem vC':mSs lT' kn' (ac' (top 9)) lO' (ap' (top 9))=true:=by decide +kernel
theorem tu':FnScope lT' ["_law_script","_law_k"] (ac' (top 9)):=⟨rfl,rfl,rfl,by decide +kernel,rfl,by decide +kernel,by decide +kernel⟩
theorem tv':mSs ko' gU' (ac' (top 10)) gS' (ap' (top 10))=true:=by decide +kernel
theorem pR':FnScope ko' ["_law_box_here","_law_many"] (ac' (top 10)):=⟨rfl,rfl,rfl,by decide +kernel,rfl,by decide +kernel,by decide +kernel⟩
theorem tw':mSs kp' gV' (ac' (top 11)) gT' (ap' (top 11))=true:=by decide +kernel
theorem pS':FnScope kp' ["_law_box_here","_law_many"] (ac' (top 11)):=⟨rfl,rfl,rfl,by decide +kernel,rfl,by decide +kernel,by decide +kernel⟩
theorem pT':mSs en' cU' (ac' (top 12)) cV' (ap' (top 12))=true:=by decide +kernel
theorem l6':FnScope en' ["_law_number","_law_many"] (ac' (top 12)):=⟨rfl,rfl,rfl,by decide +kernel,rfl,by decide +kernel,by decide +kernel⟩
theorem l7':mSs eo' cW' (ac' (top 13)) cX' (ap' (top 13))=true:=by decide +kernel
theorem kz':FnScope eo' ["_law_box_here"] (ac' (top 13)):=⟨rfl,rfl,rfl,by decide +kernel,rfl,by decide +kernel,by decide +kernel⟩
theorem w1':mSs vu' tV' (ac' (top 15)) tW' (ap' (top 15))=true:=by decide +kernel
theorem vD':FnScope vu' ["_law_writer_here","_law_pairs"] (ac' (top 15)):=⟨rfl,rfl,rfl,by decide +kernel,rfl,by decide +kernel,by decide +kernel⟩
theorem w2':mSs f1' eu' (ac' (top 16)) ev' (ap' (top 16))=true:=by decide +kernel
theorem vE':FnScope f1' ["_law_writer_here"] (ac' (top 16)):=⟨rfl,rfl,rfl,by decide +kernel,rfl,by decide +kernel,by decide +kernel⟩
theorem vF':mSs pH' lY' (ac' (top 17)) lZ' (ap' (top 17))=true:=by decide +kernel
theorem tx':FnScope pH' ["_law_writer_here","_law_most"] (ac' (top 17)):=⟨rfl,rfl,rfl,by decide +kernel,rfl,by decide +kernel,by decide +kernel⟩
theorem vG':mSs l0' kv' (ac' (top 18)) l1' (ap' (top 18))=true:=by decide +kernel
theorem ty':FnScope l0' ["_law_script"] (ac' (top 18)):=⟨rfl,rfl,rfl,by decide +kernel,rfl,by decide +kernel,by decide +kernel⟩
set_option hygiene false in
local macro_rules | `(tactic| walk_at "o") => `(tactic| (intro vs H Q E h; repeat (first | (obtain ⟨rfl, _⟩ := h; rfl) | (obtain ⟨_, h⟩ := h))))
def FnD (K:W.Frag) (x:Str) (st:Stmt):Prop:=∃(f:Addr) (fd:FuncData),W.nsIn K mainGlobals x=some (some (.ref f))/\Fun K x x st f fd
theorem bd' {K:W.Frag} {x:Str} {st:Stmt} {f:Addr} {oc:Value} {od an:Option Addr} {osl:Array (Option Value)} {kV doc pm cdv ct:Value} (a:W.nsIn K mainGlobals x=some (some (.ref f))) (l:K.lookup f=some ⟨oc,od,.func (W.fnOf x x (ct' st) (ap' st) (ac' st) .none kV doc pm an cdv ct),osl⟩) (c:W.codeIn K cdv x=true) (k:W.keepIn K (.ref f)=true):FnD K x st:=⟨f,_,a,qK' l c k⟩
theorem tz' {l:W.OpenLaw} {w:World} {K:W.Frag} {h:Heap} {mg:Str->Option Value} {fa:Addr} (X:K.In h) (G:h.Ns mainGlobals mg) (hfa:mg "law"=some (.ref fa))
  (p1:FnD K "room_pairs" (top 1))
  (p2:FnD K "pairs_behind" (top 2))
  (p3:FnD K "steps_of" (top 3))
  (p4:FnD K "leads_to" (top 4))
  (p5:FnD K "going_on" (top 5))
  (p6:FnD K "look_ahead" (top 6))
  (p7:FnD K "_law_cell_at" (top 8))
  (p8:FnD K "_law_box" (top 9))
  (p9:FnD K "_law_take" (top 10))
  (p10:FnD K "_law_bits" (top 11))
  (p11:FnD K "_law_row_by" (top 12))
  (p12:FnD K "_law_writer" (top 13))
  (p13:FnD K "_law_on" (top 15))
  (p14:FnD K "_law_begun" (top 16))
  (p15:FnD K "_law_due" (top 17))
  (p16:FnD K "law" (top 18))
  (z1:W.nsIn K mainGlobals "~"=some none)
  (z2:W.nsIn K mainGlobals "^"=some none)
  (z3:W.nsIn K mainGlobals "%"=some none)
  (z4:W.nsIn K mainGlobals "len"=some none)
  (z5:W.nsIn K mainGlobals "range"=some none)
  (z6:W.nsIn K mainGlobals "enumerate"=some none)
  (z7:W.nsIn K mainGlobals "max"=some none)
  (z8:W.nsIn K mainGlobals "min"=some none)
  (z9:W.nsIn K mainGlobals "sorted"=some none)
  (z10:W.nsIn K mainGlobals "abs"=some none)
  (z11:W.nsIn K mainGlobals "int"=some none)
  (z12:W.nsIn K mainGlobals "str"=some none)
  (z13:W.nsIn K mainGlobals "tuple"=some none)
  (z14:W.nsIn K mainGlobals "list"=some none)
  (z15:W.nsIn K mainGlobals "any"=some none)
  (z16:W.nsIn K mainGlobals "bool"=some none)
  (z17:W.nsIn K mainGlobals "isinstance"=some none):
  ∃fd:FuncData,(∀(s:Shared) (v:Value),BindsTo s fd ⟨[v],[]⟩ [("_law_script",v)])/\∀base:Heap,K.In base->base.Ns mainGlobals mg->FnOk l.prog w K mg base CX0 60 fa fd ["_law_script"] (kr' K):=by
 obtain⟨f1,g1,a1,F1⟩:=p1
 obtain⟨f2,g2,a2,F2⟩:=p2
 obtain⟨f3,g3,a3,F3⟩:=p3
 obtain⟨f4,g4,a4,F4⟩:=p4
 obtain⟨f5,g5,a5,F5⟩:=p5
 obtain⟨f6,g6,a6,F6⟩:=p6
 obtain⟨f7,g7,a7,F7⟩:=p7
 obtain⟨f8,g8,a8,F8⟩:=p8
 obtain⟨f9,g9,a9,F9⟩:=p9
 obtain⟨f10,g10,a10,F10⟩:=p10
 obtain⟨f11,g11,a11,F11⟩:=p11
 obtain⟨f12,g12,a12,F12⟩:=p12
 obtain⟨f13,g13,a13,F13⟩:=p13
 obtain⟨f14,g14,a14,F14⟩:=p14
 obtain⟨f15,g15,a15,F15⟩:=p15
 obtain⟨f16,g16,a16,F16⟩:=p16
 obtain⟨oc16,od16,kV16,dc16,pm16,an16,cd16,ct16,sl16,rfl,l16,c16⟩:=F16.ex
 have e:=hfa.symm.trans (W.mg_of X G a16)
 cases e
 have b1:=F1.binds (ps:=["writer"]) fun _ _ _ _ _ _ us hl=>tU' (P:=fun us=>bindArgs _ ({ pos:=us }:Args)=pure (List.zip _ us)) (fun _=>rfl) us hl
 have m1:=W.mg_of X G a1
 have b2:=F2.binds (ps:=["writer","pair","unlike"]) fun _ _ _ _ _ _ us hl=>wQ' (P:=fun us=>bindArgs _ ({ pos:=us }:Args)=pure (List.zip _ us)) (fun _ _ _=>rfl) us hl
 have m2:=W.mg_of X G a2
 have b3:=F3.binds (ps:=["writer"]) fun _ _ _ _ _ _ us hl=>tU' (P:=fun us=>bindArgs _ ({ pos:=us }:Args)=pure (List.zip _ us)) (fun _=>rfl) us hl
 have m3:=W.mg_of X G a3
 have b4:=F4.binds (ps:=["pairs","goals"]) fun _ _ _ _ _ _ us hl=>kC' (P:=fun us=>bindArgs _ ({ pos:=us }:Args)=pure (List.zip _ us)) (fun _ _=>rfl) us hl
 have m4:=W.mg_of X G a4
 have b5:=F5.binds (ps:=["steps","pairs"]) fun _ _ _ _ _ _ us hl=>kC' (P:=fun us=>bindArgs _ ({ pos:=us }:Args)=pure (List.zip _ us)) (fun _ _=>rfl) us hl
 have m5:=W.mg_of X G a5
 have b6:=F6.binds (ps:=["writer","most"]) fun _ _ _ _ _ _ us hl=>kC' (P:=fun us=>bindArgs _ ({ pos:=us }:Args)=pure (List.zip _ us)) (fun _ _=>rfl) us hl
 have m6:=W.mg_of X G a6
 have b7:=F7.binds (ps:=["_law_script","_law_k"]) fun _ _ _ _ _ _ us hl=>kC' (P:=fun us=>bindArgs _ ({ pos:=us }:Args)=pure (List.zip _ us)) (fun _ _=>rfl) us hl
 have m7:=W.mg_of X G a7
 have b8:=F8.binds (ps:=["_law_script","_law_k"]) fun _ _ _ _ _ _ us hl=>kC' (P:=fun us=>bindArgs _ ({ pos:=us }:Args)=pure (List.zip _ us)) (fun _ _=>rfl) us hl
 have m8:=W.mg_of X G a8
 have b9:=F9.binds (ps:=["_law_box_here","_law_many"]) fun _ _ _ _ _ _ us hl=>kC' (P:=fun us=>bindArgs _ ({ pos:=us }:Args)=pure (List.zip _ us)) (fun _ _=>rfl) us hl
 have m9:=W.mg_of X G a9
 have b10:=F10.binds (ps:=["_law_box_here","_law_many"]) fun _ _ _ _ _ _ us hl=>kC' (P:=fun us=>bindArgs _ ({ pos:=us }:Args)=pure (List.zip _ us)) (fun _ _=>rfl) us hl
 have m10:=W.mg_of X G a10
 have b11:=F11.binds (ps:=["_law_number","_law_many"]) fun _ _ _ _ _ _ us hl=>kC' (P:=fun us=>bindArgs _ ({ pos:=us }:Args)=pure (List.zip _ us)) (fun _ _=>rfl) us hl
 have m11:=W.mg_of X G a11
 have b12:=F12.binds (ps:=["_law_box_here"]) fun _ _ _ _ _ _ us hl=>tU' (P:=fun us=>bindArgs _ ({ pos:=us }:Args)=pure (List.zip _ us)) (fun _=>rfl) us hl
 have m12:=W.mg_of X G a12
 have b13:=F13.binds (ps:=["_law_writer_here","_law_pairs"]) fun _ _ _ _ _ _ us hl=>kC' (P:=fun us=>bindArgs _ ({ pos:=us }:Args)=pure (List.zip _ us)) (fun _ _=>rfl) us hl
 have m13:=W.mg_of X G a13
 have b14:=F14.binds (ps:=["_law_writer_here"]) fun _ _ _ _ _ _ us hl=>tU' (P:=fun us=>bindArgs _ ({ pos:=us }:Args)=pure (List.zip _ us)) (fun _=>rfl) us hl
 have m14:=W.mg_of X G a14
 have b15:=F15.binds (ps:=["_law_writer_here","_law_most"]) fun _ _ _ _ _ _ us hl=>kC' (P:=fun us=>bindArgs _ ({ pos:=us }:Args)=pure (List.zip _ us)) (fun _ _=>rfl) us hl
 have m15:=W.mg_of X G a15
 have m16:=W.mg_of X G a16
 have n1:=W.mg_none_of X G z1
 have n2:=W.mg_none_of X G z2
 have n3:=W.mg_none_of X G z3
 have n4:=W.mg_none_of X G z4
 have n5:=W.mg_none_of X G z5
 have n6:=W.mg_none_of X G z6
 have n7:=W.mg_none_of X G z7
 have n8:=W.mg_none_of X G z8
 have n9:=W.mg_none_of X G z9
 have n10:=W.mg_none_of X G z10
 have n11:=W.mg_none_of X G z11
 have n12:=W.mg_none_of X G z12
 have n13:=W.mg_none_of X G z13
 have n14:=W.mg_none_of X G z14
 have n15:=W.mg_none_of X G z15
 have n16:=W.mg_none_of X G z16
 have n17:=W.mg_none_of X G z17
 refine⟨W.fnOf "law" "law" (ct' (top 18)) (ap' (top 18)) (ac' (top 18)) .none kV16 dc16 pm16 an16 cd16 ct16,fun s v=>.of_eq rfl,fun base _ _=>?_⟩
 have O1:=aB' (P:=l.prog) (w:=w) (mg:=mg) (base:=base) (k:=0) F1 { N:=bv',B:=a5',K:=K,fs:=bi' [] } vw' rfl a6' wV' (sp:=nP') (by walk_at "o") (bc' mN) (mC ⟨n4,(mC ⟨n5,mN⟩)⟩) ⟨n1,n2,n3⟩ (show tld a5'=false by decide +kernel) (show hat a5'=false by decide +kernel) rfl rfl (pB' rfl  )
 have O2:=aB' (P:=l.prog) (w:=w) (mg:=mg) (base:=base) (k:=0) F2 { N:=bb',B:=aP',K:=K,fs:=bi' [] } vx' rfl aQ' wW' (sp:=nQ') (by walk_at "o") (bc' mN) (mC ⟨n6,(mC ⟨n7,(mC ⟨n8,(mC ⟨n9,mN⟩)⟩)⟩)⟩) ⟨n1,n2,n3⟩ (show tld aP'=false by decide +kernel) (show hat aP'=false by decide +kernel) rfl rfl (pC' rfl  )
 have O3:=aB' (P:=l.prog) (w:=w) (mg:=mg) (base:=base) (k:=1) F3 { N:=bO',B:=bo',K:=K,fs:=bi' [("room_pairs",nP'),("pairs_behind",nQ')] } vy' rfl bp' wX' (sp:=te' false) (by walk_at "o") (bc' (mC ⟨⟨_,_,_,(O1).mono (by omega),m1,F1.kp,b1⟩,(mC ⟨⟨_,_,_,(O2).mono (by omega),m2,F2.kp,b2⟩,mN⟩)⟩)) mN ⟨n1,n2,n3⟩ (show tld bo'=false by decide +kernel) (show hat bo'=false by decide +kernel) rfl rfl (pE' rfl (show bi' _ "room_pairs"=some (nP') from ah') (show bi' _ "pairs_behind"=some (nQ') from((af' (by decide +kernel)).trans ah')) )
 have O4:=aB' (P:=l.prog) (w:=w) (mg:=mg) (base:=base) (k:=0) F4 { N:=bP',B:=bq',K:=K,fs:=bi' [] } vz' rfl br' wY' (sp:=nR') (by walk_at "o") (bc' mN) mN ⟨n1,n2,n3⟩ (show tld bq'=false by decide +kernel) (show hat bq'=false by decide +kernel) rfl rfl (pD' rfl  )
 have O5:=aB' (P:=l.prog) (w:=w) (mg:=mg) (base:=base) (k:=1) F5 { N:=bQ',B:=bs',K:=K,fs:=bi' [("leads_to",nR')] } vA' rfl bt' wZ' (sp:=ti') (by walk_at "o") (bc' (mC ⟨⟨_,_,_,(O4).mono (by omega),m4,F4.kp,b4⟩,mN⟩)) mN ⟨n1,n2,n3⟩ (show tld bs'=false by decide +kernel) (show hat bs'=false by decide +kernel) rfl rfl (pG' rfl (show bi' _ "leads_to"=some (nR') from ah') )
 have O6:=aB' (P:=l.prog) (w:=w) (mg:=mg) (base:=base) (k:=2) F6 { N:=bw',B:=a7',K:=K,fs:=bi' [("steps_of",te' false),("pairs_behind",nQ'),("room_pairs",nP'),("leads_to",nR'),("going_on",ti')] } vB' rfl a8' w0' (sp:=p4') (by walk_at "o") (bc' (mC ⟨⟨_,_,_,(O3).mono (by omega),m3,F3.kp,b3⟩,(mC ⟨⟨_,_,_,(O2).mono (by omega),m2,F2.kp,b2⟩,(mC ⟨⟨_,_,_,(O1).mono (by omega),m1,F1.kp,b1⟩,(mC ⟨⟨_,_,_,(O4).mono (by omega),m4,F4.kp,b4⟩,(mC ⟨⟨_,_,_,(O5).mono (by omega),m5,F5.kp,b5⟩,mN⟩)⟩)⟩)⟩)⟩)) (mC ⟨n4,(mC ⟨n5,mN⟩)⟩) ⟨n1,n2,n3⟩ (show tld a7'=false by decide +kernel) (show hat a7'=false by decide +kernel) rfl rfl (pJ' rfl ⟨(show bi' _ "steps_of"=some (te' false) from ah'),(show bi' _ "pairs_behind"=some (nQ') from((af' (by decide +kernel)).trans ah')),(show bi' _ "room_pairs"=some (nP') from((af' (by decide +kernel)).trans ((af' (by decide +kernel)).trans ah'))),(show bi' _ "leads_to"=some (nR') from((af' (by decide +kernel)).trans ((af' (by decide +kernel)).trans ((af' (by decide +kernel)).trans ah')))),(show bi' _ "going_on"=some (ti') from((af' (by decide +kernel)).trans ((af' (by decide +kernel)).trans ((af' (by decide +kernel)).trans ((af' (by decide +kernel)).trans ah')))))⟩ )
 have O7:=aB' (P:=l.prog) (w:=w) (mg:=mg) (base:=base) (k:=0) F7 { N:=cq',B:=bN',K:=K,fs:=bi' [] } pQ' rfl cp' tt' (sp:=dW' K) (by walk_at "o") (bc' mN) (mC ⟨n4,mN⟩) ⟨n1,n2,n3⟩ (show tld bN'=false by decide +kernel) (show hat bN'=false by decide +kernel) rfl rfl (kh' (C:={ N:=cq',B:=bN',K:=K,fs:=bi' [] }) rfl  )
 have O8:=ta' (aB' (P:=l.prog) (w:=w) (mg:=mg) (base:=base) (k:=1) F8 { N:=lT',B:=kn',K:=K,fs:=bi' [("_law_cell_at",dW' K)] } tu' rfl lO' vC' (sp:=ki' K) (by walk_at "o") (bc' (mC ⟨⟨_,_,_,(O7).mono (by omega),m7,F7.kp,b7⟩,mN⟩)) (mC ⟨n10,(mC ⟨n11,mN⟩)⟩) ⟨n1,n2,n3⟩ (show tld kn'=false by decide +kernel) (show hat kn'=false by decide +kernel) rfl rfl (lQ' (C:={ N:=lT',B:=kn',K:=K,fs:=bi' [("_law_cell_at",dW' K)] }) rfl (show bi' _ "_law_cell_at"=some (dW' K) from ah') ))
 have O9:=px' rfl (aB' (P:=l.prog) (w:=w) (mg:=mg) (base:=base) (k:=0) F9 { N:=ko',B:=gU',K:=K,fs:=bi' [] } pR' rfl gS' tv' (sp:=em') (by walk_at "o") (bc' mN) mN ⟨n1,n2,n3⟩ (show tld gU'=false by decide +kernel) (show hat gU'=false by decide +kernel) rfl rfl (kj' rfl  ))
 have O10:=aB' (P:=l.prog) (w:=w) (mg:=mg) (base:=base) (k:=1) F10 { N:=kp',B:=gV',K:=K,fs:=bi' [("_law_take",bA')] } pS' rfl gT' tw' (sp:=dX') (by walk_at "o") (bc' (mC ⟨⟨_,_,_,(O9).mono (by omega),m9,F9.kp,b9⟩,mN⟩)) (mC ⟨n5,mN⟩) ⟨n1,n2,n3⟩ (show tld gV'=false by decide +kernel) (show hat gV'=false by decide +kernel) rfl rfl (km' rfl (show bi' _ "_law_take"=some (bA') from ah') )
 have O11:=aB' (P:=l.prog) (w:=w) (mg:=mg) (base:=base) (k:=0) F11 { N:=en',B:=cU',K:=K,fs:=bi' [] } l6' rfl cV' pT' (sp:=du') (by walk_at "o") (bc' mN) (mC ⟨n5,(mC ⟨n12,mN⟩)⟩) ⟨n1,n2,n3⟩ (show tld cU'=false by decide +kernel) (show hat cU'=false by decide +kernel) rfl rfl (fX' rfl  )
 have O12:=aB' (P:=l.prog) (w:=w) (mg:=mg) (base:=base) (k:=2) F12 { N:=eo',B:=cW',K:=K,fs:=bi' [("_law_take",bA'),("_law_bits",dX'),("_law_row_by",du')] } kz' rfl cX' l7' (sp:=bD') (by walk_at "o") (bc' (mC ⟨⟨_,_,_,(O9).mono (by omega),m9,F9.kp,b9⟩,(mC ⟨⟨_,_,_,(O10).mono (by omega),m10,F10.kp,b10⟩,(mC ⟨⟨_,_,_,(O11).mono (by omega),m11,F11.kp,b11⟩,mN⟩)⟩)⟩)) (mC ⟨n11,(mC ⟨n4,(mC ⟨n5,(mC ⟨n13,mN⟩)⟩)⟩)⟩) ⟨n1,n2,n3⟩ (show tld cW'=false by decide +kernel) (show hat cW'=false by decide +kernel) rfl rfl (fZ' rfl (show bi' _ "_law_take"=some (bA') from ah') (show bi' _ "_law_bits"=some (dX') from((af' (by decide +kernel)).trans ah')) (show bi' _ "_law_row_by"=some (du') from((af' (by decide +kernel)).trans ((af' (by decide +kernel)).trans ah'))) )
 have O13:=aB' (P:=l.prog) (w:=w) (mg:=mg) (base:=base) (k:=0) F13 { N:=vu',B:=tV',K:=K,fs:=bi' [] } vD' rfl tW' w1' (sp:=tp') (by walk_at "o") (bc' mN) (mC ⟨n14,(mC ⟨n7,(mC ⟨n8,mN⟩)⟩)⟩) ⟨n1,n2,n3⟩ (show tld tV'=false by decide +kernel) (show hat tV'=false by decide +kernel) rfl rfl (pO' rfl  )
 have O14:=aB' (P:=l.prog) (w:=w) (mg:=mg) (base:=base) (k:=0) F14 { N:=f1',B:=eu',K:=K,fs:=bi' [] } vE' rfl ev' w2' (sp:=tq') (by walk_at "o") (bc' mN) (mC ⟨n6,(mC ⟨n14,(mC ⟨n7,(mC ⟨n8,mN⟩)⟩)⟩)⟩) ⟨n1,n2,n3⟩ (show tld eu'=false by decide +kernel) (show hat eu'=false by decide +kernel) rfl rfl (pP' rfl  )
 have O15:=aB' (P:=l.prog) (w:=w) (mg:=mg) (base:=base) (k:=1) F15 { N:=pH',B:=lY',K:=K,fs:=bi' [("_law_begun",tq'),("_law_on",tp')] } tx' rfl lZ' vF' (sp:=h1') (by walk_at "o") (bc' (mC ⟨⟨_,_,_,(O14).mono (by omega),m14,F14.kp,b14⟩,(mC ⟨⟨_,_,_,(O13).mono (by omega),m13,F13.kp,b13⟩,mN⟩)⟩)) (mC ⟨n15,(mC ⟨n9,mN⟩)⟩) ⟨n1,n2,n3⟩ (show tld lY'=false by decide +kernel) (show hat lY'=false by decide +kernel) rfl rfl (l4' rfl ⟨(show bi' _ "_law_begun"=some (tq') from ah'),(show bi' _ "_law_on"=some (tp') from((af' (by decide +kernel)).trans ah'))⟩ )
 exact aB' (P:=l.prog) (w:=w) (mg:=mg) (base:=base) (k:=59) F16 { N:=l0',B:=kv',K:=K,fs:=bi' [("_law_box",h0' K),("_law_take",bA'),("_law_writer",bD'),("_law_due",h1'),("look_ahead",p4')] } ty' rfl l1' vG' (sp:=kr' K) (by walk_at "o") (bc' (mC ⟨⟨_,_,_,(O8).mono (by omega),m8,F8.kp,b8⟩,(mC ⟨⟨_,_,_,(O9).mono (by omega),m9,F9.kp,b9⟩,(mC ⟨⟨_,_,_,(O12).mono (by omega),m12,F12.kp,b12⟩,(mC ⟨⟨_,_,_,(O15).mono (by omega),m15,F15.kp,b15⟩,(mC ⟨⟨_,_,_,(O6).mono (by omega),m6,F6.kp,b6⟩,mN⟩)⟩)⟩)⟩)⟩)) (mC ⟨n16,(mC ⟨n11,(mC ⟨n17,(mC ⟨n4,(mC ⟨n8,(mC ⟨n5,mN⟩)⟩)⟩)⟩)⟩)⟩) ⟨n1,n2,n3⟩ (show tld kv'=false by decide +kernel) (show hat kv'=false by decide +kernel) rfl rfl (l5' (C:={ N:=l0',B:=kv',K:=K,fs:=bi' [("_law_box",h0' K),("_law_take",bA'),("_law_writer",bD'),("_law_due",h1'),("look_ahead",p4')] }) rfl ⟨(show bi' _ "_law_box"=some (h0' K) from ah'),(show bi' _ "_law_take"=some (bA') from((af' (by decide +kernel)).trans ah')),(show bi' _ "_law_writer"=some (bD') from((af' (by decide +kernel)).trans ((af' (by decide +kernel)).trans ah'))),(show bi' _ "_law_due"=some (h1') from((af' (by decide +kernel)).trans ((af' (by decide +kernel)).trans ((af' (by decide +kernel)).trans ah')))),(show bi' _ "look_ahead"=some (p4') from((af' (by decide +kernel)).trans ((af' (by decide +kernel)).trans ((af' (by decide +kernel)).trans ((af' (by decide +kernel)).trans ah')))))⟩ )
theorem w3' {l:W.OpenLaw} {q:Program} {loose:List Str} {XP:(Str->Option Value)->Heap->Prop} {d:DefRec} {K:Params->W.Frag} {bs:List Addr} {m t:Nat} (hn:l.most=some 63) (hdf:d.params.defaults=[]) (e:∀P,bs=(K P).map (·.1))
  (F:∀(w:World) (mg:Str->Option Value) (fa:Addr) (h:Heap),(K w.params).In h->h.Ns mainGlobals mg->mg d.name=some (.ref fa)->
   ∃fd:FuncData,(∀(s:Shared) (u:Value),BindsTo s fd ⟨[u],[]⟩ [("_law_script",u)])/\∀base:Heap,(K w.params).In base->base.Ns mainGlobals mg->FnOk l.prog w (K w.params) mg base CX0 60 fa fd ["_law_script"] (kr' (K w.params))):
  W.WalkX q loose XP (W.X.obsZ bs) (W.X.valZ K m t) l.row.toRowW d [] (fun f vs=>PySem.call f vs):=
 fun w s₀ s₁ mg mb G y a o pm cd doc dV kV h1 h2 h3 h4 h5 h6 args vals cs La=>L2.oq' (YP:=fun w h=>(K w.params).In h) (n:=63) (k:=60) (x:="_law_script") (CX:=fun _=>CX0) (sp:=fun w=>kr' (K w.params)) hn (by decide) hdf ⟨rfl,by decide,by decide,rfl⟩ (fun _ _ Y=>Y) F (fun _ _ a ns hl _ hS=>⟨a,ns,rfl,hS,hl,fun _=>rfl⟩) (fun _ _ _ _ _ z=>z) w s₀ s₁ mg mb G (W.InK.keeps w _ _ (W.X.z_facts e y).2.1 La.keeps) a o pm cd doc dV kV h1 h2 h3 h4 h5 h6 args vals cs
end K45
end
open PySem PySem.W PyProof.Rows
noncomputable def PySem.W.Fast.tw4632231247773794574:Nat:=0
noncomputable def PySem.W.Fast.tw16770902388415938220:Nat:=0
noncomputable def PySem.W.Fast.tw1417784633479844378:Nat:=0
noncomputable def PySem.W.Fast.tw9693253390872127487:Nat:=0
noncomputable def PySem.W.Fast.tw16929084316412044905:Nat:=0
noncomputable def PySem.W.Fast.tw1142888372863389117:Nat:=0
noncomputable def PySem.W.Fast.tw2832224761799627728:Nat:=0
noncomputable def PySem.W.Fast.tw13826918098970555959:Nat:=0
noncomputable def PySem.W.Fast.tw9947275031201893141:Nat:=0
noncomputable def PySem.W.Fast.tw15818774521520587500:Nat:=0
noncomputable def PySem.W.Fast.tw2091033072918142647:Nat:=0
noncomputable def PySem.W.Fast.tw6413912867192708110:Nat:=0
noncomputable def PySem.W.Fast.tw5306369294586045965:Nat:=0
noncomputable def PySem.W.Fast.tw12500058972422481320:Nat:=0
noncomputable def PySem.W.Fast.tw7948822372958067831:Nat:=0
noncomputable def PySem.W.Fast.tw7449476166177447779:Nat:=0
noncomputable def PySem.W.Fast.tw14669626201919342452:Nat:=0
noncomputable def PySem.W.Fast.tw7006501332910094184:Nat:=0
noncomputable def PySem.W.Fast.tw591920885841799979:Nat:=0
noncomputable def PySem.W.Fast.tw14770895462162198850:Nat:=0
noncomputable def PySem.W.Fast.tw6527191981689465688:Nat:=0
noncomputable def PySem.W.Fast.tw3715141084098378265:Nat:=0
noncomputable def PySem.W.Fast.tw14865714248696791319:Nat:=0
noncomputable def PySem.W.Fast.tw15147860841527097888:Nat:=0
noncomputable def PySem.W.Fast.tw2454743326605565435:Nat:=0
noncomputable def PySem.W.Fast.tw6623131296939448107:Nat:=0
noncomputable def PySem.W.Fast.tw182146990504670317:Nat:=0
noncomputable def PySem.W.Fast.tw8981802207588192788:Nat:=0
noncomputable def PySem.W.Fast.tw16876482588956069967:Nat:=0
set_option maxRecDepth 100000 in
set_option maxHeartbeats 0 in
theorem PySem.Challenge.cw_runbound_k45_how_far_ahead_holds : PySem.Challenge.rw_runbound_k45_how_far_ahead.Holds := by
 w_on; o_law; z_head; (case hw => w_witness2)
 k_fill
 refine K45.w3' (l := PySem.Challenge.rw_runbound_k45_how_far_ahead) rfl rfl (fun _ => rfl) ?F
 case F =>
  intro w mg fa h KX G hmg
  refine' K45.tz' KX G hmg (K45.bd' ?a1 ?l1 ?c1 ?k1) (K45.bd' ?a2 ?l2 ?c2 ?k2) (K45.bd' ?a3 ?l3 ?c3 ?k3) (K45.bd' ?a4 ?l4 ?c4 ?k4) (K45.bd' ?a5 ?l5 ?c5 ?k5) (K45.bd' ?a6 ?l6 ?c6 ?k6) (K45.bd' ?a7 ?l7 ?c7 ?k7) (K45.bd' ?a8 ?l8 ?c8 ?k8) (K45.bd' ?a9 ?l9 ?c9 ?k9) (K45.bd' ?a10 ?l10 ?c10 ?k10) (K45.bd' ?a11 ?l11 ?c11 ?k11) (K45.bd' ?a12 ?l12 ?c12 ?k12) (K45.bd' ?a13 ?l13 ?c13 ?k13) (K45.bd' ?a14 ?l14 ?c14 ?k14) (K45.bd' ?a15 ?l15 ?c15 ?k15) (K45.bd' ?a16 ?l16 ?c16 ?k16) ?z1 ?z2 ?z3 ?z4 ?z5 ?z6 ?z7 ?z8 ?z9 ?z10 ?z11 ?z12 ?z13 ?z14 ?z15 ?z16 ?z17 
  (case a1 => k_is); (case l1 => k_is); (case c1 => k_is); (case k1 => k_is)
  (case a2 => k_is); (case l2 => k_is); (case c2 => k_is); (case k2 => k_is)
  (case a3 => k_is); (case l3 => k_is); (case c3 => k_is); (case k3 => k_is)
  (case a4 => k_is); (case l4 => k_is); (case c4 => k_is); (case k4 => k_is)
  (case a5 => k_is); (case l5 => k_is); (case c5 => k_is); (case k5 => k_is)
  (case a6 => k_is); (case l6 => k_is); (case c6 => k_is); (case k6 => k_is)
  (case a7 => k_is); (case l7 => k_is); (case c7 => k_is); (case k7 => k_is)
  (case a8 => k_is); (case l8 => k_is); (case c8 => k_is); (case k8 => k_is)
  (case a9 => k_is); (case l9 => k_is); (case c9 => k_is); (case k9 => k_is)
  (case a10 => k_is); (case l10 => k_is); (case c10 => k_is); (case k10 => k_is)
  (case a11 => k_is); (case l11 => k_is); (case c11 => k_is); (case k11 => k_is)
  (case a12 => k_is); (case l12 => k_is); (case c12 => k_is); (case k12 => k_is)
  (case a13 => k_is); (case l13 => k_is); (case c13 => k_is); (case k13 => k_is)
  (case a14 => k_is); (case l14 => k_is); (case c14 => k_is); (case k14 => k_is)
  (case a15 => k_is); (case l15 => k_is); (case c15 => k_is); (case k15 => k_is)
  (case a16 => k_is); (case l16 => k_is); (case c16 => k_is); (case k16 => k_is)
  (case z1 => k_is)
  (case z2 => k_is)
  (case z3 => k_is)
  (case z4 => k_is)
  (case z5 => k_is)
  (case z6 => k_is)
  (case z7 => k_is)
  (case z8 => k_is)
  (case z9 => k_is)
  (case z10 => k_is)
  (case z11 => k_is)
  (case z12 => k_is)
  (case z13 => k_is)
  (case z14 => k_is)
  (case z15 => k_is)
  (case z16 => k_is)
  (case z17 => k_is)