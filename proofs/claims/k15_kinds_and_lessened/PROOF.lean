import PyProof.Rows.All
import Wide.All
import OpenK.AllK
import Wide.FinOn
import Lean
import PyProof.EqAt
import PyProof.EqKinds
import PyProof.TupleCall
import PyProof.Rows.TupAdd
import PyProof.Rows.SortStr
import PyProof.Rows.SortWalk
import PyProof.CollectIter
import PyProof.Rows.Tup
import PyProof.TupleOfSeq
import PyProof.ReprRoads
import PyProof.CallStr
import PyProof.SeqRoads2
import KE.KDictList
import KE.KSortTup
import KE.KUnpack
import PyProof.SetRoads
import PyProof.Rows.SetFrom
import PyProof.Rows.SortShell
import PySem.Challenge.RW_runbound_k15_kinds_and_lessened
set_option Elab.async false
set_option compiler.extract_closed false
set_option linter.all false
set_option maxRecDepth 100000
namespace L2
open PySem PySem.Spec PyProof.Rows
section
variable {prog:Program} {w:World} {A:Around} {E:Value->Shared->Prop} {s:Shared}
theorem typeIs_none' (s:Shared):s.TypeIs .none "NoneType":=rfl
theorem hash_none {Q:Int->Shared->Prop} (h:Q 0xFCA86420 { s with toks:=s.toks+1 }):wpAny (model prog w) A (pyHash .none) Q E s:=by
 unfold pyHash
 have hv:[Value.none].any Value.onHeap=false:=rfl
 refine wpAny_bind ?_
 rw[cRoomFor,if_neg (by rw[hv];exact Bool.false_ne_true)];refine wpAny_pure ?_
 refine wpAny_bind (wpAny_specialOf (typeIs_none' s) F.slot_NoneType_hash.lookup ?_)
 show wpAny _ _ (if(some (Value.builtin "NoneType.__hash__") == some Value.none)=true then _ else _) Q E s
 rw[if_neg (by rw[beq_builtin_none];exact Bool.false_ne_true)]
 refine wpAny_bind (wpAny_specialOf (typeIs_none' s) F.slot_NoneType_hash.lookup ?_)
 show wpAny _ _ (callSpecialIfBoundUnlessNone? (.none) "__hash__" _ >>= _) Q E s
 refine wpAny_bind (wpAny_callSpecialIfBoundUnlessNone?_slot (typeIs_none' s) F.slot_NoneType_hash
  (wpAny_call_entry F.slot_NoneType_hash (typeIs_none' s) F.entry_NoneType_hash
   (show wpAny _ _ (do ret (<- mkInt 0xFCA86420)) _ _ s from wpAny_ret_mkInt ?_) (F.args_NoneType_hash_1 _)))
 exact wpAny_pure h
end
inductive Key where
 |inl (i:Int)|inr (x:Str)|non
 deriving DecidableEq
noncomputable def keyIs:Key->Value->Bool
 | .inl k,v=>Value.isInt k v
 | .inr x,v=>Value.isStrOf x v
 | .non,.none=>true
 | .non,_=>false
noncomputable def keyH (w:World):Key->Int
 | .inl k=>hashInt k
 | .inr x=>hashStr w x
 | .non=>0xFCA86420
theorem keyIs_shape:∀{k:Key} {v:Value},keyIs k v=true->(∃i t,k=Key.inl i/\v=Value.int i t)\/(∃x t,k=Key.inr x/\v=Value.str x t)\/(k=Key.non/\v=Value.none)
 | .inl i,v,h=>by
  obtain⟨t,e⟩:=Value.isInt_shape (k:=i) (v:=v) h
  exact .inl ⟨i,t,rfl,e⟩
 | .inr x,v,h=>by
  obtain⟨t,e⟩:=Value.isStrOf_shape (x:=x) (v:=v) h
  exact .inr (.inl ⟨x,t,rfl,e⟩)
 | .non,v,h=>by cases v<;>first|exact .inr (.inr ⟨rfl,rfl⟩)|cases h
theorem keyIs_int (i:Int) (t:Tok):keyIs (.inl i) (.int i t)=true:=by simp[keyIs,Value.isInt]
theorem keyIs_str (x:Str) (t:Tok):keyIs (.inr x) (.str x t)=true:=by simp[keyIs,Value.isStrOf]
theorem key_ll (a b:Int):decide ((Key.inl a:Key)=Key.inl b)=(a == b):=by
 by_cases e:a=b
 .rw[e,decide_eq_true rfl,beq_self_eq_true]
 .rw[decide_eq_false (fun q=>e (Key.inl.inj q)),beq_eq_false_iff_ne.mpr e]
theorem key_rr (a b:Str):decide ((Key.inr a:Key)=Key.inr b)=decide (a=b):=by
 by_cases e:a=b
 .rw[e,decide_eq_true rfl,decide_eq_true rfl]
 .rw[decide_eq_false (fun q=>e (Key.inr.inj q)),decide_eq_false e]
theorem key_no {a b:Key} (h:a≠b):decide (a=b)=false:=decide_eq_false h
noncomputable def mixKind (prog:Program) (w:World):PySem.KeyKind prog w Key where
 is:=keyIs
 hash:=keyH w
 inj:=fun v a b ha hb=>by
  rcases keyIs_shape ha with⟨i,t,rfl,rfl⟩|⟨x,t,rfl,rfl⟩|⟨rfl,rfl⟩<;>rcases keyIs_shape hb with⟨j,u,rfl,e⟩|⟨y,u,rfl,e⟩|⟨rfl,e⟩<;>
   first|rfl|(injection e with e1 _;rw[e1])|exact nomatch e
 byValue:=fun k v h=>by
  rcases keyIs_shape h with⟨i,t,rfl,rfl⟩|⟨x,t,rfl,rfl⟩|⟨rfl,rfl⟩<;>rfl
 pyHash:=fun hv h=>by
  rcases keyIs_shape hv with⟨i,t,rfl,rfl⟩|⟨x,t,rfl,rfl⟩|⟨rfl,rfl⟩
  .exact wpAny_pyHash_int h
  .exact wpAny_pyHash_str h
  .exact hash_none h
 eqBool:=fun {A E s a b u v Q} hu hv h=>by
  rcases keyIs_shape hu with⟨i,t,rfl,rfl⟩|⟨x,t,rfl,rfl⟩|⟨rfl,rfl⟩
  .rcases keyIs_shape hv with⟨j,u,rfl,rfl⟩|⟨y,u,rfl,rfl⟩|⟨rfl,rfl⟩
   .rw[key_ll]at h;exact wpAny_eqBool_int h
   .rw[key_no (a:=Key.inl i) (b:=Key.inr y) (fun q=>nomatch q)]at h;exact SeqAt.EqAt.int_str i t y u _ _ _ _ h
   .rw[key_no (a:=Key.inl i) (b:=Key.non) (fun q=>nomatch q)]at h;exact SeqAt.EqAt.int_none i t _ _ _ _ h
  .rcases keyIs_shape hv with⟨j,u,rfl,rfl⟩|⟨y,u,rfl,rfl⟩|⟨rfl,rfl⟩
   .rw[key_no (a:=Key.inr x) (b:=Key.inl j) (fun q=>nomatch q)]at h;exact SeqAt.EqAt.str_int x t j u _ _ _ _ h
   .rw[key_rr]at h;exact wpAny_eqBool_str h
   .rw[key_no (a:=Key.inr x) (b:=Key.non) (fun q=>nomatch q)]at h;exact SeqAt.EqAt.str_none x t _ _ _ _ h
  .rcases keyIs_shape hv with⟨j,u,rfl,rfl⟩|⟨y,u,rfl,rfl⟩|⟨rfl,rfl⟩
   .rw[key_no (a:=Key.non) (b:=Key.inl j) (fun q=>nomatch q)]at h;exact SeqAt.EqAt.none_int j u _ _ _ _ h
   .rw[key_no (a:=Key.non) (b:=Key.inr y) (fun q=>nomatch q)]at h;exact SeqAt.EqAt.none_str y u _ _ _ _ h
   .rw[decide_eq_true rfl]at h;exact SeqAt.EqAt.same .none _ _ _ _ h
 «strs»:=fun k x t v h=>by
  rcases keyIs_shape h with⟨i,u,rfl,e⟩|⟨y,u,rfl,e⟩|⟨rfl,e⟩
  .exact nomatch e
  .injection e with e1 _
   subst e1
   cases v<;>rfl
  .exact nomatch e
theorem mixKind_int (prog:Program) (w:World) (i:Int) (t:Tok):(mixKind prog w).is (.inl i) (.int i t)=true:=keyIs_int i t
theorem mixKind_str (prog:Program) (w:World) (x:Str) (t:Tok):(mixKind prog w).is (.inr x) (.str x t)=true:=keyIs_str x t
inductive V where
 |non|bl (b:Bool)|int (i:Int)|str (x:Str)|byt (b:Array UInt8)|flt (b:UInt64)|ref (a:Addr)|ty (n:String)
 deriving DecidableEq
noncomputable def RelV:V->Value->Prop
 | .non,u=>u=Value.none
 | .bl b,u=>u=Value.bool b
 | .int i,u=>∃t,u=Value.int i t
 | .str x,u=>∃t,u=Value.str x t
 | .byt b,u=>∃t,u=Value.bytes b t
 | .flt b,u=>∃t,u=Value.float b t
 | .ref a,u=>u=Value.ref a
 | .ty n,u=>u=Value.type n
noncomputable abbrev Vals:List V->List Value->Prop:=Paired RelV
theorem Vals.length {xs:List V} {us:List Value} (r:Vals xs us):xs.length=us.length:=Paired.length r
theorem Vals.get:∀{xs:List V} {us:List Value} {i:Nat} {x:V},Vals xs us->xs[i]?=some x->∃u,us[i]?=some u/\RelV x u
 |_,_,_,_,.nil,e=>by simp at e
 |_,_,0,_,.cons r _,e=>by simp at e;subst e;exact⟨_,rfl,r⟩
 |_,_,i+1,x,.cons _ t,e=>by
  obtain⟨u,h1,h2⟩:=Vals.get (i:=i) (x:=x) t (by simpa using e)
  exact⟨u,by simpa using h1,h2⟩
theorem Vals.set {x:V} {u:Value} (r:RelV x u):∀{xs:List V} {us:List Value} (i:Nat),Vals xs us->Vals (xs.set i x) (us.set i u)
 |_,_,_,.nil=>.nil
 |_,_,0,.cons _ t=>.cons r t
 |_,_,i+1,.cons q t=>.cons q (Vals.set r i t)
theorem Vals.append:∀{xs ys:List V} {us ws:List Value},Vals xs us->Vals ys ws->Vals (xs++ys) (us++ws)
 |_,_,_,_,.nil,s=>s
 |_,_,_,_,.cons r t,s=>.cons r (Vals.append t s)
theorem Vals.take:∀{xs:List V} {us:List Value} (n:Nat),Vals xs us->Vals (xs.take n) (us.take n)
 |_,_,0,_=>.nil
 |_,_,_+1,.nil=>.nil
 |_,_,n+1,.cons r t=>.cons r (Vals.take n t)
theorem Vals.drop:∀{xs:List V} {us:List Value} (n:Nat),Vals xs us->Vals (xs.drop n) (us.drop n)
 |_,_,0,r=>r
 |_,_,_+1,.nil=>.nil
 |_,_,n+1,.cons _ t=>Vals.drop n t
noncomputable def RelO:Option V->Option Value->Prop
 |some v,some u=>RelV v u
 |none,none=>True
 |_,_=>False
noncomputable def KV {κ:Type}:List (κ×V)->List (κ×Value)->Prop:=Paired fun(p:κ×V) (q:κ×Value)=>p.1=q.1/\RelV p.2 q.2
noncomputable def kV:Key->V
 | .inl i=>.int i
 | .inr x=>.str x
 | .non=>.non
inductive HO where
 |lst (xs:List V)
 |tup (xs:List V)
 |dK (kvs:List (Key×V))|dT (kvs:List (List Key×V))
 |set (S:Int->Bool) (n:Nat)
 |ins (C dx:Addr) (fs:List (Str×V))
 |own (x:Addr)
 |xd (fs:List (Str×V))
 |met (f x:Addr)
 |rng (lo hi:Int)
 |frz (o:Obj) (u:HO)
 |tbl (ps:Array Value)
 |ext (φ:Heap->Prop)
noncomputable abbrev Hp:=Addr->Option HO
noncomputable def upd (H:Hp) (a:Addr) (o:HO):Hp:=fun b=>if b=a then some o else H b
theorem upd_same {H:Hp} {a:Addr} {o:HO}:upd H a o a=some o:=by unfold upd;rw[if_pos rfl]
theorem upd_ne {H:Hp} {a b:Addr} {o:HO} (h:b≠a):upd H a o b=H b:=by unfold upd;rw[if_neg h]
theorem upd_upd {H:Hp} {a:Addr} {o u:HO}:upd (upd H a o) a u=upd H a u:=by
 funext b;unfold upd;split<;>rfl
theorem ne_of {H:Hp} {a b:Addr} {o u:HO} (h:H a=some o) (h':H b=some u) (d:o≠u):a≠b:=by
 intro e;subst e;rw[h]at h';exact d (Option.some.inj h')
theorem ne_of_none {H:Hp} {a b:Addr} {o:HO} (h:H a=some o) (h':H b=none):a≠b:=by
 intro e;subst e;rw[h]at h';cases h'
def TupD (h:Heap) (a:Addr) (items:Array Value):Prop:=∃o,h.get? a=some o/\o.cls=.type "tuple"/\(∃n,o.data=.seq items n)/\o.dict=none
theorem TupD.tup {h:Heap} {a:Addr} {items:Array Value} (x:TupD h a items):IsTup h a items:=let⟨o,e,c,⟨n,d⟩,_⟩:=x;⟨o,e,c,n,d⟩
theorem TupD.new (h:Heap) (items:Array Value):TupD (h.push { cls:=.type "tuple",data:=.seq items }) h.objs.size items:=⟨_,Heap.get?_push_size _ rfl,rfl,⟨_,rfl⟩,rfl⟩
section
variable (P:Program) (w:World)
noncomputable def ObjOk (H:Hp) (h:Heap) (a:Addr):HO->Prop
 | .lst xs=>xs.length<=sizeLine/\∃(its:List Value) (n:Nat),Vals xs its/\h.get? a=some { cls:=.type "list",data:=.seq its.toArray n }
 | .tup xs=>xs.length<=sizeLine/\∃its:List Value,Vals xs its/\TupD h a its.toArray
 | .dK kvs=>kvs.length<=sizeLine/\(a == sysModules)=false/\∃vs,KV kvs vs/\h.DictOf (mixKind P w) a vs
 | .dT kvs=>kvs.length<=sizeLine/\(a == sysModules)=false/\∃xs:List (List Key×Addr×Value),
   Paired (fun(p:List Key×V) (q:List Key×Addr×Value)=>p.1=q.1/\H q.2.1=some (.tup (p.1.map kV))/\RelV p.2 q.2.2) kvs xs/\
   ∃o es ep,h.get? a=some o/\o.ExactDict/\o.data=.dict es ep/\es.toList=xs.map (entryOfKey (tupleKind (mixKind P w)))/\(xs.map (·.1)).Nodup
 | .set S n=>h.SetOf (intKind P w) a S n
 | .ins C dx fs=>H dx=some (.own a)/\fs.length<=1000/\dx≠a/\h.get? a=some (W.instObj C dx)/\
   ∃mA,h.Ns1 dx mA/\(∀f,RelO (fs.lookup f) (mA f))/\PySem.Within mA (fs.map (·.1))
 | .own _=>∃o,h.get? a=some o
 | .xd fs=>∃mA,h.Ns1 a mA/\∀f,RelO (fs.lookup f) (mA f)
 | .rng lo hi=>∃t u v,h.get? a=some { cls:=.type "range",data:=.fields #[.int lo t,.int hi u,.int 1 v] }
 | .frz o u=>h.get? a=some o/\ObjOk H h a u
 | .tbl ps=>h.get? a=some { cls:=.none,data:=.fields ps }
 | .met f x=>h.get? a=some (W.methodObj (.ref f) (.ref x))
 | .ext φ=>φ h/\(∃o,h.get? a=some o)/\∀h1 h2:Heap,φ h1->(∀o,h1.get? a=some o->h2.get? a=some o)->φ h2
def HOk (H:Hp) (h:Heap):Prop:=∀a o,H a=some o->ObjOk P w H h a o
end
section
variable {P:Program} {w:World} {H H':Hp} {h h':Heap} {a:Addr} {o:HO}
theorem ObjOk.lt (x:ObjOk P w H h a o):a<h.objs.size:=by
 cases o with
 |lst xs=>obtain⟨_,_,_,_,e⟩:=x;exact Heap.lt_size e
 |tup xs=>obtain⟨_,_,_,p⟩:=x;exact p.tup.lt
 |dK kvs=>obtain⟨_,_,_,_,o,_,_,e,_⟩:=x;exact Heap.lt_size e
 |dT kvs=>obtain⟨_,_,_,_,o,_,_,e,_⟩:=x;exact Heap.lt_size e
 |set S n=>obtain⟨o,_,_,_,e,_⟩:=x;exact Heap.lt_size e
 |ins C dx fs=>obtain⟨_,_,_,e,_⟩:=x;exact Heap.lt_size e
 |own y=>obtain⟨_,e⟩:=x;exact Heap.lt_size e
 |xd fs=>obtain⟨_,⟨_,_,_,e,_⟩,_⟩:=x;exact Heap.lt_size e
 |rng lo hi=>obtain⟨_,_,_,e⟩:=x;exact Heap.lt_size e
 |frz ob u=>obtain⟨e,_⟩:=x;exact Heap.lt_size e
 |tbl ps=>exact Heap.lt_size (show h.get? a=some _ from x)
 |met f y=>exact Heap.lt_size (show h.get? a=some _ from x)
 |ext φ=>obtain⟨_,⟨_,e⟩,_⟩:=x;exact Heap.lt_size e
theorem Paired.mapP {α β:Type} {F G:α->β->Prop}:∀{l₁:List α} {l₂:List β},Paired F l₁ l₂->(∀a b,F a b->G a b)->Paired G l₁ l₂
 |_,_,.nil,_=>.nil
 |_,_,.cons r t,f=>.cons (f _ _ r) (Paired.mapP t f)
theorem ObjOk.stay (x:ObjOk P w H h a o) (k:∀b u,(b=a\/H b=some (.own a))->h.get? b=some u->h'.get? b=some u)
  (ho:∀b,H b=some (.own a)->H' b=some (.own a)) (ht:∀b xs,H b=some (.tup xs)->H' b=some (.tup xs)):ObjOk P w H' h' a o:=by
 induction o with
 |lst xs=>obtain⟨z,its,n,r,e⟩:=x;exact⟨z,its,n,r,k _ _ (.inl rfl) e⟩
 |tup xs=>obtain⟨z,its,r,ob,e,c⟩:=x;exact⟨z,its,r,ob,k _ _ (.inl rfl) e,c⟩
 |dK kvs=>obtain⟨z,y,vs,r,ob,es,ep,e,c⟩:=x;exact⟨z,y,vs,r,ob,es,ep,k _ _ (.inl rfl) e,c⟩
 |dT kvs=>
  obtain⟨z,y,xs,r,ob,es,ep,e,c⟩:=x
  exact⟨z,y,xs,Paired.mapP r fun p q z=>⟨z.1,ht _ _ z.2.1,z.2.2⟩,ob,es,ep,k _ _ (.inl rfl) e,c⟩
 |set S n=>obtain⟨ob,es,ep,t,e,c⟩:=x;exact⟨ob,es,ep,t,k _ _ (.inl rfl) e,c⟩
 |ins C dx fs=>
  obtain⟨d,z,ne,e,mA,⟨od,es,ep,e2,c⟩,r⟩:=x
  exact⟨ho _ d,z,ne,k _ _ (.inl rfl) e,mA,⟨od,es,ep,k _ _ (.inr d) e2,c⟩,r⟩
 |own y=>obtain⟨ob,e⟩:=x;exact⟨ob,k _ _ (.inl rfl) e⟩
 |xd fs=>obtain⟨mA,⟨od,es,ep,e,c⟩,r⟩:=x;exact⟨mA,⟨od,es,ep,k _ _ (.inl rfl) e,c⟩,r⟩
 |rng lo hi=>obtain⟨t,u,v,e⟩:=x;exact⟨t,u,v,k _ _ (.inl rfl) e⟩
 |frz ob u ih=>obtain⟨e,q⟩:=x;exact⟨k _ _ (.inl rfl) e,ih q⟩
 |tbl ps=>
  have e:h.get? a=some { cls:=.none,data:=.fields ps }:=x
  show h'.get? a=some { cls:=.none,data:=.fields ps }
  exact k a _ (.inl rfl) e
 |met f y=>
  have e:h.get? a=some (W.methodObj (.ref f) (.ref y)):=x
  show h'.get? a=some (W.methodObj (.ref f) (.ref y))
  exact k a _ (.inl rfl) e
 |ext φ=>obtain⟨p,⟨o,e⟩,st⟩:=x;exact⟨st _ _ p fun o q=>k _ _ (.inl rfl) q,⟨o,k _ _ (.inl rfl) e⟩,st⟩
theorem HOk.lt (x:HOk P w H h) (e:H a=some o):a<h.objs.size:=(x a o e).lt
theorem HOk.fresh (x:HOk P w H h) (e:h.objs.size<=a):H a=none:=by
 cases q:H a with
 |none=>rfl
 |some u=>exact absurd (Nat.lt_of_lt_of_le (x.lt q) e) (Nat.lt_irrefl _)
theorem HOk.kept (x:HOk P w H h) (k:∀b u,h.get? b=some u->h'.get? b=some u):HOk P w H h':=fun a o e=>
 (x a o e).stay (fun b u _ q=>k b u q) (fun _ q=>q) fun _ _ q=>q
theorem HOk.laid (x:HOk P w H h) (k:∀b u,h.get? b=some u->h'.get? b=some u) (hp:h.objs.size<=a) (new:ObjOk P w (upd H a o) h' a o):HOk P w (upd H a o) h':=fun b u e=>by
 have hn:=x.fresh hp
 by_cases hb:b=a
 .subst hb;rw[upd_same]at e;cases e;exact new
 .rw[upd_ne hb]at e
  exact(x b u e).stay (fun c v _ q=>k c v q) (fun c q=>by rw[upd_ne (ne_of_none q hn)];exact q) fun c xs q=>by rw[upd_ne (ne_of_none q hn)];exact q
end
def Rd (H:Hp) (a:Addr) (u:HO):Prop:=H a=some u\/∃o,H a=some (.frz o u)
theorem Rd.ok {P:Program} {w:World} {H:Hp} {h:Heap} {a:Addr} {u:HO} (r:Rd H a u) (x:HOk P w H h):ObjOk P w H h a u:=by
 rcases r with r|⟨o,r⟩
 .exact x a u r
 .obtain⟨_,q⟩:=x a _ r
  exact q
noncomputable def Mut:Option HO->Prop
 |some (.lst _)=>True
 |some (.dK _)=>True
 |some (.dT _)=>True
 |some (.set _ _)=>True
 |some (.ins _ _ _)=>True
 |some (.ext _)=>True
 |_=>False
section
variable {P:Program} {w:World} {H:Hp} {h h':Heap} {x e:Addr} {o':HO}
theorem HOk.write (ok:HOk P w H h) (mu:Mut (H x)) (he:e=x\/H e=some (.own x)) (k:∀b u,b≠e->h.get? b=some u->h'.get? b=some u) (heo:∃u,h'.get? e=some u)
  (new:ObjOk P w (upd H x o') h' x o'):HOk P w (upd H x o') h':=fun b u q=>by
 have nown:∀c y,H c=some (.own y)->c≠x:=fun c y r z=>by subst z;rw[r]at mu;exact mu
 have ntup:∀c xs,H c=some (.tup xs)->c≠x:=fun c xs r z=>by subst z;rw[r]at mu;exact mu
 by_cases hb:b=x
 .subst hb;rw[upd_same]at q;cases q;exact new
 .rw[upd_ne hb]at q
  by_cases hbe:b=e
  .have q':H b=some (.own x):=by
    rcases he with z|z
    .exact absurd (hbe.trans z) hb
    .rw[hbe];exact z
   rw[q]at q';cases q'
   obtain⟨v,hv⟩:=heo
   exact⟨v,by rw[hbe];exact hv⟩
  .refine(ok b u q).stay (fun c v hc r=>k c v ?_ r) (fun c r=>by rw[upd_ne (nown c b r)];exact r) fun c xs r=>by rw[upd_ne (ntup c xs r)];exact r
   rcases hc with rfl|hc
   .exact hbe
   .rintro rfl
    rcases he with z|z
    .exact nown c b hc z
    .rw[hc]at z;cases z;exact hb rfl
end
structure Un (fs ex:List Addr) (H H':Hp) (h h':Heap):Prop where
 keep:∀b o,h.get? b=some o->H b=none->b∉fs->b∉ex->h'.get? b=some o
 slot:∀b o,h.get? b=some o->H b=none->b∈fs->b∉ex->∃sl,h'.get? b=some { o with slots:=sl }
 free:∀b o,h.get? b=some o->H b=none->b∉ex->H' b=none
 there:∀b o,h.get? b=some o->b∉ex->∃o',h'.get? b=some o'
 tups:∀b xs,H b=some (.tup xs)->H' b=some (.tup xs)
 frzs:∀b o u,H b=some (.frz o u)->H' b=some (.frz o u)
 tbls:∀b ps,H b=some (.tbl ps)->∃more,H' b=some (.tbl (ps++more))
section
variable {fs fs' ex ex':List Addr} {H H1 H2:Hp} {h h1 h2 h':Heap} {a x e:Addr} {o:HO}
theorem Un.any (u:Un fs ex H H1 h h1) {b:Addr} {ob:Obj} (q:h.get? b=some ob) (n:H b=none) (hx:b∉ex):∃sl,h1.get? b=some { ob with slots:=sl }:=by
 by_cases hb:b∈fs
 .exact u.slot b ob q n hb hx
 .exact⟨ob.slots,u.keep b ob q n hb hx⟩
theorem Un.kept (k:∀b u,h.get? b=some u->h'.get? b=some u):Un fs ex H H h h':=
 ⟨fun b ob q _ _ _=>k b ob q,fun b ob q _ _ _=>⟨ob.slots,k b ob q⟩,fun _ _ _ n _=>n,fun b ob q _=>⟨ob,k b ob q⟩,fun _ _ q=>q,fun _ _ _ q=>q,fun _ ps q=>⟨#[],by rw[q];simp⟩⟩
theorem Un.refl:Un fs ex H H h h:=Un.kept fun _ _ q=>q
theorem Un.laid (k:∀b u,h.get? b=some u->h'.get? b=some u) (hp:h.objs.size<=a) (hn:H a=none):Un fs ex H (upd H a o) h h' where
 keep:=fun b u q _ _ _=>k b u q
 slot:=fun b u q _ _ _=>⟨u.slots,k b u q⟩
 free:=fun b u q n _=>by rw[upd_ne (Nat.ne_of_lt (Nat.lt_of_lt_of_le (Heap.lt_size q) hp))];exact n
 there:=fun b u q _=>⟨u,k b u q⟩
 tups:=fun b xs q=>by rw[upd_ne (ne_of_none q hn)];exact q
 frzs:=fun b u xs q=>by rw[upd_ne (ne_of_none q hn)];exact q
 tbls:=fun b ps q=>⟨#[],by rw[upd_ne (ne_of_none q hn),q];simp⟩
theorem Un.write (mu:Mut (H x)) (he:e=x\/H e=some (.own x)) (k:∀b u,b≠e->h.get? b=some u->h'.get? b=some u) (heo:∃u,h'.get? e=some u):Un fs ex H (upd H x o) h h':=by
 have hx:∀b,H b=none->b≠x:=fun b n z=>by subst z;rw[n]at mu;exact mu
 have hb:∀b,H b=none->b≠e:=fun b n z=>by
  subst z
  rcases he with r|r
  .exact hx b n r
  .rw[n]at r;cases r
 have hm:∀b u,H b=some u->¬Mut (some u)->b≠x:=fun b u q nm z=>by subst z;rw[q]at mu;exact nm mu
 refine⟨fun b u q n _ _=>k b u (hb b n) q,fun b u q n _ _=>⟨u.slots,k b u (hb b n) q⟩,fun b u q n _=>by rw[upd_ne (hx b n)];exact n,fun b u q _=>?_,
  fun b xs q=>by rw[upd_ne (hm b _ q fun z=>z)];exact q,fun b u xs q=>by rw[upd_ne (hm b _ q fun z=>z)];exact q,fun b ps q=>⟨#[],by rw[upd_ne (hm b _ q fun z=>z),q];simp⟩⟩
 by_cases hbe:b=e
 .subst hbe;exact heo
 .exact⟨u,k b u hbe q⟩
end
noncomputable def trk (h:Heap) (H:Hp):List Addr:=(List.range h.objs.size).filter fun a=>(H a).isSome
noncomputable def hidT (h:Heap) (H:Hp):Heap:=W.hideAll h (trk h H)
theorem hidT_size (h:Heap) (H:Hp):(hidT h H).objs.size=h.objs.size:=W.hideAll_size _ _
theorem hidT_get {h:Heap} {H:Hp} {b:Addr} {o:Obj} (e:h.get? b=some o) (n:H b=none):(hidT h H).get? b=some o:=
 W.hideAll_get _ e fun hm=>by
  have q:(H b).isSome=true:=(List.mem_filter.mp hm).2
  rw[n]at q;simp at q
theorem of_hidT {h:Heap} {H:Hp} {b:Addr} {o:Obj} (e:(hidT h H).get? b=some o):h.get? b=some o/\H b=none:=by
 have e':h.get? b=some o:=W.of_hideAll (trk h H) e
 refine⟨e',?_⟩
 cases q:H b with
 |none=>rfl
 |some x=>
  have hm:b∈trk h H:=List.mem_filter.mpr ⟨List.mem_range.mpr (Heap.lt_size e'),by simp[q]⟩
  have z:(hidT h H).get? b=none:=W.hideAll_none (trk h H) hm
  rw[z]at e;cases e
noncomputable def allNews (g h:Heap) (L:Addr):List (Addr×Obj):=(List.range h.objs.size).filterMap fun a=>if a=L\/(g.get? a).isSome=true then none else(h.get? a).map fun o=>(a,o)
noncomputable def rest (g h:Heap) (L d:Addr):List (Addr×Obj):=(allNews g h L).filter fun p=>decide (p.1≠d)
structure Mod (K:W.Frag) (mg:Str->Option Value) (base:Heap):Prop where
 kin:K.In base
 glob:base.Ns mainGlobals mg
 blt:∃mb,base.Ns builtinsNs mb/\∀x:Str,x≠"__name__"->mb x=bootBuiltins x
 nolimit:base.NoLimit
structure Cx where
 prog:Program
 w:World
 K:W.Frag
 mg:Str->Option Value
 base:Heap
 A:Around
 N:List Str
 s₀:Shared
 H₀:Hp
 env:Env
 outer:List Env
 stack:List Env
 ex:List Addr
 fn:Str->Bool
 calm:Bool
 pn:List (Addr×Obj)
 xe:Value->Shared->Prop
noncomputable def frs (l:List Env):List Addr:=l.filterMap (·.frame)
noncomputable abbrev Cx.fs (X:Cx):List Addr:=frs X.outer
def Vis (sc:Scope) (x:Str):Prop:=sc.names.lookup x=some .local\/sc.names.lookup x=some .cell\/sc.names.lookup x=some .free
def Loc (sc:Scope) (x:Str):Prop:=sc.names.lookup x=some .local\/sc.names.lookup x=some .cell
def Look (env:Env) (h:Heap) (m:Str->Option Value) (x:Str) (u:Value):Prop:=
 (env.kindOf x=some .local/\m x=some u)\/((env.kindOf x=some .cell\/env.kindOf x=some .free)/\∃c,env.cells.lookup x=some c/\h.IsCell c (some u))
structure Cx.Ok (X:Cx):Prop where
 mod:Mod X.K X.mg X.base
 kind:X.env.scope.kind=.function
 glob:X.env.globals=mainGlobals
 blt:X.env.builtins=builtinsNs
 above:X.s₀.heap.objs.size<=X.env.locals
 inj:∀x y c,X.env.cells.lookup x=some c->X.env.cells.lookup y=some c->x=y
 has:∀x,(X.env.kindOf x=some .cell\/X.env.kindOf x=some .free)->∃c,X.env.cells.lookup x=some c
 cab:∀x c,X.fn x=true->X.env.cells.lookup x=some c->X.s₀.heap.objs.size<=c
 hd:X.calm=true->X.A.handled=none
 frames:X.A.frames=some X.stack
 stk:X.stack=X.outer\/(X.stack=X.env :: X.outer/\X.env.frame=some X.env.locals)
 exf:∀b∈X.ex,b≠X.env.locals/\∀x c,X.env.cells.lookup x=some c->c≠b
 bs:∀b o,X.base.get? b=some o->X.s₀.heap.get? b=some o/\X.H₀ b=none
 bsz:X.base.objs.size<=X.s₀.heap.objs.size
 noex:∀b o,X.base.get? b=some o->b∉X.ex
 exfs:∀b∈X.ex,b∉X.fs
 funs:X.s₀.heap.FunFrames X.base X.outer
 frf:∀b∈X.fs,X.H₀ b=none
structure Inv (X:Cx) (pins:List (Addr×Obj)) (σ:List (Option V)) (H:Hp) (s:Shared):Prop where
 ok:X.Ok
 os:s.os=X.s₀.os
 bare:AllBare s.gens
 base:Un X.fs X.ex X.H₀ H X.s₀.heap s.heap
 loc:∃m,s.heap.Ns X.env.locals m/\∀(i:Nat) (x:Str) (v:V),X.N[i]?=some x->σ[i]?=some (some v)->Vis X.env.scope x->∃u,RelV v u/\Look X.env s.heap m x u
 cell:∀x c,X.env.cells.lookup x=some c->∃v,s.heap.IsCell c v
 free:H X.env.locals=none
 freeC:∀x c,X.env.cells.lookup x=some c->H c=none
 pin:∀p∈X.pn++pins,s.heap.get? p.1=some p.2/\H p.1=none/\p.1≠X.env.locals/\p.1∉X.fs/\∀v,p.2.data≠.cell v
 hok:HOk X.prog X.w H s.heap
 len:σ.length=X.N.length
section
variable {X:Cx} {pins:List (Addr×Obj)} {σ:List (Option V)} {H H':Hp} {s:Shared} {h':Heap}
theorem Cx.Ok.nofr (ok:X.Ok) {b:Addr} {o:Obj} (e:X.base.get? b=some o):b∉X.fs:=fun hb=>by
 have:=(ok.funs.mem hb).1
 rw[e]at this;cases this
theorem Inv.bs (I:Inv X pins σ H s):∀b o,X.base.get? b=some o->s.heap.get? b=some o/\H b=none:=fun b o e=>
 ⟨I.base.keep b o (I.ok.bs b o e).1 (I.ok.bs b o e).2 (I.ok.nofr e) (I.ok.noex b o e),I.base.free b o (I.ok.bs b o e).1 (I.ok.bs b o e).2 (I.ok.noex b o e)⟩
theorem Inv.bk (I:Inv X pins σ H s):∀b o,X.base.get? b=some o->s.heap.get? b=some o:=fun b o e=>(I.bs b o e).1
theorem Inv.mod (I:Inv X pins σ H s):Mod X.K X.mg X.base:=I.ok.mod
theorem Inv.kIn (I:Inv X pins σ H s):X.K.In s.heap:=I.ok.mod.kin.keeps I.bk
theorem Inv.fr (I:Inv X pins σ H s):∃m,Fr X.base X.env.locals s.heap m:=
 let⟨m,hn,_⟩:=I.loc
 ⟨m,hn,I.bk,Nat.le_trans I.ok.bsz I.ok.above⟩
theorem Inv.lt (I:Inv X pins σ H s):X.env.locals<s.heap.objs.size:=let⟨_,hn,_⟩:=I.loc;hn.lt
theorem Inv.sz (I:Inv X pins σ H s):X.s₀.heap.objs.size<=s.heap.objs.size:=Nat.le_trans I.ok.above (Nat.le_of_lt I.lt)
theorem Inv.nofs (I:Inv X pins σ H s) {a:Addr} (h:s.heap.objs.size<=a):a∉X.fs:=fun hb=>by
 obtain⟨_,o,ho,_⟩:=I.ok.funs.mem hb
 exact absurd (Nat.lt_of_lt_of_le (Heap.lt_size ho) (Nat.le_trans I.sz h)) (Nat.lt_irrefl _)
theorem Inv.cne (I:Inv X pins σ H s):∀x c,X.env.cells.lookup x=some c->c≠X.env.locals:=fun x c e z=>by
 obtain⟨v,o,ho,hd⟩:=I.cell x c e
 obtain⟨m,⟨o',es,ep,ho',hd',_⟩,_⟩:=I.loc
 rw[z,ho']at ho;cases ho;rw[hd']at hd;cases hd
theorem Inv.funs (I:Inv X pins σ H s):s.heap.FunFrames X.base X.outer:=by
 have all:∀(l:List Env),(∀b∈frs l,b∈X.fs)->X.s₀.heap.FunFrames X.base l->s.heap.FunFrames X.base l:=by
  intro l
  induction l with
  |nil=>intro _ _;trivial
  |cons env r ih=>
   intro hs hl
   obtain⟨hk,⟨L,o,hf,hn,ho,hd⟩,hr⟩:=hl
   have hL:L∈X.fs:=hs L (by unfold frs;rw[List.filterMap_cons,hf];exact List.mem_cons_self)
   obtain⟨sl,e⟩:=I.base.slot L o ho (I.ok.frf L hL) hL fun z=>I.ok.exfs L z hL
   exact⟨hk,⟨L,_,hf,hn,e,hd⟩,ih (fun b hb=>hs b (by unfold frs;rw[List.filterMap_cons,hf];exact List.mem_cons_of_mem _ hb)) hr⟩
 exact all X.outer (fun _ hb=>hb) I.ok.funs
theorem Inv.stack (I:Inv X pins σ H s):s.heap.FunFrames X.base X.stack:=by
 rcases I.ok.stk with e|⟨e,hf⟩
 .rw[e];exact I.funs
 .rw[e]
  obtain⟨m,hn,_⟩:=I.loc
  refine .cons (by rw[I.ok.kind];decide) hf hn ?_ I.funs
  exact Heap.get?_none_of_le (Nat.le_trans I.ok.bsz I.ok.above)
theorem Inv.stkSub (I:Inv X pins σ H s):∀b∈frs X.stack,b∈X.env.locals :: X.fs:=fun b hb=>by
 rcases I.ok.stk with e|⟨e,hf⟩
 .rw[e]at hb;exact List.mem_cons_of_mem _ hb
 .rw[e]at hb
  unfold frs at hb
  rw[List.filterMap_cons,hf]at hb
  exact hb
theorem Inv.stkFree (I:Inv X pins σ H s):∀b∈frs X.stack,H b=none:=fun b hb=>by
 rcases List.mem_cons.mp (I.stkSub b hb)with e|hb
 .rw[e];exact I.free
 .obtain⟨_,o,ho,_⟩:=I.ok.funs.mem hb
  exact I.base.free b o ho (I.ok.frf b hb) fun z=>I.ok.exfs b z hb
theorem Inv.step {g':Array GenState} {t':Nat} {d':Drawn} {ch:List Addr} (I:Inv X pins σ H s)
  (hch:∀b∈ch,(b∈X.ex\/X.s₀.heap.objs.size<=b)/\b≠X.env.locals/\(∀x c,X.env.cells.lookup x=some c->c≠b)/\∀p∈X.pn++pins,p.1≠b)
  (keep:∀b o,b≠X.env.locals->b∉X.fs->b∉ch->s.heap.get? b=some o->H b=none->h'.get? b=some o)
  (slot:∀b o,b≠X.env.locals->b∈X.fs->b∉ch->s.heap.get? b=some o->H b=none->∃sl,h'.get? b=some { o with slots:=sl }) (free:∀b o,b∉ch->s.heap.get? b=some o->H b=none->H' b=none)
  (there:∀b o,b∉ch->s.heap.get? b=some o->∃o',h'.get? b=some o')
  (tups:∀b xs,H b=some (.tup xs)->H' b=some (.tup xs)) (frzs:∀b o u,H b=some (.frz o u)->H' b=some (.frz o u)) (tbls:∀b ps,H b=some (.tbl ps)->∃more,H' b=some (.tbl (ps++more)))
  (ns:∀m,s.heap.Ns X.env.locals m->h'.Ns X.env.locals m) (hok:HOk X.prog X.w H' h') (hg:AllBare g'):
  Inv X pins σ H' { s with heap:=h',gens:=g',drawn:=d',toks:=t' }:=by
 have neL:∀b o,X.s₀.heap.get? b=some o->b≠X.env.locals:=fun b o e=>Nat.ne_of_lt (Nat.lt_of_lt_of_le (Heap.lt_size e) I.ok.above)
 have neC:∀b o,X.s₀.heap.get? b=some o->b∉X.ex->b∉ch:=fun b o e hx hb=>by
  rcases(hch b hb).1 with z|z
  .exact hx z
  .exact absurd (Nat.lt_of_lt_of_le (Heap.lt_size e) z) (Nat.lt_irrefl _)
 have cellK:∀x c,X.env.cells.lookup x=some c->∀v,s.heap.IsCell c v->h'.IsCell c v:=fun x c e v ⟨o,ho,hd⟩=>by
  have nch:c∉ch:=fun z=>(hch c z).2.2.1 x c e rfl
  by_cases hc:c∈X.fs
  .obtain⟨sl,q⟩:=slot c o (I.cne x c e) hc nch ho (I.freeC x c e)
   exact⟨_,q,hd⟩
  .exact⟨o,keep c o (I.cne x c e) hc nch ho (I.freeC x c e),hd⟩
 refine⟨I.ok,I.os,hg,⟨fun b o e n hb hx=>?_,fun b o e n hb hx=>?_,fun b o e n hx=>?_,fun b o e hx=>?_,fun b xs e=>tups b xs (I.base.tups b xs e),fun b o xs e=>frzs b o xs (I.base.frzs b o xs e),fun b ps e=>?_⟩,?_,fun x c e=>?_,?_,fun x c e=>?_,fun p hp=>?_,hok,I.len⟩
 .exact keep b o (neL b o e) hb (neC b o e hx) (I.base.keep b o e n hb hx) (I.base.free b o e n hx)
 .obtain⟨sl,e1⟩:=I.base.slot b o e n hb hx
  obtain⟨sl',e2⟩:=slot b _ (neL b o e) hb (neC b o e hx) e1 (I.base.free b o e n hx)
  exact⟨sl',e2⟩
 .obtain⟨o',e1⟩:=I.base.there b o e hx
  exact free b o' (neC b o e hx) e1 (I.base.free b o e n hx)
 .obtain⟨o',e1⟩:=I.base.there b o e hx
  exact there b o' (neC b o e hx) e1
 .obtain⟨m1,e1⟩:=I.base.tbls b ps e
  obtain⟨m2,e2⟩:=tbls b _ e1
  exact⟨m1++m2,by rw[e2,Array.append_assoc]⟩
 .obtain⟨m,hn,hl⟩:=I.loc
  refine⟨m,ns m hn,fun i x v e1 e2 e3=>?_⟩
  obtain⟨u,r,l⟩:=hl i x v e1 e2 e3
  refine⟨u,r,?_⟩
  rcases l with l|⟨k,c,e,z⟩
  .exact .inl l
  .exact .inr ⟨k,c,e,cellK x c e _ z⟩
 .obtain⟨v,z⟩:=I.cell x c e
  exact⟨v,cellK x c e v z⟩
 .obtain⟨m,⟨o,_,_,ho,_⟩,_⟩:=I.loc
  exact free _ o (fun z=>(hch _ z).2.1 rfl) ho I.free
 .obtain⟨v,o,ho,hd⟩:=I.cell x c e
  exact free c o (fun z=>(hch c z).2.2.1 x c e rfl) ho (I.freeC x c e)
 .obtain⟨e,n,ne,nf,d⟩:=I.pin p hp
  have nch:p.1∉ch:=fun z=>(hch p.1 z).2.2.2 p hp rfl
  exact⟨keep p.1 p.2 ne nf nch e n,free p.1 p.2 nch e n,ne,nf,d⟩
theorem Inv.un {t':Nat} (I:Inv X pins σ H s) (u:Un X.fs [] H H' s.heap h') (hok:HOk X.prog X.w H' h'):Inv X pins σ H' { s with heap:=h',toks:=t' }:=by
 obtain⟨m,⟨o,es,ep,ho,r⟩,_⟩:=id I.loc
 obtain⟨sl,hL⟩:=u.any ho I.free (by simp)
 exact I.step (g':=s.gens) (d':=s.drawn) (ch:=[]) (fun _ z=>nomatch z) (fun b o _ hb _ e n=>u.keep b o e n hb (by simp)) (fun b o _ hb _ e n=>u.slot b o e n hb (by simp)) (fun b o _ e n=>u.free b o e n (by simp)) (fun b o _ e=>u.there b o e (by simp)) u.tups u.frzs u.tbls (fun m' hm=>by
  obtain⟨o',es',ep',ho',r'⟩:=hm
  rw[ho]at ho';cases ho'
  exact⟨_,es',ep',hL,r'⟩) hok I.bare
theorem Inv.call {g':Array GenState} {t':Nat} {d':Drawn} {ch:List Addr} (I:Inv X pins σ H s) (u:Un (frs X.stack) ch H H' s.heap h') (hok:HOk X.prog X.w H' h') (hg:AllBare g')
  (hch:∀b∈ch,(b∈X.ex\/X.s₀.heap.objs.size<=b)/\b≠X.env.locals/\(∀x c,X.env.cells.lookup x=some c->c≠b)/\∀p∈X.pn++pins,p.1≠b):
  Inv X pins σ H' { s with heap:=h',gens:=g',drawn:=d',toks:=t' }:=by
 obtain⟨m,⟨o,es,ep,ho,r⟩,_⟩:=id I.loc
 obtain⟨sl,hL⟩:=u.any ho I.free fun z=>(hch _ z).2.1 rfl
 exact I.step (ch:=ch) hch (fun b o hL hb hc e n=>u.keep b o e n (fun z=>(List.mem_cons.mp (I.stkSub b z)).elim hL hb) hc) (fun b o _ _ hc e n=>u.any e n hc) (fun b o hc e n=>u.free b o e n hc) (fun b o hc e=>u.there b o e hc) u.tups u.frzs u.tbls (fun m' hm=>by
  obtain⟨o',es',ep',ho',r'⟩:=hm
  rw[ho]at ho';cases ho'
  exact⟨_,es',ep',hL,r'⟩) hok hg
theorem Inv.turned {t':Nat} {it:Addr} (I:Inv X pins σ H s) (k:∀b o,b≠it->s.heap.get? b=some o->h'.get? b=some o) (hn:H it=none) (hL:it≠X.env.locals)
  (h1:it∈X.ex\/X.s₀.heap.objs.size<=it) (h2:∀x c,X.env.cells.lookup x=some c->c≠it) (h3:∀p∈X.pn++pins,p.1≠it):Inv X pins σ H { s with heap:=h',toks:=t' }:=by
 have nit:∀b u,H b=some u->b≠it:=fun b u e z=>by rw[z,hn]at e;cases e
 refine I.step (g':=s.gens) (d':=s.drawn) (ch:=[it]) (fun b hb=>?_) (fun b o _ _ hc e _=>k b o (fun z=>hc (by simp[z])) e) (fun b o _ _ hc e _=>⟨o.slots,k b o (fun z=>hc (by simp[z])) e⟩) (fun _ _ _ _ n=>n)
  (fun b o hc e=>⟨o,k b o (fun z=>hc (by simp[z])) e⟩) (fun _ _ e=>e) (fun _ _ _ e=>e) (fun b ps e=>⟨#[],by rw[e];simp⟩) (fun m hm=>?_) (fun b u e=>?_) I.bare
 .have e:b=it:=by simpa using hb
  subst e
  exact⟨h1,hL,h2,h3⟩
 .obtain⟨o,es,ep,ho,r⟩:=hm
  exact⟨o,es,ep,k _ o (Ne.symm hL) ho,r⟩
 .refine(I.hok b u e).stay (fun c v hc q=>k c v ?_ q) (fun _ q=>q) fun _ _ q=>q
  rcases hc with z|z
  .rw[z];exact nit b u e
  .exact nit c _ z
theorem Inv.tok (I:Inv X pins σ H s) (t:Nat):Inv X pins σ H { s with toks:=t }:=I.un (h':=s.heap) (t':=t) Un.refl I.hok
theorem Inv.kept {t':Nat} (I:Inv X pins σ H s) (k:∀b u,s.heap.get? b=some u->h'.get? b=some u):Inv X pins σ H { s with heap:=h',toks:=t' }:=I.un (Un.kept k) (I.hok.kept k)
theorem Inv.laid {a:Addr} {o:HO} {t':Nat} (I:Inv X pins σ H s) (k:∀b u,s.heap.get? b=some u->h'.get? b=some u) (hp:s.heap.objs.size<=a) (new:ObjOk X.prog X.w (upd H a o) h' a o):
  Inv X pins σ (upd H a o) { s with heap:=h',toks:=t' }:=I.un (Un.laid k hp (I.hok.fresh hp)) (I.hok.laid k hp new)
theorem Inv.write {x e:Addr} {o:HO} {t':Nat} (I:Inv X pins σ H s) (mu:Mut (H x)) (he:e=x\/H e=some (.own x)) (k:∀b u,b≠e->s.heap.get? b=some u->h'.get? b=some u) (heo:∃u,h'.get? e=some u)
  (new:ObjOk X.prog X.w (upd H x o) h' x o):Inv X pins σ (upd H x o) { s with heap:=h',toks:=t' }:=I.un (Un.write mu he k heo) (I.hok.write mu he k heo new)
theorem Inv.weak {σ':List (Option V)} (I:Inv X pins σ H s) (hl:σ'.length=σ.length) (w:∀(i:Nat) v,σ'[i]?=some (some v)->σ[i]?=some (some v)):Inv X pins σ' H s:=
 ⟨I.ok,I.os,I.bare,I.base,let⟨m,hn,hl'⟩:=I.loc;⟨m,hn,fun i x v e1 e2 e3=>hl' i x v e1 (w i v e2) e3⟩,I.cell,I.free,I.freeC,I.pin,I.hok,hl.trans I.len⟩
theorem Inv.pins_of {pins':List (Addr×Obj)} (I:Inv X pins σ H s) (h:∀p∈pins',s.heap.get? p.1=some p.2/\H p.1=none/\p.1≠X.env.locals/\p.1∉X.fs/\∀v,p.2.data≠.cell v):Inv X pins' σ H s:=
 ⟨I.ok,I.os,I.bare,I.base,I.loc,I.cell,I.free,I.freeC,fun p hp=>(List.mem_append.mp hp).elim (fun z=>I.pin p (List.mem_append_left _ z)) (h p),I.hok,I.len⟩
theorem nodup_ix {N:List Str} (hN:N.Nodup) {i j:Nat} {x:Str} (a:N[i]?=some x) (b:N[j]?=some x):i=j:=by
 obtain⟨h1,e1⟩:=List.getElem?_eq_some_iff.mp a
 obtain⟨h2,e2⟩:=List.getElem?_eq_some_iff.mp b
 exact(List.getElem_inj hN).mp (e1.trans e2.symm)
theorem store_ok2 {M:Model} {A:Around} {E:Value->Shared->Prop} {i:Nat} {x:Str} {v:V} {u:Value} {Q:Unit->Shared->Prop} (I:Inv X pins σ H s) (hN:X.N.Nodup) (hi:X.N[i]?=some x) (hx:Loc X.env.scope x) (r:RelV v u)
  (h:∀s',Inv X pins (σ.set i (some v)) H s'->(∃a,Heap.SameBut a s.heap s'.heap/\(a=X.env.locals\/X.env.cells.lookup x=some a))->Q () s') (hf:X.fn x=true\/X.env.scope.names.lookup x=some .local:=by first|exact .inl rfl|exact .inr rfl|assumption):wpAny M A (storeName X.env x u) Q E s:=by
 obtain⟨m,hn,hl⟩:=id I.loc
 have hcls:(X.env.scope.kind == .class || (X.env.scope.kind == .module&&X.env.locals != X.env.globals))=false:=by rw[I.ok.kind];rfl
 have hiσ:i<σ.length:=by rw[I.len];exact(List.getElem?_eq_some_iff.mp hi).1
 have cne:=I.cne
 have tracked:∀{a:Addr} {h':Heap},(∃o,s.heap.get? a=some o/\H a=none)->Heap.SameBut a s.heap h'->HOk X.prog X.w H h':=fun {a h'} ha hs b ob e=>by
  obtain⟨_,_,hfree⟩:=ha
  refine(I.hok b ob e).stay (fun c w' hc q=>(hs.2 c ?_).trans q) (fun _ q=>q) fun _ _ q=>q
  rintro rfl
  rcases hc with rfl|hc
  .rw[hfree]at e;cases e
  .rw[hfree]at hc;cases hc
 rcases hx with hk|hk
 .refine wpAny_storeName_local hk hn (fun h' hn' hs=>?_) hcls
  obtain⟨oL,_,_,hoL,_⟩:=id hn
  refine h _ ⟨I.ok,I.os,I.bare,⟨fun b o e n hb hx=>?_,fun b o e n hb hx=>?_,I.base.free,fun b o e hx=>?_,I.base.tups,I.base.frzs,I.base.tbls⟩,⟨_,hn',fun j y v' e1 e2 e3=>?_⟩,fun y c e=>?_,I.free,I.freeC,fun p hp=>?_,tracked ⟨oL,hoL,I.free⟩ hs,by simpa using I.len⟩ ⟨_,hs,.inl rfl⟩
  .exact(hs.2 b (Nat.ne_of_lt (Nat.lt_of_lt_of_le (Heap.lt_size e) I.ok.above))).trans (I.base.keep b o e n hb hx)
  .obtain⟨sl,e1⟩:=I.base.slot b o e n hb hx
   exact⟨sl,(hs.2 b (Nat.ne_of_lt (Nat.lt_of_lt_of_le (Heap.lt_size e) I.ok.above))).trans e1⟩
  .obtain⟨o',e1⟩:=I.base.there b o e hx
   exact⟨o',(hs.2 b (Nat.ne_of_lt (Nat.lt_of_lt_of_le (Heap.lt_size e) I.ok.above))).trans e1⟩
  .by_cases hj:j=i
   .subst hj
    rw[hi]at e1;cases e1
    rw[List.getElem?_set_self hiσ]at e2
    cases e2
    exact⟨u,r,.inl ⟨hk,by simp⟩⟩
   .rw[List.getElem?_set_ne (Ne.symm hj)]at e2
    obtain⟨u',r',q⟩:=hl j y v' e1 e2 e3
    refine⟨u',r',?_⟩
    rcases q with⟨k,e⟩|⟨k,c,e,z⟩
    .refine .inl ⟨k,?_⟩
     have:y≠x:=fun e=>hj (nodup_ix hN e1 (e ▸ hi))
     simp[this,e]
    .exact .inr ⟨k,c,e,z.sameBut hs (cne y c e)⟩
  .obtain⟨w',z⟩:=I.cell y c e
   exact⟨w',z.sameBut hs (cne y c e)⟩
  .obtain⟨e,n,ne,nf,d⟩:=I.pin p hp
   exact⟨(hs.2 p.1 ne).trans e,n,ne,nf,d⟩
 .have hfn:X.fn x=true:=by
   rcases hf with z|z
   .exact z
   .rw[z]at hk;cases hk
  obtain⟨c,hc⟩:=I.ok.has x (.inl hk)
  obtain⟨w',z⟩:=I.cell x c hc
  refine wpAny_storeName_cell I.ok.kind hk hc z (fun h' hc' hs=>?_)
  obtain⟨oc,hoc,hocd⟩:=id z
  refine h { s with heap:=h' } ⟨I.ok,I.os,I.bare,⟨fun b o e n hb hx=>?_,fun b o e n hb hx=>?_,I.base.free,fun b o e hx=>?_,I.base.tups,I.base.frzs,I.base.tbls⟩,⟨m,hn.sameBut hs (Ne.symm (cne x c hc)),fun j y v' e1 e2 e3=>?_⟩,fun y c' e=>?_,I.free,I.freeC,fun p hp=>?_,tracked ⟨oc,hoc,I.freeC x c hc⟩ hs,by simpa using I.len⟩ ⟨c,hs,.inr hc⟩
  .exact(hs.2 b (Nat.ne_of_lt (Nat.lt_of_lt_of_le (Heap.lt_size e) (I.ok.cab x c hfn hc)))).trans (I.base.keep b o e n hb hx)
  .obtain⟨sl,e1⟩:=I.base.slot b o e n hb hx
   exact⟨sl,(hs.2 b (Nat.ne_of_lt (Nat.lt_of_lt_of_le (Heap.lt_size e) (I.ok.cab x c hfn hc)))).trans e1⟩
  .obtain⟨o',e1⟩:=I.base.there b o e hx
   exact⟨o',(hs.2 b (Nat.ne_of_lt (Nat.lt_of_lt_of_le (Heap.lt_size e) (I.ok.cab x c hfn hc)))).trans e1⟩
  .by_cases hj:j=i
   .subst hj
    rw[hi]at e1;cases e1
    rw[List.getElem?_set_self hiσ]at e2
    cases e2
    exact⟨u,r,.inr ⟨.inl hk,c,hc,hc'⟩⟩
   .rw[List.getElem?_set_ne (Ne.symm hj)]at e2
    obtain⟨u',r',q⟩:=hl j y v' e1 e2 e3
    refine⟨u',r',?_⟩
    rcases q with q|⟨k,c',e,z'⟩
    .exact .inl q
    .refine .inr ⟨k,c',e,z'.sameBut hs ?_⟩
     rintro rfl
     exact hj (nodup_ix hN e1 (I.ok.inj _ _ _ e hc ▸ hi))
  .by_cases hcc:c'=c
   .subst hcc;exact⟨_,hc'⟩
   .obtain⟨w2,z2⟩:=I.cell y c' e
    exact⟨w2,z2.sameBut hs hcc⟩
  .obtain⟨e,n,ne,nf,d⟩:=I.pin p hp
   refine⟨(hs.2 p.1 ?_).trans e,n,ne,nf,d⟩
   intro q
   rw[q,hoc]at e
   have q':oc=p.2:=Option.some.inj e
   exact d w' (by rw[<- q'];exact hocd)
theorem store_ok {M:Model} {A:Around} {E:Value->Shared->Prop} {i:Nat} {x:Str} {v:V} {u:Value} {Q:Unit->Shared->Prop} (I:Inv X pins σ H s) (hN:X.N.Nodup) (hi:X.N[i]?=some x) (hx:Loc X.env.scope x) (r:RelV v u)
  (h:∀s',Inv X pins (σ.set i (some v)) H s'->Q () s') (hf:X.fn x=true\/X.env.scope.names.lookup x=some .local:=by first|exact .inl rfl|exact .inr rfl|assumption):wpAny M A (storeName X.env x u) Q E s:=
 store_ok2 I hN hi hx r (fun s' I' _=>h s' I') hf
theorem Inv.call' {s':Shared} {ch:List Addr} (I:Inv X pins σ H s) (ho:s'.os=s.os) (u:Un (frs X.stack) ch H H' s.heap s'.heap) (hok:HOk X.prog X.w H' s'.heap) (hg:AllBare s'.gens)
  (hch:∀b∈ch,(b∈X.ex\/X.s₀.heap.objs.size<=b)/\b≠X.env.locals/\(∀x c,X.env.cells.lookup x=some c->c≠b)/\∀p∈X.pn++pins,p.1≠b):Inv X pins σ H' s':=by
 obtain⟨h',g',d',t',o'⟩:=s'
 have e:o'=s.os:=ho
 subst e
 exact I.call (g':=g') (t':=t') (d':=d') u hok hg hch
end
noncomputable abbrev XK:=Value->Option Addr->Hp->Prop
noncomputable abbrev St:=List (Option V)
noncomputable abbrev VK:=V->Hp->Prop
noncomputable abbrev TE:=St->Hp->VK->Prop
noncomputable abbrev TT:=St->Hp->(Bool->Hp->Prop)->Prop
noncomputable abbrev TA:=St->Hp->(List V->Hp->Prop)->Prop
structure Ends where
 nx:St->Hp->Prop
 rt:VK
 bk:St->Hp->Prop:=fun _ _=>False
 ct:St->Hp->Prop:=fun _ _=>False
noncomputable abbrev TS:=Ends->St->Hp->Prop
def EP (X:Cx) (pins:List (Addr×Obj)) (σ:St) (Q:VK) (u:Value) (s':Shared):Prop:=∃v H',Inv X pins σ H' s'/\RelV v u/\Q v H'
def TP (X:Cx) (pins:List (Addr×Obj)) (σ:St) (Q:Bool->Hp->Prop) (b:Bool) (s':Shared):Prop:=∃H',Inv X pins σ H' s'/\Q b H'
def AP (X:Cx) (pins:List (Addr×Obj)) (σ:St) (Q:List V->Hp->Prop) (us:List Value) (s':Shared):Prop:=∃vs H',Inv X pins σ H' s'/\Vals vs us/\Q vs H'
def SP (X:Cx) (pins:List (Addr×Obj)) (D:Ends) (f:Flow) (s':Shared):Prop:=
 match f with
 | .next=>∃σ' H',Inv X pins σ' H' s'/\D.nx σ' H'
 | .brk=>∃σ' H',Inv X pins σ' H' s'/\D.bk σ' H'
 | .cont=>∃σ' H',Inv X pins σ' H' s'/\D.ct σ' H'
 | .ret u=>∃v σ' H',Inv X pins σ' H' s'/\RelV v u/\D.rt v H'
def PE (X:Cx) (e:Expr) (t:TE):Prop:=
 ∀(pins:List (Addr×Obj)) (s:Shared) (σ:St) (H:Hp) (Q:VK),Inv X pins σ H s->t σ H Q->wpAny (model X.prog X.w) X.A (eval e X.env) (EP X pins σ Q) X.xe s
def PT (X:Cx) (e:Expr) (t:TT):Prop:=
 ∀(pins:List (Addr×Obj)) (s:Shared) (σ:St) (H:Hp) (Q:Bool->Hp->Prop),Inv X pins σ H s->t σ H Q->wpAny (model X.prog X.w) X.A (isTrue e X.env (eval e X.env)) (TP X pins σ Q) X.xe s
def PW (X:Cx) (e:Expr) (t:TT):Prop:=
 ∀(whole:Sem Value) (pins:List (Addr×Obj)) (s:Shared) (σ:St) (H:Hp) (Q:Bool->Hp->Prop),Inv X pins σ H s->t σ H Q->wpAny (model X.prog X.w) X.A (isTrue e X.env whole) (TP X pins σ Q) X.xe s
theorem PW.pt {X:Cx} {e:Expr} {t:TT} (h:PW X e t):PT X e t:=h _
def PA (X:Cx) (es:List Expr) (t:TA):Prop:=
 ∀(pos:Pos) (pins:List (Addr×Obj)) (s:Shared) (σ:St) (H:Hp) (Q:List V->Hp->Prop),Inv X pins σ H s->t σ H Q->wpAny (model X.prog X.w) X.A (spliced (backTo pos (starEach es X.env))) (AP X pins σ Q) X.xe s
def PS (X:Cx) (st:Stmt) (t:TS):Prop:=
 ∀(pins:List (Addr×Obj)) (s:Shared) (σ:St) (H:Hp) (D:Ends),Inv X pins σ H s->t D σ H->wpAny (model X.prog X.w) X.A (exec st X.env) (SP X pins D) X.xe s
def PSs (X:Cx) (st:List Stmt) (t:TS):Prop:=
 ∀(pins:List (Addr×Obj)) (s:Shared) (σ:St) (H:Hp) (D:Ends),Inv X pins σ H s->t D σ H->wpAny (model X.prog X.w) X.A (execs st X.env) (SP X pins D) X.xe s
theorem thn {α:Type} {t:Sem α} {Q Q':α->Shared->Prop} {M:Model} {A:Around} {E:Value->Shared->Prop} {s:Shared} (h:wpAny M A t Q E s) (hQ:∀a s,Q a s->Q' a s):wpAny M A t Q' E s:=wpAny_mono h hQ fun _ _ x=>x
section
variable {X:Cx}
theorem bin {a b:Expr} {ta tb:TE} (ha:PE X a ta) (hb:PE X b tb) {pins:List (Addr×Obj)} {s:Shared} {σ:St} {H:Hp} {R:V->V->Hp->Prop} (I:Inv X pins σ H s) (h:ta σ H fun x H1=>tb σ H1 fun y H2=>R x y H2)
  {α:Type} {Q:α->Shared->Prop} {f:Value->Value->Sem α}
  (hf:∀v u s2 x y H2,Inv X pins σ H2 s2->RelV x v->RelV y u->R x y H2->wpAny (model X.prog X.w) X.A (f v u) Q X.xe s2):
  wpAny (model X.prog X.w) X.A (eval a X.env) (fun v s₁=>wpAny (model X.prog X.w) X.A (eval b X.env) (fun u s₂=>wpAny (model X.prog X.w) X.A (f v u) Q X.xe s₂) X.xe s₁) X.xe s:=by
 refine thn (ha pins s σ H _ I h) fun v s1 ⟨x,H1,I1,r1,q1⟩=>?_
 refine thn (hb pins s1 σ H1 _ I1 q1) fun u s2 ⟨y,H2,I2,r2,q2⟩=>?_
 exact hf v u s2 x y H2 I2 r1 r2 q2
noncomputable def tVar (i:Nat):TE:=fun σ H Q=>∃v,σ[i]?=some (some v)/\Q v H
noncomputable def tC (v:V):TE:=fun _ H Q=>Q v H
theorem pe_var {i:Nat} {x:Str} {pos:Pos} (hN:X.N[i]?=some x) (hv:Vis X.env.scope x) (hd:(x == ("__debug__":Str))=false:=by decide) (hcd:(x == ("__classdict__":Str))=false:=by decide):PE X (.Name x pos) (tVar i):=by
 intro pins s σ H Q I h
 obtain⟨v,e,h⟩:=h
 obtain⟨m,hn,hl⟩:=I.loc
 obtain⟨u,r,l⟩:=hl i x v hN e hv
 have fin:EP X pins σ Q u s:=⟨v,H,I,r,h⟩
 rcases l with⟨hk,hm⟩|⟨hk,c,hc,hcell⟩
 .exact wpAny_Name (wpAny_loadName_local I.ok.kind hk hn hm fin) hd
 .rcases hk with hk|hk
  .exact wpAny_Name (wpAny_loadName_cell I.ok.kind hk hc hcell fin) hd
  .exact wpAny_Name (wpAny_loadName_free I.ok.kind hk hc hcell fin hcd) hd
theorem pe_int {i j pos}:PE X (.Constant (.int i) j pos) (tC (.int i)):=fun _ _ _ H _ I h=>wpAny_Constant_int ⟨.int i,H,I.tok _,⟨_,rfl⟩,h⟩
theorem pe_bl {b j pos}:PE X (.Constant (.bool b) j pos) (tC (.bl b)):=fun _ _ _ H _ I h=>Constant_bool ⟨.bl b,H,I,rfl,h⟩
theorem pe_non {j pos}:PE X (.Constant .none j pos) (tC .non):=fun _ _ _ H _ I h=>Constant_none ⟨.non,H,I,rfl,h⟩
theorem pe_str {x j pos}:PE X (.Constant (.str x) j pos) (tC (.str x)):=fun _ _ _ H _ I h=>Calls.Constant_str ⟨.str x,H,I.tok _,⟨_,rfl⟩,h⟩
def Gl (X:Cx) (x:Str):Prop:=X.env.kindOf x=some .globalImplicit
theorem ld_glob {E:Value->Shared->Prop} {pins:List (Addr×Obj)} {s:Shared} {σ:St} {H:Hp} {x:Str} {u:Value} {pos:Pos} {Q:Value->Shared->Prop} (I:Inv X pins σ H s) (hg:Gl X x) (hm:X.mg x=some u) (h:Q u s)
  (hd:(x == ("__debug__":Str))=false:=by decide):wpAny (model X.prog X.w) X.A (eval (.Name x pos) X.env) Q E s:=
 Calls.Name_function_global I.ok.kind hg (Calls.loadGlobal_global (by rw[I.ok.glob];exact I.mod.glob.keeps I.bk) hm h) hd
theorem ld_blt {E:Value->Shared->Prop} {pins:List (Addr×Obj)} {s:Shared} {σ:St} {H:Hp} {x:Str} {u:Value} {pos:Pos} {Q:Value->Shared->Prop} (I:Inv X pins σ H s) (hg:Gl X x) (hm:X.mg x=none) (hv:bootBuiltins x=some u) (h:Q u s)
  (hn:x≠"__name__":=by decide) (hd:(x == ("__debug__":Str))=false:=by decide):wpAny (model X.prog X.w) X.A (eval (.Name x pos) X.env) Q E s:=by
 obtain⟨mb,h1,h2⟩:=I.mod.blt
 exact Calls.Name_function_global I.ok.kind hg (Calls.loadGlobal_builtin (by rw[I.ok.glob];exact I.mod.glob.keeps I.bk) hm (by rw[I.ok.blt];exact h1.keeps I.bk) ((h2 x hn).trans hv) h) hd
theorem pe_bltn {x:Str} {v:V} {u:Value} {pos:Pos} (hg:Gl X x) (hm:X.mg x=none) (hv:bootBuiltins x=some u) (r:RelV v u) (hn:x≠"__name__":=by decide) (hd:(x == ("__debug__":Str))=false:=by decide):PE X (.Name x pos) (tC v):=
 fun _ _ _ H _ I h=>ld_blt I hg hm hv ⟨v,H,I,r,h⟩ hn hd
variable {a b:Expr} {ta tb:TE} {pos:Pos}
def PC (X:Cx) (op:CmpOp) (a b:Expr) (t:TE):Prop:=
 ∀(pins:List (Addr×Obj)) (s:Shared) (σ:St) (H:Hp) (Q:VK),Inv X pins σ H s->t σ H Q->
  wpAny (model X.prog X.w) X.A (eval a X.env) (fun v s₁=>wpAny (model X.prog X.w) X.A (eval b X.env) (fun u s₂=>wpAny (model X.prog X.w) X.A (compareOp op v u) (EP X pins σ Q) X.xe s₂) X.xe s₁) X.xe s
theorem nobehind (b:Expr) {op:CmpOp} (h:op≠.In) (h2:op≠.NotIn):behindInMarks op b=false:=by
 have e1:(op == CmpOp.In)=false:=by cases op<;>first|rfl|exact absurd rfl h
 have e2:(op == CmpOp.NotIn)=false:=by cases op<;>first|rfl|exact absurd rfl h2
 cases b<;>simp[behindInMarks,e1,e2]
noncomputable def tB (t:TE):TT:=fun σ H Q=>t σ H fun x H1=>∃c,x=.bl c/\Q c H1
theorem pe_cmp {op:CmpOp} {t:TE} (h:PC X op a b t) (h1:behindInMarks op b=false:=by first|exact nobehind _ (by decide) (by decide)|rfl):PE X (.Compare a [op] [b] pos) t:=fun pins s σ H Q I hw=>wpAny_Compare1 (h pins s σ H Q I hw) h1
theorem pt_cmp {op:CmpOp} {t:TE} (h:PC X op a b t) (h1:behindInMarks op b=false:=by first|exact nobehind _ (by decide) (by decide)|rfl):PT X (.Compare a [op] [b] pos) (tB t):=by
 intro pins s σ H Q I hw
 refine wpAny_isTrue_Compare1 (thn (h pins s σ H _ I hw) fun v s1 h1=>thn h1 fun u s2 h2=>thn h2 fun c s3 ⟨x,H1,I1,r1,q1⟩=>?_) h1
 obtain⟨d,rfl,q⟩:=q1
 cases r1
 exact wpAny_truthy_bool ⟨H1,I1,q⟩
variable {tA tB':TT} {rest:List Expr}
noncomputable def tAnd (t u:TT):TT:=fun σ H Q=>t σ H fun c H1=>if c=true then u σ H1 Q else Q false H1
noncomputable def tOr (t u:TT):TT:=fun σ H Q=>t σ H fun c H1=>if c=true then Q true H1 else u σ H1 Q
noncomputable def tNot (t:TT):TT:=fun σ H Q=>t σ H fun c H1=>Q (!c) H1
theorem pw_and1 (ha:PT X a tA):PW X (.BoolOp .And [a] pos) tA:=by
 intro wh pins s σ H Q I h
 refine isTrue_and (thn (ha pins s σ H Q I h) fun c s1 e=>?_)
 cases c with
 |true=>exact isTrue_and_nil e
 |false=>exact e
theorem pw_or1 (ha:PT X a tA):PW X (.BoolOp .Or [a] pos) tA:=by
 intro wh pins s σ H Q I h
 refine isTrue_or (thn (ha pins s σ H Q I h) fun c s1 e=>?_)
 cases c with
 |false=>exact isTrue_or_nil e
 |true=>exact e
theorem pw_and (ha:PT X a tA) (hb:PW X (.BoolOp .And (b :: rest) pos) tB'):PW X (.BoolOp .And (a :: b :: rest) pos) (tAnd tA tB'):=by
 intro wh pins s σ H Q I h
 refine isTrue_and (thn (ha pins s σ H _ I h) fun c s1 ⟨H1,I1,q1⟩=>?_)
 cases c with
 |true=>exact hb wh pins s1 σ H1 Q I1 q1
 |false=>exact⟨H1,I1,q1⟩
theorem pw_or (ha:PT X a tA) (hb:PW X (.BoolOp .Or (b :: rest) pos) tB'):PW X (.BoolOp .Or (a :: b :: rest) pos) (tOr tA tB'):=by
 intro wh pins s σ H Q I h
 refine isTrue_or (thn (ha pins s σ H _ I h) fun c s1 ⟨H1,I1,q1⟩=>?_)
 cases c with
 |true=>exact⟨H1,I1,q1⟩
 |false=>exact hb wh pins s1 σ H1 Q I1 q1
theorem pt_not (ha:PT X a tA):PT X (.UnaryOp .Not a pos) (tNot tA):=by
 intro pins s σ H Q I h
 exact isTrue_not (ha pins s σ H (fun c H1=>Q (!c) H1) I h)
noncomputable def tAndV (ta tb:TE):TE:=fun σ H Q=>ta σ H fun x H1=>∃c,x=.bl c/\if c=true then tb σ H1 Q else Q (.bl false) H1
noncomputable def tOrV (ta tb:TE):TE:=fun σ H Q=>ta σ H fun x H1=>∃c,x=.bl c/\if c=true then Q (.bl true) H1 else tb σ H1 Q
noncomputable def tNotV (ta:TE):TE:=fun σ H Q=>ta σ H fun x H1=>∃c,x=.bl c/\Q (.bl (!c)) H1
theorem pe_one {op} {t:TE} (h:PE X a t):PE X (.BoolOp op [a] pos) t:=fun pins s σ H Q I hw=>BoolOp_one (h pins s σ H Q I hw)
theorem pe_and (ha:PE X a ta) (hb:PE X (.BoolOp .And (b :: rest) pos) tb):PE X (.BoolOp .And (a :: b :: rest) pos) (tAndV ta tb):=by
 intro pins s σ H Q I h
 refine BoolOp_and (thn (ha pins s σ H _ I h) fun v s1 ⟨x,H1,I1,r1,q1⟩=>?_)
 obtain⟨c,rfl,q1⟩:=q1
 cases r1
 refine wpAny_truthy_bool ?_
 cases c with
 |true=>exact hb pins s1 σ H1 Q I1 q1
 |false=>exact⟨.bl false,H1,I1,rfl,q1⟩
theorem pe_or (ha:PE X a ta) (hb:PE X (.BoolOp .Or (b :: rest) pos) tb):PE X (.BoolOp .Or (a :: b :: rest) pos) (tOrV ta tb):=by
 intro pins s σ H Q I h
 refine BoolOp_or (thn (ha pins s σ H _ I h) fun v s1 ⟨x,H1,I1,r1,q1⟩=>?_)
 obtain⟨c,rfl,q1⟩:=q1
 cases r1
 refine wpAny_truthy_bool ?_
 cases c with
 |false=>exact hb pins s1 σ H1 Q I1 q1
 |true=>exact⟨.bl true,H1,I1,rfl,q1⟩
theorem pe_not (ha:PE X a ta):PE X (.UnaryOp .Not a pos) (tNotV ta):=by
 intro pins s σ H Q I h
 refine UnaryOp_ (thn (ha pins s σ H _ I h) fun v s1 ⟨x,H1,I1,r1,q1⟩=>?_)
 obtain⟨c,rfl,q1⟩:=q1
 cases r1
 exact not_of (wpAny_truthy_bool ⟨.bl (!c),H1,I1,rfl,q1⟩)
noncomputable def tIf (t:TT) (ta tb:TE):TE:=fun σ H Q=>t σ H fun c H1=>if c=true then ta σ H1 Q else tb σ H1 Q
theorem pe_ifExp {c:Expr} (hc:PT X c tA) (ha:PE X a ta) (hb:PE X b tb):PE X (.IfExp c a b pos) (tIf tA ta tb):=by
 intro pins s σ H Q I h
 refine wpAny_IfExp (thn (hc pins s σ H _ I h) fun d s1 ⟨H1,I1,q1⟩=>?_)
 cases d with
 |true=>exact ha pins s1 σ H1 Q I1 q1
 |false=>exact hb pins s1 σ H1 Q I1 q1
end
def SqL (K:W.Frag) (H:Hp) (a:Addr) (xs:List V):Prop:=
 Rd H a (.lst xs)\/
  ∃(o:Obj) (its:Array Value) (n:Nat),K.lookup a=some o/\o.cls=.type "list"/\o.dict=none/\o.data=.seq its n/\its.size<=sizeLine/\Vals xs its.toList
def SqT (K:W.Frag) (H:Hp) (a:Addr) (xs:List V):Prop:=
 Rd H a (.tup xs)\/
  ∃(o:Obj) (its:Array Value) (n:Nat),K.lookup a=some o/\o.cls=.type "tuple"/\o.data=.seq its n/\its.size<=sizeLine/\Vals xs its.toList
noncomputable def absV:Value->Option V
 | .none=>some .non
 | .bool b=>some (.bl b)
 | .int i _=>some (.int i)
 | .str x _=>some (.str x)
 | .bytes b _=>some (.byt b)
 | .float b _=>some (.flt b)
 | .ref a=>some (.ref a)
 | .type n=>some (.ty n)
 |_=>none
theorem RelV.abs {x:V} {u:Value} (r:RelV x u):absV u=some x:=by
 cases x with
 |non=>cases r;rfl
 |bl _=>cases r;rfl
 |int _=>obtain⟨t,rfl⟩:=r;rfl
 |str _=>obtain⟨t,rfl⟩:=r;rfl
 |byt _=>obtain⟨t,rfl⟩:=r;rfl
 |flt _=>obtain⟨t,rfl⟩:=r;rfl
 |ref _=>cases r;rfl
 |ty _=>cases r;rfl
theorem RelV.inj {x y:V} {u:Value} (r:RelV x u) (q:RelV y u):x=y:=Option.some.inj (r.abs.symm.trans q.abs)
theorem Vals.inj:∀{xs ys:List V} {us:List Value},Vals xs us->Vals ys us->xs=ys
 |_,_,_,.nil,.nil=>rfl
 |_,_,_,.cons r t,.cons r' t'=>by rw[r.inj r',Vals.inj t t']
section
variable {X:Cx} {pins:List (Addr×Obj)} {σ:St} {H:Hp} {s:Shared} {a:Addr} {xs ys:List V}
theorem SqL.of {K:W.Frag} (h:H a=some (.lst xs)):SqL K H a xs:=.inl (.inl h)
theorem SqT.of {K:W.Frag} (h:H a=some (.tup xs)):SqT K H a xs:=.inl (.inl h)
theorem Inv.list (I:Inv X pins σ H s) (h:SqL X.K H a xs):∃its:List Value,Vals xs its/\PlainL s.heap a its.toArray/\xs.length<=sizeLine:=by
 rcases h with h|⟨o,its,n,hk,hc,hd,hs,hz,r⟩
 .obtain⟨z,its,n,r,e⟩:=h.ok I.hok
  exact⟨its,r,⟨_,n,e,rfl,rfl,rfl⟩,z⟩
 .refine⟨its.toList,r,⟨o,n,I.kIn a o hk,hc,hd,by simpa using hs⟩,?_⟩
  have e:=r.length
  simp only[Array.length_toList]at e
  omega
theorem Inv.tuple (I:Inv X pins σ H s) (h:SqT X.K H a xs):∃its:List Value,Vals xs its/\IsTup s.heap a its.toArray/\xs.length<=sizeLine:=by
 rcases h with h|⟨o,its,n,hk,hc,hs,hz,r⟩
 .obtain⟨z,its,r,p⟩:=h.ok I.hok
  exact⟨its,r,p.tup,z⟩
 .refine⟨its.toList,r,⟨o,I.kIn a o hk,hc,n,by simpa using hs⟩,?_⟩
  have e:=r.length
  simp only[Array.length_toList]at e
  omega
theorem Inv.list_inj (I:Inv X pins σ H s) (h:SqL X.K H a xs) (h':SqL X.K H a ys):xs=ys:=by
 obtain⟨its,r,⟨o,n,e,_,_,d⟩,_⟩:=I.list h
 obtain⟨its',r',⟨o',n',e',_,_,d'⟩,_⟩:=I.list h'
 rw[e]at e';cases e'
 rw[d]at d'
 injection d' with d1 _
 have:its=its':=by simpa using congrArg Array.toList d1
 subst this
 exact r.inj r'
theorem Inv.tuple_inj (I:Inv X pins σ H s) (h:SqT X.K H a xs) (h':SqT X.K H a ys):xs=ys:=by
 obtain⟨its,r,⟨o,e,_,n,d⟩,_⟩:=I.tuple h
 obtain⟨its',r',⟨o',e',_,n',d'⟩,_⟩:=I.tuple h'
 rw[e]at e';cases e'
 rw[d]at d'
 injection d' with d1 _
 have:its=its':=by simpa using congrArg Array.toList d1
 subst this
 exact r.inj r'
end
noncomputable abbrev Cx.wish (X:Cx) (E:Value->Shared->Prop):Cx:={ X with xe:=E }
noncomputable abbrev Cx.nox (X:Cx):Cx:=X.wish fun _ _=>False
theorem Cx.Ok.wish {X:Cx} (ok:X.Ok) (E:Value->Shared->Prop):(X.wish E).Ok:=
 ⟨ok.mod,ok.kind,ok.glob,ok.blt,ok.above,ok.inj,ok.has,ok.cab,ok.hd,ok.frames,ok.stk,ok.exf,ok.bs,ok.bsz,ok.noex,ok.exfs,ok.funs,ok.frf⟩
theorem Cx.Ok.unwish {X:Cx} {E:Value->Shared->Prop} (ok:(X.wish E).Ok):X.Ok:=
 ⟨ok.mod,ok.kind,ok.glob,ok.blt,ok.above,ok.inj,ok.has,ok.cab,ok.hd,ok.frames,ok.stk,ok.exf,ok.bs,ok.bsz,ok.noex,ok.exfs,ok.funs,ok.frf⟩
section
variable {X:Cx} {pins:List (Addr×Obj)} {σ:St} {H:Hp} {s:Shared} {E:Value->Shared->Prop}
theorem Inv.wish (I:Inv X pins σ H s) (E:Value->Shared->Prop):Inv (X.wish E) pins σ H s:=⟨I.ok.wish E,I.os,I.bare,I.base,I.loc,I.cell,I.free,I.freeC,I.pin,I.hok,I.len⟩
theorem Inv.unwish (I:Inv (X.wish E) pins σ H s):Inv X pins σ H s:=⟨I.ok.unwish,I.os,I.bare,I.base,I.loc,I.cell,I.free,I.freeC,I.pin,I.hok,I.len⟩
theorem SP.unwish {D:Ends} {f:Flow} {s':Shared} (h:SP (X.wish E) pins D f s'):SP X pins D f s':=by
 cases f with
 |next=>obtain⟨σ',H',I,q⟩:=h;exact⟨σ',H',I.unwish,q⟩
 |brk=>obtain⟨σ',H',I,q⟩:=h;exact⟨σ',H',I.unwish,q⟩
 |cont=>obtain⟨σ',H',I,q⟩:=h;exact⟨σ',H',I.unwish,q⟩
 |ret u=>obtain⟨v,σ',H',I,r,q⟩:=h;exact⟨v,σ',H',I.unwish,r,q⟩
theorem PSs.nox {st:List Stmt} {t:TS} (h:PSs X.nox st t):PSs X st t:=fun pins s σ H D I hw=>
 wpAny_mono (h pins s σ H D (I.wish _) hw) (fun _ _ q=>q.unwish) fun _ _ z=>False.elim z
end
section
variable {X:Cx} {st:Stmt} {rest:List Stmt} {t u:TS} {e:Expr} {te:TE} {pos:Pos}
noncomputable def tNext:TS:=fun D σ H=>D.nx σ H
noncomputable def tSeq (t u:TS):TS:=fun D σ H=>t { D with nx:=u D } σ H
theorem pss_nil:PSs X [] tNext:=fun _ _ σ H _ I h=>wpAny_execs_nil ⟨σ,H,I,h⟩
theorem pss_cons (h1:PS X st t) (h2:PSs X rest u):PSs X (st :: rest) (tSeq t u):=by
 intro pins s σ H D I h
 refine wpAny_execs_cons (thn (h1 pins s σ H { D with nx:=u D } I h) fun f s1 q=>?_)
 cases f with
 |next=>
  obtain⟨σ',H',I',q⟩:=q
  exact h2 pins s1 σ' H' D I' q
 |ret v=>exact q
 |brk=>exact q
 |cont=>exact q
theorem Inv.quiet {pins:List (Addr×Obj)} {σ:St} {H:Hp} {s:Shared} (I:Inv X pins σ H s):interactive X.env=false:=by simp[interactive,I.ok.kind]
noncomputable def tDrop (te:TE):TS:=fun D σ H=>te σ H fun _ H1=>D.nx σ H1
theorem ps_expr (he:PE X e te) (hs:swapsWith e none pos.line X.env=pure false:=by rfl):PS X (.Expr e pos) (tDrop te):=by
 intro pins s σ H D I h
 exact wpAny_Expr_any (thn (he pins s σ H _ I h) fun v s1 ⟨x,H1,I1,r1,q1⟩=>⟨σ,H1,I1,q1⟩) I.quiet hs
noncomputable def tRet (te:TE):TS:=fun D σ H=>te σ H D.rt
theorem ps_ret (he:PE X e te):PS X (.Return (some e) pos) (tRet te):=by
 intro pins s σ H D I h
 exact wpAny_Return_some (thn (he pins s σ H _ I h) fun v s1 ⟨x,H1,I1,r1,q1⟩=>⟨x,σ,H1,I1,r1,q1⟩)
noncomputable def tIfS (c:TT) (t u:TS):TS:=fun D σ H=>c σ H fun b H1=>if b=true then t D σ H1 else u D σ H1
theorem ps_if {c:Expr} {a b:List Stmt} {tc:TT} (hc:PT X c tc) (ha:PSs X a t) (hb:PSs X b u):PS X (.If c a b pos) (tIfS tc t u):=by
 intro pins s σ H D I h
 refine wpAny_If (thn (hc pins s σ H _ I h) fun d s1 ⟨H1,I1,q1⟩=>?_)
 cases d with
 |true=>exact ha pins s1 σ H1 D I1 q1
 |false=>exact hb pins s1 σ H1 D I1 q1
end
noncomputable abbrev TG:=V->St->Hp->(St->Hp->Prop)->Prop
noncomputable abbrev TGs:=List V->St->Hp->(St->Hp->Prop)->Prop
def PG (X:Cx) (target:Expr) (t:TG):Prop:=
 ∀(pins:List (Addr×Obj)) (s:Shared) (σ:St) (H:Hp) (v:V) (u:Value) (Q:St->Hp->Prop),Inv X pins σ H s->RelV v u->t v σ H Q->
  wpAny (model X.prog X.w) X.A (assign target X.env u) (fun _ s'=>∃σ' H',Inv X pins σ' H' s'/\Q σ' H') X.xe s
def PGs (X:Cx) (ts:List Expr) (t:TGs):Prop:=
 ∀(pins:List (Addr×Obj)) (s:Shared) (σ:St) (H:Hp) (vs:List V) (us:List Value) (Q:St->Hp->Prop),Inv X pins σ H s->Vals vs us->t vs σ H Q->
  wpAny (model X.prog X.w) X.A (assignInOrder ((assignEach ts X.env).map (·.2)) us) (fun _ s'=>∃σ' H',Inv X pins σ' H' s'/\Q σ' H') X.xe s
noncomputable abbrev TSet:=V->V->V->Hp->(Hp->Prop)->Prop
def PSet (X:Cx) (t:TSet):Prop:=
 ∀(pins:List (Addr×Obj)) (s:Shared) (σ:St) (H:Hp) (o i v:V) (ov iv u:Value) (Q:Hp->Prop),Inv X pins σ H s->RelV o ov->RelV i iv->RelV v u->t o i v H Q->
  wpAny (model X.prog X.w) X.A (setItem ov iv u) (fun _ s'=>∃H',Inv X pins σ H' s'/\Q H') X.xe s
noncomputable abbrev TIp:=V->V->Hp->VK->Prop
section
variable {X:Cx} {pos:Pos}
noncomputable def gName (i:Nat):TG:=fun v σ H Q=>Q (σ.set i (some v)) H
theorem pg_name {i:Nat} {x:Str} (hN:X.N.Nodup) (hi:X.N[i]?=some x) (hx:Loc X.env.scope x) (hf:X.fn x=true\/X.env.scope.names.lookup x=some .local:=by first|exact .inl rfl|exact .inr rfl|assumption):PG X (.Name x pos) (gName i):=by
 intro pins s σ H v u Q I r h
 exact wpAny_assign_Name (store_ok I hN hi hx r (fun s' I'=>⟨_,H,I',h⟩) hf)
noncomputable def gNil:TGs:=fun vs σ H Q=>vs=[]/\Q σ H
noncomputable def gCons (t:TG) (u:TGs):TGs:=fun vs σ H Q=>∃v r,vs=v :: r/\t v σ H fun σ' H'=>u r σ' H' Q
theorem pgs_nil:PGs X [] gNil:=by
 intro pins s σ H vs us Q I r h
 obtain⟨e,h⟩:=h
 subst e
 cases r
 exact assignInOrder_nil ⟨σ,H,I,h⟩
theorem pgs_cons {e:Expr} {es:List Expr} {t:TG} {u:TGs} (h1:PG X e t) (h2:PGs X es u)
  (hs:(assignEach (e :: es) X.env).map (·.2)=assign e X.env :: (assignEach es X.env).map (·.2):=by rfl):PGs X (e :: es) (gCons t u):=by
 intro pins s σ H vs us Q I r h
 obtain⟨v,vr,e1,h⟩:=h
 subst e1
 cases r with
 |cons r rr=>
  rw[hs]
  refine assignInOrder_cons (thn (h1 pins s σ H _ _ _ I r h) fun _ s1 ⟨σ1,H1,I1,q1⟩=>?_)
  exact h2 pins s1 σ1 H1 _ _ Q I1 rr q1
noncomputable def gTup (K:W.Frag) (n:Nat) (t:TGs):TG:=fun v σ H Q=>∃a xs,v=.ref a/\SqT K H a xs/\xs.length=n/\t xs σ H Q
theorem pg_tup {es:List Expr} {k:Nat} {t:TGs} {n:Nat} (hc:X.calm=true) (h:PGs X es t)
  (hn:(assignEach es X.env).length=n:=by rfl) (hst:(assignEach es X.env).findIdx? (·.1)=none:=by rfl):PG X (.Tuple es k pos) (gTup X.K n t):=by
 intro pins s σ H v u Q I r hw
 obtain⟨a,xs,e1,hq,hl,hw⟩:=hw
 subst e1
 cases r
 obtain⟨its,rv,ht,hz⟩:=I.tuple hq
 refine assign_Tuple_tuple (I.ok.hd hc) ht (by simp[hn,<- hl,rv.length]) hst fun h' hx=>?_
 have I1:Inv X pins σ H { s with heap:=h' }:=I.kept (t':=s.toks) fun b o e=>hx b o (Nat.ne_of_lt (Heap.lt_size e)) e
 exact h pins _ σ H xs _ Q I1 (by simpa using rv) hw
noncomputable def gSub (to ti:TE) (t:TSet):TG:=fun v σ H Q=>to σ H fun o H1=>ti σ H1 fun i H2=>t o i v H2 fun H3=>Q σ H3
theorem pg_sub {o i:Expr} {to ti:TE} {t:TSet} (ho:PE X o to) (hi:PE X i ti) (hs:PSet X t)
  (ha:∀v,assign (.Subscript o i pos) X.env v=(do
   let ov <- holding [v] (eval o X.env)
   let iv <- holding [v,ov] (eval i X.env)
   standAt pos
   holding [v,ov,iv] (setItem ov iv v)
   release [v,ov,iv] []):=by intro _;rfl):PG X (.Subscript o i pos) (gSub to ti t):=by
 intro pins s σ H v u Q I r h
 rw[ha]
 refine wpAny_bind (wpAny_holding (thn (ho pins s σ H _ I h) fun ov s1 ⟨x,H1,I1,r1,q1⟩=>?_))
 refine wpAny_bind (wpAny_holding (thn (hi pins s1 σ H1 _ I1 q1) fun iv s2 ⟨y,H2,I2,r2,q2⟩=>?_))
 refine wpAny_bind (wpAny_standAt (wpAny_bind (wpAny_holding (thn (hs pins s2 σ H2 x y v ov iv u _ I2 r1 r2 r q2) fun _ s3 ⟨H3,I3,q3⟩=>?_))))
 exact wpAny_release ⟨σ,H3,I3,q3⟩
noncomputable def tAsg (te:TE) (g:TG):TS:=fun D σ H=>te σ H fun x H1=>g x σ H1 D.nx
theorem ps_asg {tg e:Expr} {te:TE} {g:TG} (he:PE X e te) (hg:PG X tg g) (hs:swapsWithSole [tg] e pos.line X.env=pure false:=by rfl) (hw:swappedStores [tg] e X.env=pure none:=by rfl)
  (h1:(assignEach [tg] X.env).map (·.2)=[assign tg X.env]:=by rfl):PS X (.Assign [tg] e pos) (tAsg te g):=by
 intro pins s σ H D I h
 refine wpAny_Assign_stores (thn (he pins s σ H _ I h) fun v s1 ⟨x,H1,I1,r1,q1⟩=>?_) hs hw
 rw[h1]
 exact thn (hg pins s1 σ H1 x v _ I1 r1 q1) fun _ s2 q=>q
noncomputable def ipI (f:Int->Int->Int):TIp:=fun x y H Q=>∃i j,x=.int i/\y=.int j/\Q (.int (f i j)) H
end
section
variable {X:Cx} {pos:Pos}
noncomputable def tWhile (c:TT) (tb:TS):TS:=fun D σ H=>∃W:Nat->St->Hp->Prop,(∃m,W m σ H)/\∀m σ H,W m σ H->
 c σ H fun b H1=>if b=true then ∃N:St->Hp->Prop,(∀σ' H',N σ' H'->∃m',m'<m/\W m' σ' H')/\tb { D with nx:=N,ct:=N,bk:=D.nx } σ H1 else D.nx σ H1
theorem ps_while {c:Expr} {body:List Stmt} {tc:TT} {tb:TS} (hp:PassesOwn (model X.prog X.w) X.A X.env X.xe) (hc:PT X c tc) (hb:PSs X body tb):PS X (.While c body [] pos) (tWhile tc tb):=by
 intro pins s σ H D I h
 obtain⟨W,⟨m0,w0⟩,turn⟩:=h
 refine wpAny_While (codeAny_whileLoop (fun n s'=>∃σ' H',Inv X pins σ' H' s'/\W n σ' H') ?_ m0 ⟨σ,H,I,w0⟩)
 rintro n s1 ⟨σ1,H1,I1,w1⟩
 refine wpAny_passesOwn hp (thn (hc pins s1 σ1 H1 _ I1 (turn n σ1 H1 w1)) fun b s2 ⟨H2,I2,q2⟩=>?_)
 cases b with
 |true=>
  obtain⟨N,hN,q2⟩:=q2
  rw[if_pos rfl]
  refine wpAny_passesOwn hp (thn (hb pins s2 σ1 H2 _ I2 q2) fun f s3 q3=>?_)
  cases f with
  |next=>
   obtain⟨σ3,H3,I3,n3⟩:=q3
   obtain⟨m',hm,w3⟩:=hN σ3 H3 n3
   exact⟨m',hm,σ3,H3,I3,w3⟩
  |cont=>
   obtain⟨σ3,H3,I3,n3⟩:=q3
   obtain⟨m',hm,w3⟩:=hN σ3 H3 n3
   exact⟨m',hm,σ3,H3,I3,w3⟩
  |brk=>exact q3
  |ret v=>exact q3
 |false=>
  rw[if_neg Bool.false_ne_true]
  exact wpAny_execs_nil ⟨σ1,H2,I2,q2⟩
end
structure It where
 go:Nat->Hp->Prop
 yld:Nat->Hp->V->Hp->Prop
 stop:Nat->Hp->Prop
def FpOk (X:Cx) (pins:List (Addr×Obj)) (H:Hp) (b:Addr):Prop:=
 H b=none/\b≠X.env.locals/\b∉X.fs/\(b∈X.ex\/X.s₀.heap.objs.size<=b)/\(∀x c,X.env.cells.lookup x=some c->c≠b)/\∀p∈X.pn++pins,p.1≠b
theorem Inv.fpOk {X:Cx} {pins:List (Addr×Obj)} {σ:St} {H H':Hp} {s:Shared} {b:Addr} (I:Inv X pins σ H s) (hb:s.heap.objs.size<=b) (hn:H' b=none):FpOk X pins H' b:=by
 refine⟨hn,Nat.ne_of_gt (Nat.lt_of_lt_of_le I.lt hb),I.nofs hb,.inr (Nat.le_trans I.sz hb),fun x c e z=>?_,fun p hp z=>?_⟩
 .obtain⟨v,q⟩:=I.cell x c e
  exact absurd (Nat.lt_of_lt_of_le q.lt (by rw[z];exact hb)) (Nat.lt_irrefl _)
 .exact absurd (Nat.lt_of_lt_of_le (Heap.lt_size (I.pin p hp).1) (by rw[z];exact hb)) (Nat.lt_irrefl _)
structure Turn (P:Program) (w:World) (K:W.Frag) (tg:Expr) (J:It) (fp:List Addr) (it:Addr) (tn:Nat->Heap->Prop):Prop where
 mem:it∈fp
 obj:∀i h,tn i h->∀b∈fp,∃o,h.get? b=some o/\∀v,o.data≠.cell v
 keep:∀i h h',tn i h->(∀b∈fp,∀o,h.get? b=some o->h'.get? b=some o)->tn i h'
 item:∀(X:Cx),X.prog=P->X.w=w->X.K=K->X.calm=true->∀(i:Nat) (pins:List (Addr×Obj)) (s:Shared) (σ:St) (H:Hp) (E:Value->Shared->Prop),Inv X pins σ H s->(∀b∈fp,FpOk X pins H b)->tn i s.heap->J.go i H->
  wpAny (model P w) X.A (pyNext (.ref it)) (fun r s1=>∃u,r=some u/\
   wpAny (model P w) X.A (letOwnedTupleGo tg (.ref it) u) (fun _ s2=>∃x H',Inv X pins σ H' s2/\RelV x u/\J.yld i H x H'/\tn (i+1) s2.heap/\∀b∈fp,H' b=none) E s1) E s
 done:∀(X:Cx),X.prog=P->X.w=w->X.K=K->X.calm=true->∀(i:Nat) (pins:List (Addr×Obj)) (s:Shared) (σ:St) (H:Hp) (E:Value->Shared->Prop),Inv X pins σ H s->(∀b∈fp,FpOk X pins H b)->tn i s.heap->J.stop i H->
  wpAny (model P w) X.A (pyNext (.ref it)) (fun r s1=>r=none/\Inv X pins σ H s1) E s
 self:∀(A:Around) (i:Nat) (s:Shared) (Q:Value->Shared->Prop) (E:Value->Shared->Prop),tn i s.heap->Q (.ref it) s->wpAny (model P w) A (pyIter (.ref it)) Q E s
noncomputable abbrev TI:=St->Hp->(It->Hp->Prop)->Prop
def PIE (X:Cx) (pins:List (Addr×Obj)) (σ:St) (tg:Expr) (R:It->Hp->Prop) (itv:Value) (s2:Shared):Prop:=
 ∃(it:Addr) (fp:List Addr) (tn:Nat->Heap->Prop) (J:It) (H':Hp),itv=.ref it/\Inv X pins σ H' s2/\Turn X.prog X.w X.K tg J fp it tn/\tn 0 s2.heap/\(∀b∈fp,FpOk X pins H' b)/\R J H'
def PI (X:Cx) (tg iter:Expr) (wi:TI):Prop:=
 ∀(pins:List (Addr×Obj)) (s:Shared) (σ:St) (H:Hp) (R:It->Hp->Prop),Inv X pins σ H s->wi σ H R->
  wpAny (model X.prog X.w) X.A (eval iter X.env) (fun v s1=>wpAny (model X.prog X.w) X.A (pyIter v) (PIE X pins σ tg R) X.xe s1) X.xe s
theorem go_of {M:Model} {A:Around} {E:Value->Shared->Prop} {s:Shared} {tg:Expr} {it:Addr} {u:Value} {o:Obj} {n:String} {vs:Array Value} {Q:Unit->Shared->Prop} (ho:s.heap.get? it=some o) (hc:o.cls=.type n) (hd:o.data=.fields vs)
  (hn:["enumerate","zip","dict_itemiterator","dict_reverseitemiterator","odict_iterator","itertools.zip_longest","itertools.pairwise"].contains n=false) (hQ:Q () s):wpAny M A (letOwnedTupleGo tg (.ref it) u) Q E s:=by
 unfold letOwnedTupleGo
 cases tg<;>first
  |exact wpAny_pure hQ
  |(cases u<;>first
    |exact wpAny_pure hQ
    |(refine wpAny_bind (wpAny_load ho ?_)
      rw[hc,hd]
      show wpAny M A (if(["enumerate","zip","dict_itemiterator","dict_reverseitemiterator","odict_iterator","itertools.zip_longest","itertools.pairwise"].contains n&&vs[0]? == some (rawInt _))=true then _ else _) Q E s
      rw[if_neg (by intro h;rw[hn,Bool.false_and]at h;cases h)]
      exact wpAny_pure hQ))
noncomputable def Itl (K:W.Frag) (a:Addr):It:=
 ⟨fun i H=>∃xs x,SqL K H a xs/\xs[i]?=some x,fun i H x H'=>H'=H/\∀xs,SqL K H a xs->xs[i]?=some x,fun i H=>∃xs,SqL K H a xs/\xs.length<=i⟩
noncomputable def Itt (K:W.Frag) (a:Addr):It:=
 ⟨fun i H=>∃xs x,SqT K H a xs/\xs[i]?=some x,fun i H x H'=>H'=H/\∀xs,SqT K H a xs->xs[i]?=some x,fun i H=>∃xs,SqT K H a xs/\xs.length<=i⟩
noncomputable def Itr (lo:Int) (n:Nat):It:=⟨fun i _=>i<n,fun i H x H'=>H'=H/\x=.int (lo+i),fun i _=>n<=i⟩
theorem turn_list {P:Program} {w:World} {K:W.Frag} {tg:Expr} (a it:Addr):Turn P w K tg (Itl K a) [it] it (fun i h=>h.IsListIter it a i) where
 mem:=by simp
 obj:=fun i h st b hb=>by
  have e:b=it:=by simpa using hb
  subst e
  obtain⟨o,e,c,d⟩:=st
  exact⟨o,e,fun v z=>by rw[d]at z;cases z⟩
 keep:=fun i h h' st k=>st.at fun o e=>k it (by simp) o e
 item:=by
  intro X hP hw hK hc i pins s σ H E I hf st hg
  subst hP hw hK
  obtain⟨xs,x,hq,hx⟩:=hg
  obtain⟨its,rv,p,hz⟩:=I.list hq
  obtain⟨u,hu,ru⟩:=rv.get hx
  obtain⟨f0,f1,f2,f3,f4,f5⟩:=hf it (by simp)
  refine wpAny_pyNext_list_item st p.isList (x:=u) (by simpa using hu) fun h' st' sb=>?_
  have I1:Inv X pins σ H { s with heap:=h' }:=I.turned (t':=s.toks) (fun b o hb e=>(sb.2 b hb).trans e) f0 f1 f3 f4 f5
  obtain⟨o,e,c,d⟩:=id st'
  exact⟨u,rfl,go_of (s:={ s with heap:=h' }) e c d (by decide) ⟨x,H,I1,ru,⟨rfl,fun ys hy=>by rw[I.list_inj hy hq];exact hx⟩,st',fun b hb=>(hf b hb).1⟩⟩
 done:=by
  intro X hP hw hK hc i pins s σ H E I hf st hg
  subst hP hw hK
  obtain⟨xs,hq,hx⟩:=hg
  obtain⟨its,rv,p,hz⟩:=I.list hq
  obtain⟨f0,f1,f2,f3,f4,f5⟩:=hf it (by simp)
  have hl:=rv.length
  exact wpAny_pyNext_list_end (I.ok.hd hc) st p.isList (by simp;omega) fun h' eb=>⟨rfl,I.turned (t':=s.toks) (fun b o hb e=>eb b o hb e) f0 f1 f3 f4 f5⟩
 self:=fun _ _ _ _ _ st h=>wpAny_pyIter_listiter st h
theorem turn_tuple {P:Program} {w:World} {K:W.Frag} {tg:Expr} (a it:Addr):Turn P w K tg (Itt K a) [it] it (fun i h=>h.IsTupleIter it a i) where
 mem:=by simp
 obj:=fun i h st b hb=>by
  have e:b=it:=by simpa using hb
  subst e
  obtain⟨o,e,c,d⟩:=st
  exact⟨o,e,fun v z=>by rw[d]at z;cases z⟩
 keep:=fun i h h' st k=>st.at fun o e=>k it (by simp) o e
 item:=by
  intro X hP hw hK hc i pins s σ H E I hf st hg
  subst hP hw hK
  obtain⟨xs,x,hq,hx⟩:=hg
  obtain⟨its,rv,p,hz⟩:=I.tuple hq
  obtain⟨u,hu,ru⟩:=rv.get hx
  obtain⟨f0,f1,f2,f3,f4,f5⟩:=hf it (by simp)
  refine wpAny_pyNext_tuple_item st (show s.heap.IsTuple a its.toArray from p) (x:=u) (by simpa using hu) fun h' st' sb=>?_
  have I1:Inv X pins σ H { s with heap:=h' }:=I.turned (t':=s.toks) (fun b o hb e=>(sb.2 b hb).trans e) f0 f1 f3 f4 f5
  obtain⟨o,e,c,d⟩:=id st'
  exact⟨u,rfl,go_of (s:={ s with heap:=h' }) e c d (by decide) ⟨x,H,I1,ru,⟨rfl,fun ys hy=>by rw[I.tuple_inj hy hq];exact hx⟩,st',fun b hb=>(hf b hb).1⟩⟩
 done:=by
  intro X hP hw hK hc i pins s σ H E I hf st hg
  subst hP hw hK
  obtain⟨xs,hq,hx⟩:=hg
  obtain⟨its,rv,p,hz⟩:=I.tuple hq
  obtain⟨f0,f1,f2,f3,f4,f5⟩:=hf it (by simp)
  have hl:=rv.length
  exact wpAny_pyNext_tuple_end (I.ok.hd hc) st (show s.heap.IsTuple a its.toArray from p) (by simp;omega) fun h' eb=>⟨rfl,I.turned (t':=s.toks) (fun b o hb e=>eb b o hb e) f0 f1 f3 f4 f5⟩
 self:=fun _ _ _ _ _ st h=>wpAny_pyIter_tupleiter st h
theorem turn_range {P:Program} {w:World} {K:W.Frag} {tg:Expr} (it:Addr) (lo:Int) (n:Nat):Turn P w K tg (Itr lo n) [it] it (fun i h=>IsRangeIter h it (lo+(i:Nat)*1) ((n:Int)-(i:Nat)) 1) where
 mem:=by simp
 obj:=fun i h st b hb=>by
  have e:b=it:=by simpa using hb
  subst e
  exact⟨_,st,fun v z=>by
   have z':Data.fields _=Data.cell v:=z
   cases z'⟩
 keep:=fun i h h' st k=>k it (by simp) _ st
 item:=by
  intro X hP hw hK hc i pins s σ H E I hf st hg
  subst hP hw hK
  obtain⟨f0,f1,f2,f3,f4,f5⟩:=hf it (by simp)
  have W:=Walks.range (prog:=X.prog) (w:=X.w) (I.ok.hd hc) it lo 1 n
  refine W.item i s _ _ hg st fun v h' tk hv st' kk=>?_
  obtain⟨t,rfl⟩:=hv
  have I1:Inv X pins σ H { s with heap:=h',toks:=tk }:=I.turned (fun b o hb e=>kk b o (by simpa using hb) e) f0 f1 f3 f4 f5
  refine⟨_,rfl,go_of (s:={ s with heap:=h',toks:=tk }) (n:="range_iterator") st' rfl rfl (by decide) ⟨.int (lo+i),H,I1,⟨t,?_⟩,⟨rfl,rfl⟩,st',fun b hb=>(hf b hb).1⟩⟩
  rw[Int.mul_one]
 done:=by
  intro X hP hw hK hc i pins s σ H E I hf st hg
  subst hP hw hK
  obtain⟨f0,f1,f2,f3,f4,f5⟩:=hf it (by simp)
  exact wpAny_pyNext_range_end (I.ok.hd hc) st (by have:n<=i:=hg;omega) fun h' eb=>⟨rfl,I.turned (t':=s.toks) (fun b o hb e=>eb b o hb e) f0 f1 f3 f4 f5⟩
 self:=fun _ _ _ _ _ st h=>wpAny_pyIter_rangeiter st h
section
variable {X:Cx} {tg:Expr}
theorem range_it {pins:List (Addr×Obj)} {σ:St} {H:Hp} {s:Shared} {R:It->Hp->Prop} {E:Value->Shared->Prop} {lo hi:Int} {t u v:Tok} {tk:Nat} (I:Inv X pins σ H s) (h1:-(2 ^ 62)<=lo) (h2:lo<2 ^ 62) (h3:-(2 ^ 62)<=hi) (h4:hi<2 ^ 62)
  (q:R (Itr lo (hi-lo).toNat) H):wpAny (model X.prog X.w) X.A (pyIter (.ref s.heap.objs.size)) (PIE X pins σ tg R) E { s with heap:=s.heap.push { cls:=.type "range",data:=.fields #[.int lo t,.int hi u,.int 1 v] },toks:=tk }:=by
 refine wpAny_pyIter_range (IsRange.new ..) (small_one h1 h2 h3 h4) ?_
 have I1:Inv X pins σ H { s with heap:=s.heap.push { cls:=.type "range",data:=.fields #[.int lo t,.int hi u,.int 1 v] },toks:=tk }:=I.kept fun b o e=>Heap.get?_push_of_some _ e
 refine⟨(s.heap.push { cls:=.type "range",data:=.fields #[.int lo t,.int hi u,.int 1 v] }).objs.size,[(s.heap.push { cls:=.type "range",data:=.fields #[.int lo t,.int hi u,.int 1 v] }).objs.size],_,_,H,rfl,
  I1.kept (t':=tk) fun b o e=>Heap.get?_push_of_some _ e,turn_range _ lo (hi-lo).toNat,?_,fun b hb=>?_,q⟩
 .have e1:lo+((0:Nat):Int)*1=lo:=by simp
  have e2:(((hi-lo).toNat:Nat):Int)-((0:Nat):Int)=Builtin.Range.rangeSize lo hi 1:=by rw[rangeSize_one];split<;>omega
  show IsRangeIter _ _ (lo+((0:Nat):Int)*1) ((((hi-lo).toNat:Nat):Int)-((0:Nat):Int)) 1
  rw[e1,e2]
  exact Heap.get?_push_size _ rfl
 .have e:b=(s.heap.push { cls:=.type "range",data:=.fields #[.int lo t,.int hi u,.int 1 v] }).objs.size:=by simpa using hb
  subst e
  exact I1.fpOk (Nat.le_refl _) (I1.hok.fresh (Nat.le_refl _))
noncomputable def iRng1 (ta:TA):TI:=fun σ H R=>ta σ H fun vs H1=>∃j:Int,vs=[.int j]/\-(2 ^ 62)<=j/\j<2 ^ 62/\R (Itr 0 j.toNat) H1
theorem pi_range1 {a:Expr} {ta:TA} {p pos:Pos} (hg:Gl X "range") (hm:X.mg "range"=none) (ha:PA X [a] ta) (hs:starEach [a] X.env=[(false,eval a X.env)]:=by rfl):PI X tg (.Call (.Name "range" p) [a] [] pos) (iRng1 ta):=by
 intro pins s σ H R I h
 refine Call_ (ld_blt I hg hm boot_range (PyProof.Rows.callWith_type1 (thn (ha pos pins s σ H _ I h) fun us s1 ⟨vs,H1,I1,r1,q1⟩=>?_) hs rfl))
 obtain⟨j,e,q1,q2,q⟩:=q1
 subst e
 cases r1 with
 |cons r rr=>
  cases rr
  obtain⟨t,rfl⟩:=r
  exact call_range_1 (range_it I1 (by omega) (by omega) q1 q2 (by simpa using q))
noncomputable def tFor (wi:TI) (g:TG) (tb:TS):TS:=fun D σ H=>wi σ H fun J H1=>∃W:Nat->Nat->St->Hp->Prop,(∃m,W 0 m σ H1)/\∀i m σ H,W i m σ H->
 (J.stop i H/\D.nx σ H)\/(J.go i H/\∃N:St->Hp->Prop,(∀σ' H',N σ' H'->∃m',m'<m/\W (i+1) m' σ' H')/\∀x H',J.yld i H x H'->g x σ H' fun σ2 H2=>tb { D with nx:=N,ct:=N,bk:=D.nx } σ2 H2)
noncomputable def pinsAt (fp:List Addr) (h:Heap):List (Addr×Obj):=fp.filterMap fun b=>(h.get? b).map fun o=>(b,o)
theorem mem_pinsAt {fp:List Addr} {h:Heap} {b:Addr} {o:Obj} (hb:b∈fp) (e:h.get? b=some o):(b,o)∈pinsAt fp h:=List.mem_filterMap.mpr ⟨b,hb,by rw[e];rfl⟩
theorem of_pinsAt {fp:List Addr} {h:Heap} {p:Addr×Obj} (hp:p∈pinsAt fp h):p.1∈fp/\h.get? p.1=some p.2:=by
 obtain⟨b,hb,e⟩:=List.mem_filterMap.mp hp
 cases q:h.get? b with
 |none=>rw[q]at e;cases e
 |some o=>
  rw[q]at e
  have e':(b,o)=p:=Option.some.inj e
  subst e'
  exact⟨hb,q⟩
theorem Inv.pinned {pins:List (Addr×Obj)} {σ:St} {H:Hp} {s:Shared} {fp:List Addr} (I:Inv X pins σ H s) (hf:∀b∈fp,FpOk X pins H b) (ho:∀b∈fp,∃o,s.heap.get? b=some o/\∀v,o.data≠.cell v):Inv X (pins++pinsAt fp s.heap) σ H s:=
 I.pins_of fun p hp=>(List.mem_append.mp hp).elim (fun z=>I.pin p (List.mem_append_right _ z)) fun z=>by
  obtain⟨hb,e⟩:=of_pinsAt z
  obtain⟨f0,f1,f2,_⟩:=hf p.1 hb
  obtain⟨o,e',d⟩:=ho p.1 hb
  rw[e]at e';cases e'
  exact⟨e,f0,f1,f2,d⟩
theorem Inv.unpinned {pins pl:List (Addr×Obj)} {σ:St} {H:Hp} {s:Shared} (I:Inv X (pins++pl) σ H s):Inv X pins σ H s:=I.pins_of fun p hp=>I.pin p (List.mem_append_right _ (List.mem_append_left _ hp))
theorem ps_for {iter:Expr} {body:List Stmt} {wi:TI} {g:TG} {tb:TS} {pos:Pos} (hp:PassesOwn (model X.prog X.w) X.A X.env X.xe) (hc:X.calm=true) (hi:PI X tg iter wi) (hg:PG X tg g) (hb:PSs X body tb)
  (hs:∀x,foldedSetIterable iter X.env x=pure x:=by intro _;rfl):PS X (.For tg iter body [] pos) (tFor wi g tb):=by
 intro pins s σ H D I h
 refine wpAny_For (thn (hi pins s σ H _ I h) fun v s1 h1=>thn h1 fun itv s2 h2=>?_) hs
 obtain⟨it,fp,tn,J,H2,e,I2,T,st2,f2,W,⟨m0,w0⟩,turn⟩:=h2
 subst e
 have stat:∀{H':Hp},(∀b∈fp,H' b=none)->∀b∈fp,FpOk X pins H' b:=fun hn b hb=>⟨hn b hb,(f2 b hb).2⟩
 refine codeAny_forLoop_any (fun n s'=>∃i σ' H',Inv X pins σ' H' s'/\tn i s'.heap/\(∀b∈fp,H' b=none)/\W i n σ' H') ?_ m0 ⟨0,σ,H2,I2,st2,fun b hb=>(f2 b hb).1,w0⟩
 rintro n s3 ⟨i,σ3,H3,I3,st3,fr3,w3⟩
 rcases turn i n σ3 H3 w3 with⟨stop,qn⟩|⟨go,N,hN,step⟩
 .refine wpAny_passesOwn hp (thn (T.done X rfl rfl rfl hc i pins s3 σ3 H3 X.xe I3 (stat fr3) st3 stop) fun r s4 ⟨hr,I4⟩=>?_)
  subst hr
  exact wpAny_execs_nil ⟨σ3,H3,I4,qn⟩
 .refine wpAny_passesOwn hp (thn (T.item X rfl rfl rfl hc i pins s3 σ3 H3 X.xe I3 (stat fr3) st3 go) fun r s4 ⟨u,hr,h4⟩=>?_)
  subst hr
  refine wpAny_passesOwn hp (thn h4 fun _ s5 ⟨x,H5,I5,r5,y5,st5,fr5⟩=>?_)
  have I5':=I5.pinned (stat fr5) (T.obj _ _ st5)
  refine wpAny_passesOwn hp (thn (hg _ s5 σ3 H5 x u _ I5' r5 (step x H5 y5)) fun _ s6 ⟨σ6,H6,I6,q6⟩=>?_)
  refine wpAny_passesOwn hp (thn (hb _ s6 σ6 H6 _ I6 q6) fun f s7 q7=>?_)
  have again:∀{σ7:St} {H7:Hp},Inv X (pins++pinsAt fp s5.heap) σ7 H7 s7->N σ7 H7->∃m,m<n/\∃i σ' H',Inv X pins σ' H' s7/\tn i s7.heap/\(∀b∈fp,H' b=none)/\W i m σ' H':=fun {σ7 H7} I7 n7=>by
   obtain⟨m',hm,w7⟩:=hN σ7 H7 n7
   refine⟨m',hm,i+1,σ7,H7,I7.unpinned,T.keep _ _ _ st5 fun b hb o e=>(I7.pin (b,o) (List.mem_append_right _ (List.mem_append_right _ (mem_pinsAt hb e)))).1,fun b hb=>?_,w7⟩
   obtain⟨o,e,d⟩:=T.obj _ _ st5 b hb
   exact(I7.pin (b,o) (List.mem_append_right _ (List.mem_append_right _ (mem_pinsAt hb e)))).2.1
  cases f with
  |next=>obtain⟨σ7,H7,I7,n7⟩:=q7;exact again I7 n7
  |cont=>obtain⟨σ7,H7,I7,n7⟩:=q7;exact again I7 n7
  |brk=>obtain⟨σ7,H7,I7,q7⟩:=q7;exact⟨σ7,H7,I7.unpinned,q7⟩
  |ret v=>obtain⟨x7,σ7,H7,I7,r7,q7⟩:=q7;exact⟨x7,σ7,H7,I7.unpinned,r7,q7⟩
end
theorem for_list {K:W.Frag} {a:Addr} {xs:List V} {g:TG} {tb:TS} {D:Ends} {σ:St} {H:Hp} (Pv:Nat->St->Hp->Prop) (h0:Pv 0 σ H) (hl:∀i σ H,i<=xs.length->Pv i σ H->SqL K H a xs)
  (hs:∀i x σ H,xs[i]?=some x->Pv i σ H->g x σ H fun σ2 H2=>tb { D with nx:=Pv (i+1),ct:=Pv (i+1),bk:=D.nx } σ2 H2) (hd:∀σ H,Pv xs.length σ H->D.nx σ H):
  ∃W:Nat->Nat->St->Hp->Prop,(∃m,W 0 m σ H)/\∀i m σ H,W i m σ H->
   ((Itl K a).stop i H/\D.nx σ H)\/((Itl K a).go i H/\∃N:St->Hp->Prop,(∀σ' H',N σ' H'->∃m',m'<m/\W (i+1) m' σ' H')/\∀x H',(Itl K a).yld i H x H'->g x σ H' fun σ2 H2=>tb { D with nx:=N,ct:=N,bk:=D.nx } σ2 H2):=by
 refine⟨fun i m σ H=>m=xs.length-i/\i<=xs.length/\Pv i σ H,⟨xs.length,by simp,Nat.zero_le _,h0⟩,?_⟩
 rintro i m σ H ⟨rfl,hi,p⟩
 have q:=hl i σ H hi p
 by_cases hlt:i<xs.length
 .refine .inr ⟨⟨xs,xs[i],q,by simp[hlt]⟩,Pv (i+1),fun σ' H' p'=>⟨xs.length-(i+1),by omega,rfl,hlt,p'⟩,fun x H' y=>?_⟩
  obtain⟨e,y⟩:=y
  subst e
  exact hs i x σ _ (y xs q) p
 .have e:i=xs.length:=by omega
  subst e
  exact .inl ⟨⟨xs,q,Nat.le_refl _⟩,hd σ H p⟩
theorem for_tup {K:W.Frag} {a:Addr} {xs:List V} {g:TG} {tb:TS} {D:Ends} {σ:St} {H:Hp} (Pv:Nat->St->Hp->Prop) (h0:Pv 0 σ H) (hl:∀i σ H,i<=xs.length->Pv i σ H->SqT K H a xs)
  (hs:∀i x σ H,xs[i]?=some x->Pv i σ H->g x σ H fun σ2 H2=>tb { D with nx:=Pv (i+1),ct:=Pv (i+1),bk:=D.nx } σ2 H2) (hd:∀σ H,Pv xs.length σ H->D.nx σ H):
  ∃W:Nat->Nat->St->Hp->Prop,(∃m,W 0 m σ H)/\∀i m σ H,W i m σ H->
   ((Itt K a).stop i H/\D.nx σ H)\/((Itt K a).go i H/\∃N:St->Hp->Prop,(∀σ' H',N σ' H'->∃m',m'<m/\W (i+1) m' σ' H')/\∀x H',(Itt K a).yld i H x H'->g x σ H' fun σ2 H2=>tb { D with nx:=N,ct:=N,bk:=D.nx } σ2 H2):=by
 refine⟨fun i m σ H=>m=xs.length-i/\i<=xs.length/\Pv i σ H,⟨xs.length,by simp,Nat.zero_le _,h0⟩,?_⟩
 rintro i m σ H ⟨rfl,hi,p⟩
 have q:=hl i σ H hi p
 by_cases hlt:i<xs.length
 .refine .inr ⟨⟨xs,xs[i],q,by simp[hlt]⟩,Pv (i+1),fun σ' H' p'=>⟨xs.length-(i+1),by omega,rfl,hlt,p'⟩,fun x H' y=>?_⟩
  obtain⟨e,y⟩:=y
  subst e
  exact hs i x σ _ (y xs q) p
 .have e:i=xs.length:=by omega
  subst e
  exact .inl ⟨⟨xs,q,Nat.le_refl _⟩,hd σ H p⟩
theorem for_range {lo:Int} {n:Nat} {g:TG} {tb:TS} {D:Ends} {σ:St} {H:Hp} (Pv:Nat->St->Hp->Prop) (h0:Pv 0 σ H)
  (hs:∀i σ H,i<n->Pv i σ H->g (.int (lo+i)) σ H fun σ2 H2=>tb { D with nx:=Pv (i+1),ct:=Pv (i+1),bk:=D.nx } σ2 H2) (hd:∀σ H,Pv n σ H->D.nx σ H):
  ∃W:Nat->Nat->St->Hp->Prop,(∃m,W 0 m σ H)/\∀i m σ H,W i m σ H->
   ((Itr lo n).stop i H/\D.nx σ H)\/((Itr lo n).go i H/\∃N:St->Hp->Prop,(∀σ' H',N σ' H'->∃m',m'<m/\W (i+1) m' σ' H')/\∀x H',(Itr lo n).yld i H x H'->g x σ H' fun σ2 H2=>tb { D with nx:=N,ct:=N,bk:=D.nx } σ2 H2):=by
 refine⟨fun i m σ H=>m=n-i/\i<=n/\Pv i σ H,⟨n,by simp,Nat.zero_le _,h0⟩,?_⟩
 rintro i m σ H ⟨rfl,hi,p⟩
 by_cases hlt:i<n
 .refine .inr ⟨hlt,Pv (i+1),fun σ' H' p'=>⟨n-(i+1),by omega,rfl,hlt,p'⟩,fun x H' y=>?_⟩
  obtain⟨e,y⟩:=y
  subst e y
  exact hs i σ _ hlt p
 .have e:i=n:=by omega
  subst e
  exact .inl ⟨Nat.le_refl _,hd σ H p⟩
noncomputable abbrev R2:=V->V->Hp->VK->Prop
def OpR (X:Cx) (f:Value->Value->Sem Value) (r:R2):Prop:=
 ∀(pins:List (Addr×Obj)) (s:Shared) (σ:St) (H:Hp) (x y:V) (v u:Value) (Q:VK),Inv X pins σ H s->RelV x v->RelV y u->r x y H Q->
  wpAny (model X.prog X.w) X.A (f v u) (EP X pins σ Q) X.xe s
def UnR (X:Cx) (f:Value->Sem Value) (r:V->Hp->VK->Prop):Prop:=
 ∀(pins:List (Addr×Obj)) (s:Shared) (σ:St) (H:Hp) (x:V) (v:Value) (Q:VK),Inv X pins σ H s->RelV x v->r x H Q->
  wpAny (model X.prog X.w) X.A (f v) (EP X pins σ Q) X.xe s
def CallR (X:Cx) (f:Value) (r:List V->Hp->VK->Prop):Prop:=
 ∀(pins:List (Addr×Obj)) (s:Shared) (σ:St) (H:Hp) (xs:List V) (us:List Value) (Q:VK),Inv X pins σ H s->Vals xs us->r xs H Q->
  wpAny (model X.prog X.w) X.A (call f us) (EP X pins σ Q) X.xe s
def TruR (X:Cx) (r:V->Hp->(Bool->Hp->Prop)->Prop):Prop:=
 ∀(pins:List (Addr×Obj)) (s:Shared) (σ:St) (H:Hp) (x:V) (v:Value) (Q:Bool->Hp->Prop),Inv X pins σ H s->RelV x v->r x H Q->
  wpAny (model X.prog X.w) X.A (truthy v) (TP X pins σ Q) X.xe s
noncomputable def tOp (r:R2) (ta tb:TE):TE:=fun σ H Q=>ta σ H fun x H1=>tb σ H1 fun y H2=>r x y H2 Q
noncomputable def tUn (r:V->Hp->VK->Prop) (ta:TE):TE:=fun σ H Q=>ta σ H fun x H1=>r x H1 Q
noncomputable def rI (C:Int->Int->Prop) (g:Int->Int->V):R2:=fun x y H Q=>∃i j,x=.int i/\y=.int j/\C i j/\Q (g i j) H
noncomputable def rI0 (g:Int->Int->V):R2:=fun x y H Q=>∃i j,x=.int i/\y=.int j/\Q (g i j) H
noncomputable def rU (g:Int->V):V->Hp->VK->Prop:=fun x H Q=>∃i,x=.int i/\Q (g i) H
section
variable {X:Cx} {a b c:Expr} {ta tb tc:TE} {pos:Pos}
theorem binT (ha:PE X a ta) (hb:PE X b tb) {pins:List (Addr×Obj)} {s:Shared} {σ:St} {H:Hp} {R:V->V->Hp->Prop} (I:Inv X pins σ H s)
  (h:ta σ H fun x H1=>tb σ H1 fun y H2=>R x y H2) {Q:Value->Shared->Prop} {f:Value->Value->Sem Value}
  (hf:∀v u s2 x y H2,Inv X pins σ H2 s2->RelV x v->RelV y u->R x y H2->wpAny (model X.prog X.w) X.A (f v u) Q X.xe s2):
  wpAny (model X.prog X.w) X.A (eval a X.env) (fun v s₁=>wpAny (model X.prog X.w) X.A (eval b X.env) (fun u s₂=>wpAny (model X.prog X.w) X.A (f v u) Q X.xe s₂) X.xe s₁) X.xe s:=by
 refine thn (ha pins s σ H _ I h) fun v s1 ⟨x,H1,I1,r1,q1⟩=>?_
 refine thn (hb pins s1 σ H1 _ I1 q1) fun u s2 ⟨y,H2,I2,r2,q2⟩=>?_
 exact hf v u s2 x y H2 I2 r1 r2 q2
theorem pe_op {op:Operator} {r:R2} (ho:OpR X (binaryOp op) r) (ha:PE X a ta) (hb:PE X b tb):PE X (.BinOp a op b pos) (tOp r ta tb):=by
 intro pins s σ H Q I h
 exact wpAny_BinOp (binT ha hb I h fun v u s2 x y H2 I2 rx ry q=>ho pins s2 σ H2 x y v u Q I2 rx ry q)
theorem pe_un {op:UnaryOp} {r:V->Hp->VK->Prop} (ho:UnR X (unaryOp op) r) (ha:PE X a ta):PE X (.UnaryOp op a pos) (tUn r ta):=by
 intro pins s σ H Q I h
 exact UnaryOp_ (thn (ha pins s σ H _ I h) fun v s1 ⟨x,H1,I1,r1,q1⟩=>ho pins s1 σ H1 x v Q I1 r1 q1)
theorem opI {f:Value->Value->Sem Value} {C:Int->Int->Prop} {g:Int->Int->Int}
  (rule:∀(i j:Int) (t u:Tok) (s:Shared) (Q:Value->Shared->Prop) (E:Value->Shared->Prop),C i j->Q (.int (g i j) s.toks) { s with toks:=s.toks+1 }->wpAny (model X.prog X.w) X.A (f (.int i t) (.int j u)) Q E s):
  OpR X f (rI C fun i j=>.int (g i j)):=by
 intro pins s σ H x y v u Q I rx ry h
 obtain⟨i,j,rfl,rfl,hc,q⟩:=h
 obtain⟨t,rfl⟩:=rx
 obtain⟨t',rfl⟩:=ry
 exact rule i j t t' s _ _ hc ⟨.int (g i j),H,I.tok _,⟨_,rfl⟩,q⟩
theorem opI0 {f:Value->Value->Sem Value} {g:Int->Int->Int}
  (rule:∀(i j:Int) (t u:Tok) (s:Shared) (Q:Value->Shared->Prop) (E:Value->Shared->Prop),Q (.int (g i j) s.toks) { s with toks:=s.toks+1 }->wpAny (model X.prog X.w) X.A (f (.int i t) (.int j u)) Q E s):
  OpR X f (rI0 fun i j=>.int (g i j)):=by
 intro pins s σ H x y v u Q I rx ry h
 obtain⟨i,j,rfl,rfl,q⟩:=h
 obtain⟨t,rfl⟩:=rx
 obtain⟨t',rfl⟩:=ry
 exact rule i j t t' s _ _ ⟨.int (g i j),H,I.tok _,⟨_,rfl⟩,q⟩
theorem opB0 {f:Value->Value->Sem Value} {g:Int->Int->Bool}
  (rule:∀(i j:Int) (t u:Tok) (s:Shared) (Q:Value->Shared->Prop) (E:Value->Shared->Prop),Q (.bool (g i j)) s->wpAny (model X.prog X.w) X.A (f (.int i t) (.int j u)) Q E s):
  OpR X f (rI0 fun i j=>.bl (g i j)):=by
 intro pins s σ H x y v u Q I rx ry h
 obtain⟨i,j,rfl,rfl,q⟩:=h
 obtain⟨t,rfl⟩:=rx
 obtain⟨t',rfl⟩:=ry
 exact rule i j t t' s _ _ ⟨.bl (g i j),H,I,rfl,q⟩
def CDiv (i j:Int):Prop:=0<j/\j<1073741824
def CPow (i j:Int):Prop:=0<=j/\j<=1000000/\i.natAbs<2 ^ 64
def CMul (i j:Int):Prop:=(-(2 ^ 64)<i/\i<2 ^ 64)\/(-(2 ^ 64)<j/\j<2 ^ 64)
theorem CMul.ok {i j:Int} (h:CMul i j):IntMulOk i j:=by
 rcases h with⟨h1,h2⟩|⟨h1,h2⟩
 .exact .of_left (intBits_le_64 h1 h2)
 .exact .of_right (intBits_le_64 h1 h2)
theorem two_pow_nn (k:Nat):(0:Int)<=2 ^ k:=by
 rw[two_pow_cast]
 exact Int.natCast_nonneg _
theorem op_add:OpR X (binaryOp .Add) (rI0 fun i j=>.int (i+j)):=opI0 fun _ _ _ _ _ _ _ q=>add_int q
theorem op_sub:OpR X (binaryOp .Sub) (rI0 fun i j=>.int (i-j)):=opI0 fun _ _ _ _ _ _ _ q=>sub_int q
theorem op_fdiv:OpR X (binaryOp .FloorDiv) (rI CDiv fun i j=>.int (i / j)):=opI fun i j _ _ _ _ _ hc q=>by
 have h1:(0:Int)<j:=hc.1
 have h2:j<1073741824:=hc.2
 exact floordiv_int (by omega) (by rw[Int.fdiv_eq_ediv_of_nonneg i (by omega)];exact q) (.inl (PyProof.noPylong_small (by omega)))
theorem op_mod:OpR X (binaryOp .Mod) (rI (fun _ j=>0<j) fun i j=>.int (i % j)):=opI fun i j _ _ _ _ _ hc q=>by
 have h1:(0:Int)<j:=hc
 exact mod_int' (by omega) (by rw[Int.fmod_eq_emod_of_nonneg i (by omega)];exact q)
theorem op_pow:OpR X (binaryOp .Pow) (rI CPow fun i j=>.int (i ^ j.toNat)):=opI fun _ _ _ _ _ _ _ hc q=>pow_int_small hc.1 hc.2.1 hc.2.2 q
theorem op_shr:OpR X (binaryOp .RShift) (rI (fun _ j=>0<=j) fun i j=>.int (i / 2 ^ j.toNat)):=opI fun i j _ _ _ _ _ hc q=>
 rshift_int hc (by rw[Int.fdiv_eq_ediv_of_nonneg i (two_pow_nn _)];exact q)
theorem op_and:OpR X (binaryOp .BitAnd) (rI0 fun i j=>.int (Builtin.bitAnd i j)):=opI0 fun _ _ _ _ _ _ _ q=>and_int q
theorem unI {f:Value->Sem Value} {g:Int->Int}
  (rule:∀(i:Int) (t:Tok) (s:Shared) (Q:Value->Shared->Prop) (E:Value->Shared->Prop),Q (.int (g i) s.toks) { s with toks:=s.toks+1 }->wpAny (model X.prog X.w) X.A (f (.int i t)) Q E s):
  UnR X f (rU fun i=>.int (g i)):=by
 intro pins s σ H x v Q I rx h
 obtain⟨i,rfl,q⟩:=h
 obtain⟨t,rfl⟩:=rx
 exact rule i t s _ _ ⟨.int (g i),H,I.tok _,⟨_,rfl⟩,q⟩
theorem un_neg:UnR X (unaryOp .USub) (rU fun i=>.int (-i)):=unI fun _ _ _ _ _ q=>neg_int q
end
noncomputable def scal:V->V->Bool
 | .non,.non=>true | .non,.int _=>true | .int _,.non=>true | .non,.bl _=>true | .bl _,.non=>true | .non,.str _=>true | .str _,.non=>true
 | .int _,.int _=>true | .bl _,.bl _=>true | .str _,.str _=>true | .byt _,.byt _=>true
 | .int _,.str _=>true | .str _,.int _=>true | .bl _,.str _=>true | .str _,.bl _=>true
 |_,_=>false
noncomputable def rEq:R2:=fun x y H Q=>scal x y=true/\Q (.bl (decide (x=y))) H
noncomputable def rNe:R2:=fun x y H Q=>scal x y=true/\Q (.bl (!decide (x=y))) H
theorem dec_int {i j:Int}:decide (V.int i=V.int j)=(i == j):=by
 rw[Bool.eq_iff_iff]
 simp
theorem dec_bl {i j:Bool}:decide (V.bl i=V.bl j)=(i == j):=by
 rw[Bool.eq_iff_iff]
 simp
theorem dec_str {i j:Str}:decide (V.str i=V.str j)=(i == j):=by
 rw[Bool.eq_iff_iff]
 simp
theorem dec_byt {i j:Array UInt8}:decide (V.byt i=V.byt j)=(i.toList == j.toList):=by
 rw[Bool.eq_iff_iff]
 cases i
 cases j
 simp
section
variable {X:Cx} {a b c:Expr} {ta tb tc:TE} {pos:Pos}
theorem fin_bl {pins:List (Addr×Obj)} {σ:St} {H:Hp} {s:Shared} {Q:VK} {k k':Bool} (I:Inv X pins σ H s) (q:Q (.bl k) H) (e:k=k'):EP X pins σ Q (.bool k') s:=by
 subst e
 exact⟨.bl k,H,I,rfl,q⟩
theorem op_eq:OpR X (compareOp .Eq) rEq:=by
 intro pins s σ H x y v u Q I rx ry h
 obtain⟨hs,q⟩:=h
 cases x with
 |non=>
  cases rx
  cases y with
  |non=>cases ry;exact PySem.EqNone.eq_none_none (fin_bl I q (by simp))
  |bl j=>cases ry;exact PySem.EqNone.eq_none_bool (fin_bl I q (by simp))
  |int j=>obtain⟨t',rfl⟩:=ry;exact PySem.EqNone.eq_none_int (fin_bl I q (by simp))
  |str j=>obtain⟨t',rfl⟩:=ry;exact PySem.EqNone.eq_none_str (fin_bl I q (by simp))
  |_=>exact absurd (show false=true from hs) Bool.false_ne_true
 |bl i=>
  cases rx
  cases y with
  |non=>cases ry;exact PySem.EqNone.eq_bool_none (fin_bl I q (by simp))
  |bl j=>cases ry;exact eq_bool (fin_bl I q dec_bl)
  |str j=>obtain⟨t',rfl⟩:=ry;exact PySem.EqMixed.eq_bool_str (fin_bl I q (by simp))
  |_=>exact absurd (show false=true from hs) Bool.false_ne_true
 |int i=>
  obtain⟨t,rfl⟩:=rx
  cases y with
  |non=>cases ry;exact PySem.EqNone.eq_int_none (fin_bl I q (by simp))
  |int j=>obtain⟨t',rfl⟩:=ry;exact eq_int (fin_bl I q dec_int)
  |str j=>obtain⟨t',rfl⟩:=ry;exact PySem.EqMixed.eq_int_str (fin_bl I q (by simp))
  |_=>exact absurd (show false=true from hs) Bool.false_ne_true
 |str i=>
  obtain⟨t,rfl⟩:=rx
  cases y with
  |non=>cases ry;exact PySem.EqNone.eq_str_none (fin_bl I q (by simp))
  |bl j=>cases ry;exact PySem.EqMixed.eq_str_bool (fin_bl I q (by simp))
  |int j=>obtain⟨t',rfl⟩:=ry;exact PySem.EqMixed.eq_str_int (fin_bl I q (by simp))
  |str j=>obtain⟨t',rfl⟩:=ry;exact eq_str (fin_bl I q dec_str)
  |_=>exact absurd (show false=true from hs) Bool.false_ne_true
 |byt i=>
  obtain⟨t,rfl⟩:=rx
  cases y with
  |byt j=>obtain⟨t',rfl⟩:=ry;exact W.eq_bytes (fin_bl I q dec_byt)
  |_=>exact absurd (show false=true from hs) Bool.false_ne_true
 |_=>cases y<;>exact absurd (show false=true from hs) Bool.false_ne_true
theorem op_ne:OpR X (compareOp .NotEq) rNe:=by
 intro pins s σ H x y v u Q I rx ry h
 obtain⟨hs,q⟩:=h
 cases x with
 |non=>
  cases rx
  cases y with
  |non=>cases ry;exact PySem.EqNone.ne_none_none (fin_bl I q (by simp))
  |bl j=>cases ry;exact PySem.EqNone.ne_none_bool (fin_bl I q (by simp))
  |int j=>obtain⟨t',rfl⟩:=ry;exact PySem.EqNone.ne_none_int (fin_bl I q (by simp))
  |str j=>obtain⟨t',rfl⟩:=ry;exact PySem.EqNone.ne_none_str (fin_bl I q (by simp))
  |_=>exact absurd (show false=true from hs) Bool.false_ne_true
 |bl i=>
  cases rx
  cases y with
  |non=>cases ry;exact PySem.EqNone.ne_bool_none (fin_bl I q (by simp))
  |bl j=>cases ry;exact ne_bool (fin_bl I q (congrArg not dec_bl))
  |str j=>obtain⟨t',rfl⟩:=ry;exact PySem.EqMixed.ne_bool_str (fin_bl I q (by simp))
  |_=>exact absurd (show false=true from hs) Bool.false_ne_true
 |int i=>
  obtain⟨t,rfl⟩:=rx
  cases y with
  |non=>cases ry;exact PySem.EqNone.ne_int_none (fin_bl I q (by simp))
  |int j=>obtain⟨t',rfl⟩:=ry;exact ne_int (fin_bl I q (congrArg not dec_int))
  |str j=>obtain⟨t',rfl⟩:=ry;exact PySem.EqMixed.ne_int_str (fin_bl I q (by simp))
  |_=>exact absurd (show false=true from hs) Bool.false_ne_true
 |str i=>
  obtain⟨t,rfl⟩:=rx
  cases y with
  |non=>cases ry;exact PySem.EqNone.ne_str_none (fin_bl I q (by simp))
  |bl j=>cases ry;exact PySem.EqMixed.ne_str_bool (fin_bl I q (by simp))
  |int j=>obtain⟨t',rfl⟩:=ry;exact PySem.EqMixed.ne_str_int (fin_bl I q (by simp))
  |str j=>obtain⟨t',rfl⟩:=ry;exact ne_str (fin_bl I q (congrArg not dec_str))
  |_=>exact absurd (show false=true from hs) Bool.false_ne_true
 |byt i=>
  obtain⟨t,rfl⟩:=rx
  cases y with
  |byt j=>obtain⟨t',rfl⟩:=ry;exact W.ne_bytes (fin_bl I q (congrArg not dec_byt))
  |_=>exact absurd (show false=true from hs) Bool.false_ne_true
 |_=>cases y<;>exact absurd (show false=true from hs) Bool.false_ne_true
theorem op_lt:OpR X (compareOp .Lt) (rI0 fun i j=>.bl (decide (i<j))):=opB0 fun _ _ _ _ _ _ _ q=>lt_int q
theorem op_le:OpR X (compareOp .LtE) (rI0 fun i j=>.bl (decide (i<=j))):=opB0 fun _ _ _ _ _ _ _ q=>le_int q
theorem op_gt:OpR X (compareOp .Gt) (rI0 fun i j=>.bl (decide (j<i))):=opB0 fun _ _ _ _ _ _ _ q=>gt_int q
theorem op_ge:OpR X (compareOp .GtE) (rI0 fun i j=>.bl (decide (j<=i))):=opB0 fun _ _ _ _ _ _ _ q=>ge_int q
theorem op_isN:OpR X (compareOp .Is) (fun x y H Q=>y=.non/\Q (.bl (decide (x=.non))) H):=by
 intro pins s σ H x y v u Q I rx ry h
 obtain⟨rfl,q⟩:=h
 cases ry
 refine is_none_gen (fin_bl I q ?_)
 cases x<;>first
  |(cases rx;rfl)
  |(obtain⟨t,rfl⟩:=rx;rfl)
theorem op_notN:OpR X (compareOp .IsNot) (fun x y H Q=>y=.non/\Q (.bl (!decide (x=.non))) H):=by
 intro pins s σ H x y v u Q I rx ry h
 obtain⟨rfl,q⟩:=h
 cases ry
 refine isnot_none_gen (fin_bl I q ?_)
 cases x<;>first
  |(cases rx;rfl)
  |(obtain⟨t,rfl⟩:=rx;rfl)
theorem OpR.or {f:Value->Value->Sem Value} {r r':R2} (h:OpR X f r) (h':OpR X f r'):OpR X f (fun x y H Q=>r x y H Q\/r' x y H Q):=by
 intro pins s σ H x y v u Q I rx ry q
 rcases q with q|q
 .exact h pins s σ H x y v u Q I rx ry q
 .exact h' pins s σ H x y v u Q I rx ry q
theorem pe_cmpR {op:CmpOp} {r:R2} (ho:OpR X (compareOp op) r) (ha:PE X a ta) (hb:PE X b tb) (hm:behindInMarks op b=false):PE X (.Compare a [op] [b] pos) (tOp r ta tb):=by
 intro pins s σ H Q I h
 exact wpAny_Compare1 (binT ha hb I h fun v u s2 x y H2 I2 rx ry q=>ho pins s2 σ H2 x y v u Q I2 rx ry q) hm
noncomputable def tTest (t:TE):TT:=fun σ H Q=>t σ H fun x H'=>∃k,x=.bl k/\Q k H'
theorem pt_cmpR {op:CmpOp} {r:R2} (ho:OpR X (compareOp op) r) (ha:PE X a ta) (hb:PE X b tb) (hm:behindInMarks op b=false):PT X (.Compare a [op] [b] pos) (tTest (tOp r ta tb)):=by
 intro pins s σ H Q I h
 refine wpAny_isTrue_Compare1 (thn (ha pins s σ H _ I h) fun v s1 ⟨x,H1,I1,r1,q1⟩=>thn (hb pins s1 σ H1 _ I1 q1) fun u s2 ⟨y,H2,I2,r2,q2⟩=>
  thn (ho pins s2 σ H2 x y v u _ I2 r1 r2 q2) fun c s3 ⟨z,H3,I3,r3,k,e,q3⟩=>?_) hm
 subst e
 cases r3
 exact wpAny_truthy_bool ⟨H3,I3,q3⟩
def TruV (K:W.Frag) (x:V) (H:Hp) (k:Bool):Prop:=
 match x with
 | .non=>k=false
 | .bl b=>k=b
 | .int i=>k=(i != 0)
 | .str y=>y.length<=sizeLine/\k=((y.length:Int) != 0)
 | .byt y=>y.size<=sizeLine/\k=((y.size:Int) != 0)
 | .ref p=>(∃xs,SqL K H p xs/\k=!xs.isEmpty)\/(∃xs,SqT K H p xs/\k=!xs.isEmpty)\/∃kvs,H p=some (.dK kvs)/\k=!kvs.isEmpty
 |_=>False
theorem isEmpty_kv {κ:Type} {kvs:List (κ×V)} {vs:List (κ×Value)} (r:KV kvs vs):(!vs.isEmpty)=!kvs.isEmpty:=by
 cases r<;>rfl
theorem isEmpty_of {xs:List V} {its:List Value} (r:Vals xs its):(!its.toArray.isEmpty)=!xs.isEmpty:=by
 cases r<;>simp
theorem line63:(sizeLine:Nat)<2 ^ 63:=by rw[sizeLine_eq];decide
theorem tru_ok:TruR X (fun x H Q=>∃k,TruV X.K x H k/\Q k H):=by
 intro pins s σ H x v Q I rx h
 obtain⟨k,e,q⟩:=h
 have hl:=line63
 have hs:sizeLine=16777216:=sizeLine_eq
 cases x with
 |non=>
  cases rx
  have e':k=false:=e
  subst e'
  exact truthy_none ⟨H,I,q⟩
 |bl b=>
  cases rx
  have e':k=b:=e
  subst e'
  exact wpAny_truthy_bool ⟨H,I,q⟩
 |int i=>
  obtain⟨t,rfl⟩:=rx
  have e':k=(i != 0):=e
  subst e'
  exact PySem.P.truthy_int ⟨H,I,q⟩
 |str y=>
  obtain⟨t,rfl⟩:=rx
  obtain⟨hy,e'⟩:y.length<=sizeLine/\k=((y.length:Int) != 0):=e
  subst e'
  exact PySem.P.truthy_str (by omega) ⟨H,I.tok _,q⟩
 |byt y=>
  obtain⟨t,rfl⟩:=rx
  obtain⟨hy,e'⟩:y.size<=sizeLine/\k=((y.size:Int) != 0):=e
  subst e'
  exact W.truthy_bytes (by omega) ⟨H,I.tok _,q⟩
 |ref p=>
  cases rx
  have e':(∃xs,SqL X.K H p xs/\k=!xs.isEmpty)\/(∃xs,SqT X.K H p xs/\k=!xs.isEmpty)\/∃kvs,H p=some (.dK kvs)/\k=!kvs.isEmpty:=e
  rcases e' with⟨xs,hx,e'⟩|⟨xs,hx,e'⟩|⟨kvs,hx,e'⟩
  .subst e'
   obtain⟨its,r,pl,hz⟩:=I.list hx
   have hlen:=r.length
   exact wpAny_truthy_list pl.isList (by simp only[List.size_toArray];omega) ⟨H,I.tok _,by rw[isEmpty_of r];exact q⟩
  .subst e'
   obtain⟨its,r,pl,hz⟩:=I.tuple hx
   have hlen:=r.length
   exact truthy_tuple pl (by simp only[List.size_toArray];omega) ⟨H,I.tok _,by rw[isEmpty_of r];exact q⟩
  .subst e'
   obtain⟨hz,hS,vs,r,m⟩:kvs.length<=sizeLine/\(p == sysModules)=false/\∃vs,KV kvs vs/\s.heap.DictOf (mixKind X.prog X.w) p vs:=I.hok p _ hx
   have hlen:kvs.length=vs.length:=Paired.length r
   exact wpAny_truthy_dict hS m (by omega) ⟨H,I.tok _,by rw[isEmpty_kv r];exact q⟩
 |_=>exact(show False from e).elim
theorem pt_truth (ha:PE X a ta) (he:∀whole,isTrue a X.env whole=(do let v <- whole;standAt a.pos;holding [v] (truthy v))):
  PT X a (fun σ H Q=>ta σ H fun x H'=>∃k,TruV X.K x H' k/\Q k H'):=by
 intro pins s σ H Q I h
 exact isTrue_plain (thn (ha pins s σ H _ I h) fun v s1 ⟨x,H1,I1,r1,q1⟩=>tru_ok pins s1 σ H1 x v Q I1 r1 q1) (he _)
theorem op_add_str:OpR X (binaryOp .Add) (fun x y H Q=>∃i j,x=.str i/\y=.str j/\i.length+j.length<=sizeLine/\Q (.str (i++j)) H):=by
 intro pins s σ H x y v u Q I rx ry h
 obtain⟨i,j,rfl,rfl,hz,q⟩:=h
 obtain⟨t,rfl⟩:=rx
 obtain⟨t',rfl⟩:=ry
 exact add_str (fun t' tk=>⟨.str (i++j),H,I.tok _,⟨_,rfl⟩,q⟩) hz
theorem vals1 {x:V} {us:List Value} (r:Vals [x] us):∃u,us=[u]/\RelV x u:=by
 cases r with
 |cons r1 r2=>cases r2;exact⟨_,rfl,r1⟩
theorem vals2 {x y:V} {us:List Value} (r:Vals [x,y] us):∃u w',us=[u,w']/\RelV x u/\RelV y w':=by
 cases r with
 |cons r1 r2=>
  cases r2 with
  |cons r3 r4=>cases r4;exact⟨_,_,rfl,r1,r3⟩
theorem call_abs:CallR X (.builtin "abs") (fun xs H Q=>∃i,xs=[.int i]/\Q (.int (if i<0 then -i else i)) H):=by
 intro pins s σ H xs us Q I r h
 obtain⟨i,rfl,q⟩:=h
 obtain⟨u,rfl,t,rfl⟩:=vals1 r
 exact call_abs_int fun u tk=>⟨.int (if i<0 then -i else i),H,I.tok _,⟨_,rfl⟩,q⟩
theorem call_int1:CallR X (.type "int") (fun xs H Q=>(∃i,xs=[.int i]/\Q (.int i) H)\/∃k,xs=[.bl k]/\Q (.int (if k then 1 else 0)) H):=by
 intro pins s σ H xs us Q I r h
 rcases h with⟨i,rfl,q⟩|⟨k,rfl,q⟩
 .obtain⟨u,rfl,t,rfl⟩:=vals1 r
  exact call_int_int ⟨.int i,H,I,⟨_,rfl⟩,q⟩
 .obtain⟨u,rfl,r1⟩:=vals1 r
  cases r1
  exact call_int_bool ⟨.int (if k then 1 else 0),H,I.tok _,⟨_,rfl⟩,q⟩
def LenV (K:W.Frag) (x:V) (H:Hp) (n:Nat):Prop:=
 match x with
 | .str y=>y.length<=sizeLine/\n=y.length
 | .byt y=>y.size<=sizeLine/\n=y.size
 | .ref p=>(∃xs,SqL K H p xs/\n=xs.length)\/∃xs,SqT K H p xs/\n=xs.length
 |_=>False
theorem call_len:CallR X (.builtin "len") (fun xs H Q=>∃x n,xs=[x]/\LenV X.K x H n/\Q (.int n) H):=by
 intro pins s σ H xs us Q I r h
 obtain⟨x,n,rfl,e,q⟩:=h
 obtain⟨u,rfl,rx⟩:=vals1 r
 have hl:=line63
 have hs:sizeLine=16777216:=sizeLine_eq
 cases x with
 |str y=>
  obtain⟨t,rfl⟩:=rx
  obtain⟨hy,e'⟩:y.length<=sizeLine/\n=y.length:=e
  subst e'
  exact len_str (by omega) ⟨.int _,H,I.tok _,⟨_,rfl⟩,q⟩
 |byt y=>
  obtain⟨t,rfl⟩:=rx
  obtain⟨hy,e'⟩:y.size<=sizeLine/\n=y.size:=e
  subst e'
  exact W.len_bytes (by omega) ⟨.int _,H,I.tok _,⟨_,rfl⟩,q⟩
 |ref p=>
  cases rx
  have e':(∃xs,SqL X.K H p xs/\n=xs.length)\/∃xs,SqT X.K H p xs/\n=xs.length:=e
  rcases e' with⟨xs,hx,e'⟩|⟨xs,hx,e'⟩
  .subst e'
   obtain⟨its,r',pl,hz⟩:=I.list hx
   have hlen:=r'.length
   exact Calls.call_len_list pl.isList (by simp only[List.size_toArray];omega) ⟨.int xs.length,H,I.tok _,⟨_,by simp only[List.size_toArray];rw[hlen]⟩,q⟩
  .subst e'
   obtain⟨its,r',pl,hz⟩:=I.tuple hx
   have hlen:=r'.length
   exact len_tuple pl (by simp only[List.size_toArray];omega) ⟨.int xs.length,H,I.tok _,⟨_,by simp only[List.size_toArray];rw[hlen]⟩,q⟩
 |_=>exact(show False from e).elim
end
structure ObjM (h:Heap) (x dx C:Addr) (mA:Str->Option Value):Prop where
 obj:h.get? x=some (W.instObj C dx)
 ns:h.Ns1 dx mA
 ne:dx≠x
theorem lookIn_ns {h:Heap} {dx:Addr} {mA:Str->Option Value} (n:h.Ns1 dx mA):∃od,h.get? dx=some od/\∀name,W.lookIn name od=some (mA name):=by
 obtain⟨o,es,ep,ho,hd,hk,_,hm⟩:=n
 refine⟨o,ho,fun name=>?_⟩
 have e:=hm name
 unfold nsFind findBy at e
 rw[<- Array.find?_toList]at e
 unfold W.lookIn
 rw[hd]
 dsimp only
 split
 .rename_i y q
  rw[q]at e
  exact congrArg some e
 .rename_i q
  rw[q]at e
  have a:es.toList.any (·.refKey)=false:=by
   rw[List.any_eq_false]
   intro y hy
   obtain⟨z,t,hkey⟩:=hk y (Array.mem_toList_iff.mp hy)
   simp[DictEntry.refKey,hkey]
  have a':¬es.toList.any (·.refKey)=true:=by rw[a];exact Bool.false_ne_true
  rw[if_neg a']
  exact congrArg some e
theorem ObjM.look {h:Heap} {x dx C:Addr} {mA:Str->Option Value} (I:ObjM h x dx C mA):∃od,W.InstAt h x (W.instObj C dx) C (some od)/\∀name,W.lookIn name od=some (mA name):=
 let⟨od,ho,hl⟩:=lookIn_ns I.ns
 ⟨od,⟨I.obj,rfl,rfl,ho⟩,hl⟩
section
variable {prog:Program} {w:World} {A:Around} {E:Value->Shared->Prop} {s:Shared} {K:W.Frag} {x dx C f:Addr} {mA:Str->Option Value} {name:Str} {v:Value}
end
theorem RelO.some_of {v:V} {o:Option Value} (r:RelO (some v) o):∃u,o=some u/\RelV v u:=by
 cases o with
 |none=>exact(show False from r).elim
 |some u=>exact⟨u,rfl,r⟩
section
variable {P:Program} {w:World} {H H':Hp} {h h':Heap} {a C dx:Addr} {fs fs':List (Str×V)}
theorem ins_get (hok:HOk P w H h) (e:H a=some (.ins C dx fs)):∃mA,ObjM h a dx C mA/\(∀f,RelO (fs.lookup f) (mA f))/\PySem.Within mA (fs.map (·.1))/\fs.length<=1000/\H dx=some (.own a):=by
 obtain⟨d,z,ne,ob,mA,n,r,q⟩:=(show ObjOk P w H h a (.ins C dx fs) from hok a _ e)
 exact⟨mA,⟨ob,n,ne⟩,r,q,z,d⟩
end
structure Cls (K:W.Frag) (C:Addr):Prop where
 pg:W.plainGet K C Str.empty=true
 hd:W.hasDictIn K C=true
 po:W.plainOver K C=true
 sa:W.findIn K (.ref C) "__setattr__"=some (some (.builtin "object.__setattr__"))
theorem Cls.get {K:W.Frag} {C:Addr} (c:Cls K C) (f:Str):W.plainGet K C f=true:=c.pg
structure Con (K:W.Frag) (C:Addr) (f:Str) (v:V) (u:Value):Prop where
 at_:W.findIn K (.ref C) f=some (some u)
 rel:RelV v u
 get:W.specialIn K u "__get__"=some none
 cp:W.copiedNames.contains f=false
structure Meth (K:W.Frag) (C:Addr) (m:Str) (f:Addr):Prop where
 at_:W.findIn K (.ref C) m=some (some (.ref f))
 fn:W.isFn K (.ref f)=true
 kp:W.keepIn K (.ref f)=true
section
variable {X:Cx} {pins:List (Addr×Obj)} {σ:St} {H:Hp} {s:Shared} {a C dx:Addr} {fs:List (Str×V)} {f:Str} {v:V} {A:Around} {E:Value->Shared->Prop}
end
section
variable {X:Cx} {o e value:Expr} {f:Str} {pos pos' tpos:Pos} {ta tv:TE}
end
section
variable {X:Cx} {pins:List (Addr×Obj)} {σ:St} {H:Hp} {s:Shared} {A:Around} {E:Value->Shared->Prop} {Q:Value->Shared->Prop} {c:Value} {b:Bool}
inductive TyOf (K:W.Frag) (H:Hp):V->Value->Prop where
 |non:TyOf K H .non (.type "NoneType")
 |bl (x:Bool):TyOf K H (.bl x) (.type "bool")
 |int (i:Int):TyOf K H (.int i) (.type "int")
 |str (x:Str):TyOf K H (.str x) (.type "str")
 |flt (x:UInt64):TyOf K H (.flt x) (.type "float")
 |lst {a:Addr} {xs:List V} (e:H a=some (.lst xs)):TyOf K H (.ref a) (.type "list")
 |frz {a:Addr} {o:Obj} {xs:List V} (e:H a=some (.frz o (.lst xs))):TyOf K H (.ref a) (.type "list")
 |tup {a:Addr} {xs:List V} (e:H a=some (.tup xs)):TyOf K H (.ref a) (.type "tuple")
 |dK {a:Addr} {kvs:List (Key×V)} (e:H a=some (.dK kvs)):TyOf K H (.ref a) (.type "dict")
 |dT {a:Addr} {kvs:List (List Key×V)} (e:H a=some (.dT kvs)):TyOf K H (.ref a) (.type "dict")
 |ins {a C dx:Addr} {fs:List (Str×V)} (e:H a=some (.ins C dx fs)) (cl:Cls K C) (ha:W.findIn K (.ref C) "__class__"=some (some (.builtin "object.__class__")))
   (hn:W.specialIn K (.builtin "object.__class__") "__get__"=some (some (.builtin "getset_descriptor.__get__"))) (htk:W.takesIn K (.builtin "object.__class__")=some true)
   (hm:W.mroIn K C (.type "object")=some true):TyOf K H (.ref a) (.ref C)
theorem isinst_ok {x:V} {u t:Value} (I:Inv X pins σ H s) (rx:RelV x u) (ty:TyOf X.K H x t) (e:W.kitOne X.K t c=some b) (h:∀tk,Q (.bool b) { s with toks:=tk }):
  wpAny (model X.prog X.w) A (call (.builtin "isinstance") [u,c]) Q E s:=by
 cases ty with
 |non=>cases(show u=Value.none from rx);exact W.kia_one W.kitx_none I.kIn True.intro e (fun z=>nomatch z) h
 |bl y=>cases(show u=Value.bool y from rx);exact W.kia_one W.kitx_bool I.kIn True.intro e (fun z=>nomatch z) h
 |int i=>obtain⟨t,q⟩:=(show ∃t,u=Value.int i t from rx);cases q;exact W.kia_one W.kitx_int I.kIn True.intro e (fun z=>nomatch z) h
 |str y=>obtain⟨t,q⟩:=(show ∃t,u=Value.str y t from rx);cases q;exact W.kia_one W.kitx_str I.kIn True.intro e (fun z=>nomatch z) h
 |flt y=>obtain⟨t,q⟩:=(show ∃t,u=Value.float y t from rx);cases q;exact W.kia_one W.kitx_float I.kIn True.intro e (fun z=>nomatch z) h
 | @lst a xs ea=>
  cases(show u=Value.ref a from rx)
  obtain⟨_,_,n,_,h1⟩:=(show ObjOk X.prog X.w H s.heap a (.lst xs) from I.hok a _ ea)
  exact W.kia_one W.kitx_list I.kIn ⟨_,h1,rfl⟩ e (fun z=>nomatch z) h
 | @frz a ob xs ea=>
  cases(show u=Value.ref a from rx)
  obtain⟨_,_,_,n,_,h1⟩:=(show ObjOk X.prog X.w H s.heap a (.frz ob (.lst xs)) from I.hok a _ ea)
  exact W.kia_one W.kitx_list I.kIn ⟨_,h1,rfl⟩ e (fun z=>nomatch z) h
 | @tup a xs ea=>
  cases(show u=Value.ref a from rx)
  obtain⟨_,_,_,p⟩:=(show ObjOk X.prog X.w H s.heap a (.tup xs) from I.hok a _ ea)
  obtain⟨o,h1,h2,_⟩:=p
  exact W.kia_one W.kitx_tuple I.kIn ⟨o,h1,h2⟩ e (fun z=>nomatch z) h
 | @dK a kvs ea=>
  cases(show u=Value.ref a from rx)
  obtain⟨_,_,vs,_,p⟩:=(show ObjOk X.prog X.w H s.heap a (.dK kvs) from I.hok a _ ea)
  obtain⟨o,es,ep,h1,h2,_⟩:=p
  exact W.kia_one W.kitx_dict I.kIn ⟨o,h1,h2.1⟩ e (fun z=>nomatch z) h
 | @dT a kvs ea=>
  cases(show u=Value.ref a from rx)
  obtain⟨_,_,xs,_,o,es,ep,h1,h2,_⟩:=(show ObjOk X.prog X.w H s.heap a (.dT kvs) from I.hok a _ ea)
  exact W.kia_one W.kitx_dict I.kIn ⟨o,h1,h2.1⟩ e (fun z=>nomatch z) h
 | @ins a C dx fs ea cl ha hn htk hm=>
  cases(show u=Value.ref a from rx)
  obtain⟨mA,O,_⟩:=ins_get I.hok ea
  obtain⟨od,J,_⟩:=O.look
  exact W.kia_one (W.kitx_own (cl.get _) cl.hd ha hn htk hm) I.kIn J e (fun z=>nomatch z) h
end
structure Room (k:Nat) (A:Around):Prop where
 hd:A.handled=none
 dp:A.depth+3*k+5<recursionLimit
 un:A.units+16*k+200<cLine
 gd:A.guards=some []
theorem Room.mono {j k:Nat} {A:Around} (r:Room k A) (h:j<=k):Room j A:=⟨r.hd,by have:=r.dp;omega,by have:=r.un;omega,r.gd⟩
theorem Room.deeper {k:Nat} {A:Around} (r:Room (k+1) A) (env:Env):Room k (A.deeper env):=
 ⟨r.hd,by have:=r.dp;show A.depth+1+3*k+5<_;omega,by have:=r.un;show A.units+3+16*k+200<_;omega,r.gd⟩
theorem Room.depth {k:Nat} {A:Around} (r:Room k A):A.depth<recursionLimit:=by have:=r.dp;omega
theorem Room.units {k:Nat} {A:Around} (r:Room k A):A.units+64<cLine:=by have:=r.un;omega
noncomputable def tNil:TA:=fun _ H Q=>Q [] H
noncomputable def tCons (ta:TE) (tr:TA):TA:=fun σ H Q=>ta σ H fun x H1=>tr σ H1 fun xs H2=>Q (x :: xs) H2
section
variable {X:Cx} {e:Expr} {es:List Expr} {te:TE} {t:TA} {pos:Pos}
theorem pa_nil:PA X [] tNil:=fun _ _ _ _ H Q I h=>Calls.spliced_nil ⟨[],H,I,.nil,h⟩
theorem pa_cons (ha:PE X e te) (hr:PA X es t) (hs:starEach (e :: es) X.env=(false,eval e X.env) :: starEach es X.env:=by rfl):PA X (e :: es) (tCons te t):=by
 intro pos pins s σ H Q I h
 rw[hs]
 show wpAny _ _ (spliced ((false,eval e X.env) :: backTo pos (starEach es X.env))) _ _ s
 refine Calls.spliced_cons (thn (ha pins s σ H _ I h) fun u s1 ⟨x,H1,I1,r1,q1⟩=>?_)
 exact thn (hr pos pins s1 σ H1 _ I1 q1) fun us s2 ⟨xs,H2,I2,r2,q2⟩=>⟨x :: xs,H2,I2,.cons r1 r2,q2⟩
noncomputable def tTup (t:TA):TE:=fun σ H Q=>t σ H fun xs H1=>xs.length<=sizeLine/\∀p,H1 p=none->Q (.ref p) (upd H1 p (.tup xs))
noncomputable def tLst (t:TA):TE:=fun σ H Q=>t σ H fun xs H1=>xs.length<=sizeLine/\∀p,H1 p=none->Q (.ref p) (upd H1 p (.lst xs))
theorem pe_tup {x1} (h:PA X es t):PE X (.Tuple es x1 pos) (tTup t):=by
 intro pins s σ H Q I hq
 refine wpAny_Tuple_spliced (thn (h pos pins s σ H _ I hq) fun us s1 ⟨xs,H1,I1,r,z,q⟩=>⟨by rw[<- r.length];exact z,?_⟩)
 have hf:H1 s1.heap.objs.size=none:=I1.hok.fresh (Nat.le_refl _)
 refine⟨.ref s1.heap.objs.size,upd H1 s1.heap.objs.size (.tup xs),I1.laid (t':=s1.toks) (fun b u e=>Heap.get?_push_of_some _ e) (Nat.le_refl _) ?_,rfl,q _ hf⟩
 exact⟨z,us,r,⟨_,Heap.get?_push_size _ rfl,rfl,⟨_,rfl⟩,rfl⟩⟩
theorem pe_lst (h:PA X es t):PE X (.List es pos) (tLst t):=by
 intro pins s σ H Q I hq
 refine wpAny_List_spliced (thn (h pos pins s σ H _ I hq) fun us s1 ⟨xs,H1,I1,r,z,q⟩=>⟨by rw[<- r.length];exact z,?_⟩)
 have hf:H1 s1.heap.objs.size=none:=I1.hok.fresh (Nat.le_refl _)
 refine⟨.ref s1.heap.objs.size,upd H1 s1.heap.objs.size (.lst xs),I1.laid (t':=s1.toks) (fun b u e=>Heap.get?_push_of_some _ e) (Nat.le_refl _) ?_,rfl,q _ hf⟩
 exact⟨z,us,0,r,Heap.get?_push_size _ rfl⟩
end
noncomputable abbrev Sp:=List V->Hp->VK->XK->Prop
noncomputable abbrev CXT:=List Env->Hp->Shared->XK->Value->Shared->Prop
structure Env0 (P:Program) (w:World) (K:W.Frag) (mg:Str->Option Value) (base:Heap) (A:Around) (outer:List Env) (s:Shared) (H:Hp):Prop where
 frames:A.frames=some outer
 mod:Mod K mg base
 bs:∀b o,base.get? b=some o->s.heap.get? b=some o/\H b=none
 bsz:base.objs.size<=s.heap.objs.size
 funs:s.heap.FunFrames base outer
 frf:∀b∈frs outer,H b=none
 hok:HOk P w H s.heap
 bare:AllBare s.gens
def CE (outer:List Env) (P:Program) (w:World) (H:Hp) (s:Shared) (Q:VK) (u:Value) (s':Shared):Prop:=
 ∃v H',s'.os=s.os/\AllBare s'.gens/\Un (frs outer) [] H H' s.heap s'.heap/\HOk P w H' s'.heap/\RelV v u/\Q v H'
def CR (CX:CXT) (outer:List Env) (P:Program) (w:World) (H:Hp) (s:Shared) (Q:VK) (E:XK) (r:Result) (s':Shared):Prop:=
 match r with
 | .ok (.ret u)=>CE outer P w H s Q u s'
 | .ok _=>False
 | .error e=>CX outer H s E e s'
structure FnOk (P:Program) (w:World) (K:W.Frag) (mg:Str->Option Value) (base:Heap) (CX:CXT) (k:Nat) (f:Addr) (fd:FuncData) (ps:List Str) (sp:Sp):Prop where
 len:∀vs H Q E,sp vs H Q E->vs.length=ps.length
 run:∀(A:Around) (outer:List Env) (s:Shared) (H:Hp) (args:Args) (us:List Value) (vs:List V) (Q:VK) (E:XK),Room k A->Env0 P w K mg base A outer s H->BindsTo s fd args (ps.zip us)->Vals vs us->sp vs H Q E->
  codeAny (model P w) A (.call (.ref f) args) (CR CX outer P w H s Q E) s
theorem FnOk.mono {P:Program} {w:World} {K:W.Frag} {mg:Str->Option Value} {base:Heap} {CX:CXT} {j k:Nat} {f:Addr} {fd:FuncData} {ps:List Str} {sp:Sp} (F:FnOk P w K mg base CX j f fd ps sp) (h:j<=k):
  FnOk P w K mg base CX k f fd ps sp:=⟨F.len,fun A outer s H args us vs Q E hr=>F.run A outer s H args us vs Q E (hr.mono h)⟩
section
variable {X:Cx} {pins:List (Addr×Obj)} {σ:St} {H:Hp} {s s':Shared}
theorem Inv.env0 (I:Inv X pins σ H s):Env0 X.prog X.w X.K X.mg X.base X.A X.stack s H:=
 ⟨I.ok.frames,I.ok.mod,I.bs,Nat.le_trans I.ok.bsz I.sz,I.stack,I.stkFree,I.hok,I.bare⟩
theorem Inv.after {Q:VK} {u:Value} (I:Inv X pins σ H s) (h:CE X.stack X.prog X.w H s Q u s'):EP X pins σ Q u s':=by
 obtain⟨v,H',os,bare,un,hok,r,q⟩:=h
 obtain⟨hh,g,d,t,os'⟩:=s'
 obtain rfl:os'=s.os:=os
 exact⟨v,H',I.call (h':=hh) (g':=g) (d':=d) (t':=t) (ch:=[]) un hok bare (fun b z=>absurd z (by simp)),r,q⟩
end
noncomputable def tCall (sp:Sp) (dvs:List V) (E:XK) (t:TA):TE:=fun σ H Q=>t σ H fun vs H1=>sp (vs++dvs) H1 Q E
def Binds (K:W.Frag) (fd:FuncData) (ps:List Str) (ds:List Value):Prop:=
 ∀(s:Shared) (us:List Value),K.In s.heap->(us++ds).length=ps.length->BindsTo s fd ⟨us,[]⟩ (ps.zip (us++ds))
theorem Binds.all {K:W.Frag} {fd:FuncData} {ps:List Str} (h:∀us:List Value,us.length=ps.length->bindArgs fd ⟨us,[]⟩=pure (ps.zip us)):Binds K fd ps []:=fun s us _ hl=>by
 rw[List.append_nil]at hl ⊢
 exact .of_eq (h us hl)
section
variable {X:Cx} {CX:CXT} {k:Nat} {f C:Addr} {fd:FuncData} {ps:List Str} {sp:Sp} {dvs:List V} {ds:List Value} {E:XK} {x m:Str} {p pos apos:Pos} {e o:Expr} {es:List Expr} {ta:TE} {t:TA}
structure Mk (K:W.Frag) (C f:Addr):Prop where
 makes:W.makesIn K C=true
 init:W.findIn K (.ref C) "__init__"=some (some (.ref f))
 fn:W.isFn K (.ref f)=true
 kp:W.keepIn K (.ref C)=true
end
section
variable {X:Cx} {CX:CXT} {k:Nat} {f C:Addr} {fd:FuncData} {ps ks:List Str} {sp:Sp} {E:XK} {x m:Str} {p pos apos kpos:Pos} {e o:Expr} {es:List Expr} {kws:List Keyword} {te ta:TE} {t tk:TA} {nm:Option Str}
structure KBinds (K:W.Frag) (fd:FuncData) (ps ks:List Str) (g:List Value->List Value->List Value) (gV:List V->List V->List V):Prop where
 to:∀(s:Shared) (us ws:List Value),K.In s.heap->(g us ws).length=ps.length->BindsTo s fd ⟨us,ks.zip ws⟩ (ps.zip (g us ws))
 rel:∀{vs:List V} {us:List Value} {zs:List V} {ws:List Value},Vals vs us->Vals zs ws->Vals (gV vs zs) (g us ws)
variable {g:List Value->List Value->List Value} {gV:List V->List V->List V}
end
structure FnScope (N P:List Str) (sc:Scope):Prop where
 kind:sc.kind=.function
 co:sc.isCoroutine=false
 gen:sc.isGenerator=false
 nd:N.Nodup
 pre:N.take P.length=P
 par:∀x∈P,sc.names.lookup x=some .local\/sc.names.lookup x=some .cell
 nofree:∀y∈sc.names,y.2≠.free
theorem bindL_out {kindOf:Str->Option NameKind} {x:Str}:∀{binds:List (Str×Value)} {m:Str->Option Value},(∀v,(x,v)∉binds)->bindL kindOf binds m x=m x
 | [],_,_=>rfl
 |(n,v) :: r,m,h=>by
  unfold bindL
  rw[bindL_out fun w hw=>h w (List.mem_cons_of_mem _ hw)]
  split
  .have:x≠n:=by rintro rfl;exact h v List.mem_cons_self
   simp[this]
  .rfl
theorem bindC_out {kindOf:Str->Option NameKind} {x:Str}:∀{binds:List (Str×Value)} {m:Str->Option Value},(∀v,(x,v)∉binds)->bindC kindOf binds m x=m x
 | [],_,_=>rfl
 |(n,v) :: r,m,h=>by
  unfold bindC
  rw[bindC_out fun w hw=>h w (List.mem_cons_of_mem _ hw)]
  split
  .rfl
  .have:x≠n:=by rintro rfl;exact h v List.mem_cons_self
   simp[this]
theorem bindL_get {kindOf:Str->Option NameKind} {x:Str} {v:Value}:∀{P:List Str} {vs:List Value} {i:Nat} {m:Str->Option Value},P.Nodup->P[i]?=some x->vs[i]?=some v->kindOf x=some .local->
  bindL kindOf (P.zip vs) m x=some v
 | [],_,_,_,_,h,_,_=>by simp at h
 |_ :: _,[],_,_,_,_,h,_=>by simp at h
 |p :: P,w :: vs,0,m,nd,h1,h2,hk=>by
  simp at h1 h2;subst h1;subst h2
  show bindL kindOf ((p,w) :: P.zip vs) m p=_
  unfold bindL
  rw[bindL_out fun v hv=>(List.nodup_cons.mp nd).1 (List.of_mem_zip hv).1,if_pos hk]
  simp
 |p :: P,w :: vs,i+1,m,nd,h1,h2,hk=>by
  show bindL kindOf ((p,w) :: P.zip vs) m x=_
  unfold bindL
  exact bindL_get (i:=i) (List.nodup_cons.mp nd).2 (by simpa using h1) (by simpa using h2) hk
theorem bindC_get {kindOf:Str->Option NameKind} {x:Str} {v:Value}:∀{P:List Str} {vs:List Value} {i:Nat} {m:Str->Option Value},P.Nodup->P[i]?=some x->vs[i]?=some v->kindOf x≠some .local->
  bindC kindOf (P.zip vs) m x=some v
 | [],_,_,_,_,h,_,_=>by simp at h
 |_ :: _,[],_,_,_,_,h,_=>by simp at h
 |p :: P,w :: vs,0,m,nd,h1,h2,hk=>by
  simp at h1 h2;subst h1;subst h2
  show bindC kindOf ((p,w) :: P.zip vs) m p=_
  unfold bindC
  rw[bindC_out fun v hv=>(List.nodup_cons.mp nd).1 (List.of_mem_zip hv).1,if_neg hk]
  simp
 |p :: P,w :: vs,i+1,m,nd,h1,h2,hk=>by
  show bindC kindOf ((p,w) :: P.zip vs) m x=_
  unfold bindC
  exact bindC_get (i:=i) (List.nodup_cons.mp nd).2 (by simpa using h1) (by simpa using h2) hk
noncomputable def start (N:List Str) (vs:List V):St:=vs.map some++List.replicate (N.length-vs.length) none
noncomputable def cxOf (CX:CXT) (P:Program) (w:World) (K:W.Frag) (mg:Str->Option Value) (base:Heap) (N:List Str) (qual:Str) (scope:Scope) (f:Addr) (cd:Value) (A:Around) (outer:List Env) (s:Shared) (H:Hp) (E:XK):Cx where
 prog:=P
 w:=w
 K:=K
 mg:=mg
 base:=base
 A:=A.deeper (envOfC qual scope s.heap.objs.size f cd)
 N:=N
 s₀:=s
 H₀:=H
 env:=envOfC qual scope s.heap.objs.size f cd
 outer:=outer
 stack:=envOfC qual scope s.heap.objs.size f cd :: outer
 ex:=[]
 calm:=true
 fn:=fun _=>true
 pn:=[]
 xe:=fun e s'=>wpAny (model P w) (A.deeper (envOfC qual scope s.heap.objs.size f cd)) (leaving (envOfC qual scope s.heap.objs.size f cd) e) (fun _ s''=>CX outer H s E e s'') (fun e' s''=>CX outer H s E e' s'') s'
theorem cell_has {sc:Scope} {n:Nat} {x:Str} (h:sc.names.lookup x=some .cell):∃c,(cellsFrom n sc.names []).lookup x=some c:=by
 have q:=W.cellsFrom_some sc.names n [] (.inl h)
 exact Option.isSome_iff_exists.mp q
theorem inv_start {CX:CXT} {P:Program} {w:World} {K:W.Frag} {mg:Str->Option Value} {base:Heap} {N ps:List Str} {qual:Str} {scope:Scope} {f:Addr} {cd:Value} {A:Around} {outer:List Env} {s s1:Shared} {H:Hp} {E:XK} {us:List Value} {vs:List V}
  (S:FnScope N ps scope) (hd:A.handled=none) (e0:Env0 P w K mg base A outer s H) (hl:vs.length=ps.length) (r:Vals vs us)
  (x:InCallC s s.heap.objs.size (bindL (envOfC qual scope s.heap.objs.size f cd).kindOf (ps.zip us) fun _=>none) (cellsFrom (s.heap.objs.size+1) scope.names []) (bindC (envOfC qual scope s.heap.objs.size f cd).kindOf (ps.zip us) fun _=>none) s1):
  Inv (cxOf CX P w K mg base N qual scope f cd A outer s H E) [] (start N vs) H s1:=by
 have hpl:ps.length<=N.length:=by have:=congrArg List.length S.pre;rw[List.length_take]at this;omega
 obtain⟨h1,tk,rfl,hk⟩:=x.done
 have noA:∀b:Addr,b∉(cxOf CX P w K mg base N qual scope f cd A outer s H E).ex:=fun b z=>absurd (show b∈([]:List Addr) from z) (by simp)
 refine⟨⟨e0.mod,S.kind,rfl,rfl,Nat.le_refl _,fun y z c h1 h2=>?_,fun y hy=>?_,fun y c _ h=>?_,fun _=>hd,Around.frames_deeper e0.frames,.inr ⟨rfl,rfl⟩,fun b z=>absurd z (noA b),e0.bs,e0.bsz,fun b _ _=>noA b,fun b z=>absurd z (noA b),e0.funs,e0.frf⟩,
  rfl,e0.bare,Un.kept hk,⟨_,x.toInCall.ns,fun i y v h1 h2 h3=>?_⟩,fun y c h=>⟨_,x.cell y c h⟩,e0.hok.fresh (Nat.le_refl _),fun y c h=>?_,fun p hp=>absurd (show p∈([]:List (Addr×Obj)) from hp) (by simp),e0.hok.kept hk,?_⟩
 .exact name_of_addr x.apart (PySem.mem_of_lookup h1) (PySem.mem_of_lookup h2)
 .have hy:scope.names.lookup y=some .cell\/scope.names.lookup y=some .free:=hy
  rcases hy with hy|hy
  .exact cell_has hy
  .exact absurd rfl (S.nofree _ (PySem.mem_of_lookup hy))
 .exact Nat.le_of_lt (x.above y c (PySem.mem_of_lookup h))
 .have hi:i<vs.length:=by
   unfold start at h2
   by_cases hi:i<vs.length
   .exact hi
   .rw[List.getElem?_append_right (by simpa using hi)]at h2
    rw[List.getElem?_replicate]at h2
    split at h2<;>cases h2
  have ha:vs[i]?=some v:=by
   unfold start at h2
   rw[List.getElem?_append_left (by simpa using hi),List.getElem?_map]at h2
   cases e:vs[i]? with
   |none=>rw[e]at h2;cases h2
   |some a=>rw[e]at h2;cases h2;rfl
  obtain⟨u,hu,rv⟩:=r.get ha
  have hp:ps[i]?=some y:=by
   rw[<- S.pre,List.getElem?_take_of_lt (by omega)];exact h1
  have ndP:ps.Nodup:=by rw[<- S.pre];exact S.nd.sublist (List.take_sublist _ _)
  refine⟨u,rv,?_⟩
  rcases S.par y (List.mem_of_getElem? hp)with k|k
  .exact .inl ⟨k,bindL_get ndP hp hu k⟩
  .obtain⟨c,e⟩:=cell_has (n:=s.heap.objs.size+1) k
   refine .inr ⟨.inl k,c,e,?_⟩
   have q:=x.cell y c e
   rw[bindC_get ndP hp hu (by show scope.names.lookup y≠_;rw[k];decide)]at q
   exact q
 .exact e0.hok.fresh (Nat.le_of_lt (x.above y c (PySem.mem_of_lookup h)))
 .unfold start
  show _=N.length
  rw[List.length_append,List.length_map,List.length_replicate]
  omega
theorem fn_of {CX:CXT} {P:Program} {w:World} {K:W.Frag} {mg:Str->Option Value} {base:Heap} {k:Nat} {f:Addr} {name qual:Str} {params:Arguments} {body:List Stmt} {scope:Scope} {dV kV doc pm cdv ct oc:Value} {an od:Option Addr}
  {osl:Array (Option Value)} {N ps:List Str} {sp:Sp} (lk:K.lookup f=some ⟨oc,od,.func (W.fnOf name qual params body scope dV kV doc pm an cdv ct),osl⟩) (hcd:W.codeIn K cdv qual=true) (S:FnScope N ps scope)
  (len:∀vs H Q E,sp vs H Q E->vs.length=ps.length)
  (hbody:∀(A:Around) (outer:List Env) (s:Shared) (H:Hp) (vs:List V) (Q:VK) (E:XK),Room k (A.deeper (envOfC qual scope s.heap.objs.size f cdv))->sp vs H Q E->
   ∃t,PSs (cxOf CX P w K mg base N qual scope f cdv A outer s H E) body t/\t { nx:=fun _ H'=>Q .non H',rt:=Q } (start N vs) H):
  FnOk P w K mg base CX (k+1) f (W.fnOf name qual params body scope dV kV doc pm an cdv ct) ps sp:=by
 refine⟨len,fun A outer s H args us vs Q E hr e0 hb r hsp=>?_⟩
 have hl:=len _ _ _ _ hsp
 have KX:K.In s.heap:=e0.mod.kin.keeps fun b o e=>(e0.bs b o e).1
 have lim:s.heap.NoLimit:=e0.mod.nolimit.keeps fun b o e=>(e0.bs b o e).1
 have hkind:∀y∈ps.zip us,scope.names.lookup y.1=some .local\/(scope.names.lookup y.1=some .cell/\((cellsFrom (s.heap.objs.size+1) scope.names []).lookup y.1).isSome=true):=fun⟨n,v⟩ hy=>by
  rcases S.par n (List.of_mem_zip hy).1 with q|q
  .exact .inl q
  .exact .inr ⟨q,W.cellsFrom_some _ _ _ (.inl q)⟩
 refine codeAny_call_function hr.depth (KX _ _ lk) rfl S.co S.gen rfl (W.codeRec_of KX hcd) (hb _ _ _ _ ?_)
 refine wpAny_newFunctionEnv_cells S.kind hkind fun env he s1 x=>?_
 subst he
 refine⟨lim.keeps x.toInCall.keep,codeAny_func ?_⟩
 obtain⟨t,ht,hq⟩:=hbody A outer s H vs Q E (hr.deeper _) hsp
 have I:Inv (cxOf CX P w K mg base N qual scope f cdv A outer s H E) [] (start N vs) H s1:=inv_start S hr.hd e0 hl r x
 refine wpAny_mono (ht [] s1 (start N vs) H _ I hq) (fun fl s' hs=>?_) fun e s' hs=>hs
 have fin:∀{σ':St} {H':Hp} {v:V} {u:Value},Inv (cxOf CX P w K mg base N qual scope f cdv A outer s H E) [] σ' H' s'->RelV v u->Q v H'->CE outer P w H s Q u s':=
  fun {σ' H' v u} J rv q=>⟨v,H',J.os,J.bare,J.base,J.hok,rv,q⟩
 cases fl with
 |ret u=>
  obtain⟨v,σ',H',J,rv,q⟩:=hs
  exact fin J rv q
 |next=>
  obtain⟨σ',H',J,q⟩:=hs
  exact fin (v:=V.non) (u:=Value.none) J rfl q
 |brk=>
  obtain⟨_,_,_,q⟩:=hs
  exact False.elim q
 |cont=>
  obtain⟨_,_,_,q⟩:=hs
  exact False.elim q
section
variable {X:Cx} {x:Str} {p pos:Pos} {e:Expr} {es:List Expr} {t:TA} {id T:String} {r:List V->Hp->VK->Prop}
noncomputable def tCB (r:List V->Hp->VK->Prop) (t:TA):TE:=fun σ H Q=>t σ H fun vs H1=>r vs H1 Q
theorem pe_callB (hc:CallR X (.builtin id) r) (hg:Gl X x) (hm:X.mg x=none) (hv:bootBuiltins x=some (.builtin id)) (ha:PA X (e :: es) t) (hn:x≠"__name__":=by decide) (hdb:(x == ("__debug__":Str))=false:=by decide)
  (he:starEach (e :: es) X.env=(false,eval e X.env) :: starEach es X.env:=by rfl) (hpl:(backTo pos (starEach es X.env)).any (·.1)=false:=by rfl):PE X (.Call (.Name x p) (e :: es) [] pos) (tCB r t):=by
 intro pins s σ H Q I h
 refine wpAny_Call_Name_kw (ld_blt I hg hm hv ?_ hn hdb)
 exact PyProof.Rows.callWith_builtin1 (thn (ha pos pins s σ H _ I h) fun us s1 ⟨vs,H1,I1,r1,q1⟩=>hc pins s1 σ H1 vs us Q I1 r1 q1) he hpl
theorem pe_callTy (hc:CallR X (.type T) r) (hg:Gl X x) (hm:X.mg x=none) (hv:bootBuiltins x=some (.type T)) (ha:PA X (e :: es) t) (hn:x≠"__name__":=by decide) (hdb:(x == ("__debug__":Str))=false:=by decide)
  (he:starEach (e :: es) X.env=(false,eval e X.env) :: starEach es X.env:=by rfl) (hpl:(backTo pos (starEach es X.env)).any (·.1)=false:=by rfl):PE X (.Call (.Name x p) (e :: es) [] pos) (tCB r t):=by
 intro pins s σ H Q I h
 refine wpAny_Call_Name_kw (ld_blt I hg hm hv ?_ hn hdb)
 exact PyProof.Rows.callWith_type1 (thn (ha pos pins s σ H _ I h) fun us s1 ⟨vs,H1,I1,r1,q1⟩=>hc pins s1 σ H1 vs us Q I1 r1 q1) he hpl
end
end L2
namespace HT
open PySem PyProof.Rows
section
open PySem.SeqAt
open PySem.AutoSeq1 (wpAny_loadPart')
open PySem.MeetsSeq PySem.MeetsSeq2 PySem.MeetsSeq3
end
section
variable {prog:Program} {w:World} {A:Around} {E:Value->Shared->Prop} {s:Shared}
theorem cat_tup {t b:Addr} {vs ws:List Value} {Q:Value->Shared->Prop} (ht:IsTup s.heap t vs.toArray) (hb:IsTup s.heap b ws.toArray) (hv:vs≠[])
  (h1:ws=[]->Q (.ref t) s) (h2:ws≠[]->Q (.ref s.heap.objs.size) { s with heap:=s.heap.push { cls:=.type "tuple",data:=.seq (vs++ws).toArray } })
  (hsz:vs.length+ws.length<=sizeLine):wpAny (model prog w) A (binaryOp .Add (.ref t) (.ref b)) Q E s:=by
 obtain⟨⟨cls,dd,data,sl⟩,ho,hc,n,hd⟩:=id ht
 obtain⟨⟨cls2,dd2,data2,sl2⟩,ho2,hc2,n2,hd2⟩:=id hb
 simp only at hc hd hc2 hd2
 subst hc hd hc2 hd2
 have e:vs.toArray++ws.toArray=(vs++ws).toArray:=by simp
 by_cases hw:ws=[]
 .exact concat_meets ⟨_,ho,rfl⟩ ⟨_,ho2,rfl⟩ noFill_tuple_add seq_tuple_add PySem.F.slot_tuple_add PySem.F.entry_tuple_add (PySem.F.args_tuple_add_2 _ _)
   (tuple_addW1 t b vs.toArray ws.toArray n n2 dd dd2 sl sl2 (by simpa using hv) (by simp[hw])) ⟨ho,ho2,h1 hw⟩
 .refine concat_meets ⟨_,ho,rfl⟩ ⟨_,ho2,rfl⟩ noFill_tuple_add seq_tuple_add PySem.F.slot_tuple_add PySem.F.entry_tuple_add (PySem.F.args_tuple_add_2 _ _)
   (tuple_addW2 t b vs.toArray ws.toArray n n2 dd dd2 sl sl2 (by simpa using hv) (by simpa using hw) (by rw[List.size_toArray,List.size_toArray];exact hsz)) ⟨ho,ho2,?_⟩
  rw[e]
  exact h2 hw
noncomputable def sIx (n d:Nat):Option Int->Nat
 |none=>d
 |some v=>if v<0 then(v+(n:Int)).toNat else min v.toNat n
theorem sIx_none (n d:Nat):sIx n d none=d:=rfl
theorem sIx_nat (n d k:Nat):sIx n d (some (k:Int))=min k n:=by
 show(if(k:Int)<0 then((k:Int)+(n:Int)).toNat else min (k:Int).toNat n)=min k n
 rw[if_neg (by omega),Int.toNat_natCast]
theorem sIx_le (n d:Nat) (hd:d<=n) (o:Option Int):sIx n d o<=n:=by
 cases o with
 |none=>exact hd
 |some v=>
  show(if v<0 then(v+(n:Int)).toNat else min v.toNat n)<=n
  by_cases hv:v<0
  .rw[if_pos hv];omega
  .rw[if_neg hv];exact Nat.min_le_right _ _
theorem clip_eq (v:Int) (n d:Nat):(if v<0 then max (v+(n:Int)) 0 else min v (n:Int))=((sIx n d (some v):Nat):Int):=by
 show(if v<0 then max (v+(n:Int)) 0 else min v (n:Int))=(((if v<0 then(v+(n:Int)).toNat else min v.toNat n):Nat):Int)
 by_cases hv:v<0
 .simp only[if_pos hv];omega
 .simp only[if_neg hv];omega
theorem adjust_gen (lo hi:Option Int) (n:Nat):Builtin.Slice.sliceAdjust lo hi 1 (n:Int)=(((sIx n 0 lo:Nat):Int),((sIx n n hi:Nat):Int)):=by
 have h1:¬((1:Int)<0):=by omega
 unfold Builtin.Slice.sliceAdjust
 simp only[h1,if_false]
 refine Prod.ext ?_ ?_
 .cases lo with
  |none=>rfl
  |some v=>exact clip_eq v n 0
 .cases hi with
  |none=>rfl
  |some v=>exact clip_eq v n n
theorem places_gen (i j:Nat):Builtin.Slice.slicePlaces (i:Int) (j:Int) 1=j-i:=by
 unfold Builtin.Slice.slicePlaces
 have h1:(1:Int) > 0:=by omega
 simp only[h1,if_true,Int.ediv_one]
 split<;>omega
theorem slicePart_ {v:Value} {o:Option Int} {Q:Option Int->Shared->Prop} (p:IsPart v o) (h:Q o s):wpAny (model prog w) A (Builtin.Slice.slicePartIndex v) Q E s:=by
 cases p with
 |none=>exact slicePart_none h
 |int i t=>exact slicePart_int h
theorem sliceApplied_gen {sl:Addr} {vl vu:Value} {lo hi:Option Int} {n:Nat} {Q:Int×Int×Nat->Shared->Prop} (hs:s.heap.IsSliceOf sl vl vu .none) (pl:IsPart vl lo) (pu:IsPart vu hi)
  (h:Q (((sIx n 0 lo:Nat):Int),1,sIx n n hi-sIx n 0 lo) s):wpAny (model prog w) A (Builtin.Slice.sliceApplied (.ref sl) (pure (n:Int))) Q E s:=by
 obtain⟨os,hos,hcs,hds⟩:=id hs
 unfold Builtin.Slice.sliceApplied Builtin.Slice.sliceFields
 refine wpAny_bind (wpAny_bind (wpAny_field hos hds (x:=vl) rfl (wpAny_bind (wpAny_field hos hds (x:=vu) rfl (wpAny_bind (wpAny_field hos hds (x:=.none) rfl (wpAny_pure ?_)))))))
 refine wpAny_bind (slicePart_none ?_)
 show wpAny _ _ (if((1:Int) == 0)=true then _ else _) _ _ s
 rw[if_neg (by decide)]
 refine wpAny_bind (slicePart_ pl (wpAny_bind (slicePart_ pu (wpAny_bind (wpAny_pure ?_)))))
 show wpAny _ _ (match Builtin.Slice.sliceAdjust lo hi 1 (n:Int)with|(lo,hi)=>pure (lo,(1:Int),Builtin.Slice.slicePlaces lo hi 1)) _ _ s
 rw[adjust_gen lo hi n]
 show wpAny _ _ (pure (((sIx n 0 lo:Nat):Int),(1:Int),Builtin.Slice.slicePlaces ((sIx n 0 lo:Nat):Int) ((sIx n n hi:Nat):Int) 1)) _ _ s
 rw[places_gen]
 exact wpAny_pure h
theorem pick_gen (xs:Array Value) (i k:Nat):((List.range k).filterMap fun(m:Nat)=>xs[((i:Int)+(m:Int)*1).toNat]?).toArray=((xs.toList.drop i).take k).toArray:=by
 have e:(fun(m:Nat)=>xs[((i:Int)+(m:Int)*1).toNat]?)=fun m=>xs[i+m]?:=by
  funext m
  have:((i:Int)+(m:Int)*1).toNat=i+m:=by omega
  rw[this]
 rw[e]
 have:=pick_run xs i k
 rw[List.filterMap_map]at this
 have e2:((fun x=>xs[x]?)∘fun x=>i+x)=fun m=>xs[i+m]?:=rfl
 rw[e2]at this
 rw[this]
theorem getItem_tuple_cut {t sl:Addr} {items:Array Value} {vl vu:Value} {lo hi:Option Int} {Q:Value->Shared->Prop} (ht:IsTup s.heap t items) (hs:s.heap.IsSliceOf sl vl vu .none) (pl:IsPart vl lo) (pu:IsPart vu hi)
  (hw:¬(sIx items.size 0 lo=0/\sIx items.size items.size hi=items.size))
  (h:Q (.ref s.heap.objs.size) { s with heap:=s.heap.push { cls:=.type "tuple",data:=.seq ((items.toList.drop (sIx items.size 0 lo)).take (sIx items.size items.size hi-sIx items.size 0 lo)).toArray } })
  (hsz:items.size<=sizeLine):wpAny (model prog w) A (getItem (.ref t) (.ref sl)) Q E s:=by
 have htake:sizeOk (.seq ((items.toList.drop (sIx items.size 0 lo)).take (sIx items.size items.size hi-sIx items.size 0 lo)).toArray):=by
  show((items.toList.drop (sIx items.size 0 lo)).take (sIx items.size items.size hi-sIx items.size 0 lo)).toArray.size<=sizeLine
  rw[List.size_toArray,List.length_take,List.length_drop,Array.length_toList]
  omega
 have hj:sIx items.size items.size hi<=items.size:=sIx_le _ _ (Nat.le_refl _) hi
 obtain⟨os,hos,hcs,hds⟩:=id hs
 have hTs:s.TypeIs (.ref sl) "slice":=⟨os,hos,hcs⟩
 unfold getItem
 try with_reducible refine wpAny_holding ?_
 first|refine wpAny_bind (wpAny_pure ?_)|skip
 refine wpAny_bind (wpAny_sequenceKey ht.typeIs (by decide) ?_)
 refine wpAny_bind (wpAny_callSpecial?_slot (name:=Str.ofString "__getitem__") ht.typeIs PyProof.Rows.slot_tuple_getitem
  (wpAny_call_entry PyProof.Rows.slot_tuple_getitem ht.typeIs entry_tuple_getitem ?_ (args_tuple_getitem _ _)))
 show wpAny _ _ (Builtin.Tuple.tupleItemsOf (.ref t) >>= _) _ _ s
 refine wpAny_bind (tupleItemsOf_ ht ?_)
 refine wpAny_bind (wpAny_typeOf hTs ?_)
 rw[if_pos (by decide)]
 refine wpAny_bind (sliceApplied_gen hs pl pu ?_)
 have hno:¬((((sIx items.size 0 lo:Nat):Int) == 0&&(1:Int) == 1&&(sIx items.size items.size hi-sIx items.size 0 lo) == items.size)=true):=by
  intro q
  rw[Bool.and_eq_true,Bool.and_eq_true]at q
  have q1:((sIx items.size 0 lo:Nat):Int)=0:=eq_of_beq q.1.1
  have q2:sIx items.size items.size hi-sIx items.size 0 lo=items.size:=eq_of_beq q.2
  exact hw ⟨by omega,by omega⟩
 show wpAny _ _ (if(((sIx items.size 0 lo:Nat):Int) == 0&&(1:Int) == 1&&(sIx items.size items.size hi-sIx items.size 0 lo) == items.size)=true then _ else _) _ _ s
 rw[if_neg hno,pick_gen]
 first
  |exact wpAny_bind (m:=Builtin.Tuple.tupleExact _) (wpAny_newObj_type (wpAny_pure ⟨_,rfl,wpAny_pure h⟩) htake)
  |exact wpAny_bind (m:=Builtin.Tuple.tupleExact _) (wpAny_newObj_type (wpAny_bind (wpAny_pure (wpAny_pure ⟨_,rfl,wpAny_pure h⟩))) htake)
  |exact wpAny_bind (wpAny_bind (m:=Builtin.Tuple.tupleExact _) (wpAny_newObj_type (wpAny_pure (wpAny_pure ⟨_,rfl,wpAny_pure h⟩)) htake))
  |exact wpAny_bind (wpAny_bind (m:=Builtin.Tuple.tupleExact _) (wpAny_newObj_type (wpAny_pure ⟨_,rfl,wpAny_pure h⟩) htake))
end
end HT
namespace L2
open PySem PySem.Spec PyProof.Rows
noncomputable abbrev TO:=St->Hp->(Option Int->Hp->Prop)->Prop
def PO (X:Cx) (e:Option Expr) (t:TO):Prop:=
 ∀(pins:List (Addr×Obj)) (s:Shared) (σ:St) (H:Hp) (Q:Option Int->Hp->Prop),Inv X pins σ H s->t σ H Q->
  wpAny (model X.prog X.w) X.A (evalPart e X.env) (fun u s'=>∃o H',Inv X pins σ H' s'/\IsPart u o/\Q o H') X.xe s
noncomputable def tNoPart:TO:=fun _ H Q=>Q none H
noncomputable def tPart (t:TE):TO:=fun σ H Q=>t σ H fun x H1=>∃i,x=.int i/\Q (some i) H1
section
variable {X:Cx} {e:Expr} {te:TE} {lo hi:Option Expr} {tl th:TO} {pos p2:Pos}
theorem po_none:PO X none tNoPart:=by
 intro pins s σ H Q I h
 rw[evalPart_none]
 exact wpAny_pure ⟨none,H,I,.none,h⟩
theorem po_some (h:PE X e te):PO X (some e) (tPart te):=by
 intro pins s σ H Q I hw
 rw[evalPart_some]
 refine thn (h pins s σ H _ I hw) fun u s1 ⟨x,H1,I1,r1,q1⟩=>?_
 obtain⟨i,rfl,q⟩:=q1
 obtain⟨t,rfl⟩:=r1
 exact⟨some i,H1,I1,.int i t,q⟩
def SlR (X:Cx) (r:V->Option Int->Option Int->Hp->VK->Prop):Prop:=
 ∀(pins:List (Addr×Obj)) (s:Shared) (σ:St) (H:Hp) (x:V) (v vl vu:Value) (lo hi:Option Int) (sl:Addr) (Q:VK),Inv X pins σ H s->RelV x v->s.heap.IsSliceOf sl vl vu .none->IsPart vl lo->IsPart vu hi->r x lo hi H Q->
  ∃T id,typeLookup (.type T) "__getitem__"=pure (some (.builtin id))/\s.TypeIs v T/\wpAny (model X.prog X.w) X.A (getItem v (.ref sl)) (EP X pins σ Q) X.xe s
theorem SlR.or {r r':V->Option Int->Option Int->Hp->VK->Prop} (h:SlR X r) (h':SlR X r'):SlR X (fun x lo hi H Q=>r x lo hi H Q\/r' x lo hi H Q):=by
 intro pins s σ H x v vl vu lo hi sl Q I rx hs pl pu q
 rcases q with q|q
 .exact h pins s σ H x v vl vu lo hi sl Q I rx hs pl pu q
 .exact h' pins s σ H x v vl vu lo hi sl Q I rx hs pl pu q
noncomputable def tSl (r:V->Option Int->Option Int->Hp->VK->Prop) (te:TE) (tl th:TO):TE:=fun σ H Q=>te σ H fun x H1=>tl σ H1 fun l H2=>th σ H2 fun u H3=>r x l u H3 Q
theorem pe_slice {r:V->Option Int->Option Int->Hp->VK->Prop} (hr:SlR X r) (he:PE X e te) (hl:PO X lo tl) (hu:PO X hi th):PE X (.Subscript e (.Slice lo hi none p2) pos) (tSl r te tl th):=by
 intro pins s σ H Q I h
 refine Subscript_ (thn (he pins s σ H _ I h) fun v s1 ⟨x,H1,I1,r1,q1⟩=>?_)
 refine wpAny_Slice (thn (hl pins s1 σ H1 _ I1 q1) fun vl s2 ⟨l,H2,I2,pl,q2⟩=>thn (hu pins s2 σ H2 _ I2 q2) fun vu s3 ⟨u,H3,I3,pu,q3⟩=>?_)
 rw[evalPart_none]
 refine wpAny_pure ?_
 have I4:Inv X pins σ H3 { s3 with heap:=s3.heap.push { cls:=.type "slice",data:=.fields #[vl,vu,.none] } }:=I3.kept (t':=s3.toks) fun b ob q=>Heap.get?_push_of_some _ q
 obtain⟨T,id,hT,ht,hg⟩:=hr pins { s3 with heap:=s3.heap.push { cls:=.type "slice",data:=.fields #[vl,vu,.none] } } σ H3 x v vl vu l u s3.heap.objs.size Q I4 r1 (Heap.IsSliceOf.new ..) pl pu q3
 show wpAny (model X.prog X.w) X.A (subscriptTail e (.Slice lo hi none p2) v (.ref s3.heap.objs.size)) (EP X pins σ Q) X.xe { s3 with heap:=s3.heap.push { cls:=.type "slice",data:=.fields #[vl,vu,.none] } }
 exact tail_any (ops:=[.ref s3.heap.objs.size,v]) ht hT hg (by with_unfolding_all rfl)
noncomputable def cutV (xs:List V) (lo hi:Option Int):List V:=(xs.drop (HT.sIx xs.length 0 lo)).take (HT.sIx xs.length xs.length hi-HT.sIx xs.length 0 lo)
theorem cutV_length (xs:List V) (lo hi:Option Int):(cutV xs lo hi).length<=xs.length:=by
 unfold cutV
 rw[List.length_take,List.length_drop]
 omega
noncomputable def rSlT (K:W.Frag):V->Option Int->Option Int->Hp->VK->Prop:=fun x lo hi H Q=>∃a xs,x=.ref a/\SqT K H a xs/\
 ¬(HT.sIx xs.length 0 lo=0/\HT.sIx xs.length xs.length hi=xs.length)/\∀p,H p=none->Q (.ref p) (upd H p (.tup (cutV xs lo hi)))
theorem sl_tup:SlR X (rSlT X.K):=by
 intro pins s σ H x v vl vu lo hi sl Q I rx hs pl pu h
 obtain⟨a,xs,rfl,hx,hw,q⟩:=h
 cases rx
 obtain⟨its,r,ht,hz⟩:=I.tuple hx
 have hlen:its.toArray.size=xs.length:=by rw[List.size_toArray];exact r.length.symm
 refine⟨"tuple",_,PyProof.Rows.slot_tuple_getitem.lookup,ht.typeIs,?_⟩
 refine HT.getItem_tuple_cut ht hs pl pu (by rw[hlen];exact hw) ?_ (by rw[hlen];exact hz)
 rw[hlen]
 refine⟨.ref s.heap.objs.size,_,I.laid (t':=s.toks) (o:=.tup (cutV xs lo hi)) (fun b ob q=>Heap.get?_push_of_some _ q) (Nat.le_refl _) ?_,rfl,q _ (I.hok.fresh (Nat.le_refl _))⟩
 exact⟨Nat.le_trans (cutV_length xs lo hi) hz,_,(r.drop (HT.sIx xs.length 0 lo)).take (HT.sIx xs.length xs.length hi-HT.sIx xs.length 0 lo),TupD.new _ _⟩
noncomputable def rCatT (K:W.Frag):R2:=fun x y H Q=>∃a b xs ys,x=.ref a/\y=.ref b/\SqT K H a xs/\SqT K H b ys/\xs≠[]/\xs.length+ys.length<=sizeLine/\
 (ys=[]->Q (.ref a) H)/\(ys≠[]->∀p,H p=none->Q (.ref p) (upd H p (.tup (xs++ys))))
theorem Vals.nil_iff {xs:List V} {us:List Value} (r:Vals xs us):us=[]↔xs=[]:=by
 cases r with
 |nil=>simp
 |cons _ _=>simp
theorem op_catT:OpR X (binaryOp .Add) (rCatT X.K):=by
 intro pins s σ H x y v u Q I rx ry h
 obtain⟨a,b,xs,ys,rfl,rfl,ha,hb,hx,hz,q1,q2⟩:=h
 cases rx
 cases ry
 obtain⟨its,r1,p1,_⟩:=I.tuple ha
 obtain⟨its2,r2,p2,_⟩:=I.tuple hb
 refine HT.cat_tup p1 p2 (fun z=>hx (r1.nil_iff.mp z)) (fun z=>⟨.ref a,H,I,rfl,q1 (r2.nil_iff.mp z)⟩) (fun z=>?_) (by rw[<- r1.length,<- r2.length];exact hz)
 refine⟨.ref s.heap.objs.size,_,I.laid (t':=s.toks) (o:=.tup (xs++ys)) (fun b ob q=>Heap.get?_push_of_some _ q) (Nat.le_refl _) ?_,rfl,q2 (fun w=>z (r2.nil_iff.mpr w)) _ (I.hok.fresh (Nat.le_refl _))⟩
 exact⟨by rw[List.length_append];exact hz,_,r1.append r2,TupD.new _ _⟩
end
noncomputable def ixN (n:Nat) (i:Int):Option Nat:=if 0<=i then(if i<n then some i.toNat else none)else if -(n:Int)<=i then some (i+n).toNat else none
noncomputable def atI {α:Type} (xs:List α) (i:Int):Option α:=(ixN xs.length i).bind fun j=>xs[j]?
theorem ixN_seq {n:Nat} {i:Int} {j:Nat} (h:ixN n i=some j):seqIndex? i n=some j/\j<n/\-(n:Int)<=i/\i<n:=by
 unfold ixN at h
 by_cases h0:0<=i
 .rw[if_pos h0]at h
  by_cases h1:i<n
  .rw[if_pos h1]at h
   have e:i.toNat=j:=Option.some.inj h
   exact⟨by rw[seqIndex_of h0 h1,e],by omega,by omega,h1⟩
  .rw[if_neg h1]at h;cases h
 .rw[if_neg h0]at h
  by_cases h1:-(n:Int)<=i
  .rw[if_pos h1]at h
   have e:(i+n).toNat=j:=Option.some.inj h
   exact⟨by rw[seqIndex_neg (by omega) h1,e],by omega,h1,by omega⟩
  .rw[if_neg h1]at h;cases h
theorem atI_get {α:Type} {xs:List α} {i:Int} {v:α} (h:atI xs i=some v):∃j,seqIndex? i xs.length=some j/\xs[j]?=some v/\j<xs.length/\-(xs.length:Int)<=i/\i<xs.length:=by
 unfold atI at h
 cases e:ixN xs.length i with
 |none=>rw[e]at h;cases h
 |some j=>
  rw[e]at h
  obtain⟨h1,h2,h3,h4⟩:=ixN_seq e
  exact⟨j,h1,h,h2,h3,h4⟩
theorem atI_nat {α:Type} {xs:List α} {j:Nat} {v:α} (h:xs[j]?=some v):atI xs (j:Int)=some v:=by
 have hj:j<xs.length:=(List.getElem?_eq_some_iff.mp h).1
 have e:ixN xs.length (j:Int)=some j:=by
  unfold ixN
  rw[if_pos (by omega),if_pos (by omega)];simp
 unfold atI;rw[e];exact h
def PlainIx (b:Expr):Prop:=∀o i,subscripted b false o i=operate [o,i] (getItem o i)
def IxR (X:Cx) (r:R2):Prop:=
 ∀(value slice:Expr) (pins:List (Addr×Obj)) (s:Shared) (σ:St) (H:Hp) (x y:V) (v u:Value) (Q:VK),Inv X pins σ H s->RelV x v->RelV y u->r x y H Q->
  subscripted slice false v u=operate [v,u] (getItem v u)->wpAny (model X.prog X.w) X.A (subscriptTail value slice v u) (EP X pins σ Q) X.xe s
def MtR (X:Cx) (id:String) (r:V->List V->Hp->VK->Prop):Prop:=
 ∀(pins:List (Addr×Obj)) (s:Shared) (σ:St) (H:Hp) (x:V) (xs:List V) (v:Value) (us:List Value) (Q:VK),Inv X pins σ H s->RelV x v->Vals xs us->r x xs H Q->
  wpAny (model X.prog X.w) X.A (call (.builtin id) (v :: us)) (EP X pins σ Q) X.xe s
section
variable {X:Cx} {a b:Expr} {ta tb:TE} {pos:Pos}
theorem IxR.or {r r':R2} (h:IxR X r) (h':IxR X r'):IxR X (fun x y H Q=>r x y H Q\/r' x y H Q):=by
 intro value slice pins s σ H x y v u Q I rx ry q hs
 rcases q with q|q
 .exact h value slice pins s σ H x y v u Q I rx ry q hs
 .exact h' value slice pins s σ H x y v u Q I rx ry q hs
theorem pe_ix {r:R2} (hr:IxR X r) (ha:PE X a ta) (hb:PE X b tb) (hs:PlainIx b):PE X (.Subscript a b pos) (tOp r ta tb):=by
 intro pins s σ H Q I h
 exact Subscript_ (binT ha hb I h fun v u s2 x y H2 I2 rx ry q=>hr a b pins s2 σ H2 x y v u Q I2 rx ry q (hs _ _))
noncomputable def rIxL (K:W.Frag):R2:=fun x y H Q=>∃p xs i v,x=.ref p/\y=.int i/\SqL K H p xs/\atI xs i=some v/\Q v H
noncomputable def rIxT (K:W.Frag):R2:=fun x y H Q=>∃p xs i v,x=.ref p/\y=.int i/\SqT K H p xs/\atI xs i=some v/\Q v H
noncomputable def rIxS:R2:=fun x y H Q=>∃z i c,x=.str z/\y=.int i/\z.length<=sizeLine/\atI z.cps.toList i=some c/\Q (.str ⟨#[c]⟩) H
theorem ix_list:IxR X (rIxL X.K):=by
 intro value slice pins s σ H x y v u Q I rx ry h hs
 obtain⟨p,xs,i,z,rfl,rfl,hq,he,q⟩:=h
 cases rx
 obtain⟨t,rfl⟩:=ry
 obtain⟨its,r,pl,hz⟩:=I.list hq
 obtain⟨j,h1,h2,h3,h4,h5⟩:=atI_get he
 obtain⟨w,ew,rw'⟩:=r.get h2
 have hl:=r.length
 have hn:=line63
 have fin:EP X pins σ Q w s:=⟨z,H,I,rw',q⟩
 by_cases h0:0<=i
 .have hj:i.toNat=j:=by
   rw[seqIndex_of h0 h5]at h1
   exact Option.some.inj h1
  exact item_listR pl.isList h0 (by omega) (by rw[hj];simpa using ew) fin hs
 .have hj:(i+(its.toArray.size:Int)).toNat=j:=by
   rw[seqIndex_neg (by omega) h4]at h1
   rw[List.size_toArray,<- hl]
   exact Option.some.inj h1
  exact subscriptTail_builtinR (x:=w) pl.isList.typeIs slot_list_getitem.lookup
   (wpAny_getItem_list_neg (Q:=fun r s'=>r=w/\EP X pins σ Q r s') pl.isList (by omega) (by rw[List.size_toArray]<;>omega) (by omega) (by rw[hj];simpa using ew) ⟨rfl,fin⟩) hs
theorem ix_tup:IxR X (rIxT X.K):=by
 intro value slice pins s σ H x y v u Q I rx ry h hs
 obtain⟨p,xs,i,z,rfl,rfl,hq,he,q⟩:=h
 cases rx
 obtain⟨t,rfl⟩:=ry
 obtain⟨its,r,pl,hz⟩:=I.tuple hq
 obtain⟨j,h1,h2,h3,h4,h5⟩:=atI_get he
 obtain⟨w,ew,rw'⟩:=r.get h2
 have hl:=r.length
 have hn:=line63
 have fin:EP X pins σ Q w s:=⟨z,H,I,rw',q⟩
 exact subscriptTail_builtinR (x:=w) pl.typeIs slot_tuple_getitem.lookup
  (getItem_tuple (j:=j) (Q:=fun r s'=>r=w/\EP X pins σ Q r s') pl (by omega) (by omega) (by rw[List.size_toArray,<- hl];exact h1) (by simpa using ew) ⟨rfl,fin⟩) hs
theorem ix_str:IxR X rIxS:=by
 intro value slice pins s σ H x y v u Q I rx ry h hs
 obtain⟨z,i,c,rfl,rfl,hz,he,q⟩:=h
 obtain⟨t,rfl⟩:=rx
 obtain⟨t',rfl⟩:=ry
 obtain⟨j,h1,h2,h3,h4,h5⟩:=atI_get he
 have hl:z.cps.toList.length=z.length:=by simp[Str.length]
 rw[hl]at h1 h4 h5
 have hn:=line63
 exact tail_any (typeIs_str s z t) slot_str_getitem.lookup (getItem_str (c:=c) (by
  have e1:decide (i < -(2 ^ 63:Int))=false:=decide_eq_false (by omega)
  have e2:decide (i ≥ 2 ^ 63)=false:=decide_eq_false (by omega)
  rw[e1,e2,Bool.or_false]) (by rw[h1];simpa using h2) ⟨.str ⟨#[c]⟩,H,I.tok _,⟨_,rfl⟩,q⟩) hs
noncomputable def rIx (K:W.Frag):R2:=fun x y H Q=>rIxL K x y H Q\/rIxT K x y H Q\/rIxS x y H Q
theorem ix_seq:IxR X (rIx X.K):=ix_list.or (ix_tup.or ix_str)
theorem mapSeq_set (its:List Value) (n j:Nat) (u:Value):Obj.mapSeq (·.setIfInBounds j u) { cls:=.type "list",data:=.seq its.toArray n }={ cls:=.type "list",data:=.seq (its.set j u).toArray n }:=by
 simp[Obj.mapSeq]
theorem Inv.lst {pins:List (Addr×Obj)} {σ:St} {H:Hp} {s:Shared} {p:Addr} {xs:List V} (I:Inv X pins σ H s) (h:H p=some (.lst xs)):
  ∃(its:List Value) (n:Nat),Vals xs its/\s.heap.get? p=some { cls:=.type "list",data:=.seq its.toArray n }/\xs.length<=sizeLine:=by
 obtain⟨z,its,n,r,e⟩:=I.hok p _ h
 exact⟨its,n,r,e,z⟩
theorem Inv.lstUpd {pins:List (Addr×Obj)} {σ:St} {H:Hp} {s:Shared} {p:Addr} {xs ys:List V} {its its':List Value} {n n':Nat} {f:Obj->Obj} (I:Inv X pins σ H s) (h:H p=some (.lst xs))
  (ho:s.heap.get? p=some { cls:=.type "list",data:=.seq its.toArray n }) (hf:f { cls:=.type "list",data:=.seq its.toArray n }={ cls:=.type "list",data:=.seq its'.toArray n' }) (r:Vals ys its') (hz:ys.length<=sizeLine) (t:Nat):
  Inv X pins σ (upd H p (.lst ys)) { s with heap:=s.heap.update p f,toks:=t }:=by
 have e:(s.heap.update p f).get? p=some { cls:=.type "list",data:=.seq its'.toArray n' }:=by
  rw[Heap.get?_update_self f ho (by rw[hf]<;>rfl),hf]
 refine I.write (x:=p) (e:=p) (by rw[h];trivial) (.inl rfl) (fun b u hb q=>(Heap.get?_update_other _ _ (Ne.symm hb)).trans q) ⟨_,e⟩ ?_
 exact⟨hz,its',n',r,e⟩
noncomputable def rSetL:V->V->V->Hp->(Hp->Prop)->Prop:=fun o i v H Q=>∃p xs k j,o=.ref p/\i=.int k/\H p=some (.lst xs)/\ixN xs.length k=some j/\Q (upd H p (.lst (xs.set j v)))
theorem set_list:PSet X rSetL:=by
 intro pins s σ H o i v ov iv u Q I ro ri rv h
 obtain⟨p,xs,k,j,rfl,rfl,hp,hj,q⟩:=h
 cases ro
 obtain⟨t,rfl⟩:=ri
 obtain⟨its,n,r,ho,hz⟩:=I.lst hp
 obtain⟨h1,h2,h3,h4⟩:=ixN_seq hj
 have hl:=r.length
 have hn:=line63
 have I':Inv X pins σ (upd H p (.lst (xs.set j v))) { s with heap:=s.heap.update p (Obj.mapSeq (·.setIfInBounds j u)) }:=
  I.lstUpd hp ho (mapSeq_set its n j u) (r.set rv j) (by rw[List.length_set];exact hz) s.toks
 by_cases h0:0<=k
 .have hk:k.toNat=j:=by
   rw[seqIndex_of h0 h4]at h1
   exact Option.some.inj h1
  exact W.ki_setAt ho h0 (by omega) (by rw[List.size_toArray,<- hl];exact h4) (by rw[hk];exact⟨_,I',q⟩)
 .have hk:(k+(its.toArray.size:Int)).toNat=j:=by
   rw[seqIndex_neg (by omega) h3]at h1
   rw[List.size_toArray,<- hl]
   exact Option.some.inj h1
  exact W.ki_setBack ho (by omega) (by rw[List.size_toArray,<- hl];exact h3) (by omega) (by rw[hk];exact⟨_,I',q⟩)
theorem slice_bounds (lo hi:Option Int) (n:Nat):(sliceBounds lo hi none n).1=((HT.sIx n 0 lo:Nat):Int)/\(sliceBounds lo hi none n).2.1=((HT.sIx n n hi:Nat):Int)/\(sliceBounds lo hi none n).2.2=1:=by
 refine⟨?_,?_,rfl⟩
 .cases lo with
  |none=>simp[sliceBounds,HT.sIx]
  |some i=>
   simp only[sliceBounds,HT.sIx,Option.getD_none,show(1:Int) > 0 by decide,if_true]
   by_cases h:i<0
   .simp only[h,if_true]<;>omega
   .simp only[h,if_false]<;>omega
 .cases hi with
  |none=>simp[sliceBounds,HT.sIx]
  |some i=>
   simp only[sliceBounds,HT.sIx,Option.getD_none,show(1:Int) > 0 by decide,if_true]
   by_cases h:i<0
   .simp only[h,if_true]<;>omega
   .simp only[h,if_false]<;>omega
theorem slicePick_cut (its:List Value) (lo hi:Option Int):slicePick its.toArray lo hi none=((its.drop (HT.sIx its.length 0 lo)).take (HT.sIx its.length its.length hi-HT.sIx its.length 0 lo)).toArray:=by
 obtain⟨h1,h2,h3⟩:=slice_bounds lo hi its.toArray.size
 unfold slicePick
 rw[h1,h2,h3]
 simp only[sliceRange_one,pick_run,List.size_toArray]<;>rfl
noncomputable def rSlL (K:W.Frag):V->Option Int->Option Int->Hp->VK->Prop:=fun x lo hi H Q=>∃a xs,x=.ref a/\SqL K H a xs/\∀p,H p=none->Q (.ref p) (upd H p (.lst (cutV xs lo hi)))
theorem sl_list:SlR X (rSlL X.K):=by
 intro pins s σ H x v vl vu lo hi sl Q I rx hs pl pu h
 obtain⟨a,xs,rfl,hx,q⟩:=h
 cases rx
 obtain⟨its,r,ht,hz⟩:=I.list hx
 have hlen:=r.length
 refine⟨"list",_,slot_list_getitem.lookup,ht.isList.typeIs,?_⟩
 refine wpAny_getItem_list_slice ht.isList hs pl pu .none (by simp) ?_ (by rw[List.size_toArray]<;>omega)
 rw[slicePick_cut,<- hlen]
 refine⟨.ref s.heap.objs.size,_,I.laid (t':=s.toks) (o:=.lst (cutV xs lo hi)) (fun b ob q=>Heap.get?_push_of_some _ q) (Nat.le_refl _) ?_,rfl,q _ (I.hok.fresh (Nat.le_refl _))⟩
 exact⟨Nat.le_trans (cutV_length xs lo hi) hz,_,0,(r.drop (HT.sIx xs.length 0 lo)).take (HT.sIx xs.length xs.length hi-HT.sIx xs.length 0 lo),Heap.get?_push_size _ rfl⟩
noncomputable def flatV:V->Bool
 | .non=>true
 | .bl _=>true
 | .int _=>true
 | .str _=>true
 |_=>false
noncomputable def eqV:V->V->Bool
 | .non,.non=>true
 | .bl a,.bl b=>a == b
 | .bl a,.int b=>(if a then 1 else 0) == b
 | .int a,.bl b=>a == (if b then 1 else 0)
 | .int a,.int b=>a == b
 | .str a,.str b=>a == b
 |_,_=>false
theorem eqAt_V {A:Around} {s:Shared} {y x:V} {u v:Value} (ry:RelV y u) (rx:RelV x v) (fy:flatV y=true) (fx:flatV x=true):SeqAt.EqAt A s u v (eqV y x):=by
 cases y with
 |non=>
  cases ry
  cases x with
  |non=>cases rx;exact SeqAt.EqAt.same _
  |bl b=>cases rx;exact SeqAt.EqAt.none_bool b
  |int b=>obtain⟨t,rfl⟩:=rx;exact SeqAt.EqAt.none_int b t
  |str b=>obtain⟨t,rfl⟩:=rx;exact SeqAt.EqAt.none_str b t
  |_=>exact absurd (show false=true from fx) Bool.false_ne_true
 |bl a=>
  cases ry
  cases x with
  |non=>cases rx;exact SeqAt.EqAt.bool_none a
  |bl b=>cases rx;exact SeqAt.EqAt.bool_bool a b
  |int b=>obtain⟨t,rfl⟩:=rx;exact SeqAt.EqAt.bool_int a b t
  |str b=>obtain⟨t,rfl⟩:=rx;exact SeqAt.EqAt.bool_str a b t
  |_=>exact absurd (show false=true from fx) Bool.false_ne_true
 |int a=>
  obtain⟨t',rfl⟩:=ry
  cases x with
  |non=>cases rx;exact SeqAt.EqAt.int_none a t'
  |bl b=>cases rx;exact SeqAt.EqAt.int_bool a t' b
  |int b=>obtain⟨t,rfl⟩:=rx;exact SeqAt.EqAt.int_int a t' b t
  |str b=>obtain⟨t,rfl⟩:=rx;exact SeqAt.EqAt.int_str a t' b t
  |_=>exact absurd (show false=true from fx) Bool.false_ne_true
 |str a=>
  obtain⟨t',rfl⟩:=ry
  cases x with
  |non=>cases rx;exact SeqAt.EqAt.str_none a t'
  |bl b=>cases rx;exact SeqAt.EqAt.str_bool a t' b
  |int b=>obtain⟨t,rfl⟩:=rx;exact SeqAt.EqAt.str_int a t' b t
  |str b=>obtain⟨t,rfl⟩:=rx;exact SeqAt.EqAt.str_str a t' b t
  |_=>exact absurd (show false=true from fx) Bool.false_ne_true
 |_=>exact absurd (show false=true from fy) Bool.false_ne_true
noncomputable def eqU (x:V) (u:Value):Bool:=match u with
 | .none=>eqV .non x
 | .bool b=>eqV (.bl b) x
 | .int i _=>eqV (.int i) x
 | .str z _=>eqV (.str z) x
 |_=>false
theorem eqU_of {x y:V} {u:Value} (r:RelV y u) (f:flatV y=true):eqU x u=eqV y x:=by
 cases y with
 |non=>cases r;rfl
 |bl b=>cases r;rfl
 |int i=>obtain⟨t,rfl⟩:=r;rfl
 |str z=>obtain⟨t,rfl⟩:=r;rfl
 |_=>exact absurd (show false=true from f) Bool.false_ne_true
theorem any_eqU {x:V}:∀{xs:List V} {us:List Value},Vals xs us->xs.all flatV=true->us.any (eqU x)=xs.any fun y=>eqV y x
 |_,_,.nil,_=>rfl
 |y :: xs,u :: us,.cons r t,f=>by
  rw[List.all_cons,Bool.and_eq_true]at f
  rw[List.any_cons,List.any_cons,eqU_of r f.1,any_eqU t f.2]
theorem mem_eqAt {A:Around} {s:Shared} {x:V} {v:Value} (rx:RelV x v) (fx:flatV x=true):∀{xs:List V} {us:List Value},Vals xs us->xs.all flatV=true->∀u∈us,SeqAt.EqAt A s u v (eqU x u)
 |_,_,.nil,_=>fun u hu=>by cases hu
 |y :: xs,u :: us,.cons r t,f=>fun u' hu=>by
  rw[List.all_cons,Bool.and_eq_true]at f
  rcases List.mem_cons.mp hu with rfl|hu
  .rw[eqU_of r f.1];exact eqAt_V r rx f.1 fx
  .exact mem_eqAt rx fx t f.2 u' hu
noncomputable def inV (x:V) (xs:List V):Bool:=xs.any fun y=>eqV y x
noncomputable def rIn (K:W.Frag) (neg:Bool):R2:=fun x y H Q=>∃p xs,y=.ref p/\(SqL K H p xs\/SqT K H p xs)/\flatV x=true/\xs.all flatV=true/\Q (.bl (if neg then !inV x xs else inV x xs)) H
theorem op_in_seq:OpR X (compareOp .In) (rIn X.K false):=by
 intro pins s σ H x y v u Q I rx ry h
 obtain⟨p,xs,rfl,hq,fx,fs,q⟩:=h
 cases ry
 rcases hq with hq|hq
 .obtain⟨its,r,pl,hz⟩:=I.list hq
  refine SeqAt.in_listAt (eqU x) pl.isList (fun w hw=>mem_eqAt rx fx r fs w (by simpa using hw)) ⟨.bl _,H,I,rfl,?_⟩
  rw[show its.toArray.any (eqU x)=its.any (eqU x) by simp,any_eqU r fs]
  exact q
 .obtain⟨its,r,pl,hz⟩:=I.tuple hq
  refine SeqAt.in_tupleAt (eqU x) pl (fun w hw=>mem_eqAt rx fx r fs w (by simpa using hw)) ⟨.bl _,H,I,rfl,?_⟩
  rw[show its.toArray.any (eqU x)=its.any (eqU x) by simp,any_eqU r fs]
  exact q
theorem op_notIn_seq:OpR X (compareOp .NotIn) (rIn X.K true):=by
 intro pins s σ H x y v u Q I rx ry h
 obtain⟨p,xs,rfl,hq,fx,fs,q⟩:=h
 cases ry
 rcases hq with hq|hq
 .obtain⟨its,r,pl,hz⟩:=I.list hq
  refine SeqAt.notIn_listAt (eqU x) pl.isList (fun w hw=>mem_eqAt rx fx r fs w (by simpa using hw)) ⟨.bl _,H,I,rfl,?_⟩
  rw[show its.toArray.any (eqU x)=its.any (eqU x) by simp,any_eqU r fs]
  exact q
 .obtain⟨its,r,pl,hz⟩:=I.tuple hq
  refine SeqAt.notIn_tupleAt (eqU x) pl (fun w hw=>mem_eqAt rx fx r fs w (by simpa using hw)) ⟨.bl _,H,I,rfl,?_⟩
  rw[show its.toArray.any (eqU x)=its.any (eqU x) by simp,any_eqU r fs]
  exact q
theorem CallR.or {f:Value} {r r':List V->Hp->VK->Prop} (h:CallR X f r) (h':CallR X f r'):CallR X f (fun xs H Q=>r xs H Q\/r' xs H Q):=by
 intro pins s σ H xs us Q I rs q
 rcases q with q|q
 .exact h pins s σ H xs us Q I rs q
 .exact h' pins s σ H xs us Q I rs q
theorem call_list_of:CallR X (.type "list") (fun xs H Q=>∃p ys,xs=[.ref p]/\(SqL X.K H p ys\/SqT X.K H p ys)/\∀l,H l=none->Q (.ref l) (upd H l (.lst ys))):=by
 intro pins s σ H xs us Q I r h
 obtain⟨p,ys,rfl,hq,q⟩:=h
 obtain⟨u,rfl,rx⟩:=vals1 r
 cases rx
 have fin:∀(its:List Value),Vals ys its->ys.length<=sizeLine->∀(h':Heap) (c':Nat),(∀b o',s.heap.get? b=some o'->h'.get? b=some o')->
   h'.get? s.heap.objs.size=some { cls:=.type "list",dict:=none,data:=.seq its.toArray c',slots:=#[] }->EP X pins σ Q (.ref s.heap.objs.size) { s with heap:=h' }:=fun its r' hz h' c' kp e=>
  ⟨.ref s.heap.objs.size,_,I.laid (t':=s.toks) kp (Nat.le_refl _) (show ObjOk X.prog X.w _ h' _ (.lst ys) from⟨hz,its,c',r',e⟩),rfl,q _ (I.hok.fresh (Nat.le_refl _))⟩
 rcases hq with hq|hq
 .obtain⟨its,r',pl,hz⟩:=I.list hq
  have hlen:=r'.length
  obtain⟨o,ho,hc,n,hd⟩:=pl.isList
  exact call_list_seq p (.inl rfl) ho hc hd (fun h' c' kp e=>fin its r' hz h' c' kp e) (by simp only[List.size_toArray]<;>omega)
 .obtain⟨its,r',pl,hz⟩:=I.tuple hq
  have hlen:=r'.length
  obtain⟨o,ho,hc,n,hd⟩:=pl
  exact call_list_seq p (.inr rfl) ho hc hd (fun h' c' kp e=>fin its r' hz h' c' kp e) (by simp only[List.size_toArray]<;>omega)
theorem call_tuple_of:CallR X (.type "tuple") (fun xs H Q=>∃p ys,xs=[.ref p]/\((SqL X.K H p ys/\∀l,H l=none->Q (.ref l) (upd H l (.tup ys)))\/(SqT X.K H p ys/\Q (.ref p) H))):=by
 intro pins s σ H xs us Q I r h
 obtain⟨p,ys,rfl,h⟩:=h
 obtain⟨u,rfl,rx⟩:=vals1 r
 cases rx
 rcases h with⟨hq,q⟩|⟨hq,q⟩
 .obtain⟨its,r',pl,hz⟩:=I.list hq
  have hlen:=r'.length
  refine call_tuple_list pl.isList (fun h' kp=>?_) (by simp only[List.size_toArray]<;>omega)
  have I1:Inv X pins σ H { s with heap:=h' }:=I.kept (t':=s.toks) kp
  have I2:Inv X pins σ (upd H h'.objs.size (.tup ys)) { s with heap:=h'.push { cls:=.type "tuple",data:=.seq its.toArray } }:=
   I1.laid (t':=s.toks) (fun b o e=>Heap.get?_push_of_some _ e) (Nat.le_refl _) (show ObjOk X.prog X.w _ _ _ (.tup ys) from⟨hz,its,r',TupD.new _ _⟩)
  exact⟨.ref h'.objs.size,_,I2,rfl,q _ (I1.hok.fresh (Nat.le_refl _))⟩
 .obtain⟨its,r',pl,hz⟩:=I.tuple hq
  exact call_tuple_same pl ⟨.ref p,H,I,rfl,q⟩
def tyV (K:W.Frag) (T:String) (x:V) (H:Hp):Prop:=match x with
 | .str _=>T="str"
 | .int _=>T="int"
 | .ref p=>(T="list"/\∃xs,SqL K H p xs)\/(T="tuple"/\((∃o,K.lookup p=some o/\o.cls=.type "tuple"/\o.dict=none)\/∃xs,H p=some (.tup xs)))\/
   (T="dict"/\((∃kvs,H p=some (.dK kvs))\/∃kvs,H p=some (.dT kvs)))\/(T="set"/\∃S n,H p=some (.set S n))
 |_=>False
theorem tyV_is {pins:List (Addr×Obj)} {σ:St} {H:Hp} {s:Shared} {T:String} {x:V} {v:Value} (I:Inv X pins σ H s) (r:RelV x v) (ty:tyV X.K T x H):
  s.TypeIs v T/\∀a,v=.ref a->∃ob,s.heap.get? a=some ob/\ob.dict=none:=by
 cases x with
 |str z=>
  obtain⟨t,rfl⟩:=r
  cases(show T="str" from ty)
  exact⟨typeIs_str s z t,fun _ e=>nomatch e⟩
 |int i=>
  obtain⟨t,rfl⟩:=r
  cases(show T="int" from ty)
  exact⟨typeIs_int s i t,fun _ e=>nomatch e⟩
 |ref p=>
  cases r
  rcases ty with⟨rfl,xs,hq⟩|⟨rfl,⟨o,hk,hc,hd⟩|⟨xs,hk⟩⟩|⟨rfl,hk⟩|⟨rfl,S,n,hk⟩
  .obtain⟨its,_,pl,_⟩:=I.list hq
   refine⟨pl.isList.typeIs,fun a e=>?_⟩
   cases e
   obtain⟨o,n,e,c,hd,_⟩:=pl
   exact⟨o,e,hd⟩
  .refine⟨⟨o,I.kIn p o hk,hc⟩,fun a e=>?_⟩
   cases e
   exact⟨o,I.kIn _ o hk,hd⟩
  .obtain⟨_,_,_,o,e,c,_,hd⟩:=I.hok p _ hk
   refine⟨⟨o,e,c⟩,fun a e2=>?_⟩
   cases e2
   exact⟨o,e,hd⟩
  .have z:∃o,s.heap.get? p=some o/\o.ExactDict:=by
    rcases hk with⟨kvs,hk⟩|⟨kvs,hk⟩
    .obtain⟨_,_,_,_,o,_,_,e,ex,_⟩:=I.hok p _ hk
     exact⟨o,e,ex⟩
    .obtain⟨_,_,_,_,o,_,_,e,ex,_⟩:=I.hok p _ hk
     exact⟨o,e,ex⟩
   obtain⟨o,e,ex⟩:=z
   refine⟨⟨o,e,ex.1⟩,fun a e2=>?_⟩
   cases e2
   exact⟨o,e,ex.2.1⟩
  .obtain⟨o,_,_,_,e,ex,_⟩:=I.hok p _ hk
   refine⟨⟨o,e,ex.1⟩,fun a e2=>?_⟩
   cases e2
   exact⟨o,e,ex.2.1⟩
 |_=>exact False.elim ty
noncomputable def tBM0 (K:W.Frag) (T:String) (r:V->List V->Hp->VK->Prop) (to:TE):TE:=fun σ H Q=>to σ H fun x H1=>tyV K T x H1/\r x [] H1 Q
noncomputable def tBM (K:W.Frag) (T:String) (r:V->List V->Hp->VK->Prop) (to:TE) (t:TA):TE:=fun σ H Q=>to σ H fun x H1=>tyV K T x H1/\t σ H1 fun xs H2=>r x xs H2 Q
variable {o e:Expr} {es:List Expr} {to:TE} {t:TA} {name:Str} {apos cpos:Pos} {T id:String} {r:V->List V->Hp->VK->Prop}
theorem pe_bm0 (pa:PlainAttrs T) (slot:Slot T name id) (hty:typeOf (.builtin id)=pure (.type "method_descriptor")) (hm:MtR X id r) (ho:PE X o to)
  (hbase:attributeBase o name X.env (eval o X.env)=eval o X.env:=by rfl) (hline:(apos.endLine == cpos.line)=true:=by rfl):PE X (.Call (.Attribute o name apos) [] [] cpos) (tBM0 X.K T r to):=by
 intro pins s σ H Q I h
 refine wpAny_Call_method0_late hbase hline (thn (ho pins s σ H _ I h) fun v s1 ⟨x,H1,I1,r1,ty,q1⟩=>?_)
 obtain⟨h1,h2⟩:=tyV_is I1 r1 ty
 exact⟨T,id,pa,slot,hty,h1,h2,Calls.callWith_builtin rfl (PySem.evalArgs_none (hm pins s1 σ H1 x [] v [] Q I1 r1 .nil q1))⟩
theorem pe_bm (pa:PlainAttrs T) (slot:Slot T name id) (hty:typeOf (.builtin id)=pure (.type "method_descriptor")) (hm:MtR X id r) (ho:PE X o to) (ha:PA X (e :: es) t)
  (hbase:attributeBase o name X.env (eval o X.env)=eval o X.env:=by rfl)
  (hfew:((backTo cpos (starEach (e :: es) X.env)).all (fun x=>!x.1)&&(backToKw cpos (keywordEach [] X.env)).all (fun x=>x.1.isSome)
   && decide ((e :: es).length+([]:List Keyword).length+(if([]:List Keyword).isEmpty then 0 else 1)<30))=true:=by rfl)
  (hline:(apos.endLine == cpos.line)=true:=by rfl) (hs:starEach (e :: es) X.env=(false,eval e X.env) :: starEach es X.env:=by rfl) (hplain:(backTo cpos (starEach es X.env)).any (·.1)=false:=by rfl):
  PE X (.Call (.Attribute o name apos) (e :: es) [] cpos) (tBM X.K T r to t):=by
 intro pins s σ H Q I h
 refine wpAny_Call_method_late hbase hfew hline rfl (thn (ho pins s σ H _ I h) fun v s1 ⟨x,H1,I1,r1,ty,q1⟩=>?_)
 obtain⟨h1,h2⟩:=tyV_is I1 r1 ty
 refine⟨T,id,pa,slot,hty,h1,h2,?_⟩
 have hA:=ha cpos pins s1 σ H1 _ I1 q1
 rw[hs]at hA ⊢
 refine Calls.callWith_builtin (by show(false || (backTo cpos (starEach es X.env)).any (·.1))=false;rw[hplain]<;>rfl) (Calls.evalArgs_plain ?_)
 exact thn hA fun us s2 ⟨vs,H2,I2,r2,q2⟩=>hm pins s2 σ H2 x vs v us Q I2 r1 r2 q2
end
def MtM (X:Cx) (id:String) (r:V->List V->Hp->VK->Prop):Prop:=
 ∀(pins:List (Addr×Obj)) (s:Shared) (σ:St) (H:Hp) (x:V) (xs:List V) (v:Value) (us:List Value) (Q:VK),Inv X pins σ H s->RelV x v->Vals xs us->r x xs H Q->
  wpAny (model X.prog X.w) X.A (call (.builtin id) (v :: us)) (EP X pins σ Q) X.xe s
theorem Vals.one:∀{x:V} {us:List Value},Vals [x] us->∃u,us=[u]/\RelV x u
 |_,_,.cons r .nil=>⟨_,rfl,r⟩
theorem Vals.zero:∀{us:List Value},Vals [] us->us=[]
 |_,.nil=>rfl
theorem Vals.reverse {xs:List V} {us:List Value} (h:Vals xs us):Vals xs.reverse us.reverse:=by
 induction h with
 |nil=>exact .nil
 |cons r t ih=>rw[List.reverse_cons,List.reverse_cons];exact Vals.append ih (.cons r .nil)
theorem Vals.rep {xs:List V} {us:List Value} (h:Vals xs us):∀k:Nat,Vals (List.replicate k xs).flatten (List.replicate k us).flatten
 |0=>.nil
 |k+1=>by
  rw[List.replicate_succ,List.replicate_succ,List.flatten_cons,List.flatten_cons]
  exact Vals.append h (Vals.rep h k)
theorem foldl_rep (its:List Value):∀(k:Nat) (acc:List Value),
  List.foldl (fun x1 x2=>x1++x2) acc.toArray (List.replicate k its.toArray)=(acc++(List.replicate k its).flatten).toArray
 |0,acc=>by simp
 |k+1,acc=>by
  have e:acc.toArray++its.toArray=(acc++its).toArray:=by simp
  have e2:(acc++its)++(List.replicate k its).flatten=acc++(List.replicate (k+1) its).flatten:=by
   rw[List.replicate_succ,List.flatten_cons,List.append_assoc]
  rw[<- e2,<- foldl_rep its k (acc++its),<- e,List.replicate_succ,List.foldl_cons]
section
variable {X:Cx} {pins:List (Addr×Obj)} {σ:St} {H:Hp} {s:Shared} {l b:Addr} {xs ys zs:List V}
theorem Inv.lset {its its':List Value} {n:Nat} {f:Array Value->Array Value} {t':Nat} (I:Inv X pins σ H s) (hH:H l=some (.lst xs))
  (e:s.heap.get? l=some { cls:=.type "list",data:=.seq its.toArray n }) (hf:f its.toArray=its'.toArray) (hv:Vals ys its') (hz:ys.length<=sizeLine):
  Inv X pins σ (upd H l (.lst ys)) { s with heap:=s.heap.update l (Obj.mapSeq f),toks:=t' }:=by
 have q:=PySem.IsL.update e f
 rw[hf]at q
 refine I.write (x:=l) (e:=l) (by rw[hH];exact trivial) (.inl rfl) (fun b' u hb hu=>(Heap.get?_update_other s.heap (Obj.mapSeq f) (Ne.symm hb)).trans hu) ⟨_,q⟩ ?_
 exact⟨hz,its',_,hv,q⟩
theorem Inv.lnew {its:List Value} {t':Nat} (I:Inv X pins σ H s) (hv:Vals ys its) (hz:ys.length<=sizeLine):
  Inv X pins σ (upd H s.heap.objs.size (.lst ys)) { s with heap:=s.heap.push { cls:=.type "list",data:=.seq its.toArray },toks:=t' }:=
 I.laid (fun _ _ q=>Heap.get?_push_of_some _ q) (Nat.le_refl _) ⟨hz,its,0,hv,Heap.get?_push_size _ rfl⟩
theorem Inv.fresh (I:Inv X pins σ H s):H s.heap.objs.size=none:=I.hok.fresh (Nat.le_refl _)
theorem Inv.lstM (I:Inv X pins σ H s) (hH:H l=some (.lst xs)):xs.length<=sizeLine/\∃(its:List Value) (n:Nat),Vals xs its/\xs.length=its.length/\s.heap.get? l=some { cls:=.type "list",data:=.seq its.toArray n }:=by
 obtain⟨z,its,n,r,e⟩:=I.hok l _ hH
 exact⟨z,its,n,r,r.length,e⟩
theorem notLongL {n:Nat} (h:n<=sizeLine):Builtin.List.listTooLong n=false:=by
 unfold Builtin.List.listTooLong
 exact decide_eq_false (by omega)
end
section
variable {X:Cx}
noncomputable def rAppend:V->List V->Hp->VK->Prop:=fun x vs H Q=>∃l xs y,x=.ref l/\vs=[y]/\H l=some (.lst xs)/\xs.length<sizeLine/\Q .non (upd H l (.lst (xs++[y])))
theorem mt_append:MtM X "list.append" rAppend:=by
 intro pins s σ H x vs v us Q I rx rv h
 obtain⟨l,xs,y,rfl,rfl,hH,hz,q⟩:=h
 cases rx
 obtain⟨u,rfl,ru⟩:=rv.one
 obtain⟨z,its,n,r,hl,e⟩:=I.lstM hH
 refine call_meets F.slot_list_append ⟨_,e,rfl⟩ F.entry_list_append (F.args_list_append_2 _ _) (PySem.list_append l its.toArray n u (by rw[List.size_toArray];omega)) ⟨e,?_⟩
 refine⟨.non,_,I.lset (its':=its++[u]) hH e (by simp) (r.append (.cons ru .nil)) ?_,rfl,q⟩
 rw[List.length_append,List.length_singleton]
 omega
noncomputable def rClear:V->List V->Hp->VK->Prop:=fun x vs H Q=>∃l xs,x=.ref l/\vs=[]/\H l=some (.lst xs)/\Q .non (upd H l (.lst []))
theorem mt_clear:MtM X "list.clear" rClear:=by
 intro pins s σ H x vs v us Q I rx rv h
 obtain⟨l,xs,rfl,rfl,hH,q⟩:=h
 cases rx
 have hus:=rv.zero
 subst hus
 obtain⟨z,its,n,r,hl,e⟩:=I.lstM hH
 refine call_meets F.slot_list_clear ⟨_,e,rfl⟩ F.entry_list_clear (F.args_list_clear_1 _) (AutoSeq1.list_clear_list_0 l its.toArray n (by rw[List.size_toArray];omega)) ⟨e,?_⟩
 exact⟨.non,_,I.lset (its':=[]) (ys:=[]) hH e rfl .nil (Nat.zero_le _),rfl,q⟩
noncomputable def rCat:R2:=fun x y H Q=>∃l b xs zs,x=.ref l/\y=.ref b/\H l=some (.lst xs)/\H b=some (.lst zs)/\xs.length+zs.length<=sizeLine/\∀p,H p=none->Q (.ref p) (upd H p (.lst (xs++zs)))
theorem op_cat:OpR X (binaryOp .Add) rCat:=by
 intro pins s σ H x y v u Q I rx ry h
 obtain⟨l,b,xs,zs,rfl,rfl,hH,hB,hz,q⟩:=h
 cases rx
 cases ry
 obtain⟨z,its,n,r,hl,e⟩:=I.lstM hH
 obtain⟨z2,its2,n2,r2,hl2,e2⟩:=I.lstM hB
 refine PySem.P.add_list e e2 ?_ (by rw[List.size_toArray,List.size_toArray];omega)
 have ea:its.toArray++its2.toArray=(its++its2).toArray:=by simp
 rw[ea]
 exact⟨.ref _,_,I.lnew (t':=s.toks) (r.append r2) (by rw[List.length_append];omega),rfl,q _ I.fresh⟩
noncomputable def rRep:R2:=fun x y H Q=>∃l k xs,x=.ref l/\y=.int k/\H l=some (.lst xs)/\-(2 ^ 63)<=k/\k<2 ^ 63/\xs.length*k.toNat<=sizeLine/\
 ∀p,H p=none->Q (.ref p) (upd H p (.lst (List.replicate k.toNat xs).flatten))
theorem len_rep {α:Type} (xs:List α) (k:Nat):(List.replicate k xs).flatten.length=k*xs.length:=by
 induction k with
 |zero=>simp
 |succ k ih=>rw[List.replicate_succ,List.flatten_cons,List.length_append,ih,Nat.succ_mul,Nat.add_comm]
theorem op_rep:OpR X (binaryOp .Mult) rRep:=by
 intro pins s σ H x y v u Q I rx ry h
 obtain⟨l,k,xs,rfl,rfl,hH,h1,h2,hz,q⟩:=h
 cases rx
 obtain⟨t,rfl⟩:=ry
 obtain⟨z,its,n,r,hl,e⟩:=I.lstM hH
 have hlen:its.toArray.size*k.toNat<=sizeLine:=by rw[List.size_toArray,<- hl];exact hz
 have hcap:¬its.toArray.size*k.toNat > (2 ^ 63-1) / 8:=by
  have:(sizeLine:Nat)<=(2 ^ 63-1) / 8:=by decide
  omega
 have hfit:¬(!Builtin.List.listFitsIndex k)=true:=by
  rw[fitsIndex_both h1 h2]
  exact Bool.false_ne_true
 have hlong:¬Builtin.List.listTooLong (its.toArray.size*k.toNat)=true:=by
  rw[notLongL hlen]
  exact Bool.false_ne_true
 have hnew:List.foldl (fun x1 x2=>x1++x2) #[] (List.replicate (if its.toArray.isEmpty=true then 0 else k.toNat) its.toArray)=(List.replicate k.toNat its).flatten.toArray:=by
  have f0:∀m:Nat,List.foldl (fun x1 x2=>x1++x2) #[] (List.replicate m its.toArray)=(List.replicate m its).flatten.toArray:=fun m=>by
   have:=foldl_rep its m []
   rw[List.nil_append]at this
   exact this
  rw[f0]
  cases its with
  |nil=>simp
  |cons a r'=>rw[if_neg (by simp)]
 refine wpAny_binaryOp_repeat_ref (T:="list") (U:="int") (by decide) ⟨_,e,rfl⟩ (fun s'=>typeIs_int s' k t) noFill_list_mul F.fills_int_mul F.slot_int_rmul repeat_list F.slot_int_index.lookup
  (call_meets F.slot_int_rmul (typeIs_int s k t) F.entry_int_rmul (F.args_int_rmul_2 _ _) (int___rmul___int_list k t l its.toArray n)
   ⟨e,rfl,⟨_,e,rfl⟩,call_meets F.slot_list_mul ⟨_,e,rfl⟩ F.entry_list_mul (F.args_list_mul_2 _ _) (AutoListH.list___mul___list_int_3 l its.toArray n k t hfit hcap hlong) ⟨e,?_⟩⟩)
 rw[hnew]
 exact⟨.ref _,_,I.lnew (t':=s.toks) (r.rep k.toNat) (by rw[len_rep,Nat.mul_comm];exact hz),rfl,q _ I.fresh⟩
end
section
variable {prog:Program} {w:World} {A:Around} {E:Value->Shared->Prop} {s:Shared}
end
section
variable {X:Cx}
end
end L2
namespace Att
open PySem PySem.W PySem.Calls PyProof.Rows
theorem ints_of_wellAll {P:Params} {h:Heap}:∀(ns:List Int) (vs:List Value),WellAll P h vs (ns.map WData.int)->IntsAre vs ns:=by
 intro ns
 induction ns with
 |nil=>
  intro vs w
  rw[List.map_nil]at w
  cases w
  exact .nil
 |cons n ns ih=>
  intro vs w
  rw[List.map_cons]at w
  cases w with
  |cons a b=>
   cases a
   exact .cons _ _ (ih _ b)
theorem script_of {l:OpenLaw} {n:Nat} (hn:l.most=some n) {P:Params} {h:Heap} {args:List WData} {vals:List Value}
  (hpre:l.row.toRowW.claim.pre args=true) (hwl:WellAll P h vals args):
  ∃a vs ns,vals=[Value.ref a]/\args=[WData.list (ns.map WData.int)]/\h.get? a=some { cls:=.type "list",data:=.seq vs.toArray }/\IntsAre vs ns/\ns.length<=n:=by
 have hsh:WShape.hasAll [] args [.list .int]=true:=(pre_splitW hpre).1
 have hc:l.pre.holds [] { args:=args }=true:=(pre_splitW hpre).2
 obtain⟨d,r,rfl,h1,h2⟩:=hasAllW_cons hsh
 obtain rfl:=hasAllW_nil h2
 obtain⟨xs,rfl,h3⟩:=hasW_list h1
 obtain⟨ns,rfl⟩:=items_int h3
 have hlen:ns.length<=n:=by
  unfold OpenLaw.pre at hc
  have h4:(WTm.not (.lt (.lit (.int (n:Int))) (.len (.arg 0)))).holds [] { args:=[.list (ns.map .int)] }=true:=by
   have h4:=(holds_andW hc).1
   rw[hn]at h4
   exact h4
  have h5:=condW_of h4 (w_not (w_lt w_lit (w_len_list (w_arg rfl))))
  rw[List.length_map]at h5
  refine Nat.le_of_not_lt fun q=>?_
  have q':(n:Int)<((ns.length:Nat):Int):=by omega
  first
   |(rw[decide_eq_true q']at h5;exact absurd h5 (by decide))
   |(simp at h5;omega)
 cases hwl with
 |cons w1 w2=>
  cases w2
  cases w1 with
  |list ho hall=>exact⟨_,_,ns,rfl,rfl,ho,ints_of_wellAll ns _ hall,hlen⟩
theorem post_true (l:OpenLaw) (args:List WData):l.row.toRowW.claim.post args (.bool true) args=true:=
 postW_of (r:=l.row.toRowW) (X:=(true == true))
  (show WShape.has [] (.bool true) .bool=true by first|rfl|decide|simp[WShape.has,WShape.arms,WShape.armsAll])
  (show(WTm.eq .res (.lit (.bool true))).value [] { args:=args,res:=some (.bool true),after:=args }=some (.bool (true == true)) from w_eq_bool (w_res rfl) w_lit) rfl
theorem attach_call {l:OpenLaw} {n:Nat} {q:Program} {loose:List Str} {XP:(Str->Option Value)->Heap->Prop} {YP:World->Heap->Prop} {d:DefRec}
  (hn:l.most=some n) (hdf:d.params.defaults=[])
  (call:∀(w:World) (s₀ s₁:Shared) (mg mb:Str->Option Value) (fa:Addr) (o:Obj) (pm cd doc:Value) (a:Addr) (vs:List Value) (ns:List Int),
   Ground q loose [] XP w s₀ mg mb s₁.heap->YP w s₁.heap->
   s₁.heap.get? fa=some o->o.data=.func (docDef d.name d.params d.body d.scope pm cd doc)->s₁.heap.CodeRec cd d.name->mg d.name=some (.ref fa)->
   s₁.heap.get? a=some { cls:=.type "list",data:=.seq vs.toArray }->IntsAre vs ns->ns.length<=n->s₁.gens=#[]->
   codeAny (model l.prog w) callerA (.call (.ref fa) ⟨[.ref a],[]⟩) (fun r s'=>r=.ok (.ret (.bool true))/\OldK s₁.heap s'.heap/\s'.os=s₁.os/\AllBare s'.gens) s₁):
  WalkO q loose XP YP l.row.toRowW d [] (fun f vs=>PySem.call f vs):=by
 intro w s₀ s₁ mg mb G Y fa o pm cd doc dV kV ho hd hcd hD hmg hg args vals as hpre hlay hrd hwl hlo
 obtain rfl:dV=.none:=Dflts.none hD hdf
 obtain rfl:kV=.none:=Dflts.noKw hD
 obtain⟨a,vs,ns,rfl,rfl,hobj,hints,hlen⟩:=script_of hn hpre hwl
 refine enter_call (codeAny_mono (call w s₀ s₁ mg mb fa o pm cd doc a vs ns G Y ho (fd_plain hd) hcd hmg hobj hints hlen hg) fun r s' hq=>?_)
 obtain⟨rfl,h2,h3,h4⟩:=hq
 exact⟨.inl ⟨.bool true,.bool true,[],rfl,fun _=>rfl,.bool true,post_true l _,fun _=>⟨List.Pairwise.nil,fun _ hm=>(nomatch hm)⟩⟩,h2,h3,h4⟩
section
variable {prog:Program} {w:World} {A:Around} {E:Value->Shared->Prop} {s:Shared} {K:Frag}
end
end Att
namespace L2
open PySem PySem.Spec PyProof.Rows
theorem vals_ints:∀{vs:List Value} {ns:List Int},IntsAre vs ns->Vals (ns.map V.int) vs
 |_,_,.nil=>.nil
 |_,_,.cons n t h=>.cons ⟨t,rfl⟩ (vals_ints h)
def Only (H:Hp):Prop:=∀b,H b=none\/∃o xs,H b=some (.frz o (.lst xs))
theorem law_call {P:Program} {w:World} {K:W.Frag} {mg mb:Str->Option Value} {CX:CXT} {k:Nat} {fa a:Addr} {fd:FuncData} {x:Str} {sp:Sp} {s₁:Shared} {vs:List Value} {ns:List Int}
  (KX:K.In s₁.heap) (hns:s₁.heap.Ns mainGlobals mg) (hb:s₁.heap.Ns builtinsNs mb) (hbb:∀x:Str,x≠"__name__"->mb x=bootBuiltins x) (hlim:s₁.heap.NoLimit) (hg:s₁.gens=#[])
  (ha:s₁.heap.get? a=some { cls:=.type "list",data:=.seq vs.toArray }) (hi:IntsAre vs ns) (hl:ns.length<=sizeLine) (hr:Room k callerA)
  (F:∀base:Heap,K.In base->base.Ns mainGlobals mg->FnOk P w K mg base CX k fa fd [x] sp) (hbind:∀(s:Shared) (u:Value),BindsTo s fd ⟨[u],[]⟩ [(x,u)])
  (hsp:∀H:Hp,Only H->SqL K H a (ns.map V.int)->sp [.ref a] H (fun v _=>v=.bl true) fun _ _ _=>False)
  (hCX:∀H e s',CX [] H s₁ (fun _ _ _=>False) e s'->False):
  codeAny (model P w) callerA (.call (.ref fa) ⟨[.ref a],[]⟩) (fun r s'=>r=.ok (.ret (.bool true))/\OldK s₁.heap s'.heap/\s'.os=s₁.os/\AllBare s'.gens) s₁:=by
 have rv:=vals_ints hi
 have lenV:=hi.length
 have core:∀H:Hp,Only H->SqL K H a (ns.map V.int)->HOk P w H s₁.heap->(∀b,H b≠none->b=a)->(H a≠none->K.lookup a=none)->
   codeAny (model P w) callerA (.call (.ref fa) ⟨[.ref a],[]⟩) (fun r s'=>r=.ok (.ret (.bool true))/\OldK s₁.heap s'.heap/\s'.os=s₁.os/\AllBare s'.gens) s₁:=by
  intro H hO hS hok hA hK
  have base_of:∀{b:Addr} {o:Obj},s₁.heap.get? b=some o->H b=none->(hidT s₁.heap H).get? b=some o:=fun e n=>hidT_get e n
  have noA:∀{b:Addr} {o:Obj} {es:Array DictEntry} {ep:Nat},s₁.heap.get? b=some o->o.data=.dict es ep->H b=none:=fun {b o es ep} e d=>by
   cases q:H b with
   |none=>rfl
   |some u=>
    have e':b=a:=hA b (by rw[q];simp)
    subst e'
    rw[ha]at e;cases e
    have d':Data.seq vs.toArray _=Data.dict es ep:=d
    cases d'
  have nsK:∀{b:Addr} {m:Str->Option Value},s₁.heap.Ns b m->(hidT s₁.heap H).Ns b m:=fun {b m} ⟨o,es,ep,e,d,r⟩=>⟨o,es,ep,base_of e (noA e d),d,r⟩
  have hKb:K.In (hidT s₁.heap H):=fun b o e=>base_of (KX b o e) (by
   cases q:H b with
   |none=>rfl
   |some u=>
    have e':b=a:=hA b (by rw[q];simp)
    subst e'
    rw[hK (by rw[q];simp)]at e;cases e)
  have hM:Mod K mg (hidT s₁.heap H):=⟨hKb,nsK hns,⟨mb,nsK hb,hbb⟩,let⟨mc,h1,h2⟩:=hlim;⟨mc,nsK h1,h2⟩⟩
  have e0:Env0 P w K mg (hidT s₁.heap H) callerA [] s₁ H:=⟨rfl,hM,fun b o e=>of_hidT e,Nat.le_of_eq (hidT_size _ _),trivial,fun b hb=>absurd (show b∈([]:List Addr) from hb) (by simp),hok,.of_eq hg⟩
  refine codeAny_mono ((F _ hKb (nsK hns)).run callerA [] s₁ H ⟨[.ref a],[]⟩ [.ref a] [.ref a] _ _ hr e0 (hbind s₁ (.ref a)) (.cons rfl .nil) (hsp H hO hS)) fun r s' h=>?_
  cases r with
  |error e=>exact(hCX H e s' h).elim
  |ok fl=>
   cases fl with
   |next=>exact False.elim h
   |brk=>exact False.elim h
   |cont=>exact False.elim h
   |ret u=>
    obtain⟨v,H',os,bare,un,hok',r',q⟩:=h
    have q':v=.bl true:=q
    subst q'
    obtain rfl:u=Value.bool true:=r'
    refine⟨rfl,OldK.of_keep fun b o e=>?_,os,bare⟩
    cases q:H b with
    |none=>exact un.keep b o e q (by intro z;exact absurd (show b∈([]:List Addr) from z) (by simp)) (by simp)
    |some u=>
     rcases hO b with z|⟨ob,xs,z⟩
     .rw[q]at z;cases z
     .have z2:=un.frzs b ob _ z
      obtain⟨e1,_⟩:=hok b _ z
      obtain⟨e2,_⟩:=hok' b _ z2
      rw[e]at e1;cases e1
      exact e2
 cases hk:K.lookup a with
 |some o=>
  have e:=KX a o hk
  rw[ha]at e
  cases e
  refine core (fun _=>none) (fun _=>.inl rfl) (.inr ⟨_,vs.toArray,_,hk,rfl,rfl,rfl,by rw[List.size_toArray,lenV];exact hl,by simpa using rv⟩) (fun b u z=>by have z':(none:Option HO)=some u:=z;cases z') (fun b z=>absurd rfl z) fun z=>absurd rfl z
 |none=>
  refine core (fun b=>if b=a then some (.frz { cls:=.type "list",data:=.seq vs.toArray } (.lst (ns.map V.int)))else none) (fun b=>?_) (.inl (.inr ⟨{ cls:=.type "list",data:=.seq vs.toArray },if_pos rfl⟩)) (fun b u z=>?_) (fun b z=>?_) fun _=>hk
  .by_cases hb:b=a
   .exact .inr ⟨_,_,if_pos hb⟩
   .exact .inl (if_neg hb)
  .by_cases hb:b=a
   .have z':=(if_pos hb).symm.trans z
    cases z'
    subst hb
    exact⟨ha,by rw[List.length_map];exact hl,vs,_,rv,ha⟩
   .have z':=(if_neg hb).symm.trans z
    cases z'
  .by_cases hb:b=a
   .exact hb
   .exact absurd (if_neg hb) z
theorem walk_of {l:W.OpenLaw} {n k:Nat} {q:Program} {loose:List Str} {XP:(Str->Option Value)->Heap->Prop} {YP:World->Heap->Prop} {d:DefRec} {K:Params->W.Frag} {CX:World->CXT} {sp:World->Sp} {x:Str}
  (hn:l.most=some n) (hn2:n<=sizeLine) (hdf:d.params.defaults=[]) (hr:Room k callerA)
  (hY:∀(w:World) (h:Heap),YP w h->(K w.params).In h)
  (F:∀(w:World) (mg:Str->Option Value) (fa:Addr) (h:Heap),(K w.params).In h->h.Ns mainGlobals mg->mg d.name=some (.ref fa)->
   ∃fd:FuncData,(∀(s:Shared) (u:Value),BindsTo s fd ⟨[u],[]⟩ [(x,u)])/\
    ∀base:Heap,(K w.params).In base->base.Ns mainGlobals mg->FnOk l.prog w (K w.params) mg base (CX w) k fa fd [x] (sp w))
  (hsp:∀(w:World) (H:Hp) (a:Addr) (ns:List Int),ns.length<=n->Only H->SqL (K w.params) H a (ns.map V.int)->sp w [.ref a] H (fun v _=>v=.bl true) fun _ _ _=>False)
  (hCX:∀(w:World) (H:Hp) (s:Shared) (e:Value) (s':Shared),CX w [] H s (fun _ _ _=>False) e s'->False):
  W.WalkO q loose XP YP l.row.toRowW d [] (fun f vs=>PySem.call f vs):=by
 refine Att.attach_call hn hdf fun w s₀ s₁ mg mb fa o pm cd doc a vs ns G Y ho hd hcd hmg hobj hints hlen hg=>?_
 have KX:=hY w _ Y
 obtain⟨fd,hb,hF⟩:=F w mg fa _ KX G.T.g hmg
 exact law_call KX G.T.g G.T.b G.T.builtins G.T.nolimit hg hobj hints (Nat.le_trans hlen hn2) hr hF hb (fun H hO hS=>hsp w H a ns hlen hO hS) fun H e s'=>hCX w H s₁ e s'
noncomputable def defArgs (s:Stmt):Arguments:=match s with
 | .FunctionDef _ a _ _ _ _ _ _ _ _=>a
 |_=>{ posonlyargs:=[],args:=[],vararg:=none,kwonlyargs:=[],kw_defaults:=[],kwarg:=none,defaults:=[] }
noncomputable def defBody (s:Stmt):List Stmt:=match s with
 | .FunctionDef _ _ b _ _ _ _ _ _ _=>b
 |_=>[]
noncomputable def defScope (s:Stmt):Scope:=match s with
 | .FunctionDef _ _ _ _ _ _ sc _ _ _=>sc
 |_=>{ kind:=.function,names:=[],isGenerator:=false,isCoroutine:=false }
noncomputable abbrev CX0:CXT:=fun _ _ _ _ _ _=>False
noncomputable abbrev E0:XK:=fun _ _ _=>False
structure Fun (K:W.Frag) (x qual:Str) (st:Stmt) (f:Addr) (fd:FuncData):Prop where
 ex:∃(oc:Value) (od:Option Addr) (kV doc pm:Value) (an:Option Addr) (cdv ct:Value) (osl:Array (Option Value)),
  fd=W.fnOf x qual (defArgs st) (defBody st) (defScope st) .none kV doc pm an cdv ct/\K.lookup f=some ⟨oc,od,.func fd,osl⟩/\W.codeIn K cdv qual=true
 kp:W.keepIn K (.ref f)=true
section
variable {P:Program} {w:World} {K:W.Frag} {mg:Str->Option Value} {base:Heap}
theorem Fun.ok {x qual:Str} {st:Stmt} {f:Addr} {fd:FuncData} {N ps:List Str} {k:Nat} {sp:Sp} (F:Fun K x qual st f fd) (S:FnScope N ps (defScope st)) (len:∀vs H Q E,sp vs H Q E->vs.length=ps.length)
  (hbody:∀(cdv:Value) (A:Around) (outer:List Env) (s:Shared) (H:Hp) (vs:List V) (Q:VK) (E:XK),Room k (A.deeper (envOfC qual (defScope st) s.heap.objs.size f cdv))->sp vs H Q E->
   ∃t,PSs (cxOf CX0 P w K mg base N qual (defScope st) f cdv A outer s H E).nox (defBody st) t/\t { nx:=fun _ H'=>Q .non H',rt:=Q } (start N vs) H):FnOk P w K mg base CX0 (k+1) f fd ps sp:=by
 obtain⟨oc,od,kV,doc,pm,an,cdv,ct,osl,rfl,lk,hcd⟩:=F.ex
 refine fn_of lk hcd S len fun A outer s H vs Q E hr hsp=>?_
 obtain⟨t,h,q⟩:=hbody cdv A outer s H vs Q E hr hsp
 exact⟨t,h.nox,q⟩
theorem Fun.binds {x qual:Str} {st:Stmt} {f:Addr} {fd:FuncData} {ps:List Str} (F:Fun K x qual st f fd)
  (h:∀(kV doc pm:Value) (an:Option Addr) (cdv ct:Value) (us:List Value),us.length=ps.length->bindArgs (W.fnOf x qual (defArgs st) (defBody st) (defScope st) .none kV doc pm an cdv ct) ⟨us,[]⟩=pure (ps.zip us)):Binds K fd ps []:=by
 obtain⟨oc,od,kV,doc,pm,an,cdv,ct,osl,rfl,lk,hcd⟩:=F.ex
 exact .all (h kV doc pm an cdv ct)
theorem fun_mk {x qual:Str} {st:Stmt} {f:Addr} {oc:Value} {od an:Option Addr} {osl:Array (Option Value)} {kV doc pm cdv ct:Value} (l:K.lookup f=some ⟨oc,od,.func (W.fnOf x qual (defArgs st) (defBody st) (defScope st) .none kV doc pm an cdv ct),osl⟩)
  (c:W.codeIn K cdv qual=true) (k:W.keepIn K (.ref f)=true):Fun K x qual st f (W.fnOf x qual (defArgs st) (defBody st) (defScope st) .none kV doc pm an cdv ct):=⟨⟨oc,od,kV,doc,pm,an,cdv,ct,osl,rfl,l,c⟩,k⟩
end
theorem small1000 {n:Nat} (h:n<=1000):n<sizeLine:=Nat.lt_of_le_of_lt h (by decide)
section
variable {X:Cx}
theorem pv (i:Nat) {x:Str} {pos:Pos} (hN:X.N[i]?=some x:=by rfl) (hv:Vis X.env.scope x:=by first|exact Or.inl rfl|exact Or.inr (Or.inl rfl)|exact Or.inr (Or.inr rfl)) (hd:(x == ("__debug__":Str))=false:=by decide)
  (hcd:(x == ("__classdict__":Str))=false:=by decide):PE X (.Name x pos) (tVar i):=pe_var hN hv hd hcd
end
def Same (H H':Hp):Prop:=∀b o,H b=some o->H' b=some o
theorem Same.refl (H:Hp):Same H H:=fun _ _ h=>h
theorem Same.trans {H H1 H2:Hp} (a:Same H H1) (b:Same H1 H2):Same H H2:=fun c o h=>b c o (a c o h)
theorem Same.free {H H':Hp} (e:Same H H') {l:Addr} (h:H' l=Option.none):H l=Option.none:=by
 cases q:H l with
 |none=>rfl
 |some o=>
  rw[e l o q]at h
  cases h
theorem Same.seq {K:W.Frag} {H H':Hp} {a:Addr} {xs:List V} (e:Same H H') (h:SqL K H a xs):SqL K H' a xs:=by
 rcases h with(h|⟨o,h⟩)|h
 .exact .inl (.inl (e _ _ h))
 .exact .inl (.inr ⟨o,e _ _ h⟩)
 .exact .inr h
noncomputable def closL (cells:List (Str×Addr)):List (Str×NameKind)->List (Str×Addr)->List (Str×Addr)
 | [],acc=>acc
 |(n,k) :: r,acc=>if k == .free then closL cells r ((n,(cells.lookup n).getD 0) :: acc)else closL cells r acc
noncomputable def closF (env:Env) (x:Str×NameKind) (r:List (Str×Addr)):Sem (ForInStep (List (Str×Addr))):=
 match x with|(name,kind)=>if(kind == .free)=true then(do let a <- cellOf env name;pure (ForInStep.yield ((name,a) :: r)))else pure (ForInStep.yield r)
theorem closGo {env:Env}:∀(names:List (Str×NameKind)) (acc:List (Str×Addr)),(∀n,(n,NameKind.free)∈names->∃c,env.cells.lookup n=some c)->
   forIn names acc (closF env)=(pure (closL env.cells names acc):Sem _):=by
  intro names
  induction names with
  |nil=>intro acc _;rfl
  |cons x r ih=>
   intro acc hh
   obtain⟨n,k⟩:=x
   rw[List.forIn_cons]
   have hr:=fun m hm=>hh m (List.mem_cons_of_mem _ hm)
   by_cases hk:k=.free
   .subst hk
    obtain⟨c,hc⟩:=hh n List.mem_cons_self
    have e1:cellOf env n=(pure c:Sem Addr):=by unfold cellOf;rw[hc]
    have e2:closF env (n,NameKind.free) acc=pure (ForInStep.yield ((n,c) :: acc)):=by
     unfold closF
     dsimp only
     rw[if_pos (by rfl),e1]
     rfl
    rw[e2]
    have e3:=ih ((n,c) :: acc) hr
    have e4:closL env.cells ((n,NameKind.free) :: r) acc=closL env.cells r ((n,c) :: acc):=by
     show(if(NameKind.free == NameKind.free)=true then _ else _)=_
     rw[if_pos (by rfl),hc]
     rfl
    rw[e4,<- e3]
    rfl
   .have hb:(k == NameKind.free)=false:=by simpa using hk
    have e2:closF env (n,k) acc=pure (ForInStep.yield acc):=by
     unfold closF
     dsimp only
     rw[if_neg (by rw[hb];exact Bool.false_ne_true)]
    rw[e2]
    have e4:closL env.cells ((n,k) :: r) acc=closL env.cells r acc:=by
     show(if(k == NameKind.free)=true then _ else _)=_
     rw[if_neg (by rw[hb];exact Bool.false_ne_true)]
    rw[e4,<- ih acc hr]
    rfl
theorem closFor {env:Env} {scope:Scope} (h:∀n,(n,NameKind.free)∈scope.names->∃c,env.cells.lookup n=some c):closureFor scope env=pure (closL env.cells scope.names []):=by
 have e:=closGo (env:=env) scope.names [] h
 unfold closureFor
 have q:∀f:Str×NameKind->List (Str×Addr)->Sem (ForInStep (List (Str×Addr))),(∀x r,f x r=closF env x r)->(forIn scope.names ([]:List (Str×Addr)) f >>= fun r=>pure r)=(pure (closL env.cells scope.names []):Sem _):=by
  intro f hf
  have:f=closF env:=funext fun x=>funext fun r=>hf x r
  rw[this,e]
  rfl
 refine q _ fun x r=>?_
 obtain⟨n,k⟩:=x
 unfold closF
 first|done|(dsimp only;done)|(dsimp only;cases hk:k == NameKind.free<;>simp[hk])
theorem closL_mem {cells:List (Str×Addr)}:∀{names:List (Str×NameKind)} {acc:List (Str×Addr)} {n:Str} {c:Addr},(n,c)∈closL cells names acc->(n,c)∈acc\/((n,NameKind.free)∈names/\c=(cells.lookup n).getD 0)
 | [],_,_,_,h=>.inl h
 |(m,k) :: r,acc,n,c,h=>by
  unfold closL at h
  split at h
  .rename_i hk
   have hk':k=.free:=by simpa using hk
   subst hk'
   rcases closL_mem h with q|⟨q,e⟩
   .rcases List.mem_cons.mp q with q|q
    .cases q;exact .inr ⟨List.mem_cons_self,rfl⟩
    .exact .inl q
   .exact .inr ⟨List.mem_cons_of_mem _ q,e⟩
  .rcases closL_mem h with q|⟨q,e⟩
   .exact .inl q
   .exact .inr ⟨List.mem_cons_of_mem _ q,e⟩
theorem closL_has {cells:List (Str×Addr)}:∀{names:List (Str×NameKind)} {acc:List (Str×Addr)} {n:Str},((n,NameKind.free)∈names\/∃c,(n,c)∈acc)->∃c,(n,c)∈closL cells names acc
 | [],_,_,h=>by
  rcases h with h|h
  .simp at h
  .exact h
 |(m,k) :: r,acc,n,h=>by
  unfold closL
  split
  .rename_i hk
   refine closL_has ?_
   rcases h with h|⟨c,h⟩
   .rcases List.mem_cons.mp h with h|h
    .cases h;exact .inr ⟨_,List.mem_cons_self⟩
    .exact .inl h
   .exact .inr ⟨c,List.mem_cons_of_mem _ h⟩
  .rename_i hk
   refine closL_has ?_
   rcases h with h|h
   .rcases List.mem_cons.mp h with h|h
    .cases h;exact absurd rfl hk
    .exact .inl h
   .exact .inr h
theorem cellsFrom_app:∀(names:List (Str×NameKind)) (n:Nat) (acc:List (Str×Addr)),cellsFrom n names acc=cellsFrom n names []++acc
 | [],_,_=>rfl
 |(x,k) :: r,n,acc=>by
  unfold cellsFrom
  split
  .rw[cellsFrom_app r (n+1) ((x,n) :: acc),cellsFrom_app r (n+1) [(x,n)],List.append_assoc]
   rfl
  .exact cellsFrom_app r n acc
theorem lookup_some_of_mem {α:Type}:∀{l:List (Str×α)} {n:Str} {c:α},(n,c)∈l->∃c',l.lookup n=some c'
 |(k,v) :: r,n,c,h=>by
  rw[List.lookup_cons]
  cases hb:n == k with
  |true=>exact⟨v,rfl⟩
  |false=>
   rcases List.mem_cons.mp h with e|h
   .cases e;simp at hb
   .exact lookup_some_of_mem h
theorem relabel_lookup {env:Env}:∀{names:List (Str×NameKind)} {x:Str} {k':NameKind},
  (names.map fun(n,k)=>if(k == NameKind.free&&env.scope.kind == .function&&env.kindOf n == some .cell)then(n,NameKind.cell)else(n,k)).lookup x=some k'->∃k,names.lookup x=some k/\(k'=k\/(k=.free/\k'=.cell))
 | [],_,_,h=>by simp at h
 |(n,k) :: r,x,k',h=>by
  have ih:=@relabel_lookup env r x k'
  rw[List.map_cons]at h
  by_cases hc:(k == NameKind.free&&env.scope.kind == .function&&env.kindOf n == some .cell)=true
  .have e1:(match ((n,k):Str×NameKind)with|(n,k)=>if(k == NameKind.free&&env.scope.kind == .function&&env.kindOf n == some .cell)=true then(n,NameKind.cell)else(n,k))=(n,NameKind.cell):=if_pos hc
   rw[e1,List.lookup_cons]at h
   rw[List.lookup_cons]
   cases hx:x == n with
   |true=>
    rw[hx]at h
    cases h
    refine⟨k,rfl,.inr ⟨?_,rfl⟩⟩
    simp only[Bool.and_eq_true]at hc
    exact beq_iff_eq.mp hc.1.1
   |false=>rw[hx]at h;exact ih h
  .have e1:(match ((n,k):Str×NameKind)with|(n,k)=>if(k == NameKind.free&&env.scope.kind == .function&&env.kindOf n == some .cell)=true then(n,NameKind.cell)else(n,k))=(n,k):=if_neg hc
   rw[e1,List.lookup_cons]at h
   rw[List.lookup_cons]
   cases hx:x == n with
   |true=>rw[hx]at h;cases h;exact⟨k,rfl,.inl rfl⟩
   |false=>rw[hx]at h;exact ih h
theorem relabel_lookup' {env:Env}:∀{names:List (Str×NameKind)} {x:Str} {k:NameKind},names.lookup x=some k ->
  ∃k',(names.map fun(n,k)=>if(k == NameKind.free&&env.scope.kind == .function&&env.kindOf n == some .cell)then(n,NameKind.cell)else(n,k)).lookup x=some k'/\(k'=k\/(k=.free/\k'=.cell))
 | [],_,_,h=>by simp at h
 |(n,k0) :: r,x,k,h=>by
  have ih:=@relabel_lookup' env r x k
  rw[List.map_cons]
  by_cases hc:(k0 == NameKind.free&&env.scope.kind == .function&&env.kindOf n == some .cell)=true
  .have e1:(match ((n,k0):Str×NameKind)with|(n,k)=>if(k == NameKind.free&&env.scope.kind == .function&&env.kindOf n == some .cell)=true then(n,NameKind.cell)else(n,k))=(n,NameKind.cell):=if_pos hc
   rw[e1,List.lookup_cons]
   rw[List.lookup_cons]at h
   cases hx:x == n with
   |true=>
    rw[hx]at h
    cases h
    refine⟨_,rfl,.inr ⟨?_,rfl⟩⟩
    simp only[Bool.and_eq_true]at hc
    exact beq_iff_eq.mp hc.1.1
   |false=>rw[hx]at h;exact ih h
  .have e1:(match ((n,k0):Str×NameKind)with|(n,k)=>if(k == NameKind.free&&env.scope.kind == .function&&env.kindOf n == some .cell)=true then(n,NameKind.cell)else(n,k))=(n,k0):=if_neg hc
   rw[e1,List.lookup_cons]
   rw[List.lookup_cons]at h
   cases hx:x == n with
   |true=>rw[hx]at h;cases h;exact⟨_,rfl,.inl rfl⟩
   |false=>rw[hx]at h;exact ih h
section
variable {M:Model} {A:Around} {E:Value->Shared->Prop} {s:Shared}
noncomputable abbrev compHeap (h:Heap) (names:List (Str×NameKind)):Heap:=pushCells (h.push { cls:=.type "dict",data:=.dict #[] }) names
theorem wpAny_compEnv {scope:Scope} {globals:Addr} {cl:List (Str×Addr)} {qual:Str} {env:Env} {Q:Env->Shared->Prop}
  (h:Q (newEnv scope s.heap.objs.size globals (cellsFrom (s.heap.objs.size+1) scope.names cl) qual none .none (some env) builtinsNs) { s with heap:=compHeap s.heap scope.names }):
  wpAny M A (newFunctionEnv scope globals cl [] qual none .none (some env)) Q E s:=by
 simp only[newFunctionEnv,Option.isSome_some,if_true]
 refine wpAny_bind (wpAny_alloc ?_)
 refine wpAny_bind (wpAny_layCells _ (fun name kind cells=>by cases hkc:kind == NameKind.cell<;>simp[hkc]) _ _ _ _ ?_)
 rw[show({ s with heap:=s.heap.push { cls:=.type "dict",data:=.dict #[] } }:Shared).heap.objs.size=s.heap.objs.size+1 from Heap.size_push ..]
 exact wpAny_bind (wpAny_pure (wpAny_pure h))
end
noncomputable def Cx.comp (X:Cx) (scope:Scope) (s₀:Shared) (H₀:Hp) (ex:List Addr):Cx:=
 { X with
  s₀:=s₀,H₀:=H₀
  env:={ newEnv scope s₀.heap.objs.size X.env.globals (cellsFrom (s₀.heap.objs.size+1) scope.names (closL X.env.cells scope.names [])) X.env.qual none .none (some X.env) builtinsNs with scope:=relabel scope X.env }
  outer:=X.stack,ex:=ex,fn:=fun x=>((cellsFrom (s₀.heap.objs.size+1) scope.names []).lookup x).isSome,pn:=[],xe:=fun _ _=>False }
structure CompSc (X:Cx) (scope:Scope):Prop where
 kind:scope.kind=.function
 names:∀x∈scope.names,x.2=.local->scope.names.lookup x.1=some .local
 one:∀n,(n,NameKind.cell)∈scope.names->scope.names.lookup n=some .cell
 free:∀n,(n,NameKind.free)∈scope.names->X.env.kindOf n=some .cell\/X.env.kindOf n=some .free
theorem cellsFrom_mem:∀{names:List (Str×NameKind)} {n:Nat} {x:Str} {c:Addr},(x,c)∈cellsFrom n names []->(x,NameKind.cell)∈names
 | [],_,_,_,h=>by simp[cellsFrom]at h
 |(y,k) :: r,n,x,c,h=>by
  unfold cellsFrom at h
  split at h
  .rename_i hk
   have hk':k=.cell:=by simpa using hk
   subst hk'
   rw[cellsFrom_app]at h
   rcases List.mem_append.mp h with h|h
   .exact List.mem_cons_of_mem _ (cellsFrom_mem h)
   .have h':(x,c)=(y,n):=by simpa using h
    cases h'
    exact List.mem_cons_self
  .exact List.mem_cons_of_mem _ (cellsFrom_mem h)
noncomputable def clr (own:List Nat) (σ:St):St:=own.foldl (fun σ i=>σ.set i none) σ
theorem clr_len:∀(own:List Nat) (σ:St),(clr own σ).length=σ.length
 | [],_=>rfl
 |i :: r,σ=>by
  show(clr r (σ.set i none)).length=_
  rw[clr_len r,List.length_set]
theorem clr_get:∀{own:List Nat} {σ:St} {i:Nat} {v:V},(clr own σ)[i]?=some (some v)->σ[i]?=some (some v)/\i∉own
 | [],_,_,_,h=>⟨h,by simp⟩
 |j :: r,σ,i,v,h=>by
  obtain⟨h1,h2⟩:=clr_get (own:=r) (σ:=σ.set j none) h
  by_cases e:j=i
  .subst e
   rw[List.getElem?_set]at h1
   simp at h1
  .rw[List.getElem?_set_ne e]at h1
   exact⟨h1,by simp;exact⟨fun z=>e z.symm,h2⟩⟩
theorem clr_out:∀{own:List Nat} {σ:St} {i:Nat},i∉own->(clr own σ)[i]?=σ[i]?
 | [],_,_,_=>rfl
 |j :: r,σ,i,h=>by
  have h1:i≠j:=fun z=>h (by simp[z])
  have h2:i∉r:=fun z=>h (by simp[z])
  show(clr r (σ.set j none))[i]?=_
  rw[clr_out h2,List.getElem?_set_ne (Ne.symm h1)]
section
variable {X:Cx} {pins:List (Addr×Obj)} {σ:St} {H H':Hp} {s s':Shared} {scope:Scope} {ex:List Addr} {own:List Nat}
theorem comp_cells (I:Inv X pins σ H s) (S:CompSc X scope):
  (∀x c,(closL X.env.cells scope.names []).lookup x=some c->X.env.cells.lookup x=some c)/\
  (∀x,(x,NameKind.free)∈scope.names->∃c,(closL X.env.cells scope.names []).lookup x=some c)/\
  CellsOk (compHeap s.heap scope.names) (s.heap.objs.size+1) (cellsFrom (s.heap.objs.size+1) scope.names []):=by
 have hc:∀x c,(x,c)∈closL X.env.cells scope.names []->X.env.cells.lookup x=some c:=fun x c h=>by
  rcases closL_mem h with z|⟨z,e⟩
  .simp at z
  .obtain⟨c',e'⟩:=I.ok.has x (S.free x z)
   rw[e',Option.getD_some]at e
   rw[e',e]
 refine⟨fun x c h=>hc x c (PySem.mem_of_lookup h),fun x h=>?_,?_⟩
 .obtain⟨c,q⟩:=closL_has (cells:=X.env.cells) (acc:=[]) (.inl h)
  exact lookup_some_of_mem q
 .have q:=cellsFrom_ok scope.names (s.heap.push { cls:=.type "dict",data:=.dict #[] }) (s.heap.objs.size+1) [] ⟨fun _ _ hm=>(nomatch hm),List.Pairwise.nil⟩ (by rw[Heap.size_push];exact Nat.le_refl _)
  rw[Heap.size_push]at q
  exact q
theorem comp_start (I:Inv X pins σ H s) (hex:∀b∈ex,FpOk X pins H b) (hlt:∀b∈ex,b<s.heap.objs.size) (S:CompSc X scope)
  (hown:∀i x,X.N[i]?=some x->(scope.names.lookup x=some .local\/scope.names.lookup x=some .cell)->i∈own):
  Inv (X.comp scope s H ex) [] (clr own σ) H { s with heap:=compHeap s.heap scope.names }:=by
 obtain⟨hcl,hcf,ok⟩:=comp_cells I S
 have lk:∀x c,(X.comp scope s H ex).env.cells.lookup x=some c->(cellsFrom (s.heap.objs.size+1) scope.names []).lookup x=some c\/((cellsFrom (s.heap.objs.size+1) scope.names []).lookup x=none/\X.env.cells.lookup x=some c):=fun x c h=>by
  have h':(cellsFrom (s.heap.objs.size+1) scope.names (closL X.env.cells scope.names [])).lookup x=some c:=h
  rw[cellsFrom_app,List.lookup_append]at h'
  cases q:(cellsFrom (s.heap.objs.size+1) scope.names []).lookup x with
  |some d=>rw[q]at h';exact .inl h'
  |none=>rw[q]at h';exact .inr ⟨rfl,hcl x c h'⟩
 have newC:∀x c,(cellsFrom (s.heap.objs.size+1) scope.names []).lookup x=some c->(compHeap s.heap scope.names).IsCell c none/\s.heap.objs.size+1<=c:=fun x c h=>ok.empty x c (PySem.mem_of_lookup h)
 have oldC:∀x c,X.env.cells.lookup x=some c->c<s.heap.objs.size:=fun x c h=>let⟨_,q⟩:=I.cell x c h;q.lt
 have keep:∀b o,s.heap.get? b=some o->(compHeap s.heap scope.names).get? b=some o:=fun b o e=>pushCells_keeps _ _ b o (Heap.get?_push_of_some _ e)
 have fresh:∀b,s.heap.objs.size<=b->H b=none:=fun b hb=>I.hok.fresh hb
 have loc0:(X.comp scope s H ex).env.locals=s.heap.objs.size:=rfl
 refine⟨⟨I.ok.mod,S.kind,I.ok.glob,?_,Nat.le_refl _,fun x y c h1 h2=>?_,fun x hx=>?_,fun x c hf h=>?_,I.ok.hd,I.ok.frames,.inl rfl,fun b hb=>?_,I.bs,Nat.le_trans I.ok.bsz I.sz,fun b o e hb=>?_,fun b hb=>?_,I.stack,I.stkFree⟩,
  rfl,I.bare,Un.kept keep,⟨fun _=>none,?_,fun i x v h1 h2 h3=>?_⟩,fun x c h=>?_,fresh _ (Nat.le_refl _),fun x c h=>?_,fun p hp=>absurd (show p∈([]:List (Addr×Obj)) from hp) (by simp),I.hok.kept keep,?_⟩
 .show X.env.builtins=_
  exact I.ok.blt
 .rcases lk x c h1 with q1|⟨_,q1⟩<;>rcases lk y c h2 with q2|⟨_,q2⟩
  .exact name_of_addr ok.apart (PySem.mem_of_lookup q1) (PySem.mem_of_lookup q2)
  .exact absurd (Nat.lt_of_lt_of_le (oldC y c q2) (Nat.le_trans (Nat.le_succ _) (newC x c q1).2)) (Nat.lt_irrefl _)
  .exact absurd (Nat.lt_of_lt_of_le (oldC x c q1) (Nat.le_trans (Nat.le_succ _) (newC y c q2).2)) (Nat.lt_irrefl _)
  .exact I.ok.inj x y c q1 q2
 .have hx':(relabel scope X.env).names.lookup x=some .cell\/(relabel scope X.env).names.lookup x=some .free:=hx
  have fin:∀k,scope.names.lookup x=some k->(k=.cell\/k=.free)->∃c,(cellsFrom (s.heap.objs.size+1) scope.names (closL X.env.cells scope.names [])).lookup x=some c:=fun k hk hkk=>by
   rw[cellsFrom_app,List.lookup_append]
   rcases hkk with rfl|rfl
   .obtain⟨c,q⟩:=cell_has (n:=s.heap.objs.size+1) hk
    exact⟨c,by rw[q];rfl⟩
   .obtain⟨c,q⟩:=hcf x (PySem.mem_of_lookup hk)
    cases z:(cellsFrom (s.heap.objs.size+1) scope.names []).lookup x with
    |some d=>exact⟨d,rfl⟩
    |none=>exact⟨c,by rw[q];rfl⟩
  rcases hx' with hx'|hx'<;>obtain⟨k,hk,e⟩:=relabel_lookup hx'
  .rcases e with e|⟨e,_⟩
   .exact fin k hk (.inl e.symm)
   .exact fin k hk (.inr e)
  .rcases e with e|⟨e,_⟩
   .exact fin k hk (.inr e.symm)
   .exact fin k hk (.inr e)
 .rcases lk x c h with q|⟨q,_⟩
  .have:=(newC x c q).2
   show s.heap.objs.size<=c
   omega
  .have hf':((cellsFrom (s.heap.objs.size+1) scope.names []).lookup x).isSome=true:=hf
   rw[q]at hf'
   cases hf'
 .refine⟨?_,fun x c h=>?_⟩
  .show b≠s.heap.objs.size
   exact Nat.ne_of_lt (hlt b hb)
  .rcases lk x c h with q|⟨_,q⟩
   .intro e
    rw[e]at q
    exact absurd (Nat.lt_of_lt_of_le (hlt b hb) (Nat.le_trans (Nat.le_succ _) (newC x b q).2)) (Nat.lt_irrefl _)
   .exact(hex b hb).2.2.2.2.1 x c q
 .rcases(hex b hb).2.2.2.1 with z|z
  .exact I.ok.noex b o e z
  .exact absurd (Nat.lt_of_lt_of_le (Heap.lt_size e) (Nat.le_trans I.ok.bsz z)) (Nat.lt_irrefl _)
 .intro z
  rcases List.mem_cons.mp (I.stkSub b z)with e|e
  .exact(hex b hb).2.1 e
  .exact(hex b hb).2.2.1 e
 .show(compHeap s.heap scope.names).Ns s.heap.objs.size _
  exact(Heap.Ns.new s.heap (.type "dict")).keeps (pushCells_keeps _ _)
 .obtain⟨h2,hno⟩:=clr_get h2
  have h3':(relabel scope X.env).names.lookup x=some .local\/(relabel scope X.env).names.lookup x=some .cell\/(relabel scope X.env).names.lookup x=some .free:=h3
  have h3k:∃k',(relabel scope X.env).names.lookup x=some k'/\(k'=.local\/k'=.cell\/k'=.free):=by
   rcases h3' with z|z|z
   .exact⟨_,z,.inl rfl⟩
   .exact⟨_,z,.inr (.inl rfl)⟩
   .exact⟨_,z,.inr (.inr rfl)⟩
  obtain⟨k',hk',hkk⟩:=h3k
  obtain⟨k,hk,e⟩:=relabel_lookup hk'
  have hfree:k=.free:=by
   rcases e with e|⟨e,_⟩
   .subst e
    rcases hkk with z|z|z
    .subst z;exact absurd (hown i x h1 (.inl hk)) hno
    .subst z;exact absurd (hown i x h1 (.inr hk)) hno
    .exact z
   .exact e
  subst hfree
  have hm:=PySem.mem_of_lookup hk
  have hv:Vis X.env.scope x:=by
   rcases S.free x hm with z|z
   .exact .inr (.inl z)
   .exact .inr (.inr z)
  obtain⟨m,hn,hl⟩:=I.loc
  obtain⟨u,r,l⟩:=hl i x v h1 h2 hv
  refine⟨u,r,?_⟩
  have hkind:(X.comp scope s H ex).env.kindOf x=some .cell\/(X.comp scope s H ex).env.kindOf x=some .free:=by
   show(relabel scope X.env).names.lookup x=some .cell\/(relabel scope X.env).names.lookup x=some .free
   rcases e with e|⟨_,e⟩
   .subst e;exact .inr hk'
   .subst e;exact .inl hk'
  have hcc:∃c,X.env.cells.lookup x=some c/\s.heap.IsCell c (some u):=by
   rcases l with⟨kk,_⟩|⟨_,c,e1,e2⟩
   .rcases S.free x hm with z|z
    .rw[z]at kk;cases kk
    .rw[z]at kk;cases kk
   .exact⟨c,e1,e2⟩
  obtain⟨c,e1,e2⟩:=hcc
  refine .inr ⟨hkind,c,?_,e2.keeps keep⟩
  show(cellsFrom (s.heap.objs.size+1) scope.names (closL X.env.cells scope.names [])).lookup x=some c
  rw[cellsFrom_app,List.lookup_append]
  have hnone:(cellsFrom (s.heap.objs.size+1) scope.names []).lookup x=none:=by
   cases z:(cellsFrom (s.heap.objs.size+1) scope.names []).lookup x with
   |none=>rfl
   |some d=>
    exfalso
    have q1:=S.one x (cellsFrom_mem (PySem.mem_of_lookup z))
    rw[hk]at q1
    cases q1
  obtain⟨c',q⟩:=hcf x hm
  have q':=hcl x c' q
  rw[e1]at q'
  cases q'
  rw[hnone,q]
  rfl
 .rcases lk x c h with q|⟨_,q⟩
  .exact⟨_,(newC x c q).1⟩
  .obtain⟨v,z⟩:=I.cell x c q
   exact⟨v,z.keeps keep⟩
 .rcases lk x c h with q|⟨_,q⟩
  .have:=(newC x c q).2
   exact fresh c (by omega)
  .exact I.freeC x c q
 .rw[clr_len]
  exact I.len
end
section
variable {X:Cx} {pins:List (Addr×Obj)} {σ:St} {H H':Hp} {s s':Shared} {scope:Scope} {ex:List Addr} {own:List Nat}
theorem hok_but {P:Program} {w:World} {h h':Heap} {a:Addr} (x:HOk P w H h) (hn:H a=none) (hs:∀b o,b≠a->h.get? b=some o->h'.get? b=some o):HOk P w H h':=fun b ob e=>
 (x b ob e).stay (fun c w' hc q=>hs c w' (by
  rintro rfl
  rcases hc with rfl|hc
  .rw[hn]at e;cases e
  .rw[hn]at hc;cases hc) q) (fun _ q=>q) fun _ _ q=>q
theorem comp_end {σ':St} {pins':List (Addr×Obj)} {h':Heap} (I:Inv X pins σ H s) (hex:∀b∈ex,FpOk X pins H b) (J:Inv (X.comp scope s H ex) pins' σ' H' s') (hs:Heap.SameBut s.heap.objs.size s'.heap h'):
  Inv X pins σ H' { s' with heap:=h' }:=by
 have ne:∀b o,s.heap.get? b=some o->b≠s.heap.objs.size:=fun b o e=>Nat.ne_of_lt (Heap.lt_size e)
 have u:Un (frs X.stack) ex H H' s.heap s'.heap:=J.base
 have hf:H' s.heap.objs.size=none:=J.free
 refine I.call' (s':={ s' with heap:=h' }) (ch:=ex) J.os ⟨fun b o e n hb hx=>?_,fun b o e n hb hx=>?_,u.free,fun b o e hx=>?_,u.tups,u.frzs,u.tbls⟩ (hok_but J.hok hf fun b o hb e=>(hs.2 b hb).trans e) J.bare fun b hb=>?_
 .exact(hs.2 b (ne b o e)).trans (u.keep b o e n hb hx)
 .obtain⟨sl,q⟩:=u.slot b o e n hb hx
  exact⟨sl,(hs.2 b (ne b o e)).trans q⟩
 .obtain⟨o',q⟩:=u.there b o e hx
  exact⟨o',(hs.2 b (ne b o e)).trans q⟩
 .obtain⟨f0,f1,f2,f3,f4,f5⟩:=hex b hb
  exact⟨f3,f1,f4,f5⟩
end
def PTs (X:Cx) (ifs:List Expr) (t:TT):Prop:=∀(pins:List (Addr×Obj)) (s:Shared) (σ:St) (H:Hp) (Q:Bool->Hp->Prop),Inv X pins σ H s->t σ H Q->
 wpAny (model X.prog X.w) X.A (forIn ifs true fun c r=>if r=true then do let ok <- isTrue c X.env (eval c X.env);pure (ForInStep.yield ok)else pure (ForInStep.yield r)) (TP X pins σ Q) X.xe s
theorem pts_nil {X:Cx}:PTs X [] (fun _ H Q=>Q true H):=fun pins s σ H Q I h=>wpAny_tests_nil ⟨H,I,h⟩
theorem pts_one {X:Cx} {c:Expr} {t:TT} (hc:PT X c t):PTs X [c] t:=fun pins s σ H Q I h=>wpAny_tests_one (hc pins s σ H Q I h)
def Ext (ws:List Nat) (σ σ':St):Prop:=σ'.length=σ.length/\∀j,j∉ws->σ'[j]?=σ[j]?
theorem Ext.refl {ws:List Nat} {σ:St}:Ext ws σ σ:=⟨rfl,fun _ _=>rfl⟩
theorem Ext.trans {ws:List Nat} {σ σ1 σ2:St} (a:Ext ws σ σ1) (b:Ext ws σ1 σ2):Ext ws σ σ2:=⟨b.1.trans a.1,fun j hj=>(b.2 j hj).trans (a.2 j hj)⟩
theorem Ext.mono {ws ws':List Nat} {σ σ1:St} (a:Ext ws σ σ1) (h:∀j∈ws,j∈ws'):Ext ws' σ σ1:=⟨a.1,fun j hj=>a.2 j fun z=>hj (h j z)⟩
theorem Ext.clr {ws:List Nat} {σ:St}:Ext ws σ (clr ws σ):=⟨clr_len _ _,fun j hj=>clr_out hj⟩
theorem Ext.back {ws:List Nat} {σ σ':St} (a:Ext ws (L2.clr ws σ) σ') (i:Nat) (v:V) (h:(L2.clr ws σ)[i]?=some (some v)):σ'[i]?=some (some v):=by
 obtain⟨_,q⟩:=clr_get h
 rw[a.2 i q]
 exact h
def GExt (ws:List Nat) (g:TG):Prop:=∀(x:V) (σ:St) (H:Hp) (Q:St->Hp->Prop),g x σ H Q->g x σ H fun σ2 H2=>Q σ2 H2/\Ext ws σ σ2
theorem gext_name {i:Nat} {ws:List Nat} (h:i∈ws):GExt ws (gName i):=fun x σ H Q q=>⟨q,by simp,fun j hj=>by
 have:i≠j:=fun z=>hj (z ▸ h)
 rw[List.getElem?_set_ne this]⟩
noncomputable def turnCode (e:Expr) (d:Nat) (tg iter:Expr) (ifs:List Expr) (nx:Sem Unit) (it acc:Value) (env:Env):Sem Fin:=do
 standAt iter.pos
 match <- pyNext it with
 |none=>pure (.done .next)
 |some v=>
  letOwnedTupleGo tg it v
  assign tg env v
  let mut ok:=true
  for c in ifs do
   if ok then ok <- isTrue c env (eval c env)
  if ok then nx
  again (.compLoop e d it acc env)
noncomputable abbrev TL (α:Type):=St->α->Hp->(α->Hp->Prop)->Prop
def CompRun {α:Type} (X:Cx) (D:Addr) (Is:α->Obj->Prop) (ws:List Nat) (code:Sem Unit) (t:TL α):Prop:=
 ∀(pins:List (Addr×Obj)) (s:Shared) (σ:St) (H:Hp) (a:α) (o:Obj) (N:α->Hp->Prop),Inv X pins σ H s->FpOk X pins H D->s.heap.get? D=some o->Is a o->t σ a H N->
  wpAny (model X.prog X.w) X.A code (fun _ s'=>∃σ' a' o' H',Inv X pins σ' H' s'/\Ext ws σ σ'/\s'.heap.get? D=some o'/\Is a' o'/\H' D=none/\N a' H') (fun _ _=>False) s
noncomputable def tClause {α:Type} (ws:List Nat) (g:TG) (tc:TT) (rest:TL α) (J:It):TL α:=fun σ a H1 N=>
 ∃W:Nat->Nat->α->Hp->Prop,(∃m,W 0 m a H1)/\∀i m b H,W i m b H->
  (J.stop i H/\N b H)\/(J.go i H/\∀x H',J.yld i H x H'->g x (clr ws σ) H' fun σ2 H2=>tc σ2 H2 fun ok H3=>
   if ok=true then rest σ2 b H3 (fun c H4=>∃m',m'<m/\W (i+1) m' c H4)else ∃m',m'<m/\W (i+1) m' b H3)
theorem comp_loop {α:Type} {Is:α->Obj->Prop} {X:Cx} {e:Expr} {d:Nat} {tg iter:Expr} {ifs:List Expr} {nx:Sem Unit} {it D:Addr} {fp:List Addr} {tn:Nat->Heap->Prop} {J:It} {g:TG} {tc:TT} {rest:TL α} {ws ws':List Nat}
  (hxe:X.xe=fun _ _=>False) (hcalm:X.calm=true)
  (hq:(Code.compLoop e d (.ref it) (.ref D) X.env).quiet=true) (hu:X.A.under (Code.compLoop e d (.ref it) (.ref D) X.env)=X.A)
  (hT:(model X.prog X.w).den (.compLoop e d (.ref it) (.ref D) X.env)=(turnCode e d tg iter ifs nx (.ref it) (.ref D) X.env).onRaise (fun x=>do noteFrame x X.env;theTreesLotGoes x))
  (T:Turn X.prog X.w X.K tg J fp it tn) (hg:PG X tg g) (hge:GExt ws g) (ht:PTs X ifs tc) (hn:CompRun X D Is ws' nx rest) (hws:∀j∈ws',j∈ws) (hIs:∀a o,Is a o->∀v,o.data≠.cell v) (hDf:D∉fp)
  {pins:List (Addr×Obj)} {s:Shared} {σ:St} {H:Hp} {a:α} {o:Obj} {N:α->Hp->Prop} (I:Inv X pins σ H s) (hf:∀b∈fp,FpOk X pins H b) (hD:FpOk X pins H D) (ho:s.heap.get? D=some o) (ha:Is a o) (h0:tn 0 s.heap)
  (hw:tClause ws g tc rest J σ a H N):
  codeAny (model X.prog X.w) X.A (.compLoop e d (.ref it) (.ref D) X.env) (fun r s'=>r=.ok .next/\∃a' o' H',Inv X pins (clr ws σ) H' s'/\s'.heap.get? D=some o'/\Is a' o'/\H' D=none/\N a' H') s:=by
 obtain⟨W,⟨m0,w0⟩,turn⟩:=hw
 have stat:∀{H':Hp} {pl:List (Addr×Obj)},(∀b∈D :: fp,H' b=none)->(∀b∈D :: fp,FpOk X pins H' b):=fun {H' pl} hn b hb=>by
  rcases List.mem_cons.mp hb with rfl|hb'
  .exact⟨hn _ List.mem_cons_self,hD.2⟩
  .exact⟨hn b hb,(hf b hb').2⟩
 refine codeAny_loop hq (fun n s'=>∃i b ob H',Inv X pins (clr ws σ) H' s'/\tn i s'.heap/\(∀b∈D :: fp,H' b=none)/\s'.heap.get? D=some ob/\Is b ob/\W i n b H') ?_ m0
  ⟨0,a,o,H,I.weak (clr_len _ _) (fun i v q=>(clr_get q).1),h0,fun b hb=>by
   rcases List.mem_cons.mp hb with rfl|hb'
   .exact hD.1
   .exact(hf b hb').1,ho,ha,w0⟩
 rintro n s3 ⟨i,b,ob,H3,I3,st3,fr3,o3,is3,w3⟩
 rw[hu,hT]
 refine wpAny_noted ?_
 have hE:∀{β:Type} {c:Sem β} {Q:β->Shared->Prop} {s:Shared} {E:Value->Shared->Prop},wpAny (model X.prog X.w) X.A c Q (fun _ _=>False) s->wpAny (model X.prog X.w) X.A c Q E s:=fun h=>wpAny_mono h (fun _ _ q=>q) fun _ _ q=>q.elim
 refine hE ?_
 unfold turnCode
 refine wpAny_bind (wpAny_standAt (wpAny_bind ?_))
 have hxeE:∀{β:Type} {c:Sem β} {Q:β->Shared->Prop} {s:Shared},wpAny (model X.prog X.w) X.A c Q X.xe s->wpAny (model X.prog X.w) X.A c Q (fun _ _=>False) s:=fun h=>by rw[hxe]at h;exact h
 have pD:Inv X (pins++pinsAt [D] s3.heap) (clr ws σ) H3 s3:=I3.pinned (fun b hb=>by
  have e:b=D:=by simpa using hb
  subst e
  exact stat (pl:=[]) fr3 b List.mem_cons_self) (fun b hb=>by
  have e:b=D:=by simpa using hb
  subst e
  exact⟨ob,o3,hIs _ _ is3⟩)
 have mD:(D,ob)∈pinsAt [D] s3.heap:=mem_pinsAt (by simp) o3
 have fpD:∀{H':Hp},(∀b∈fp,H' b=none)->∀b∈fp,FpOk X (pins++pinsAt [D] s3.heap) H' b:=fun {H'} hn b hb=>by
  obtain⟨_,f1,f2,f3,f4,f5⟩:=hf b hb
  refine⟨hn b hb,f1,f2,f3,f4,fun p hp=>?_⟩
  rcases List.mem_append.mp hp with q|q
  .exact f5 p (List.mem_append_left _ q)
  .rcases List.mem_append.mp q with q|q
   .exact f5 p (List.mem_append_right _ q)
   .have e:p.1=D:=by simpa using(of_pinsAt q).1
    rw[e]
    rintro rfl
    exact hDf hb
 have fr3':∀b∈fp,H3 b=none:=fun b hb=>fr3 b (List.mem_cons_of_mem _ hb)
 rcases turn i n b H3 w3 with⟨stop,qn⟩|⟨go,step⟩
 .refine thn (T.done X rfl rfl rfl hcalm i _ s3 _ H3 _ pD (fpD fr3') st3 stop) fun r s4 ⟨hr,I4⟩=>?_
  subst hr
  have q4:=I4.pin (D,ob) (List.mem_append_right _ (List.mem_append_right _ mD))
  exact wpAny_pure ⟨rfl,b,ob,H3,I4.unpinned,q4.1,is3,q4.2.1,qn⟩
 .refine thn (T.item X rfl rfl rfl hcalm i _ s3 _ H3 _ pD (fpD fr3') st3 go) fun r s4 ⟨u,hr,h4⟩=>?_
  subst hr
  refine wpAny_bind (thn h4 fun _ s5 ⟨x,H5,I5,r5,y5,st5,fr5⟩=>?_)
  have I5':=I5.pinned (fpD fr5) (T.obj _ _ st5)
  refine wpAny_bind (thn (hxeE (hg _ s5 _ H5 x u _ I5' r5 (hge x _ H5 _ (step x H5 y5)))) fun _ s6 ⟨σ6,H6,I6,q6,x6⟩=>?_)
  refine wpAny_bind (thn (hxeE (ht _ s6 σ6 H6 _ I6 q6)) fun ok s7 ⟨H7,I7,q7⟩=>?_)
  have q7D:=I7.pin (D,ob) (List.mem_append_right _ (List.mem_append_left _ (List.mem_append_right _ mD)))
  have q7f:∀b∈fp,∀o,s5.heap.get? b=some o->s7.heap.get? b=some o/\H7 b=none:=fun b hb o e =>
   let q:=I7.pin (b,o) (List.mem_append_right _ (List.mem_append_right _ (mem_pinsAt hb e)))
   ⟨q.1,q.2.1⟩
  have st7:tn (i+1) s7.heap:=T.keep _ _ _ st5 fun b hb o e=>(q7f b hb o e).1
  have fr7:∀b∈fp,H7 b=none:=fun b hb=>by
   obtain⟨o,e,_⟩:=T.obj _ _ st5 b hb
   exact(q7f b hb o e).2
  have I7':Inv X pins σ6 H7 s7:=I7.unpinned.unpinned
  cases ok with
  |false=>
   have q7':∃m',m'<n/\W (i+1) m' b H7:=q7
   obtain⟨m',hm,w7⟩:=q7'
   refine wpAny_pure ⟨rfl,m',hm,i+1,b,ob,H7,I7'.weak ?_ x6.back,st7,fun c hc=>?_,q7D.1,is3,w7⟩
   .rw[x6.1]
   .rcases List.mem_cons.mp hc with rfl|hc'
    .exact q7D.2.1
    .exact fr7 c hc'
  |true=>
   have I7p:=I7'.pinned (fun b hb=>stat (pl:=[]) (fun c hc=>by
    rcases List.mem_cons.mp hc with rfl|hc'
    .exact q7D.2.1
    .exact fr7 c hc') b (List.mem_cons_of_mem _ hb)) (T.obj _ _ st7)
   have fD:FpOk X (pins++pinsAt fp s7.heap) H7 D:=by
    obtain⟨_,f1,f2,f3,f4,f5⟩:=hD
    refine⟨q7D.2.1,f1,f2,f3,f4,fun p hp=>?_⟩
    rcases List.mem_append.mp hp with q|q
    .exact f5 p (List.mem_append_left _ q)
    .rcases List.mem_append.mp q with q|q
     .exact f5 p (List.mem_append_right _ q)
     .intro z
      exact hDf (z ▸ (of_pinsAt q).1)
   refine wpAny_bind (thn (hn _ s7 σ6 H7 b ob _ I7p fD q7D.1 is3 q7) fun _ s8 ⟨σ8,b8,o8,H8,I8,x8,e8,is8,n8,m',hm,w8⟩=>?_)
   have q8f:∀b∈fp,∀o,s7.heap.get? b=some o->s8.heap.get? b=some o/\H8 b=none:=fun b hb o e =>
    let q:=I8.pin (b,o) (List.mem_append_right _ (List.mem_append_right _ (mem_pinsAt hb e)))
    ⟨q.1,q.2.1⟩
   have x8':Ext ws (clr ws σ) σ8:=x6.trans (x8.mono hws)
   refine wpAny_pure ⟨rfl,m',hm,i+1,b8,o8,H8,I8.unpinned.weak (by rw[x8'.1]) x8'.back,T.keep _ _ _ st7 fun b hb o e=>(q8f b hb o e).1,fun c hc=>?_,e8,is8,w8⟩
   rcases List.mem_cons.mp hc with rfl|hc'
   .exact n8
   .obtain⟨o,e,_⟩:=T.obj _ _ st7 c hc'
    exact(q8f c hc' o e).2
def IsL (xs:List V) (o:Obj):Prop:=xs.length<=sizeLine/\∃(its:List Value) (n:Nat),Vals xs its/\o={ cls:=.type "list",data:=.seq its.toArray n }
theorem isL_data (xs:List V) (o:Obj) (h:IsL xs o) (v:Option Value):o.data≠.cell v:=by
 obtain⟨_,its,n,_,rfl⟩:=h
 intro z
 cases z
noncomputable def tEmit (te:TE):TL (List V):=fun σ xs H N=>te σ H fun v H'=>xs.length<sizeLine/\N (xs++[v]) H'
theorem run_emit {X:Cx} {D:Addr} {elt:Expr} {te:TE} (hxe:X.xe=fun _ _=>False) (he:PE X elt te):CompRun X D IsL [] (do let _ <- call (.builtin "list.append") [.ref D,<- eval elt X.env]) (tEmit te):=by
 intro pins s σ H xs o N I hD ho hi hq
 have I1:Inv X (pins++pinsAt [D] s.heap) σ H s:=I.pinned (fun b hb=>by
  have e:b=D:=by simpa using hb
  subst e
  exact hD) (fun b hb=>by
  have e:b=D:=by simpa using hb
  subst e
  exact⟨o,ho,isL_data _ _ hi⟩)
 have h1:=he _ s σ H _ I1 hq
 rw[hxe]at h1
 refine wpAny_bind (thn h1 fun u s1 ⟨v,H1,J1,r1,z1,n1⟩=>?_)
 have q1:=J1.pin (D,o) (List.mem_append_right _ (List.mem_append_right _ (mem_pinsAt (by simp) ho)))
 obtain⟨zx,its,n,rv,rfl⟩:=hi
 have hl:=rv.length
 refine wpAny_bind (wpAny_list_append_plain (items:=its.toArray) ⟨n,q1.1⟩ (fun h' hp hs=>?_) (by rw[List.size_toArray,<- hl];exact zx))
 obtain⟨_,f1,f2,f3,f4,f5⟩:=hD
 have J2:Inv X pins σ H1 { s1 with heap:=h' }:=J1.unpinned.turned (it:=D) (t':=s1.toks) (fun b o hb e=>(hs.2 b hb).trans e) q1.2.1 f1 f3 f4 f5
 obtain⟨n',hp⟩:=hp
 refine wpAny_pure ⟨σ,xs++[v],_,H1,J2,Ext.refl,hp,⟨?_,its++[u],n',rv.append (.cons r1 .nil),?_⟩,q1.2.1,n1⟩
 .rw[List.length_append];exact z1
 .simp
theorem start_ok {M:Model} {A:Around} {e:Expr} {d:Nat} {it acc:Value} {env:Env} {R:Result->Shared->Prop} {s:Shared}
  (hq:(Code.compStart e d it acc env).quiet=true) (hu:A.under (Code.compStart e d it acc env)=A) (hql:∀it',(Code.compLoop e d it' acc env).quiet=true)
  (hden:M.den (.compStart e d it acc env)=(compStart e d it acc env).onRaise (fun x=>do noteFrame x env;standAt theWindowsPlace)) (hg:∃g,(clausesOf e)[d]?=some g/\g.is_async=0)
  (h0:codeAny M A (.compLoop e d it acc env) R s) (h1:∀E,wpAny M A (pyIter it) (fun it' s'=>it'=it/\s'=s) E s):codeAny M A (.compStart e d it acc env) R s:=by
 refine codeAny_of_tree ?_
 rw[hu,hden]
 refine wpAny_notedAt ?_
 obtain⟨g,eg,ea⟩:=hg
 unfold compStart
 rw[eg]
 have e1:((some g:Option Comprehension).elim false (fun x=>x.is_async != 0))=false:=by
  show(g.is_async != 0)=false
  rw[ea];rfl
 rw[e1]
 show wpAny _ _ (ask >>= _) _ _ s
 refine wpAny_bind (wpAny_askSetting (wpAny_ite ?_))
 have fin:wpAny M A (again (.compLoop e d it acc env)) (fun fin s'=>match fin with | .done f=>R (.ok f) s' | .again c=>c.quiet=true/\codeAny M A c R s') (notedBy M A env fun x s'=>R (.error x) s') s:=wpAny_pure ⟨hql it,h0⟩
 split
 .first
   |exact fin
   |exact wpAny_bind fin
   |exact wpAny_bind (wpAny_pure fin)
 .refine wpAny_bind (wpAny_rule ?_)
  refine wpAny_bind (wpAny_standAt ?_)
  refine wpAny_bind (wpAny_mono (h1 _) (fun it' s' q=>?_) fun _ _ q=>q)
  obtain⟨rfl,rfl⟩:=q
  exact fin
theorem clr_idem (own:List Nat) (σ:St):clr own (clr own σ)=clr own σ:=by
 apply List.ext_getElem?
 intro i
 by_cases h:i∈own
 .have z:∀τ:St,(clr own τ)[i]?=none\/(clr own τ)[i]?=some none:=fun τ=>by
   cases q:(clr own τ)[i]? with
   |none=>exact .inl rfl
   |some o=>
    cases o with
    |none=>exact .inr rfl
    |some v=>exact absurd h (clr_get q).2
  have hl:(clr own (clr own σ)).length=(clr own σ).length:=clr_len _ _
  rcases z (clr own σ)with a|a<;>rcases z σ with b|b<;>rw[a,b]
  .have q1:=List.getElem?_eq_none_iff.mp a
   have q2:=(List.getElem?_eq_some_iff.mp b).1
   omega
  .have q1:=List.getElem?_eq_none_iff.mp b
   have q2:=(List.getElem?_eq_some_iff.mp a).1
   omega
 .rw[clr_out h]
noncomputable def tNest {α:Type} (wi:TI) (c:It->TL α):TL α:=fun σ a H N=>wi σ H fun J H1=>c J σ a H1 N
noncomputable def tComp (own:List Nat) (wi:TI) (g:TG) (tc:TT) (rest:TL (List V)):TE:=fun σ H Q=>wi σ H fun J H1=>tClause own g tc rest J σ [] H1 fun xs H2=>∀p,H2 p=none->Q (.ref p) (upd H2 p (.lst xs))
structure CompIn (X:Cx) (e:Expr) (scope:Scope) (tg:Expr) (iter:Expr) (ifs:List Expr) (nx:Addr->Env->Sem Unit) (g:TG) (tc:TT) (rest:TL (List V)) (own:List Nat):Prop where
 sc:CompSc X scope
 ow:∀i x,X.N[i]?=some x->(scope.names.lookup x=some .local\/scope.names.lookup x=some .cell)->i∈own
 cl:∃gs,clausesOf e=⟨tg,iter,ifs,0⟩ :: gs
 fs:∀x,foldedSetIterable iter X.env x=pure x
 calm:X.calm=true
 q:∀it D env,(Code.compLoop e 0 it (.ref D) env).quiet=true/\(Code.compStart e 0 it (.ref D) env).quiet=true
 u:∀A it D env,Around.under A (Code.compLoop e 0 it (.ref D) env)=A/\Around.under A (Code.compStart e 0 it (.ref D) env)=A
 T:∀P w it D env,(model P w).den (.compLoop e 0 it (.ref D) env)=(turnCode e 0 tg iter ifs (nx D env) it (.ref D) env).onRaise (fun x=>do noteFrame x env;theTreesLotGoes x)
 S:∀P w it D env,(model P w).den (.compStart e 0 it (.ref D) env)=(compStart e 0 it (.ref D) env).onRaise (fun x=>do noteFrame x env;standAt theWindowsPlace)
 ge:GExt own g
 inn:∀s0 H0 ex D,PG (X.comp scope s0 H0 ex) tg g/\PTs (X.comp scope s0 H0 ex) ifs tc/\∃ws',(∀j∈ws',j∈own)/\CompRun (X.comp scope s0 H0 ex) D IsL ws' (nx D (X.comp scope s0 H0 ex).env) rest
section
variable {X:Cx} {e:Expr} {scope:Scope} {tg iter:Expr} {ifs:List Expr} {nx:Addr->Env->Sem Unit} {g:TG} {tc:TT} {rest:TL (List V)} {own:List Nat} {wi:TI}
theorem comp_all (C:CompIn X e scope tg iter ifs nx g tc rest own) (hi:PI X tg iter wi) {pins:List (Addr×Obj)} {s:Shared} {σ:St} {H:Hp} {R:V->Hp->Prop} (I:Inv X pins σ H s) (hw:tComp own wi g tc rest σ H R)
  {use:Option (Value->Sem Unit)} {Q:Value->Shared->Prop} {pos:Pos}
  (fin:∀(s3 s':Shared) (H0 H':Hp) (ex:List Addr) (D:Addr) (xs:List V) (o:Obj) (σ':St),Inv X pins σ H0 s3->(∀b∈ex,FpOk X pins H0 b)->Inv (X.comp scope s3 H0 ex) [] σ' H' s'->s'.heap.get? D=some o->D<s3.heap.objs.size->X.s₀.heap.objs.size<=D->FpOk X pins H0 D->IsL xs o->H' D=none->R (.ref D) (upd H' D (.lst xs))->
   compPost (model X.prog X.w) X.A X.xe use Q (.ref D) s3.heap.objs.size (.ok .next) s'):
  wpAny (model X.prog X.w) X.A (comprehension e scope X.env pos (newList []) false (eval iter X.env) use) Q X.xe s:=by
 obtain⟨gs,hcl⟩:=C.cl
 refine wpAny_comprehension_free hcl C.fs (closFor fun n hn=>I.ok.has n (C.sc.free n hn)) C.sc.kind C.sc.names ?_
 refine thn (hi pins s σ H _ I hw) fun v s1 h1=>thn h1 fun itv s2 h2=>?_
 obtain⟨it,fp,tn,J,H2,rfl,I2,T,st2,f2,hc⟩:=h2
 refine wpAny_newObj_type (wpAny_compEnv ?_)
 have keep:∀b o,s2.heap.get? b=some o->(s2.heap.push { cls:=.type "list",dict:=none,data:=.seq ([]:List Value).toArray }).get? b=some o:=fun b o e=>Heap.get?_push_of_some _ e
 have I3:Inv X pins σ H2 { s2 with heap:=s2.heap.push { cls:=.type "list",dict:=none,data:=.seq ([]:List Value).toArray } }:=I2.kept (t':=s2.toks) keep
 have hsz:(s2.heap.push { cls:=.type "list",dict:=none,data:=.seq ([]:List Value).toArray }).objs.size=s2.heap.objs.size+1:=Heap.size_push ..
 have fD:FpOk X pins H2 s2.heap.objs.size:=I2.fpOk (Nat.le_refl _) (I2.hok.fresh (Nat.le_refl _))
 have hlt:∀b∈fp,b<s2.heap.objs.size:=fun b hb=>by
  obtain⟨o,e,_⟩:=T.obj _ _ st2 b hb
  exact Heap.lt_size e
 have hDf:s2.heap.objs.size∉fp:=fun z=>Nat.lt_irrefl _ (hlt _ z)
 have hex:∀b∈s2.heap.objs.size :: fp,FpOk X pins H2 b:=fun b hb=>by
  rcases List.mem_cons.mp hb with rfl|hb
  .exact fD
  .exact f2 b hb
 generalize hs3:({ s2 with heap:=s2.heap.push { cls:=.type "list",dict:=none,data:=.seq ([]:List Value).toArray } }:Shared)=s3 at *
 have hs3s:s3.heap.objs.size=s2.heap.objs.size+1:=by rw[<- hs3];exact hsz
 have hlt3:∀b∈s2.heap.objs.size :: fp,b<s3.heap.objs.size:=fun b hb=>by
  rw[hs3s]
  rcases List.mem_cons.mp hb with rfl|hb
  .exact Nat.lt_succ_self _
  .exact Nat.lt_succ_of_lt (hlt b hb)
 have J0:=comp_start (own:=own) I3 hex hlt3 C.sc C.ow
 obtain⟨c1,c2,ws',c4,c5⟩:=C.inn s3 H2 (s2.heap.objs.size :: fp) s2.heap.objs.size
 have kp:∀b o,s2.heap.get? b=some o->(compHeap s3.heap scope.names).get? b=some o:=fun b o e=>pushCells_keeps _ _ b o (Heap.get?_push_of_some _ (by rw[<- hs3];exact keep b o e))
 have oD:(compHeap s3.heap scope.names).get? s2.heap.objs.size=some { cls:=.type "list",dict:=none,data:=.seq ([]:List Value).toArray }:=pushCells_keeps _ _ _ _ (Heap.get?_push_of_some _ (by rw[<- hs3];exact Heap.get?_push_size _ rfl))
 have stat:∀b∈s2.heap.objs.size :: fp,FpOk (X.comp scope s3 H2 (s2.heap.objs.size :: fp)) [] H2 b:=fun b hb=>
  ⟨(hex b hb).1,(J0.ok.exf b hb).1,J0.ok.exfs b hb,.inl hb,(J0.ok.exf b hb).2,fun p hp=>absurd (show p∈([]:List (Addr×Obj)) from hp) (by simp)⟩
 have T':Turn (X.comp scope s3 H2 (s2.heap.objs.size :: fp)).prog (X.comp scope s3 H2 (s2.heap.objs.size :: fp)).w (X.comp scope s3 H2 (s2.heap.objs.size :: fp)).K tg J fp it tn:=T
 have hc':tClause own g tc rest J (clr own σ) [] H2 (fun xs H2=>∀p,H2 p=none->R (.ref p) (upd H2 p (.lst xs))):=by
  obtain⟨W,w0,turn⟩:=hc
  refine⟨W,w0,?_⟩
  rw[clr_idem]
  exact turn
 have st3:tn 0 ({ s3 with heap:=compHeap s3.heap scope.names }:Shared).heap:=T.keep _ _ _ st2 fun b hb o e=>kp b o e
 have L:=comp_loop (X:=X.comp scope s3 H2 (s2.heap.objs.size :: fp)) (Is:=IsL) (D:=s2.heap.objs.size) rfl C.calm (C.q _ _ _).1 (C.u _ _ _ _).1 (C.T _ _ _ _ _) T' c1 C.ge c2 c5 c4 isL_data hDf J0
  (fun b hb=>stat b (List.mem_cons_of_mem _ hb)) (stat _ List.mem_cons_self) oD ⟨Nat.zero_le _,[],0,.nil,rfl⟩ st3 hc'
 have L2:=start_ok (C.q _ _ _).2 (C.u _ _ _ _).2 (fun it'=>(C.q it' _ _).1) (C.S _ _ _ _ _) ⟨_,by rw[hcl];rfl,rfl⟩ L (fun E=>T.self _ 0 _ _ E st3 ⟨rfl,rfl⟩)
 refine codeAny_mono L2 fun r s' h=>?_
 obtain⟨rfl,xs,o',H',J',e',is',n',hN⟩:=h
 exact fin s3 s' H2 H' _ _ xs o' _ I3 hex J' e' (hlt3 _ List.mem_cons_self) I2.sz fD is' n' (hN _ n')
end
section
variable {X:Cx} {pins:List (Addr×Obj)} {σ:St} {H H':Hp} {s s':Shared} {D:Addr} {o:HO}
theorem Inv.track (I:Inv X pins σ H s) (f:FpOk X pins H D) (h0:X.s₀.heap.objs.size<=D) (new:ObjOk X.prog X.w (upd H D o) s.heap D o):Inv X pins σ (upd H D o) s:=by
 obtain⟨f0,f1,f2,f3,f4,f5⟩:=f
 have ne:∀b ob,X.s₀.heap.get? b=some ob->b≠D:=fun b ob e=>Nat.ne_of_lt (Nat.lt_of_lt_of_le (Heap.lt_size e) h0)
 have neT:∀b u,H b=some u->b≠D:=fun b u e z=>by rw[z,f0]at e;cases e
 refine⟨I.ok,I.os,I.bare,⟨I.base.keep,I.base.slot,fun b ob e n hx=>by rw[upd_ne (ne b ob e)];exact I.base.free b ob e n hx,I.base.there,fun b xs e=>?_,fun b ob u e=>?_,fun b ps e=>?_⟩,I.loc,I.cell,?_,fun x c e=>?_,fun p hp=>?_,fun b u e=>?_,I.len⟩
 .have q:=I.base.tups b xs e
  rw[upd_ne (neT b _ q)];exact q
 .have q:=I.base.frzs b ob u e
  rw[upd_ne (neT b _ q)];exact q
 .obtain⟨m,q⟩:=I.base.tbls b ps e
  exact⟨m,by rw[upd_ne (neT b _ q)];exact q⟩
 .rw[upd_ne (Ne.symm f1)];exact I.free
 .rw[upd_ne (f4 x c e)];exact I.freeC x c e
 .obtain⟨e,n,r⟩:=I.pin p hp
  refine⟨e,?_,r⟩
  rw[upd_ne (f5 p hp)];exact n
 .by_cases hb:b=D
  .subst hb
   rw[upd_same]at e;cases e
   exact new
  .rw[upd_ne hb]at e
   exact(I.hok b u e).stay (fun _ _ _ q=>q) (fun c q=>by rw[upd_ne (neT c _ q)];exact q) fun c xs q=>by rw[upd_ne (neT c _ q)];exact q
end
section
variable {X:Cx} {e:Expr} {scope:Scope} {tg iter:Expr} {ifs:List Expr} {nx:Addr->Env->Sem Unit} {g:TG} {tc:TT} {rest:TL (List V)} {own:List Nat} {wi:TI}
theorem pe_comp (C:CompIn X e scope tg iter ifs nx g tc rest own) (hi:PI X tg iter wi) {pos:Pos} (he:eval e X.env=comprehension e scope X.env pos (newList []) false (eval iter X.env)):PE X e (tComp own wi g tc rest):=by
 intro pins s σ H Q I hw
 rw[he]
 refine comp_all C hi I hw fun s3 s' H0 H' ex D xs o σ' I3 hex J e' hlt h0 fD is' n' hR=>?_
 obtain⟨m,hn,_⟩:=J.loc
 refine⟨m,hn,fun h' hs=>?_⟩
 have J2:=comp_end I3 hex J hs
 obtain⟨z,its,n,rv,rfl⟩:=is'
 have neC:D≠s3.heap.objs.size:=Nat.ne_of_lt hlt
 refine⟨.ref D,upd H' D (.lst xs),J2.track (o:=.lst xs) ⟨n',fD.2⟩ h0 ⟨z,its,n,rv,(hs.2 D neC).trans e'⟩,rfl,hR⟩
theorem ps_setcomp (C:CompIn X e scope tg iter ifs nx g tc rest own) (hi:PI X tg iter wi) {i:Nat} {y:Str} {py pos pos2:Pos} (hN:X.N.Nodup) (hy:X.N[i]?=some y) (hx:Loc X.env.scope y) (hf:X.fn y=true\/X.env.scope.names.lookup y=some .local)
  (he:evalThenUse e X.env (assign (.Name y py) X.env)=(do let _ <- comprehension e scope X.env pos2 (newList []) false (eval iter X.env) (some (assign (.Name y py) X.env))))
  (hsw:swapsWith e (some (.Name y py)) pos.line X.env=pure true):PS X (.Assign [.Name y py] e pos) (tAsg (tComp own wi g tc rest) (gName i)):=by
 intro pins s σ H D I hw
 rw[exec_Assign_Name_used _ _ _ _ hsw]
 refine wpAny_bind (wpAny_standAt (wpAny_bind ?_))
 rw[he]
 refine wpAny_bind (thn (Q:=fun _ s'=>SP X pins D .next s') (comp_all C hi I hw fun s3 s' H0 H' ex D' xs o σ' I3 hex J e' hlt h0 fD is' n' hR=>?_) fun _ s' q=>wpAny_pure (wpAny_pure q))
 obtain⟨m,hn,_⟩:=J.loc
 have J2:Inv X pins σ H' s':=comp_end I3 hex J (Heap.SameBut.refl ..)
 obtain⟨z,its,n,rv,rfl⟩:=is'
 have neC:D'≠s3.heap.objs.size:=Nat.ne_of_lt hlt
 have J3:Inv X pins σ (upd H' D' (.lst xs)) s':=J2.track ⟨n',fD.2⟩ h0 ⟨z,its,n,rv,e'⟩
 have fC:FpOk X pins H0 s3.heap.objs.size:=I3.fpOk (Nat.le_refl _) (I3.hok.fresh (Nat.le_refl _))
 refine wpAny_assign_Name (store_ok2 J3 hN hy hx (v:=.ref D') rfl (fun s'' J4 hs=>?_) hf)
 obtain⟨a,hsa,ha⟩:=hs
 have haC:s3.heap.objs.size≠a:=by
  rcases ha with rfl|ha
  .exact fC.2.1
  .exact fun q=>fC.2.2.2.2.1 _ _ ha q.symm
 have hn':s'.heap.Ns s3.heap.objs.size m:=hn
 refine⟨m,hn'.sameBut hsa haC,fun h' hs'=>?_⟩
 have J5:Inv X pins (σ.set i (some (.ref D'))) (upd H' D' (.lst xs)) { s'' with heap:=h' }:=J4.turned (it:=s3.heap.objs.size) (t':=s''.toks) (fun b ob hb q=>(hs'.2 b hb).trans q) (by rw[upd_ne (Ne.symm neC)];exact J.free) fC.2.1 fC.2.2.2.1 fC.2.2.2.2.1 fC.2.2.2.2.2
 exact⟨_,_,J5,hR⟩
end
noncomputable def SItr:Bool->Heap->Addr->Addr->Nat->Prop
 |true,h,it,a,i=>h.IsTupleIter it a i
 |false,h,it,a,i=>h.IsListIter it a i
noncomputable def SObj:Bool->Heap->Addr->Array Value->Prop
 |true,h,a,xs=>h.IsTuple a xs
 |false,h,a,xs=>h.IsList a xs
noncomputable def itCls:Bool->String
 |true=>"tuple_iterator"
 |false=>"list_iterator"
theorem SItr.obj {k:Bool} {h:Heap} {it a:Addr} {i:Nat} (x:SItr k h it a i):∃o,h.get? it=some o/\o.data=.fields #[.ref a,.int i 0]:=by
 cases k
 .obtain⟨o,e,_,d⟩:=x;exact⟨o,e,d⟩
 .obtain⟨o,e,_,d⟩:=x;exact⟨o,e,d⟩
theorem SItr.at {k:Bool} {h h':Heap} {it a:Addr} {i:Nat} (x:SItr k h it a i) (hk:∀o,h.get? it=some o->h'.get? it=some o):SItr k h' it a i:=by
 cases k
 .obtain⟨o,e,r⟩:=x;exact⟨o,hk o e,r⟩
 .obtain⟨o,e,r⟩:=x;exact⟨o,hk o e,r⟩
theorem SObj.at {k:Bool} {h h':Heap} {a:Addr} {xs:Array Value} (x:SObj k h a xs) (hk:∀o,h.get? a=some o->h'.get? a=some o):SObj k h' a xs:=by
 cases k
 .obtain⟨o,e,r⟩:=x;exact⟨o,hk o e,r⟩
 .obtain⟨o,e,r⟩:=x;exact⟨o,hk o e,r⟩
theorem SObj.lt {k:Bool} {h:Heap} {a:Addr} {xs:Array Value} (x:SObj k h a xs):a<h.objs.size:=by
 cases k
 .obtain⟨o,e,r⟩:=x;exact Heap.lt_size e
 .obtain⟨o,e,r⟩:=x;exact Heap.lt_size e
section
variable {prog:Program} {w:World} {A:Around} {E:Value->Shared->Prop} {s:Shared}
theorem nextOf_item {k:Bool} {it l:Addr} {i:Nat} {items:Array Value} {x:Value} {Q:Value->Shared->Prop} (hit:SItr k s.heap it l i) (hl:SObj k s.heap l items) (hx:items[i]?=some x)
  (hQ:∀h',SItr k h' it l (i+1)->Heap.SameBut it s.heap h'->Q x { s with heap:=h' }):wpAny (model prog w) A (Builtin.SmallTypes.nextOf (.ref it)) Q E s:=by
 cases k
 .exact wpAny_nextOf_list_item hit hl hx hQ
 .have hit:s.heap.IsTupleIter it l i:=hit
  have hl:s.heap.IsTuple l items:=hl
  obtain⟨o,ho,hc,hd⟩:=id hit
  obtain⟨ol,hol,_,nl,hdl⟩:=hl
  unfold Builtin.SmallTypes.nextOf
  refine wpAny_bind (wpAny_callSpecial?_slot (name:=Str.ofString "__next__") hit.typeIs F.slot_tuple_iterator_next
   (wpAny_call_entry F.slot_tuple_iterator_next hit.typeIs F.entry_tuple_iterator_next ?_ (F.args_tuple_iterator_next_1 _)))
  show wpAny _ _ (field (.ref it) 0 >>= _) _ _ s
  refine wpAny_bind (wpAny_field ho hd (x:=.ref l) rfl ?_)
  show wpAny _ _ (if(Value.ref l == Value.none)=true then _ else _) _ _ s
  rw[if_neg (show ¬((Value.ref l == Value.none)=true) from Bool.false_ne_true)]
  show wpAny _ _ (field (.ref it) 1 >>= _) _ _ s
  refine wpAny_bind (wpAny_field ho hd (x:=.int i 0) rfl ?_)
  show wpAny _ _ (seqItems? (.ref l) >>= _) _ _ s
  refine wpAny_bind (wpAny_seqItems hol hdl ?_)
  simp only[Int.toNat_natCast,hx]
  refine wpAny_bind (wpAny_setField ho hd (by simp) (wpAny_pure ⟨x,rfl,wpAny_pure (hQ _ ?_ (Heap.SameBut.update ..))⟩))
  exact⟨_,Heap.get?_update_self _ ho (Obj.isFreed_of_fields (Obj.data_mapFields hd _)),(Obj.cls_mapFields ..).trans hc,by
   rw[Obj.data_mapFields hd];simp[rawInt]⟩
theorem nextOf_end {k:Bool} {it l:Addr} {i:Nat} {items:Array Value} {Q:Value->Shared->Prop} (hh:A.handled=none) (hit:SItr k s.heap it l i) (hl:SObj k s.heap l items) (hx:items[i]?=none)
  (hE:∀h' e,Heap.ExtBut it s.heap h'->(∃o,h'.get? e=some o/\o.cls=.type "StopIteration")->E (.ref e) { s with heap:=h' }):wpAny (model prog w) A (Builtin.SmallTypes.nextOf (.ref it)) Q E s:=by
 cases k
 .exact wpAny_nextOf_list_end hh hit hl hx hE
 .have hit:s.heap.IsTupleIter it l i:=hit
  have hl:s.heap.IsTuple l items:=hl
  obtain⟨o,ho,hc,hd⟩:=id hit
  obtain⟨ol,hol,_,nl,hdl⟩:=hl
  unfold Builtin.SmallTypes.nextOf
  refine wpAny_bind (wpAny_callSpecial?_slot (name:=Str.ofString "__next__") hit.typeIs F.slot_tuple_iterator_next
   (wpAny_call_entry F.slot_tuple_iterator_next hit.typeIs F.entry_tuple_iterator_next ?_ (F.args_tuple_iterator_next_1 _)))
  show wpAny _ _ (field (.ref it) 0 >>= _) _ _ s
  refine wpAny_bind (wpAny_field ho hd (x:=.ref l) rfl ?_)
  show wpAny _ _ (if(Value.ref l == Value.none)=true then _ else _) _ _ s
  rw[if_neg (show ¬((Value.ref l == Value.none)=true) from Bool.false_ne_true)]
  show wpAny _ _ (field (.ref it) 1 >>= _) _ _ s
  refine wpAny_bind (wpAny_field ho hd (x:=.int i 0) rfl ?_)
  show wpAny _ _ (seqItems? (.ref l) >>= _) _ _ s
  refine wpAny_bind (wpAny_seqItems hol hdl ?_)
  simp only[Int.toNat_natCast,hx]
  refine wpAny_bind (wpAny_rule (wpAny_bind (wpAny_setField ho hd (by simp) ?_)))
  show wpAny _ _ (newExc (.type "StopIteration") [] >>= _) _ _ _
  refine wpAny_bind ?_
  simp only[newExc,newTuple]
  refine wpAny_bind (wpAny_newObj_type ?_ (by size_fits))
  refine wpAny_bind (m:=firstArgMember _ _) (wpAny_of_eq (a:=Value.none) (by first|rfl|(simp only[firstArgMember];rfl)) ?_)
  refine wpAny_newObj_type ?_ (by size_fits)
  simp only[raiseNew]
  refine wpAny_bind (wpAny_handled ?_)
  first|rw[show A.in1.handled=none from hh]|rw[hh]
  refine wpAny_bind (wpAny_pure (wpAny_throw ?_))
  exact hE _ _ (((Heap.SameBut.update ..).extBut.push _).push _) ⟨_,Heap.get?_push_size _ rfl,rfl⟩
end
noncomputable abbrev zH1 (k:Bool) (h:Heap) (l1:Addr):Heap:=h.push { cls:=.type (itCls k),data:=.fields #[.ref l1,.int 0 0] }
noncomputable abbrev zH2 (k j:Bool) (h:Heap) (l1 l2:Addr):Heap:=(zH1 k h l1).push { cls:=.type (itCls j),data:=.fields #[.ref l2,.int 0 0] }
noncomputable abbrev zH3 (k j:Bool) (h:Heap) (l1 l2:Addr):Heap:=(zH2 k j h l1 l2).push { cls:=.type "tuple",data:=.seq #[.ref h.objs.size,.ref (zH1 k h l1).objs.size] }
noncomputable abbrev zH4 (k j:Bool) (h:Heap) (l1 l2:Addr):Heap:=(zH3 k j h l1 l2).push { cls:=.type "tuple",data:=.seq #[.none,.none] }
noncomputable abbrev zH5 (k j:Bool) (h:Heap) (l1 l2:Addr):Heap:=(zH4 k j h l1 l2).push { cls:=.type "zip",data:=.fields #[.none,.bool false,.bool false,.ref (zH2 k j h l1 l2).objs.size,.ref (zH3 k j h l1 l2).objs.size] }
set_option maxHeartbeats 4000000 in
theorem meets_zip (k j:Bool) (l1 l2:Addr) (xs ys:Array Value):
  Meets (Builtin.«zip.__new__» ⟨[.type "zip",.ref l1,.ref l2],[]⟩) (fun _ R s=>SObj k s.heap l1 xs/\SObj j s.heap l2 ys/\
   R (.ok (.ret (.ref (zH4 k j s.heap l1 l2).objs.size))) { s with heap:=zH5 k j s.heap l1 l2 }):=by
 cases k<;>cases j
 .exact meets_zip_new l1 l2 xs ys
 .exact .of_wp fun prog w A R s h=>by
   obtain⟨hp,g,d,tk,os⟩:=s;obtain⟨hl1,hl2,h⟩:=h
   have hsub:=sub_zip
   have hL1:Heap.IsList (Shared.heap ⟨hp,g,d,tk,os⟩) l1 xs:=hl1
   have hL2:Heap.IsTuple (Shared.heap ⟨hp.push { cls:=.type "list_iterator",data:=.fields #[.ref l1,.int 0 0] },g,d,tk,os⟩) l2 ys:=Heap.IsTuple.push hl2 _
   wp_walk using wpAny_pyIter_list hL1,wpAny_pyIter_tuple hL2
   exact⟨_,rfl,h⟩
 .exact .of_wp fun prog w A R s h=>by
   obtain⟨hp,g,d,tk,os⟩:=s;obtain⟨hl1,hl2,h⟩:=h
   have hsub:=sub_zip
   have hL1:Heap.IsTuple (Shared.heap ⟨hp,g,d,tk,os⟩) l1 xs:=hl1
   have hL2:Heap.IsList (Shared.heap ⟨hp.push { cls:=.type "tuple_iterator",data:=.fields #[.ref l1,.int 0 0] },g,d,tk,os⟩) l2 ys:=Heap.IsList.push hl2 _
   wp_walk using wpAny_pyIter_tuple hL1,wpAny_pyIter_list hL2
   exact⟨_,rfl,h⟩
 .exact .of_wp fun prog w A R s h=>by
   obtain⟨hp,g,d,tk,os⟩:=s;obtain⟨hl1,hl2,h⟩:=h
   have hsub:=sub_zip
   have hL1:Heap.IsTuple (Shared.heap ⟨hp,g,d,tk,os⟩) l1 xs:=hl1
   have hL2:Heap.IsTuple (Shared.heap ⟨hp.push { cls:=.type "tuple_iterator",data:=.fields #[.ref l1,.int 0 0] },g,d,tk,os⟩) l2 ys:=Heap.IsTuple.push hl2 _
   wp_walk using wpAny_pyIter_tuple hL1,wpAny_pyIter_tuple hL2
   exact⟨_,rfl,h⟩
section
variable {prog:Program} {w:World} {A:Around} {E:Value->Shared->Prop} {s:Shared}
theorem zip_new {k j:Bool} {l1 l2:Addr} {xs ys:Array Value} {Q:Value->Shared->Prop} (hl1:SObj k s.heap l1 xs) (hl2:SObj j s.heap l2 ys)
  (h:∀h',IsZip h' (s.heap.objs.size+4) (s.heap.objs.size+2) (s.heap.objs.size+3) .none->IsPair h' (s.heap.objs.size+2) (.ref s.heap.objs.size) (.ref (s.heap.objs.size+1))->
   IsPair h' (s.heap.objs.size+3) .none .none->SItr k h' s.heap.objs.size l1 0->SItr j h' (s.heap.objs.size+1) l2 0->h'.objs.size=s.heap.objs.size+5->
   (∀c o,s.heap.get? c=some o->h'.get? c=some o)->Q (.ref (s.heap.objs.size+4)) { s with heap:=h' }):
  wpAny (model prog w) A (call (.type "zip") [.ref l1,.ref l2]) Q E s:=by
 refine callType_new F.called_zip (by decide) (F.typeCall_zip_2 _ _) (F.newCall_zip_2 _ _) (fun obj=>F.args_object_init_3 obj _ _) F.entry_zip_new
  (meets_zip k j l1 l2 xs ys) ⟨hl1,hl2,?_⟩
 have z1:(zH1 k s.heap l1).objs.size=s.heap.objs.size+1:=Heap.size_push ..
 have z2:(zH2 k j s.heap l1 l2).objs.size=s.heap.objs.size+2:=by rw[Heap.size_push,z1]
 have z3:(zH3 k j s.heap l1 l2).objs.size=s.heap.objs.size+3:=by rw[Heap.size_push,z2]
 have z4:(zH4 k j s.heap l1 l2).objs.size=s.heap.objs.size+4:=by rw[Heap.size_push,z3]
 have z5:(zH5 k j s.heap l1 l2).objs.size=s.heap.objs.size+5:=by rw[Heap.size_push,z4]
 have g5:(zH5 k j s.heap l1 l2).get? (zH4 k j s.heap l1 l2).objs.size=some _:=Heap.get?_push_size _ rfl
 have g4:(zH5 k j s.heap l1 l2).get? (zH3 k j s.heap l1 l2).objs.size=some _:=Heap.get?_push_of_some _ (Heap.get?_push_size _ rfl)
 have g3:(zH5 k j s.heap l1 l2).get? (zH2 k j s.heap l1 l2).objs.size=some _:=Heap.get?_push_of_some _ (Heap.get?_push_of_some _ (Heap.get?_push_size _ rfl))
 have g2:(zH5 k j s.heap l1 l2).get? (zH1 k s.heap l1).objs.size=some { cls:=.type (itCls j),data:=.fields #[.ref l2,.int 0 0] }:=Heap.get?_push_of_some _ (Heap.get?_push_of_some _ (Heap.get?_push_of_some _ (Heap.get?_push_size _ rfl)))
 have g1:(zH5 k j s.heap l1 l2).get? s.heap.objs.size=some { cls:=.type (itCls k),data:=.fields #[.ref l1,.int 0 0] }:=Heap.get?_push_of_some _ (Heap.get?_push_of_some _ (Heap.get?_push_of_some _ (Heap.get?_push_of_some _ (Heap.get?_push_size _ rfl))))
 have gk:∀c o,s.heap.get? c=some o->(zH5 k j s.heap l1 l2).get? c=some o:=fun c o e=>Heap.get?_push_of_some _ (Heap.get?_push_of_some _ (Heap.get?_push_of_some _ (Heap.get?_push_of_some _ (Heap.get?_push_of_some _ e))))
 have mk:∀(c:Bool) (it l:Addr),(zH5 k j s.heap l1 l2).get? it=some { cls:=.type (itCls c),data:=.fields #[.ref l,.int 0 0] }->SItr c (zH5 k j s.heap l1 l2) it l 0:=fun c it l e=>by
  cases c
  .exact⟨_,e,rfl,rfl⟩
  .exact⟨_,e,rfl,rfl⟩
 show _/\_
 rw[z2,z3,z4]at g5
 rw[z1,z2]at g3
 rw[z3]at g4
 rw[z1]at g2
 rw[z4]
 exact⟨⟨_,g5,rfl⟩,h _ g5 g3 g4 (mk k _ _ g1) (mk j _ _ g2) z5 gk⟩
theorem zip_item {k j:Bool} {z TI TO i1 i2 l1 l2:Addr} {k1 k2:Nat} {xs ys:Array Value} {x y a b:Value} {Q:Option Value->Shared->Prop} (D:ZipApart z TI TO i1 i2 l1 l2)
  (hz:IsZip s.heap z TI TO .none) (hTI:IsPair s.heap TI (.ref i1) (.ref i2)) (hTO:IsPair s.heap TO a b)
  (h1:SItr k s.heap i1 l1 k1) (h2:SItr j s.heap i2 l2 k2) (hl1:SObj k s.heap l1 xs) (hl2:SObj j s.heap l2 ys) (hx:xs[k1]?=some x) (hy:ys[k2]?=some y)
  (hQ:∀h',IsZip h' z TI TO (rawInt s.heap.objs.size)->IsPair h' TO x y->SItr k h' i1 l1 (k1+1)->SItr j h' i2 l2 (k2+1)->IsPair h' s.heap.objs.size x y->h'.objs.size=s.heap.objs.size+1->
   (∀c o,c≠z->c≠TO->c≠i1->c≠i2->s.heap.get? c=some o->h'.get? c=some o)->Q (some (.ref s.heap.objs.size)) { s with heap:=h' }):
  wpAny (model prog w) A (pyNext (.ref z)) Q E s:=by
 have hT:s.TypeIs (.ref z) "zip":=⟨_,hz,rfl⟩
 unfold pyNext
 refine wpAny_bind (wpAny_attempt (wpAny_callSpecial?_slot (name:=Str.ofString "__next__") hT F.slot_zip_next
  (wpAny_call_entry F.slot_zip_next hT F.entry_zip_next ?_ (F.args_zip_next_1 _))))
 show wpAny _ _ (field (.ref z) 2 >>= _) _ _ _
 refine wpAny_bind (wpAny_field hz rfl (x:=.bool false) rfl ?_)
 show wpAny _ _ (field (.ref z) 3 >>= _) _ _ _
 refine wpAny_bind (wpAny_field hz rfl (x:=.ref TI) rfl ?_)
 refine wpAny_bind (wpAny_seqItems hTI rfl ?_)
 show wpAny _ _ (Builtin.SmallTypes.ownedTupleIsFree (.ref z) >>= _) _ _ _
 refine wpAny_bind ?_
 unfold Builtin.SmallTypes.ownedTupleIsFree
 refine wpAny_bind (wpAny_field hz rfl (x:=.none) rfl (wpAny_pure ?_))
 simp only[if_true]
 refine wpAny_bind (wpAny_rule ?_)
 refine wpAny_bind (wpAny_field hz rfl (x:=.ref TO) rfl ?_)
 refine wpAny_bind (wpAny_setField_rec hz (by simp) fun h₁ hz₁ hs₁=>?_)
 replace hz₁:IsZip h₁ z TI TO .ellipsis:=hz₁
 refine wpAny_bind ?_
 simp only[List.zipIdx_cons,List.zipIdx_nil,List.forIn_cons,List.forIn_nil]
 refine wpAny_bind (wpAny_bind (wpAny_onRaise ?_))
 show wpAny _ _ (Builtin.SmallTypes.nextOf (.ref i1) >>= _) _ _ _
 refine wpAny_bind (nextOf_item (h1.at fun o e=>hs₁.extBut _ _ D.i1z e) (hl1.at fun o e=>hs₁.extBut _ _ D.l1z e) hx fun h₂ h1₂ hs₂=>wpAny_pure ?_)
 have hTO₂:IsPair h₂ TO a b:=hs₂.extBut _ _ D.TOi1 (hs₁.extBut _ _ D.TOz hTO)
 refine wpAny_bind (wpAny_seqItems hTO₂ rfl ?_)
 refine wpAny_bind (wpAny_updateSeq_pair hTO₂ fun h₃ hTO₃ hs₃=>?_)
 replace hTO₃:IsPair h₃ TO x b:=hTO₃
 refine wpAny_bind (wpAny_letGo (wpAny_pure ?_))
 refine wpAny_bind (wpAny_bind (wpAny_onRaise ?_))
 show wpAny _ _ (Builtin.SmallTypes.nextOf (.ref i2) >>= _) _ _ _
 refine wpAny_bind (nextOf_item (h2.at fun o e=>hs₃.extBut _ _ D.TOi2.symm (hs₂.extBut _ _ D.i12.symm (hs₁.extBut _ _ D.i2z e)))
  (hl2.at fun o e=>hs₃.extBut _ _ D.l2TO (hs₂.extBut _ _ D.l2i1 (hs₁.extBut _ _ D.l2z e))) hy fun h₄ h2₄ hs₄=>wpAny_pure ?_)
 have hTO₄:IsPair h₄ TO x b:=hs₄.extBut _ _ D.TOi2 hTO₃
 refine wpAny_bind (wpAny_seqItems hTO₄ rfl ?_)
 refine wpAny_bind (wpAny_updateSeq_pair hTO₄ fun h₅ hTO₅ hs₅=>?_)
 replace hTO₅:IsPair h₅ TO x y:=hTO₅
 refine wpAny_bind (wpAny_letGo (wpAny_pure (wpAny_pure ?_)))
 refine wpAny_bind (wpAny_seqItems hTO₅ rfl ?_)
 refine wpAny_bind (wpAny_newTuple ?_)
 have hsz:h₅.objs.size=s.heap.objs.size:=by rw[hs₅.1,hs₄.1,hs₃.1,hs₂.1,hs₁.1]
 have hz₅:IsZip h₅ z TI TO .ellipsis:=hs₅.extBut _ _ D.TOz.symm (hs₄.extBut _ _ D.i2z.symm (hs₃.extBut _ _ D.TOz.symm (hs₂.extBut _ _ D.i1z.symm hz₁)))
 have hk₅:∀c o,c≠z->c≠TO->c≠i1->c≠i2->s.heap.get? c=some o->h₅.get? c=some o:=fun c o c1 c2 c3 c4 e=>
  hs₅.extBut _ _ c2 (hs₄.extBut _ _ c4 (hs₃.extBut _ _ c2 (hs₂.extBut _ _ c3 (hs₁.extBut _ _ c1 e))))
 have h1₅:SItr k h₅ i1 l1 (k1+1):=h1₂.at fun o e=>hs₅.extBut _ _ D.TOi1.symm (hs₄.extBut _ _ D.i12 (hs₃.extBut _ _ D.TOi1.symm e))
 have h2₅:SItr j h₅ i2 l2 (k2+1):=h2₄.at fun o e=>hs₅.extBut _ _ D.TOi2.symm e
 have hzlt:z<h₅.objs.size:=Heap.lt_size hz₅
 show wpAny _ _ (Builtin.SmallTypes.ownedTupleHandOut (.ref z) (.ref h₅.objs.size) >>= _) _ _ _
 refine wpAny_bind ?_
 unfold Builtin.SmallTypes.ownedTupleHandOut
 have hz₆:IsZip (h₅.push { cls:=.type "tuple",data:=.seq #[x,y] }) z TI TO .ellipsis:=Heap.get?_push_of_some _ hz₅
 refine wpAny_bind (wpAny_setField_rec hz₆ (by simp) fun h₇ hz₇ hs₇=>?_)
 replace hz₇:IsZip h₇ z TI TO (rawInt h₅.objs.size):=hz₇
 refine wpAny_setField_rec hz₇ (by simp) fun h₈ hz₈ hs₈=>?_
 replace hz₈:IsZip h₈ z TI TO (rawInt h₅.objs.size):=hz₈
 have up:∀c o,c≠z->h₅.get? c=some o->h₈.get? c=some o:=fun c o c1 e=>hs₈.extBut _ _ c1 (hs₇.extBut _ _ c1 (Heap.get?_push_of_some _ e))
 have hT₈:IsPair h₈ h₅.objs.size x y:=hs₈.extBut _ _ (Nat.ne_of_gt hzlt) (hs₇.extBut _ _ (Nat.ne_of_gt hzlt) (Heap.get?_push_size _ rfl))
 have hz8:h₈.objs.size=h₅.objs.size+1:=by rw[hs₈.1,hs₇.1,Heap.size_push]
 rw[hsz]at hz₈ hT₈ hz8
 refine wpAny_pure ⟨_,rfl,wpAny_pure ?_⟩
 show Q (some (.ref h₅.objs.size)) _
 rw[hsz]
 exact hQ h₈ hz₈ (up _ _ D.TOz hTO₅) (h1₅.at fun o e=>up _ o D.i1z e) (h2₅.at fun o e=>up _ o D.i2z e) hT₈ hz8 fun c o c1 c2 c3 c4 e=>up c o c1 (hk₅ c o c1 c2 c3 c4 e)
theorem zip_end {k j:Bool} {z TI TO i1 i2 l1 l2:Addr} {k1 k2:Nat} {xs ys:Array Value} {a b:Value} {Q:Option Value->Shared->Prop} (hh:A.handled=none) (D:ZipApart z TI TO i1 i2 l1 l2)
  (hz:IsZip s.heap z TI TO .none) (hTI:IsPair s.heap TI (.ref i1) (.ref i2)) (hTO:IsPair s.heap TO a b)
  (h1:SItr k s.heap i1 l1 k1) (h2:SItr j s.heap i2 l2 k2) (hl1:SObj k s.heap l1 xs) (hl2:SObj j s.heap l2 ys) (hend:xs[k1]?=none\/ys[k2]?=none)
  (hQ:∀h',(∀c o,c≠z->c≠TO->c≠i1->c≠i2->s.heap.get? c=some o->h'.get? c=some o)->Q none { s with heap:=h' }):wpAny (model prog w) A (pyNext (.ref z)) Q E s:=by
 have hT:s.TypeIs (.ref z) "zip":=⟨_,hz,rfl⟩
 unfold pyNext
 refine wpAny_bind (wpAny_attempt (wpAny_callSpecial?_slot (name:=Str.ofString "__next__") hT F.slot_zip_next
  (wpAny_call_entry F.slot_zip_next hT F.entry_zip_next ?_ (F.args_zip_next_1 _))))
 have fin:∀(h':Heap) (e:Addr),(∀c o,c≠z->c≠TO->c≠i1->c≠i2->s.heap.get? c=some o->h'.get? c=some o)->(∃o,h'.get? e=some o/\o.cls=.type "StopIteration")->
   wpAny (model prog w) A (do if <- isInstance (.ref e) (.type "StopIteration")then pure none else throw (.ref e)) Q E { s with heap:=h' }:=fun h' e hk ⟨o,ho,hc⟩=>
  wpAny_bind (wpAny_isInstance (T:="StopIteration") (b:=true) ⟨o,ho,hc⟩ isSubtype_stop (wpAny_pure (hQ _ hk)))
 show wpAny _ _ (field (.ref z) 2 >>= _) _ _ _
 refine wpAny_bind (wpAny_field hz rfl (x:=.bool false) rfl ?_)
 show wpAny _ _ (field (.ref z) 3 >>= _) _ _ _
 refine wpAny_bind (wpAny_field hz rfl (x:=.ref TI) rfl ?_)
 refine wpAny_bind (wpAny_seqItems hTI rfl ?_)
 show wpAny _ _ (Builtin.SmallTypes.ownedTupleIsFree (.ref z) >>= _) _ _ _
 refine wpAny_bind ?_
 unfold Builtin.SmallTypes.ownedTupleIsFree
 refine wpAny_bind (wpAny_field hz rfl (x:=.none) rfl (wpAny_pure ?_))
 simp only[if_true]
 refine wpAny_bind (wpAny_rule ?_)
 refine wpAny_bind (wpAny_field hz rfl (x:=.ref TO) rfl ?_)
 refine wpAny_bind (wpAny_setField_rec hz (by simp) fun h₁ hz₁ hs₁=>?_)
 replace hz₁:IsZip h₁ z TI TO .ellipsis:=hz₁
 refine wpAny_bind ?_
 simp only[List.zipIdx_cons,List.zipIdx_nil,List.forIn_cons,List.forIn_nil]
 refine wpAny_bind (wpAny_bind (wpAny_onRaise ?_))
 show wpAny _ _ (Builtin.SmallTypes.nextOf (.ref i1) >>= _) _ _ _
 have a1:=h1.at (h':=h₁) fun o e=>hs₁.extBut _ _ D.i1z e
 have b1:=hl1.at (h':=h₁) fun o e=>hs₁.extBut _ _ D.l1z e
 cases hx:xs[k1]? with
 |none=>
  refine wpAny_bind (nextOf_end (by first|exact hh|rfl) a1 b1 hx fun h₂ e hs₂ he=>?_)
  obtain⟨oe,hoe,hce⟩:=he
  have hz₂:IsZip h₂ z TI TO .ellipsis:=hs₂ _ _ D.i1z.symm hz₁
  have hez:e≠z:=fun x=>by subst x;rw[hz₂]at hoe;cases hoe;simp at hce
  refine wpAny_setField_rec hz₂ (by simp) fun h₃ _ hs₃=>fin h₃ e (fun c o c1 _ c3 _ x=>hs₃.extBut _ _ c1 (hs₂ _ _ c3 (hs₁.extBut _ _ c1 x))) ⟨oe,hs₃.extBut _ _ hez hoe,hce⟩
 |some x=>
  have hy:ys[k2]?=none:=by rcases hend with h|h;rw[hx]at h;cases h;exact h
  refine wpAny_bind (nextOf_item a1 b1 hx fun h₂ h1₂ hs₂=>wpAny_pure ?_)
  have hTO₂:IsPair h₂ TO a b:=hs₂.extBut _ _ D.TOi1 (hs₁.extBut _ _ D.TOz hTO)
  refine wpAny_bind (wpAny_seqItems hTO₂ rfl ?_)
  refine wpAny_bind (wpAny_updateSeq_pair hTO₂ fun h₃ hTO₃ hs₃=>?_)
  refine wpAny_bind (wpAny_letGo (wpAny_pure ?_))
  refine wpAny_bind (wpAny_bind (wpAny_onRaise ?_))
  show wpAny _ _ (Builtin.SmallTypes.nextOf (.ref i2) >>= _) _ _ _
  refine wpAny_bind (nextOf_end (by first|exact hh|rfl) (h2.at fun o e=>hs₃.extBut _ _ D.TOi2.symm (hs₂.extBut _ _ D.i12.symm (hs₁.extBut _ _ D.i2z e)))
   (hl2.at fun o e=>hs₃.extBut _ _ D.l2TO (hs₂.extBut _ _ D.l2i1 (hs₁.extBut _ _ D.l2z e))) hy fun h₄ e hs₄ he=>?_)
  obtain⟨oe,hoe,hce⟩:=he
  have hz₄:IsZip h₄ z TI TO .ellipsis:=hs₄ _ _ D.i2z.symm (hs₃.extBut _ _ D.TOz.symm (hs₂.extBut _ _ D.i1z.symm hz₁))
  have hez:e≠z:=fun x=>by subst x;rw[hz₄]at hoe;cases hoe;simp at hce
  refine wpAny_setField_rec hz₄ (by simp) fun h₅ _ hs₅=>fin h₅ e (fun c o c1 c2 c3 c4 x=>hs₅.extBut _ _ c1 (hs₄ _ _ c4 (hs₃.extBut _ _ c2 (hs₂.extBut _ _ c3 (hs₁.extBut _ _ c1 x))))) ⟨oe,hs₅.extBut _ _ hez hoe,hce⟩
end
noncomputable def Its (x:Str):It:=⟨fun i _=>i<x.cps.size,fun i H v H'=>H'=H/\∃c,x.cps[i]?=some c/\v=.str ⟨#[c]⟩,fun i _=>x.cps.size<=i⟩
theorem turn_str {P:Program} {w:World} {K:W.Frag} {tg:Expr} (it:Addr) (x:Str) (ty:String) (t:Tok) (hty:ty="str_ascii_iterator"\/ty="str_iterator"):
  Turn P w K tg (Its x) [it] it (fun i h=>h.IsStrIter it ty x t i) where
 mem:=by simp
 obj:=fun i h st b hb=>by
  have e:b=it:=by simpa using hb
  subst e
  obtain⟨o,e,c,d⟩:=st
  exact⟨o,e,fun v z=>by rw[d]at z;cases z⟩
 keep:=fun i h h' st k=>by
  obtain⟨o,e,r⟩:=st
  exact⟨o,k it (by simp) o e,r⟩
 item:=by
  intro X hP hw hK hc i pins s σ H E I hf st hg
  subst hP hw hK
  obtain⟨f0,f1,f2,f3,f4,f5⟩:=hf it (by simp)
  have hg':i<x.cps.size:=hg
  have hx:x.cps[i]?=some x.cps[i]:=by simp[hg']
  have fin:∀h',h'.IsStrIter it ty x t (i+1)->Heap.SameBut it s.heap h'->∃u,some (Value.str ⟨#[x.cps[i]]⟩ s.toks)=some u/\
    wpAny (model X.prog X.w) X.A (letOwnedTupleGo tg (.ref it) u) (fun _ s2=>∃y H',Inv X pins σ H' s2/\RelV y u/\(Its x).yld i H y H'/\s2.heap.IsStrIter it ty x t (i+1)/\∀b∈[it],H' b=none) E { s with heap:=h',toks:=s.toks+1 }:=fun h' st' sb=>by
   have I1:Inv X pins σ H { s with heap:=h',toks:=s.toks+1 }:=I.turned (fun b o hb e=>(sb.2 b hb).trans e) f0 f1 f3 f4 f5
   obtain⟨o,e,c,d⟩:=id st'
   refine⟨_,rfl,go_of (s:={ s with heap:=h',toks:=s.toks+1 }) e c d ?_ ⟨.str ⟨#[x.cps[i]]⟩,H,I1,⟨_,rfl⟩,⟨rfl,_,hx,rfl⟩,st',fun b hb=>(hf b hb).1⟩⟩
   rcases hty with rfl|rfl<;>decide
  rcases hty with rfl|rfl
  .exact wpAny_pyNext_ascii_item st hx fin
  .exact wpAny_pyNext_wide_item st hx fin
 done:=by
  intro X hP hw hK hc i pins s σ H E I hf st hg
  subst hP hw hK
  obtain⟨f0,f1,f2,f3,f4,f5⟩:=hf it (by simp)
  have hg':x.cps.size<=i:=hg
  have hx:x.cps[i]?=none:=by simp[hg']
  have fin:∀h',Heap.ExtBut it s.heap h'->(none:Option Value)=none/\Inv X pins σ H { s with heap:=h' }:=fun h' eb=>⟨rfl,I.turned (t':=s.toks) (fun b o hb e=>eb b o hb e) f0 f1 f3 f4 f5⟩
  rcases hty with rfl|rfl
  .exact wpAny_pyNext_ascii_end (I.ok.hd hc) st hx fin
  .exact wpAny_pyNext_wide_end (I.ok.hd hc) st hx fin
 self:=fun _ _ _ _ _ st h=>by
  rcases hty with rfl|rfl
  .exact wpAny_pyIter_striter_ascii st h
  .exact wpAny_pyIter_striter_wide st h
def Sq (k:Bool) (K:W.Frag) (H:Hp) (a:Addr) (xs:List V):Prop:=match k with
 |true=>SqT K H a xs
 |false=>SqL K H a xs
theorem Inv.sq {X:Cx} {pins:List (Addr×Obj)} {σ:St} {H:Hp} {s:Shared} {k:Bool} {a:Addr} {xs:List V} (I:Inv X pins σ H s) (h:Sq k X.K H a xs):∃its:List Value,Vals xs its/\SObj k s.heap a its.toArray/\xs.length<=sizeLine:=by
 cases k
 .obtain⟨its,r,p,z⟩:=I.list h
  exact⟨its,r,p.isList,z⟩
 .obtain⟨its,r,p,z⟩:=I.tuple h
  exact⟨its,r,p,z⟩
theorem Inv.sq_inj {X:Cx} {pins:List (Addr×Obj)} {σ:St} {H:Hp} {s:Shared} {k:Bool} {a:Addr} {xs ys:List V} (I:Inv X pins σ H s) (h:Sq k X.K H a xs) (h':Sq k X.K H a ys):xs=ys:=by
 cases k
 .exact I.list_inj h h'
 .exact I.tuple_inj h h'
noncomputable def Itz2 (k j:Bool) (K:W.Frag) (a b:Addr):It:=
 ⟨fun i H=>∃xs ys x y,Sq k K H a xs/\Sq j K H b ys/\xs[i]?=some x/\ys[i]?=some y,
  fun i H v H'=>∃p x y,v=.ref p/\H p=none/\(∀xs,Sq k K H a xs->xs[i]?=some x)/\(∀ys,Sq j K H b ys->ys[i]?=some y)/\H'=upd H p (.tup [x,y]),
  fun i H=>∃xs ys,Sq k K H a xs/\Sq j K H b ys/\(xs.length<=i\/ys.length<=i)⟩
noncomputable abbrev Itz (k:Bool) (K:W.Frag) (a b:Addr):It:=Itz2 k k K a b
def zTn (k j:Bool) (z TI TO i1 i2 l1 l2:Addr) (i:Nat) (h:Heap):Prop:=
 IsZip h z TI TO .none/\IsPair h TI (.ref i1) (.ref i2)/\(∃a b,IsPair h TO a b)/\SItr k h i1 l1 i/\SItr j h i2 l2 i
theorem turn_zip {P:Program} {w:World} {K:W.Frag} {elts:List Expr} {kt:Nat} {pt:Pos} {k j:Bool} {z TI TO i1 i2 l1 l2:Addr} (D:ZipApart z TI TO i1 i2 l1 l2):
  Turn P w K (.Tuple elts kt pt) (Itz2 k j K l1 l2) [z,TI,TO,i1,i2] z (zTn k j z TI TO i1 i2 l1 l2) where
 mem:=by simp
 obj:=fun i h st b hb=>by
  obtain⟨hz,hTI,⟨_,_,hTO⟩,h1,h2⟩:=st
  simp only[List.mem_cons,List.not_mem_nil,or_false]at hb
  rcases hb with rfl|rfl|rfl|rfl|rfl
  .exact⟨_,hz,fun v=>(nomatch ·)⟩
  .exact⟨_,hTI,fun v=>(nomatch ·)⟩
  .exact⟨_,hTO,fun v=>(nomatch ·)⟩
  .obtain⟨o,e,d⟩:=h1.obj
   exact⟨o,e,fun v q=>by rw[d]at q;cases q⟩
  .obtain⟨o,e,d⟩:=h2.obj
   exact⟨o,e,fun v q=>by rw[d]at q;cases q⟩
 keep:=fun i h h' st kk=>by
  obtain⟨hz,hTI,⟨a,b,hTO⟩,h1,h2⟩:=st
  exact⟨kk z (by simp) _ hz,kk TI (by simp) _ hTI,⟨a,b,kk TO (by simp) _ hTO⟩,h1.at fun o e=>kk i1 (by simp) o e,h2.at fun o e=>kk i2 (by simp) o e⟩
 item:=by
  intro X hP hw hK hc i pins s σ H E I hf st hg
  subst hP hw hK
  obtain⟨xs,ys,x,y,hxs,hys,hx,hy⟩:=hg
  obtain⟨hz,hTI,⟨a,b,hTO⟩,h1,h2⟩:=st
  obtain⟨us,rus,ous,_⟩:=I.sq hxs
  obtain⟨vs,rvs,ovs,_⟩:=I.sq hys
  obtain⟨u,hu,ru⟩:=rus.get hx
  obtain⟨v,hv,rv⟩:=rvs.get hy
  refine zip_item D hz hTI hTO h1 h2 ous ovs (x:=u) (y:=v) (by simpa using hu) (by simpa using hv) fun h' hz' hTO' h1' h2' hT hsz hk=>?_
  refine⟨_,rfl,wpAny_letOwnedTupleGo_zip (s:={ s with heap:=h' }) hz' fun h'' hz'' hs=>?_⟩
  have hs':Heap.SameBut z h' h'':=hs
  have zlt:z<s.heap.objs.size:=Heap.lt_size hz
  have neT:s.heap.objs.size≠z:=Nat.ne_of_gt zlt
  have hkk:∀c o,c∉[z,TO,i1,i2]->s.heap.get? c=some o->h''.get? c=some o:=fun c o hc e=>by
   simp only[List.mem_cons,List.not_mem_nil,or_false,not_or]at hc
   exact(hs'.2 c hc.1).trans (hk c o hc.1 hc.2.1 hc.2.2.1 hc.2.2.2 e)
  have sub:∀c∈[z,TO,i1,i2],c∈[z,TI,TO,i1,i2]:=fun c hc=>by
   simp only[List.mem_cons,List.not_mem_nil,or_false]at hc ⊢
   rcases hc with h|h|h|h
   .exact .inl h
   .exact .inr (.inr (.inl h))
   .exact .inr (.inr (.inr (.inl h)))
   .exact .inr (.inr (.inr (.inr h)))
  have hTn:H s.heap.objs.size=none:=I.hok.fresh (Nat.le_refl _)
  have trk:∀c o,H c=some o->c∉[z,TO,i1,i2]:=fun c o e hc=>by rw[(hf c (sub c hc)).1]at e;cases e
  have I1:Inv X pins σ (upd H s.heap.objs.size (.tup [x,y])) { s with heap:=h'' }:=by
   refine I.step (g':=s.gens) (d':=s.drawn) (t':=s.toks) (ch:=[z,TO,i1,i2]) (fun c hc=>?_) (fun c o _ _ hc e _=>hkk c o hc e) (fun c o _ _ hc e _=>⟨o.slots,hkk c o hc e⟩)
    (fun c o _ e n=>by rw[upd_ne (Nat.ne_of_lt (Heap.lt_size e))];exact n) (fun c o hc e=>⟨o,hkk c o hc e⟩) (fun c ps e=>by rw[upd_ne (ne_of_none e hTn)];exact e) (fun c o p e=>by rw[upd_ne (ne_of_none e hTn)];exact e)
    (fun c ps e=>⟨#[],by rw[upd_ne (ne_of_none e hTn),e];simp⟩) (fun m hm=>?_) (fun c o e=>?_) I.bare
   .obtain⟨f0,f1,f2,f3,f4,f5⟩:=hf c (sub c hc)
    exact⟨f3,f1,f4,f5⟩
   .obtain⟨oo,es,ep,ho,r⟩:=hm
    exact⟨oo,es,ep,hkk _ oo (fun hc=>(hf _ (sub _ hc)).2.1 rfl) ho,r⟩
   .by_cases hb:c=s.heap.objs.size
    .subst hb
     rw[upd_same]at e;cases e
     exact⟨by show 2<=sizeLine;decide,[u,v],.cons ru (.cons rv .nil),⟨_,(hs'.2 _ neT).trans hT,rfl,⟨_,rfl⟩,rfl⟩⟩
    .rw[upd_ne hb]at e
     refine(I.hok c o e).stay (fun d q hd eq=>hkk d q ?_ eq) (fun d q=>by rw[upd_ne (ne_of_none q hTn)];exact q) fun d qs q=>by rw[upd_ne (ne_of_none q hTn)];exact q
     rcases hd with rfl|hd
     .exact trk _ _ e
     .exact trk _ _ hd
  refine⟨.ref s.heap.objs.size,_,I1,rfl,⟨s.heap.objs.size,x,y,rfl,hTn,fun xs' h'=>by rw[I.sq_inj h' hxs];exact hx,fun ys' h'=>by rw[I.sq_inj h' hys];exact hy,rfl⟩,⟨hz'',?_,⟨u,v,?_⟩,?_,?_⟩,fun c hc=>?_⟩
  .exact(hs'.2 TI D.TIz).trans (hk TI _ D.TIz D.TITO D.TIi1 D.TIi2 hTI)
  .exact(hs'.2 TO D.TOz).trans hTO'
  .exact h1'.at fun o e=>(hs'.2 i1 D.i1z).trans e
  .exact h2'.at fun o e=>(hs'.2 i2 D.i2z).trans e
  .rw[upd_ne]
   .exact(hf c hc).1
   .intro q
    subst q
    simp only[List.mem_cons,List.not_mem_nil,or_false]at hc
    rcases hc with q|q|q|q|q
    .exact neT q
    .exact Nat.lt_irrefl _ (q ▸ Heap.lt_size hTI)
    .exact Nat.lt_irrefl _ (q ▸ Heap.lt_size hTO)
    .obtain⟨o,e,_⟩:=h1.obj
     exact Nat.lt_irrefl _ (q ▸ Heap.lt_size e)
    .obtain⟨o,e,_⟩:=h2.obj
     exact Nat.lt_irrefl _ (q ▸ Heap.lt_size e)
 done:=by
  intro X hP hw hK hc i pins s σ H E I hf st hg
  subst hP hw hK
  obtain⟨xs,ys,hxs,hys,hend⟩:=hg
  obtain⟨hz,hTI,⟨a,b,hTO⟩,h1,h2⟩:=st
  obtain⟨us,rus,ous,_⟩:=I.sq hxs
  obtain⟨vs,rvs,ovs,_⟩:=I.sq hys
  have l1':=rus.length
  have l2':=rvs.length
  refine zip_end (I.ok.hd hc) D hz hTI hTO h1 h2 ous ovs ?_ fun h' hk=>⟨rfl,?_⟩
  .rcases hend with q|q
   .exact .inl (by simp;omega)
   .exact .inr (by simp;omega)
  have sub:∀c∈[z,TO,i1,i2],c∈[z,TI,TO,i1,i2]:=fun c hc=>by
   simp only[List.mem_cons,List.not_mem_nil,or_false]at hc ⊢
   rcases hc with h|h|h|h
   .exact .inl h
   .exact .inr (.inr (.inl h))
   .exact .inr (.inr (.inr (.inl h)))
   .exact .inr (.inr (.inr (.inr h)))
  have hkk:∀c o,c∉[z,TO,i1,i2]->s.heap.get? c=some o->h'.get? c=some o:=fun c o hc e=>by
   simp only[List.mem_cons,List.not_mem_nil,or_false,not_or]at hc
   exact hk c o hc.1 hc.2.1 hc.2.2.1 hc.2.2.2 e
  have trk:∀c o,H c=some o->c∉[z,TO,i1,i2]:=fun c o e hc=>by rw[(hf c (sub c hc)).1]at e;cases e
  refine I.step (g':=s.gens) (d':=s.drawn) (t':=s.toks) (ch:=[z,TO,i1,i2]) (fun c hc=>?_) (fun c o _ _ hc e _=>hkk c o hc e) (fun c o _ _ hc e _=>⟨o.slots,hkk c o hc e⟩)
    (fun c o _ e n=>n) (fun c o hc e=>⟨o,hkk c o hc e⟩) (fun c ps e=>e) (fun c o p e=>e) (fun c ps e=>⟨#[],by rw[e];simp⟩) (fun m hm=>?_) (fun c o e=>?_) I.bare
  .obtain⟨f0,f1,f2,f3,f4,f5⟩:=hf c (sub c hc)
   exact⟨f3,f1,f4,f5⟩
  .obtain⟨oo,es,ep,ho,r⟩:=hm
   exact⟨oo,es,ep,hkk _ oo (fun hc=>(hf _ (sub _ hc)).2.1 rfl) ho,r⟩
  .refine(I.hok c o e).stay (fun d q hd eq=>hkk d q ?_ eq) (fun d q=>q) fun d qs q=>q
   rcases hd with rfl|hd
   .exact trk _ _ e
   .exact trk _ _ hd
 self:=fun _ _ _ _ _ st h=>wpAny_pyIter_zip st.1 h
section
variable {X:Cx} {tg:Expr}
noncomputable def iVal (K:W.Frag) (tl:TE):TI:=fun σ H R=>tl σ H fun x H1=>
 (∃a,x=.ref a/\(∃xs,SqL K H1 a xs)/\R (Itl K a) H1)\/(∃a,x=.ref a/\(∃xs,SqT K H1 a xs)/\R (Itt K a) H1)\/∃z,x=.str z/\R (Its z) H1
theorem pi_val {l:Expr} {tl:TE} (hl:PE X l tl):PI X tg l (iVal X.K tl):=by
 intro pins s σ H R I h
 refine thn (hl pins s σ H _ I h) fun v s1 ⟨x,H1,I1,r1,q1⟩=>?_
 rcases q1 with⟨a,e,⟨xs,hq⟩,q⟩|⟨a,e,⟨xs,hq⟩,q⟩|⟨z,e,q⟩
 .subst e
  cases r1
  obtain⟨its,rv,p,hz⟩:=I1.list hq
  refine wpAny_pyIter_list p.isList ?_
  refine⟨s1.heap.objs.size,[s1.heap.objs.size],_,_,H1,rfl,I1.kept (t':=s1.toks) fun b o e=>Heap.get?_push_of_some _ e,turn_list a _,⟨_,Heap.get?_push_size _ rfl,rfl,rfl⟩,fun b hb=>?_,q⟩
  have e:b=s1.heap.objs.size:=by simpa using hb
  subst e
  exact I1.fpOk (Nat.le_refl _) (I1.hok.fresh (Nat.le_refl _))
 .subst e
  cases r1
  obtain⟨its,rv,p,hz⟩:=I1.tuple hq
  refine wpAny_pyIter_tuple (show s1.heap.IsTuple a its.toArray from p) ?_
  refine⟨s1.heap.objs.size,[s1.heap.objs.size],_,_,H1,rfl,I1.kept (t':=s1.toks) fun b o e=>Heap.get?_push_of_some _ e,turn_tuple a _,⟨_,Heap.get?_push_size _ rfl,rfl,rfl⟩,fun b hb=>?_,q⟩
  have e:b=s1.heap.objs.size:=by simpa using hb
  subst e
  exact I1.fpOk (Nat.le_refl _) (I1.hok.fresh (Nat.le_refl _))
 .subst e
  obtain⟨t,rfl⟩:=r1
  have fin:∀(ty:String),(ty="str_ascii_iterator"\/ty="str_iterator")->PIE X pins σ tg R (.ref s1.heap.objs.size) { s1 with heap:=s1.heap.push { cls:=.type ty,data:=.fields #[.str z t,.int 0 0] } }:=fun ty hty=>by
   refine⟨s1.heap.objs.size,[s1.heap.objs.size],_,_,H1,rfl,I1.kept (t':=s1.toks) fun b o e=>Heap.get?_push_of_some _ e,turn_str _ z ty t hty,⟨_,Heap.get?_push_size _ rfl,rfl,rfl⟩,fun b hb=>?_,q⟩
   have e:b=s1.heap.objs.size:=by simpa using hb
   subst e
   exact I1.fpOk (Nat.le_refl _) (I1.hok.fresh (Nat.le_refl _))
  cases ha:z.cps.all (· < 128)
  .exact wpAny_pyIter_wide ha (fin _ (.inr rfl))
  .exact wpAny_pyIter_ascii ha (fin _ (.inl rfl))
noncomputable def iZip (K:W.Frag) (ta:TA):TI:=fun σ H R=>ta σ H fun vs H1=>∃(k j:Bool) (a b:Addr),vs=[.ref a,.ref b]/\(∃xs,Sq k K H1 a xs)/\(∃ys,Sq j K H1 b ys)/\R (Itz2 k j K a b) H1
theorem pi_zip {a b:Expr} {ta:TA} {p pos:Pos} {elts:List Expr} {kt:Nat} {pt:Pos} (hg:Gl X "zip") (hm:X.mg "zip"=none) (ha:PA X [a,b] ta) (hs:starEach [a,b] X.env=[(false,eval a X.env),(false,eval b X.env)]) (hs2:starEach [b] X.env=[(false,eval b X.env)]):
  PI X (.Tuple elts kt pt) (.Call (.Name "zip" p) [a,b] [] pos) (iZip X.K ta):=by
 intro pins s σ H R I h
 refine Call_ (ld_blt I hg hm boot_zip (PyProof.Rows.callWith_type1 (thn (ha pos pins s σ H _ I h) fun us s1 ⟨vs,H1,I1,r1,q1⟩=>?_) (by rw[hs,hs2]) (by rw[hs2];rfl)))
 obtain⟨k,j,a,b,e,⟨xs,hxs⟩,⟨ys,hys⟩,q⟩:=q1
 subst e
 cases r1 with
 |cons r rr=>
  cases rr with
  |cons r' rr=>
   cases rr
   cases r
   cases r'
   obtain⟨us,rus,ous,_⟩:=I1.sq hxs
   obtain⟨vs,rvs,ovs,_⟩:=I1.sq hys
   refine zip_new ous ovs fun h' hz hTI hTO h1 h2 hsz hk=>wpAny_pyIter_zip hz ?_
   refine⟨s1.heap.objs.size+4,[s1.heap.objs.size+4,s1.heap.objs.size+2,s1.heap.objs.size+3,s1.heap.objs.size,s1.heap.objs.size+1],_,_,H1,rfl,I1.kept (t':=s1.toks) hk,turn_zip (k:=k) (j:=j) (PyProof.Rows.zipApart_new ous.lt ovs.lt),⟨hz,hTI,⟨_,_,hTO⟩,h1,h2⟩,fun c hc=>?_,q⟩
   have hle:s1.heap.objs.size<=c:=by
    simp only[List.mem_cons,List.not_mem_nil,or_false]at hc
    rcases hc with rfl|rfl|rfl|rfl|rfl
    .exact Nat.le_add_right _ _
    .exact Nat.le_add_right _ _
    .exact Nat.le_add_right _ _
    .exact Nat.le_refl _
    .exact Nat.le_add_right _ _
   exact I1.fpOk hle (I1.hok.fresh hle)
end
noncomputable def Itd (go:Nat->Hp->Prop) (val:Nat->Hp->V->Prop) (stop:Nat->Hp->Prop):It:=
 ⟨go,fun i H v H'=>∃p x,v=.ref p/\H p=none/\val i H x/\H'=upd H p (.tup [.int i,x]),stop⟩
structure EnSrc (P:Program) (w:World) (K:W.Frag) (e it:Addr) (Sx:Nat->Heap->Prop) (go:Nat->Hp->Prop) (val:Nat->Hp->V->Prop) (stop:Nat->Hp->Prop):Prop where
 ne:e≠it
 obj:∀i h,Sx i h->∃o,h.get? it=some o/\∀v,o.data≠.cell v
 keep:∀i h h',Sx i h->(∀o,h.get? it=some o->h'.get? it=some o)->Sx i h'
 item:∀(X:Cx),X.prog=P->X.w=w->X.K=K->X.calm=true->∀(i:Nat) (pins:List (Addr×Obj)) (s:Shared) (σ:St) (H:Hp),Inv X pins σ H s->H e=none->H it=none->e<s.heap.objs.size->(∃old,IsEnum s.heap e it i old)->Sx i s.heap->go i H->
  ∃n Pd Sd fp,Draws P w X.A.in1 it fp n Pd Sd/\e∉fp/\i<n/\Sd i s.heap/\(∀j h,Sd j h->Sx j h)/\∀u,Pd i u->∃x,RelV x u/\val i H x
 done:∀(X:Cx),X.prog=P->X.w=w->X.K=K->X.calm=true->∀(i:Nat) (pins:List (Addr×Obj)) (s:Shared) (σ:St) (H:Hp),Inv X pins σ H s->H e=none->H it=none->(∃old,IsEnum s.heap e it i old)->Sx i s.heap->stop i H->
  ∃Pd Sd fp,Draws P w X.A.in1 it fp i Pd Sd/\Sd i s.heap
theorem turn_enum {P:Program} {w:World} {K:W.Frag} {elts:List Expr} {kt:Nat} {pt:Pos} {e it:Addr} {Sx:Nat->Heap->Prop} {go:Nat->Hp->Prop} {val:Nat->Hp->V->Prop} {stop:Nat->Hp->Prop} (S:EnSrc P w K e it Sx go val stop):
  Turn P w K (.Tuple elts kt pt) (Itd go val stop) [e,it] e (fun i h=>(∃old,IsEnum h e it i old)/\Sx i h) where
 mem:=by simp
 obj:=fun i h st b hb=>by
  obtain⟨⟨old,he⟩,hs⟩:=st
  simp only[List.mem_cons,List.not_mem_nil,or_false]at hb
  rcases hb with rfl|rfl
  .exact⟨_,he,fun v=>(nomatch ·)⟩
  .exact S.obj i h hs
 keep:=fun i h h' st kk=>by
  obtain⟨⟨old,he⟩,hs⟩:=st
  exact⟨⟨old,kk e (by simp) _ he⟩,S.keep i h h' hs fun o q=>kk it (by simp) o q⟩
 item:=by
  intro X hP hw hK hc i pins s σ H E I hf st hg
  have hfe:=hf e (by simp)
  have hfi:=hf it (by simp)
  obtain⟨n,Pd,Sd,fp,D,hefp,hin,hsd,hsub,hval⟩:=S.item X hP hw hK hc i pins s σ H I hfe.1 hfi.1 (Heap.lt_size st.1.choose_spec) st.1 st.2 hg
  obtain⟨⟨old,he⟩,hs⟩:=st
  subst hP hw hK
  refine wpAny_pyNext_enum_itemD D he hsd hin S.ne hefp fun u h' tk hPu ho hs' hT hsz hk=>?_
  obtain⟨x,rx,vx⟩:=hval u hPu
  refine⟨_,rfl,wpAny_letOwnedTupleGo_enum (s:={ s with heap:=h',toks:=tk+1 }) ho fun h'' he'' hb=>?_⟩
  have hb':Heap.SameBut e h' h'':=hb
  have elt:e<s.heap.objs.size:=Heap.lt_size he
  have neT:s.heap.objs.size≠e:=Nat.ne_of_gt elt
  have hTn:H s.heap.objs.size=none:=I.hok.fresh (Nat.le_refl _)
  have hkk:∀c o,c∉[e,it]->s.heap.get? c=some o->h''.get? c=some o:=fun c o hc q=>by
   simp only[List.mem_cons,List.not_mem_nil,or_false,not_or]at hc
   exact(hb'.2 c hc.1).trans (hk c o hc.1 hc.2 q)
  have trk:∀c o,H c=some o->c∉[e,it]:=fun c o q hc=>by rw[(hf c hc).1]at q;cases q
  have I1:Inv X pins σ (upd H s.heap.objs.size (.tup [.int i,x])) { s with heap:=h'',toks:=tk+1 }:=by
   refine I.step (g':=s.gens) (d':=s.drawn) (t':=tk+1) (ch:=[e,it]) (fun c hc=>?_) (fun c o _ _ hc q _=>hkk c o hc q) (fun c o _ _ hc q _=>⟨o.slots,hkk c o hc q⟩)
    (fun c o _ q n=>by rw[upd_ne (Nat.ne_of_lt (Heap.lt_size q))];exact n) (fun c o hc q=>⟨o,hkk c o hc q⟩) (fun c ps q=>by rw[upd_ne (ne_of_none q hTn)];exact q) (fun c o p q=>by rw[upd_ne (ne_of_none q hTn)];exact q)
    (fun c ps q=>⟨#[],by rw[upd_ne (ne_of_none q hTn),q];simp⟩) (fun m hm=>?_) (fun c o q=>?_) I.bare
   .obtain⟨f0,f1,f2,f3,f4,f5⟩:=hf c hc
    exact⟨f3,f1,f4,f5⟩
   .obtain⟨oo,es,ep,ho,r⟩:=hm
    exact⟨oo,es,ep,hkk _ oo (fun hc=>(hf _ hc).2.1 rfl) ho,r⟩
   .by_cases hb:c=s.heap.objs.size
    .subst hb
     rw[upd_same]at q;cases q
     exact⟨by show 2<=sizeLine;decide,[.int i tk,u],.cons ⟨_,rfl⟩ (.cons rx .nil),⟨_,(hb'.2 _ neT).trans hT,rfl,⟨_,rfl⟩,rfl⟩⟩
    .rw[upd_ne hb]at q
     refine(I.hok c o q).stay (fun d q hd eq=>hkk d q ?_ eq) (fun d q=>by rw[upd_ne (ne_of_none q hTn)];exact q) fun d qs q=>by rw[upd_ne (ne_of_none q hTn)];exact q
     rcases hd with rfl|hd
     .exact trk _ _ (by assumption)
     .exact trk _ _ hd
  refine⟨.ref s.heap.objs.size,_,I1,rfl,⟨s.heap.objs.size,x,rfl,hTn,vx,rfl⟩,⟨⟨_,he''⟩,S.keep _ _ _ (hsub _ _ hs') fun o q=>(hb'.2 it (Ne.symm S.ne)).trans q⟩,fun c hc=>?_⟩
  rw[upd_ne]
  .exact(hf c hc).1
  .intro q
   subst q
   simp only[List.mem_cons,List.not_mem_nil,or_false]at hc
   rcases hc with q|q
   .exact neT q
   .obtain⟨o,e1,_⟩:=S.obj _ _ hs
    exact Nat.lt_irrefl _ (q ▸ Heap.lt_size e1)
 done:=by
  intro X hP hw hK hc i pins s σ H E I hf st hg
  have hfe:=hf e (by simp)
  have hfi:=hf it (by simp)
  obtain⟨Pd,Sd,fp,D,hsd⟩:=S.done X hP hw hK hc i pins s σ H I hfe.1 hfi.1 st.1 st.2 hg
  obtain⟨⟨old,he⟩,hs⟩:=st
  subst hP hw hK
  refine wpAny_pyNext_enum_endD D he hsd fun h' hx=>⟨rfl,?_⟩
  obtain⟨f0,f1,f2,f3,f4,f5⟩:=hfi
  exact I.turned (t':=s.toks) (fun b o hb q=>hx b o hb q) f0 f1 f3 f4 f5
 self:=fun _ _ _ _ _ st h=>by
  obtain⟨⟨old,he⟩,_⟩:=st
  exact wpAny_pyIter_enum he h
noncomputable def Ite (K:W.Frag) (a:Addr):It:=Itd (fun i H=>∃xs x,SqL K H a xs/\xs[i]?=some x) (fun i H x=>∀xs,SqL K H a xs->xs[i]?=some x) (fun i H=>∃xs,SqL K H a xs/\xs.length=i)
theorem en_list {P:Program} {w:World} {K:W.Frag} {e it a:Addr} (ne:e≠it) (na:a≠e) (nai:a≠it):EnSrc P w K e it (fun i h=>h.IsListIter it a i) (fun i H=>∃xs x,SqL K H a xs/\xs[i]?=some x) (fun i H x=>∀xs,SqL K H a xs->xs[i]?=some x) (fun i H=>∃xs,SqL K H a xs/\xs.length=i) where
 ne:=ne
 obj:=fun i h st=>by
  obtain⟨o,q,c,d⟩:=st
  exact⟨o,q,fun v z=>by rw[d]at z;cases z⟩
 keep:=fun i h h' st k=>st.at k
 item:=by
  intro X hP hw hK hc i pins s σ H I _ _ _ _ st hg
  obtain⟨xs,x,hxs,hx⟩:=hg
  subst hP hw hK
  obtain⟨its,rv,p,hz⟩:=I.list hxs
  have hl:=rv.length
  obtain⟨u,hu,ru⟩:=rv.get hx
  refine⟨_,_,_,_,Draws.list (show X.A.in1.handled=none from I.ok.hd hc) it a nai its.toArray,?_,?_,⟨st,p.isList⟩,fun j h q=>q.1,fun u' hu'=>⟨x,?_,fun ys hys=>by rw[I.list_inj hys hxs];exact hx⟩⟩
  .simp only[List.mem_cons,List.not_mem_nil,or_false,not_or]
   exact⟨ne,Ne.symm na⟩
  .have:=(List.getElem?_eq_some_iff.mp hx).1
   simp;omega
  .have e2:its[i]?=some u':=by simpa using hu'
   rw[hu]at e2
   cases e2
   exact ru
 done:=by
  intro X hP hw hK hc i pins s σ H I _ _ _ st hg
  obtain⟨xs,hxs,hx⟩:=hg
  subst hP hw hK
  obtain⟨its,rv,p,hz⟩:=I.list hxs
  have hl:=rv.length
  have e:i=its.toArray.size:=by simp;omega
  subst e
  exact⟨_,_,_,Draws.list (show X.A.in1.handled=none from I.ok.hd hc) it a nai its.toArray,st,p.isList⟩
noncomputable def Iteg (z:Str):It:=Itd (fun i _=>i<z.cps.size) (fun i _ v=>∃c,z.cps[i]?=some c/\v=.str ⟨#[c]⟩) (fun i _=>z.cps.size=i)
theorem en_str {P:Program} {w:World} {K:W.Frag} {e it:Addr} {z:Str} {t:Tok} {ty:String} (hty:ty="str_ascii_iterator"\/ty="str_iterator") (ne:e≠it):EnSrc P w K e it (fun i h=>h.IsStrIter it ty z t i) (fun i _=>i<z.cps.size) (fun i _ v=>∃c,z.cps[i]?=some c/\v=.str ⟨#[c]⟩) (fun i _=>z.cps.size=i) where
 ne:=ne
 obj:=fun i h st=>by
  obtain⟨o,q,c,d⟩:=st
  exact⟨o,q,fun v z=>by rw[d]at z;cases z⟩
 keep:=fun i h h' st k=>by
  obtain⟨o,q,r⟩:=st
  exact⟨o,k o q,r⟩
 item:=by
  intro X hP hw hK hc i pins s σ H I _ _ _ _ st hg
  subst hP hw hK
  have hh:X.A.in1.handled=none:=I.ok.hd hc
  rcases hty with rfl|rfl
  .refine⟨_,_,_,_,Draws.strAscii hh it z t,by simpa using ne,hg,st,fun j h q=>q,fun u hu=>?_⟩
   obtain⟨c,t',hc',rfl⟩:=hu
   exact⟨.str ⟨#[c]⟩,⟨_,rfl⟩,c,hc',rfl⟩
  .refine⟨_,_,_,_,Draws.strWide hh it z t,by simpa using ne,hg,st,fun j h q=>q,fun u hu=>?_⟩
   obtain⟨c,t',hc',rfl⟩:=hu
   exact⟨.str ⟨#[c]⟩,⟨_,rfl⟩,c,hc',rfl⟩
 done:=by
  intro X hP hw hK hc i pins s σ H I _ _ _ st hg
  subst hP hw hK
  have hh:X.A.in1.handled=none:=I.ok.hd hc
  have hg':z.cps.size=i:=hg
  subst hg'
  rcases hty with rfl|rfl
  .exact⟨_,_,_,Draws.strAscii hh it z t,st⟩
  .exact⟨_,_,_,Draws.strWide hh it z t,st⟩
theorem draws_tup {prog:Program} {w:World} {A:Around} (hh:A.handled=none) (it l:Addr) (hne:l≠it) (items:Array Value):
  Draws prog w A it [it,l] items.size (fun i v=>items[i]?=some v) (fun i h=>SItr true h it l i/\SObj true h l items) where
 live:=fun _ _ st=>let⟨o,ho,_⟩:=st.1.obj;⟨o,ho⟩
 frame:=fun _ _ _ st hk=>⟨st.1.at fun o e=>hk it (by simp) o e,st.2.at fun o e=>hk l (by simp) o e⟩
 item:=fun i s Q E hi st hQ=>by
  refine nextOf_item st.1 st.2 (x:=items[i]) (by simp[hi]) fun h' hit' hs'=>?_
  exact hQ _ h' s.toks (by simp[hi]) ⟨hit',st.2.at fun o e=>hs'.extBut l o hne e⟩ hs'
 done:=fun s Q E st hE=>nextOf_end hh st.1 st.2 (by simp) hE
open AutoSeq1 (wpAny_loadPart') in
theorem meets_enumerate_newT (l:Addr) (items:Array Value) (n:Nat) (dct:Option Addr) (sl:Array (Option Value)):
  Meets (Builtin.«enumerate.__new__» ⟨[.type "enumerate",.ref l],[]⟩) (fun _ R s=>s.heap.get? l=some { cls:=.type "tuple",dict:=dct,data:=.seq items n,slots:=sl }/\
   R (.ok (.ret (.ref (s.heap.push { cls:=.type "tuple_iterator",data:=.fields #[.ref l,.int 0 0] }).objs.size)))
    { s with heap:=(s.heap.push { cls:=.type "tuple_iterator",data:=.fields #[.ref l,.int 0 0] }).push { cls:=.type "enumerate",data:=.fields #[.none,.bool false,.ref s.heap.objs.size,rawInt 0,.none,.none] } }):=
 .of_wp fun prog w A R s h=>by
  obtain⟨hp,g,d,tk,os⟩:=s;obtain⟨hl,h⟩:=h
  have hsub:=sub_enumerate
  have hL:Heap.IsTuple (Shared.heap ⟨hp,g,d,tk,os⟩) l items:=⟨_,hl,rfl,n,rfl⟩
  wp_walk using wpAny_loadPart' hl
  refine wpAny_stack_any fun st=>wpAny_pure ?_
  split
  .rename_i c _ _ _ _ _
   cases(c == Value.type "enumerate")
   .wp_walk using wpAny_loadPart' hl,wpAny_pyIter_tuple hL
    exact⟨_,rfl,h⟩
   .wp_walk using wpAny_loadPart' hl,wpAny_pyIter_tuple hL
    exact⟨_,rfl,h⟩
  .wp_walk using wpAny_loadPart' hl,wpAny_pyIter_tuple hL
   exact⟨_,rfl,h⟩
theorem call_enumerate_tuple {prog:Program} {w:World} {A:Around} {E:Value->Shared->Prop} {s:Shared} {l:Addr} {items:Array Value} {Q:Value->Shared->Prop} (hL:s.heap.IsTuple l items)
  (h:∀h',IsEnum h' (s.heap.objs.size+1) s.heap.objs.size 0 .none->SItr true h' s.heap.objs.size l 0->h'.objs.size=s.heap.objs.size+2->
   (∀b o,s.heap.get? b=some o->h'.get? b=some o)->Q (.ref (s.heap.objs.size+1)) { s with heap:=h' }):
  wpAny (model prog w) A (call (.type "enumerate") [.ref l]) Q E s:=by
 obtain⟨⟨c,dct,dt,sl⟩,hl,hc,n,hd⟩:=hL
 replace hc:c=.type "tuple":=hc
 replace hd:dt=.seq items n:=hd
 subst hc hd
 refine callType_new F.called_enumerate (by decide) (F.typeCall_enumerate_1 _) (F.newCall_enumerate_1 _) (fun obj=>F.args_object_init_2 obj _) F.entry_enumerate_new
  (meets_enumerate_newT l items n dct sl) ⟨hl,?_⟩
 have hz:(s.heap.push { cls:=.type "tuple_iterator",data:=.fields #[.ref l,.int 0 0] }).objs.size=s.heap.objs.size+1:=Heap.size_push ..
 show _/\_
 rw[hz]
 have he:IsEnum ((s.heap.push { cls:=.type "tuple_iterator",data:=.fields #[.ref l,.int 0 0] }).push
   { cls:=.type "enumerate",data:=.fields #[.none,.bool false,.ref s.heap.objs.size,rawInt 0,.none,.none] }) (s.heap.objs.size+1) s.heap.objs.size 0 .none:=by
  have:=Heap.get?_push_size (s.heap.push { cls:=.type "tuple_iterator",data:=.fields #[.ref l,.int 0 0] })
   (o:={ cls:=.type "enumerate",data:=.fields #[.none,.bool false,.ref s.heap.objs.size,rawInt 0,.none,.none] }) rfl
  rw[hz]at this;exact this
 refine⟨⟨_,he,rfl⟩,h _ he ⟨_,Heap.get?_push_of_some _ (Heap.get?_push_size _ rfl),rfl,rfl⟩ (by rw[Heap.size_push,hz]) fun b o x=>Heap.get?_push_of_some _ (Heap.get?_push_of_some _ x)⟩
noncomputable def Itet (K:W.Frag) (a:Addr):It:=Itd (fun i H=>∃xs x,SqT K H a xs/\xs[i]?=some x) (fun i H x=>∀xs,SqT K H a xs->xs[i]?=some x) (fun i H=>∃xs,SqT K H a xs/\xs.length=i)
theorem en_tup {P:Program} {w:World} {K:W.Frag} {e it a:Addr} (ne:e≠it) (na:a≠e) (nai:a≠it):EnSrc P w K e it (fun i h=>SItr true h it a i) (fun i H=>∃xs x,SqT K H a xs/\xs[i]?=some x) (fun i H x=>∀xs,SqT K H a xs->xs[i]?=some x) (fun i H=>∃xs,SqT K H a xs/\xs.length=i) where
 ne:=ne
 obj:=fun i h st=>by
  obtain⟨o,q,d⟩:=st.obj
  exact⟨o,q,fun v z=>by rw[d]at z;cases z⟩
 keep:=fun i h h' st k=>st.at k
 item:=by
  intro X hP hw hK hc i pins s σ H I _ _ _ _ st hg
  obtain⟨xs,x,hxs,hx⟩:=hg
  subst hP hw hK
  obtain⟨its,rv,p,hz⟩:=I.tuple hxs
  have hl:=rv.length
  obtain⟨u,hu,ru⟩:=rv.get hx
  refine⟨_,_,_,_,draws_tup (show X.A.in1.handled=none from I.ok.hd hc) it a nai its.toArray,?_,?_,⟨st,p⟩,fun j h q=>q.1,fun u' hu'=>⟨x,?_,fun ys hys=>by rw[I.tuple_inj hys hxs];exact hx⟩⟩
  .simp only[List.mem_cons,List.not_mem_nil,or_false,not_or]
   exact⟨ne,Ne.symm na⟩
  .have:=(List.getElem?_eq_some_iff.mp hx).1
   simp;omega
  .have e2:its[i]?=some u':=by simpa using hu'
   rw[hu]at e2
   cases e2
   exact ru
 done:=by
  intro X hP hw hK hc i pins s σ H I _ _ _ st hg
  obtain⟨xs,hxs,hx⟩:=hg
  subst hP hw hK
  obtain⟨its,rv,p,hz⟩:=I.tuple hxs
  have hl:=rv.length
  have e:i=its.toArray.size:=by simp;omega
  subst e
  exact⟨_,_,_,draws_tup (show X.A.in1.handled=none from I.ok.hd hc) it a nai its.toArray,st,p⟩
section
variable {X:Cx}
noncomputable def iEnum (K:W.Frag) (tl:TE):TI:=fun σ H R=>tCons tl tNil σ H fun vs H1=>∃x,vs=[x]/\
 ((∃a,x=.ref a/\(∃xs,SqL K H1 a xs)/\R (Ite K a) H1)\/(∃z,x=.str z/\R (Iteg z) H1)\/∃a,x=.ref a/\(∃xs,SqT K H1 a xs)/\R (Itet K a) H1)
theorem boot_enumerate:bootBuiltins "enumerate"=some (.type "enumerate"):=by decide +kernel
theorem pi_enum {a:Expr} {tl:TE} {p pos:Pos} {elts:List Expr} {kt:Nat} {pt:Pos} (hg:Gl X "enumerate") (hm:X.mg "enumerate"=none) (ha:PA X [a] (tCons tl tNil)) (hs:starEach [a] X.env=[(false,eval a X.env)]):
  PI X (.Tuple elts kt pt) (.Call (.Name "enumerate" p) [a] [] pos) (iEnum X.K tl):=by
 intro pins s σ H R I h
 have h':tCons tl tNil σ H (fun vs H1=>∃x,vs=[x]/\((∃a,x=.ref a/\(∃xs,SqL X.K H1 a xs)/\R (Ite X.K a) H1)\/(∃z,x=.str z/\R (Iteg z) H1)\/∃a,x=.ref a/\(∃xs,SqT X.K H1 a xs)/\R (Itet X.K a) H1)):=h
 refine Call_ (ld_blt I hg hm boot_enumerate (PyProof.Rows.callWith_type1 (thn (ha pos pins s σ H _ I h') fun us s1 ⟨vs,H1,I1,r1,q1⟩=>?_) (by rw[hs];rfl) (by rfl)))
 obtain⟨x,e,q1⟩:=q1
 subst e
 cases r1 with
 |cons r rr=>
  cases rr
  rcases q1 with⟨a,rfl,⟨xs,hxs⟩,q⟩|⟨z,rfl,q⟩|⟨a,rfl,⟨xs,hxs⟩,q⟩
  .cases r
   obtain⟨its,rv,pl,hz⟩:=I1.list hxs
   refine call_enumerate_list pl.isList fun h' he hit hsz hk=>wpAny_pyIter_enum he ?_
   have la:a<s1.heap.objs.size:=by
    obtain⟨o,q,_⟩:=pl.isList
    exact Heap.lt_size q
   refine⟨s1.heap.objs.size+1,[s1.heap.objs.size+1,s1.heap.objs.size],_,_,H1,rfl,I1.kept (t':=s1.toks) hk,turn_enum (en_list (Nat.succ_ne_self _) (Nat.ne_of_lt (Nat.lt_succ_of_lt la)) (Nat.ne_of_lt la)),⟨⟨_,he⟩,hit⟩,fun c hc=>?_,q⟩
   have hle:s1.heap.objs.size<=c:=by
    simp only[List.mem_cons,List.not_mem_nil,or_false]at hc
    rcases hc with rfl|rfl<;>omega
   exact I1.fpOk hle (I1.hok.fresh hle)
  .obtain⟨t,rfl⟩:=r
   refine call_enumerate_str fun h' he hit hsz hk=>wpAny_pyIter_enum he ?_
   have hty:strIterType z="str_ascii_iterator"\/strIterType z="str_iterator":=by
    unfold strIterType
    split
    .exact .inl rfl
    .exact .inr rfl
   refine⟨s1.heap.objs.size+1,[s1.heap.objs.size+1,s1.heap.objs.size],_,_,H1,rfl,I1.kept (t':=s1.toks) hk,turn_enum (en_str hty (Nat.succ_ne_self _)),⟨⟨_,he⟩,hit⟩,fun c hc=>?_,q⟩
   have hle:s1.heap.objs.size<=c:=by
    simp only[List.mem_cons,List.not_mem_nil,or_false]at hc
    rcases hc with rfl|rfl<;>omega
   exact I1.fpOk hle (I1.hok.fresh hle)
  .cases r
   obtain⟨its,rv,pl,hz⟩:=I1.tuple hxs
   refine call_enumerate_tuple (show s1.heap.IsTuple a its.toArray from pl) fun h' he hit hsz hk=>wpAny_pyIter_enum he ?_
   have la:a<s1.heap.objs.size:=by
    obtain⟨o,q,_⟩:=pl
    exact Heap.lt_size q
   refine⟨s1.heap.objs.size+1,[s1.heap.objs.size+1,s1.heap.objs.size],_,_,H1,rfl,I1.kept (t':=s1.toks) hk,turn_enum (en_tup (Nat.succ_ne_self _) (Nat.ne_of_lt (Nat.lt_succ_of_lt la)) (Nat.ne_of_lt la)),⟨⟨_,he⟩,hit⟩,fun c hc=>?_,q⟩
   have hle:s1.heap.objs.size<=c:=by
    simp only[List.mem_cons,List.not_mem_nil,or_false]at hc
    rcases hc with rfl|rfl<;>omega
   exact I1.fpOk hle (I1.hok.fresh hle)
end
section
variable {X:Cx}
theorem call_int_text:CallR X (.type "int") (fun xs H Q=>∃x n,xs=[.str x]/\PySem.intText? x=some n/\x.length<=640/\Q (.int n) H):=by
 intro pins s σ H xs us Q I r h
 obtain⟨x,n,rfl,hn,hl,q⟩:=h
 obtain⟨u,rfl,t,rfl⟩:=vals1 r
 exact W.KIN.call_text hn hl ⟨.int n,H,I.tok _,⟨_,rfl⟩,q⟩
noncomputable def rInt:List V->Hp->VK->Prop:=fun xs H Q=>((∃i,xs=[.int i]/\Q (.int i) H)\/∃k,xs=[.bl k]/\Q (.int (if k then 1 else 0)) H)\/∃x n,xs=[.str x]/\PySem.intText? x=some n/\x.length<=640/\Q (.int n) H
theorem call_intA:CallR X (.type "int") rInt:=call_int1.or call_int_text
noncomputable def rMulS:R2:=fun x y H Q=>∃a n,x=.str a/\y=.int n/\-1000000<=n/\n<=1000000/\a.length*n.toNat<=1000000/\Q (.str (Txt.mul a n)) H
theorem op_mul_str:OpR X (binaryOp .Mult) rMulS:=by
 intro pins s σ H x y v u Q I rx ry h
 obtain⟨a,n,rfl,rfl,h1,h2,h3,q⟩:=h
 obtain⟨t,rfl⟩:=rx
 obtain⟨t',rfl⟩:=ry
 refine SB.mul ⟨?_,fun hn hc=>?_,fun hn hc=>?_⟩ fun t' k=>⟨.str (Txt.mul a n),H,I.tok _,⟨_,rfl⟩,q⟩
 .have e1:¬n < -(2 ^ 63:Int):=by omega
  have e2:¬n ≥ 2 ^ 63:=by omega
  simp[e1,e2]
  omega
 .have hn0:0<n:=by omega
  intro hgt
  have h4:(a.length:Int)*n<=1000000:=by
   have:((a.length*n.toNat:Nat):Int)<=1000000:=by omega
   rw[Int.natCast_mul,Int.toNat_of_nonneg (by omega)]at this
   exact this
  have h5:=(Int.ediv_lt_iff_lt_mul hn0).mp hgt
  omega
 .have e:Builtin.Str.tooLong (a.length*n.toNat)=false:=by
   unfold Builtin.Str.tooLong
   have:sizeLine=16777216:=sizeLine_eq
   simp
   omega
  exact e
noncomputable def rJoin (K:W.Frag):V->List V->Hp->VK->Prop:=fun x xs H Q=>∃(sep:Str) (p:Addr) (ys:List Str),x=.str sep/\xs=[.ref p]/\(SqL K H p (ys.map V.str)\/SqT K H p (ys.map V.str))/\(ys.map (·.length)).sum+ys.length*sep.length<=16777216/\Q (.str (Txt.join sep ys)) H
theorem strsAre_of:∀{ys:List Str} {us:List Value},Vals (ys.map V.str) us->StrsAre us ys
 | [],us,h=>by
  have e:=h.zero
  subst e
  exact .nil
 |y :: ys,_,.cons r t=>by
  obtain⟨k,rfl⟩:=r
  exact .cons y k (strsAre_of t)
theorem mt_join:MtR X "str.join" (rJoin X.K):=by
 intro pins s σ H x xs v us Q I rx rv h
 obtain⟨sep,p,ys,rfl,rfl,hs,hz,q⟩:=h
 obtain⟨t,rfl⟩:=rx
 obtain⟨u,rfl,ru⟩:=rv.one
 cases ru
 rcases hs with hs|hs
 .obtain⟨its,r,pl,_⟩:=I.list hs
  exact join_list pl.isList (strsAre_of r) hz fun t' k=>⟨.str _,H,I.tok _,⟨_,rfl⟩,q⟩
 .obtain⟨its,r,pl,_⟩:=I.tuple hs
  exact join_tuple pl (strsAre_of r) hz fun t' k=>⟨.str _,H,I.tok _,⟨_,rfl⟩,q⟩
noncomputable def rSlS:V->Option Int->Option Int->Hp->VK->Prop:=fun x lo hi H Q=>∃a,x=.str a/\a.length<=sizeLine/\Q (.str (Txt.slice a lo hi)) H
theorem sl_str:SlR X rSlS:=by
 intro pins s σ H x v vl vu lo hi sl Q I rx hs pl pu h
 obtain⟨a,rfl,hz,q⟩:=h
 obtain⟨t,rfl⟩:=rx
 have fin:∀(l u:Option (Int×Tok)),l.map (·.1)=lo->u.map (·.1)=hi->s.heap.IsSlice sl l u none->wpAny (model X.prog X.w) X.A (getItem (.str a t) (.ref sl)) (EP X pins σ Q) X.xe s:=by
  intro l u e1 e2 hsl
  refine wpAny_getItem_str_slice (l:=l) (u:=u) (st:=none) hsl rfl ?_
  refine post_val_or_str ?_
  subst e1 e2
  exact⟨Nat.le_trans (Txt.slice_le a _ _) hz,fun t' k=>⟨.str _,H,I.tok _,⟨_,rfl⟩,q⟩⟩
 refine⟨"str",_,F.slot_str_getitem.lookup,typeIs_str _ _ _,?_⟩
 cases pl with
 |none=>
  cases pu with
  |none=>exact fin none none rfl rfl hs
  |int j u=>exact fin none (some (j,u)) rfl rfl hs
 |int i t1=>
  cases pu with
  |none=>exact fin (some (i,t1)) none rfl rfl hs
  |int j u=>exact fin (some (i,t1)) (some (j,u)) rfl rfl hs
noncomputable def tyName (H:Hp):V->Option String
 | .non=>some "NoneType"
 | .bl _=>some "bool"
 | .int _=>some "int"
 | .str _=>some "str"
 | .ref a=>match H a with
  |some (.lst _)=>some "list"
  |some (.tup _)=>some "tuple"
  |some (.dK _)=>some "dict"
  |some (.dT _)=>some "dict"
  |some (.frz _ (.lst _))=>some "list"
  |_=>none
 |_=>none
theorem tyName_of {K:W.Frag} {H:Hp} {x:V} {T:String} (h:tyName H x=some T):TyOf K H x (.type T):=by
 cases x with
 |non=>cases h;exact .non
 |bl b=>cases h;exact .bl b
 |int i=>cases h;exact .int i
 |str y=>cases h;exact .str y
 |byt _=>cases h
 |flt _=>cases h
 |ty _=>cases h
 |ref a=>
  have h:(match H a with
   |some (.lst _)=>some "list"
   |some (.tup _)=>some "tuple"
   |some (.dK _)=>some "dict"
   |some (.dT _)=>some "dict"
   |some (.frz _ (.lst _))=>some "list"
   |_=>none)=some T:=h
  split at h
  .rename_i e;cases h;exact .lst e
  .rename_i e;cases h;exact .tup e
  .rename_i e;cases h;exact .dK e
  .rename_i e;cases h;exact .dT e
  .rename_i e;cases h;exact .frz e
  .cases h
noncomputable def isT (T c:String):Bool:=T == c || (T == "bool"&&c == "int")
noncomputable def tyKnown:List String:=["NoneType","bool","int","str","list","tuple","dict"]
theorem kitOne_known (K:W.Frag):∀T∈tyKnown,∀c∈["bool","int","str","list","tuple","dict"],W.kitOne K (.type T) (.type c)=some (isT T c):=by
 intro T hT c hc
 simp only[tyKnown,List.mem_cons,List.not_mem_nil,or_false]at hT hc
 rcases hT with rfl|rfl|rfl|rfl|rfl|rfl|rfl<;>rcases hc with rfl|rfl|rfl|rfl|rfl|rfl<;>rfl
noncomputable def rIsi:List V->Hp->VK->Prop:=fun xs H Q=>
 (∃x T c,xs=[x,.ty c]/\tyName H x=some T/\T∈tyKnown/\c∈["bool","int","str","list","tuple","dict"]/\Q (.bl (isT T c)) H)\/
 (∃(x:V) (T:String) (p:Addr) (cs:List String),xs=[x,.ref p]/\tyName H x=some T/\T∈tyKnown/\H p=some (.tup (cs.map V.ty))/\(∀c∈cs,c∈["bool","int","str","list","tuple","dict"])/\Q (.bl (cs.any (isT T))) H)
theorem vals_ty:∀{cs:List String} {us:List Value},Vals (cs.map V.ty) us->us=cs.map Value.type
 | [],us,h=>h.zero
 |c :: cs,_,.cons r t=>by
  have r':_=Value.type c:=r
  rw[r',vals_ty t]
  rfl
theorem kitAny_known (K:W.Frag) {T:String} (hT:T∈tyKnown):∀{cs:List String},(∀c∈cs,c∈["bool","int","str","list","tuple","dict"])->W.kitAny K (.type T) (cs.map Value.type)=some (cs.any (isT T))
 | [],_=>rfl
 |c :: cs,h=>by
  have h1:=kitOne_known K T hT c (h c List.mem_cons_self)
  have h2:=kitAny_known K hT (cs:=cs) fun c' hc'=>h c' (List.mem_cons_of_mem _ hc')
  show(match W.kitOne K (.type T) (.type c)with|some true=>some true|some false=>W.kitAny K (.type T) (cs.map Value.type)|none=>none)=_
  rw[h1]
  cases hb:isT T c
  .rw[List.any_cons,hb]
   exact h2
  .rw[List.any_cons,hb]
   rfl
theorem isinst_tup {pins:List (Addr×Obj)} {σ:St} {H:Hp} {s:Shared} {Q:Value->Shared->Prop} {E:Value->Shared->Prop} {b:Bool} {x:V} {u:Value} {T:String} {p:Addr} {dd:Option Addr} {its:List Value} {n:Nat} {sl:Array (Option Value)} (I:Inv X pins σ H s) (rx:RelV x u) (ty:tyName H x=some T)
  (hp:s.heap.get? p=some ⟨.type "tuple",dd,.seq its.toArray n,sl⟩) (e:W.kitAny X.K (.type T) its=some b) (h:∀tk,Q (.bool b) { s with toks:=tk }):
  wpAny (model X.prog X.w) X.A (call (.builtin "isinstance") [u,.ref p]) Q E s:=by
 cases x with
 |non=>cases ty;cases(show u=Value.none from rx);exact W.kia_tup W.kitx_none I.kIn True.intro hp e (fun z=>nomatch z) h
 |bl y=>cases ty;cases(show u=Value.bool y from rx);exact W.kia_tup W.kitx_bool I.kIn True.intro hp e (fun z=>nomatch z) h
 |int i=>cases ty;obtain⟨t,q⟩:=(show ∃t,u=Value.int i t from rx);cases q;exact W.kia_tup W.kitx_int I.kIn True.intro hp e (fun z=>nomatch z) h
 |str y=>cases ty;obtain⟨t,q⟩:=(show ∃t,u=Value.str y t from rx);cases q;exact W.kia_tup W.kitx_str I.kIn True.intro hp e (fun z=>nomatch z) h
 |byt _=>cases ty
 |flt _=>cases ty
 |ty _=>cases ty
 |ref a=>
  cases(show u=Value.ref a from rx)
  have ty:(match H a with
   |some (.lst _)=>some "list"
   |some (.tup _)=>some "tuple"
   |some (.dK _)=>some "dict"
   |some (.dT _)=>some "dict"
   |some (.frz _ (.lst _))=>some "list"
   |_=>none)=some T:=ty
  split at ty
  .rename_i xs ea
   cases ty
   obtain⟨_,_,n,_,h1⟩:=(show ObjOk X.prog X.w H s.heap a (.lst xs) from I.hok a _ ea)
   exact W.kia_tup W.kitx_list I.kIn ⟨_,h1,rfl⟩ hp e (fun z=>nomatch z) h
  .rename_i xs ea
   cases ty
   obtain⟨_,_,_,o,h1,h2,_⟩:=(show ObjOk X.prog X.w H s.heap a (.tup xs) from I.hok a _ ea)
   exact W.kia_tup W.kitx_tuple I.kIn ⟨o,h1,h2⟩ hp e (fun z=>nomatch z) h
  .rename_i kvs ea
   cases ty
   obtain⟨_,_,vs,_,o,es,ep,h1,h2,_⟩:=(show ObjOk X.prog X.w H s.heap a (.dK kvs) from I.hok a _ ea)
   exact W.kia_tup W.kitx_dict I.kIn ⟨o,h1,h2.1⟩ hp e (fun z=>nomatch z) h
  .rename_i kvs ea
   cases ty
   obtain⟨_,_,xs,_,o,es,ep,h1,h2,_⟩:=(show ObjOk X.prog X.w H s.heap a (.dT kvs) from I.hok a _ ea)
   exact W.kia_tup W.kitx_dict I.kIn ⟨o,h1,h2.1⟩ hp e (fun z=>nomatch z) h
  .rename_i ob xs ea
   cases ty
   obtain⟨_,_,_,n,_,h1⟩:=(show ObjOk X.prog X.w H s.heap a (.frz ob (.lst xs)) from I.hok a _ ea)
   exact W.kia_tup W.kitx_list I.kIn ⟨_,h1,rfl⟩ hp e (fun z=>nomatch z) h
  .cases ty
theorem call_isi:CallR X (.builtin "isinstance") rIsi:=by
 intro pins s σ H xs us Q I r h
 rcases h with⟨x,T,c,rfl,hT,hk,hc,q⟩|⟨x,T,p,cs,rfl,hT,hk,hp,hc,q⟩
 .obtain⟨u,w',rfl,r1,r2⟩:=vals2 r
  have r2:w'=Value.type c:=r2
  subst r2
  exact isinst_ok I r1 (tyName_of hT) (kitOne_known X.K T hk c hc) fun tk=>⟨.bl _,H,I.tok _,rfl,q⟩
 .obtain⟨u,w',rfl,r1,r2⟩:=vals2 r
  have r2:w'=Value.ref p:=r2
  subst r2
  obtain⟨_,its,rv,o,h1,h2,⟨n,h3⟩,_⟩:=(show ObjOk X.prog X.w H s.heap p (.tup (cs.map V.ty)) from I.hok p _ hp)
  have e:=vals_ty rv
  subst e
  obtain⟨oc,od,dat,osl⟩:=o
  have h2:oc=_:=h2
  have h3:dat=_:=h3
  subst h2 h3
  exact isinst_tup I r1 hT h1 (kitAny_known X.K hk hc) fun tk=>⟨.bl _,H,I.tok _,rfl,q⟩
noncomputable def rAll (K:W.Frag) (any:Bool):List V->Hp->VK->Prop:=fun xs H Q=>∃(p:Addr) (bs:List Bool),xs=[.ref p]/\SqL K H p (bs.map V.bl)/\Q (.bl (if any then bs.any id else bs.all id)) H
theorem bools_get:∀{bs:List Bool} {us:List Value} {i:Nat} {v:Value},Vals (bs.map V.bl) us->us[i]?=some v->∃b,bs[i]?=some b/\v=.bool b
 | [],us,i,v,h,e=>by rw[h.zero]at e;simp at e
 |b :: bs,_,0,v,.cons r t,e=>by
  have r:_=Value.bool b:=r
  simp at e
  exact⟨b,rfl,by rw[<- e];exact r⟩
 |b :: bs,_,i+1,v,.cons r t,e=>by
  obtain⟨b',h1,h2⟩:=bools_get (i:=i) t (by simpa using e)
  exact⟨b',by simpa using h1,h2⟩
theorem range_all (bs:List Bool):(List.range bs.length).all (fun i=>bs.getD i false)=bs.all id:=by
 rw[Bool.eq_iff_iff,List.all_eq_true,List.all_eq_true]
 constructor
 .intro h b hb
  obtain⟨i,hi,rfl⟩:=List.mem_iff_getElem.mp hb
  have:=h i (List.mem_range.mpr hi)
  simpa[List.getD_eq_getElem?_getD,hi]using this
 .intro h i hi
  have hi:=List.mem_range.mp hi
  have:=h bs[i] (List.getElem_mem hi)
  simpa[List.getD_eq_getElem?_getD,hi]using this
theorem call_allL (hc:X.calm=true):CallR X (.builtin "all") (rAll X.K false):=by
 intro pins s σ H xs us Q I r h
 obtain⟨p,bs,rfl,hs,q⟩:=h
 obtain⟨u,rfl,ru⟩:=vals1 r
 cases ru
 obtain⟨its,rv,pl,hz⟩:=I.list hs
 have hlen:its.toArray.size=bs.length:=by
  have:=rv.length
  rw[List.length_map]at this
  rw[List.size_toArray,this]
 refine call_all_walk (wpAny_pyIter_list pl.isList ?_)
 have hlt:p<s.heap.objs.size:=by obtain⟨o,n,e,_⟩:=pl;exact Heap.lt_size e
 refine⟨s.heap.objs.size,_,_,_,_,_,fun i=>bs.getD i false,rfl,Walks.list (A:=X.A.in1) (I.ok.hd hc) _ p (Nat.ne_of_lt hlt) its.toArray,⟨⟨_,Heap.get?_push_size _ rfl,rfl,rfl⟩,Heap.IsList.push pl.isList _⟩,?_,fun h' tk hk=>?_⟩
 .intro i v s' Q' E' hv hq
  obtain⟨b,hb,rfl⟩:=bools_get rv (i:=i) (by simpa using hv)
  refine wpAny_truthy_bool ?_
  have e:bs.getD i false=b:=by rw[List.getD_eq_getElem?_getD,hb];rfl
  have hq':Q' (bs.getD i false) s':=hq
  rw[e]at hq'
  exact hq'
 .rw[hlen,range_all]
  exact⟨.bl _,H,I.kept fun b o e=>hk b o (by simp;exact Nat.ne_of_lt (Heap.lt_size e)) (Heap.get?_push_of_some _ e),rfl,q⟩
end
section
variable {X:Cx}
noncomputable def rInsert:V->List V->Hp->VK->Prop:=fun x vs H Q=>∃l xs y,∃i:Nat,x=.ref l/\vs=[.int i,y]/\H l=some (.lst xs)/\xs.length<sizeLine/\i<=xs.length/\Q .non (upd H l (.lst (xs.take i++y :: xs.drop i)))
theorem mt_insert:MtM X "list.insert" rInsert:=by
 intro pins s σ H x vs v us Q I rx rv h
 obtain⟨l,xs,y,i,rfl,rfl,hH,hz,hi,q⟩:=h
 cases rx
 cases rv with
 |cons r1 rv=>
  cases rv with
  |cons r2 rv=>
   cases rv
   obtain⟨t,rfl⟩:=r1
   rename_i u
   obtain⟨z,its,n,r,hl,e⟩:=I.lstM hH
   have hb:i<2 ^ 62:=Nat.lt_of_le_of_lt hi (Nat.lt_of_le_of_lt z (show 2 ^ 24<2 ^ 62 from Nat.pow_lt_pow_right (by decide) (by decide)))
   have hfit:¬(!Builtin.List.listFitsIndex (i:Int))=true:=by
    unfold Builtin.List.listFitsIndex
    simp
    omega
   have hsz:its.toArray.size<=sizeLine:=by rw[List.size_toArray];exact hl ▸ z
   generalize hj:(i:Int)=j at hfit
   have M:=AutoListH.list_insert_list_int_val_1 l its.toArray n j t u hfit hsz
   refine call_meets F.slot_list_insert ⟨_,e,rfl⟩ F.entry_list_insert (F.args_list_insert_3 _ _ _) M ⟨e,?_⟩
   subst hj
   refine⟨.non,_,I.lset (its':=its.take i++u :: its.drop i) hH e ?_ ((r.take i).append (.cons r2 (r.drop i))) ?_,rfl,q⟩
   .have hn:¬((i:Int)<0):=by omega
    simp only[hn,if_false,Int.toNat_natCast,List.size_toArray]
    rw[Nat.min_eq_left (by omega)]
    simp
    exact List.take_of_length_le (by simp)
   .simp
    omega
open PySem.SeqAt in
theorem eqAt_of {A:Around} {s:Shared} {x y:V} {u v:Value} (rx:RelV x u) (ry:RelV y v) (h:scal x y=true/\(∀b,x≠.byt b)\/x=y/\∃a,x=.ref a):EqAt A s u v (decide (x=y)):=by
 rcases h with⟨h,hb⟩|⟨rfl,a,rfl⟩
 .cases x with
  |non=>cases y with
   |non=>cases rx;cases ry;exact EqAt.same _
   |bl b=>cases rx;cases ry;exact EqAt.none_bool _
   |int b=>cases rx;obtain⟨t,rfl⟩:=ry;exact EqAt.none_int _ _
   |str b=>cases rx;obtain⟨t,rfl⟩:=ry;exact EqAt.none_str _ _
   |_=>cases h
  |bl a=>cases y with
   |non=>cases rx;cases ry;exact EqAt.bool_none _
   |bl b=>cases rx;cases ry;have:=EqAt.bool_bool (A:=A) (s:=s) a b;cases a<;>cases b<;>exact this
   |str b=>cases rx;obtain⟨t,rfl⟩:=ry;exact EqAt.bool_str _ _ _
   |_=>cases h
  |int a=>cases y with
   |non=>obtain⟨t,rfl⟩:=rx;cases ry;exact EqAt.int_none _ _
   |int b=>obtain⟨t,rfl⟩:=rx;obtain⟨t',rfl⟩:=ry;rw[dec_int];exact EqAt.int_int _ _ _ _
   |str b=>obtain⟨t,rfl⟩:=rx;obtain⟨t',rfl⟩:=ry;exact EqAt.int_str _ _ _ _
   |_=>cases h
  |str a=>cases y with
   |non=>obtain⟨t,rfl⟩:=rx;cases ry;exact EqAt.str_none _ _
   |bl b=>obtain⟨t,rfl⟩:=rx;cases ry;exact EqAt.str_bool _ _ _
   |int b=>obtain⟨t,rfl⟩:=rx;obtain⟨t',rfl⟩:=ry;exact EqAt.str_int _ _ _ _
   |str b=>
    obtain⟨t,rfl⟩:=rx
    obtain⟨t',rfl⟩:=ry
    have e:decide (V.str a=V.str b)=(a == b):=by
     by_cases hab:a=b
     .subst hab;simp
     .rw[decide_eq_false (by intro z;cases z;exact hab rfl)];simp[hab]
    rw[e]
    exact EqAt.str_str _ _ _ _
   |_=>cases h
  |byt b=>exact absurd rfl (hb b)
  |_=>cases y<;>cases h
 .cases rx
  cases ry
  rw[decide_eq_true rfl]
  exact EqAt.same _
def LEq (xs ys:List V):Prop:=∀(i:Nat) x y,xs[i]?=some x->ys[i]?=some y->scal x y=true/\(∀b,x≠.byt b)\/x=y/\∃a,x=.ref a
noncomputable def rEqL (K:W.Frag) (neg:Bool):V->V->Hp->VK->Prop:=fun x y H Q=>∃p q xs ys,x=.ref p/\y=.ref q/\SqL K H p xs/\SqL K H q ys/\(xs.length=ys.length->LEq xs ys)/\Q (.bl (if neg then !decide (xs=ys)else decide (xs=ys))) H
theorem all_eq {xs ys:List V} (h:xs.length=ys.length):(List.range xs.length).all (fun i=>decide (xs[i]?=ys[i]?))=decide (xs=ys):=by
 by_cases e:xs=ys
 .subst e
  simp
 .rw[decide_eq_false e,Bool.eq_false_iff]
  intro q
  rw[List.all_eq_true]at q
  apply e
  apply List.ext_getElem?
  intro i
  rcases Nat.lt_or_ge i xs.length with hi|hi
  .exact of_decide_eq_true (q i (List.mem_range.mpr hi))
  .rw[List.getElem?_eq_none_iff.mpr hi,List.getElem?_eq_none_iff.mpr (by omega)]
open PySem.SeqAt in
theorem op_eqL (hu:X.A.units<cLine):OpR X (compareOp .Eq) (rEqL X.K false):=by
 intro pins s σ H x y v u Q I rx ry h
 obtain⟨p,q,xs,ys,rfl,rfl,hp,hq,he,k⟩:=h
 cases rx
 cases ry
 obtain⟨its,r1,pl1,_⟩:=I.list hp
 obtain⟨its2,r2,pl2,_⟩:=I.list hq
 have l1:=r1.length
 have l2:=r2.length
 by_cases hl:xs.length=ys.length
 .refine eq_listAt (e:=fun i=>decide (xs[i]?=ys[i]?)) pl1.isList pl2.isList (by simp;omega) hu (fun j h1 h2=>?_) ?_
  .have j1:j<xs.length:=by simp at h1;omega
   have j2:j<ys.length:=by omega
   have g1:xs[j]?=some xs[j]:=List.getElem?_eq_getElem j1
   have g2:ys[j]?=some ys[j]:=List.getElem?_eq_getElem j2
   obtain⟨u1,e1,ru1⟩:=r1.get g1
   obtain⟨u2,e2,ru2⟩:=r2.get g2
   have f1:its.toArray[j]=u1:=by simp at h1 ⊢;rw[List.getElem?_eq_getElem h1]at e1;exact Option.some.inj e1
   have f2:its2.toArray[j]=u2:=by simp at h2 ⊢;rw[List.getElem?_eq_getElem h2]at e2;exact Option.some.inj e2
   rw[f1,f2,g1,g2]
   have e3:decide (some xs[j]=some ys[j])=decide (xs[j]=ys[j]):=by simp
   rw[e3]
   exact eqAt_of ru1 ru2 (he hl j _ _ g1 g2)
  .have e4:(List.range its.toArray.size).all (fun i=>decide (xs[i]?=ys[i]?))=decide (xs=ys):=by
    rw[List.size_toArray,<- l1];exact all_eq hl
   rw[e4]
   exact⟨.bl _,H,I,rfl,k⟩
 .refine eq_list_lengthsAt pl1.isList pl2.isList (by simp;omega) hu ?_
  rw[decide_eq_false (fun z=>hl (by rw[z]))]at k
  exact⟨.bl false,H,I,rfl,k⟩
open PySem.SeqAt in
theorem op_neL (hu:X.A.units<cLine):OpR X (compareOp .NotEq) (rEqL X.K true):=by
 intro pins s σ H x y v u Q I rx ry h
 obtain⟨p,q,xs,ys,rfl,rfl,hp,hq,he,k⟩:=h
 cases rx
 cases ry
 obtain⟨its,r1,pl1,_⟩:=I.list hp
 obtain⟨its2,r2,pl2,_⟩:=I.list hq
 have l1:=r1.length
 have l2:=r2.length
 obtain⟨⟨cls,dd,data,sl⟩,ho,hc,n,hd⟩:=pl1.isList
 obtain⟨⟨cls2,dd2,data2,sl2⟩,ho2,hc2,n2,hd2⟩:=pl2.isList
 simp only at hc hd hc2 hd2
 subst hc hd hc2 hd2
 by_cases hl:xs.length=ys.length
 .refine richCompare_meets_room (op:=.NotEq) ⟨_,ho,rfl⟩ ⟨_,ho2,rfl⟩ F.slot_list_ne F.entry_list_ne (F.args_list_ne_2 _ _) (list_neAt p q its.toArray its2.toArray n n2 dd dd2 sl sl2 (by simp;omega) (fun i=>decide (xs[i]?=ys[i]?))) ⟨ho,ho2,fun j h1 h2=>?_,?_⟩ hu
  .have j1:j<xs.length:=by simp at h1;omega
   have j2:j<ys.length:=by omega
   have g1:xs[j]?=some xs[j]:=List.getElem?_eq_getElem j1
   have g2:ys[j]?=some ys[j]:=List.getElem?_eq_getElem j2
   obtain⟨u1,e1,ru1⟩:=r1.get g1
   obtain⟨u2,e2,ru2⟩:=r2.get g2
   have f1:its.toArray[j]=u1:=by simp at h1 ⊢;rw[List.getElem?_eq_getElem h1]at e1;exact Option.some.inj e1
   have f2:its2.toArray[j]=u2:=by simp at h2 ⊢;rw[List.getElem?_eq_getElem h2]at e2;exact Option.some.inj e2
   rw[f1,f2,g1,g2]
   have e3:decide (some xs[j]=some ys[j])=decide (xs[j]=ys[j]):=by simp
   rw[e3]
   exact eqAt_of ru1 ru2 (he hl j _ _ g1 g2)
  .have e4:(List.range its.toArray.size).all (fun i=>decide (xs[i]?=ys[i]?))=decide (xs=ys):=by
    rw[List.size_toArray,<- l1];exact all_eq hl
   rw[e4]
   exact(show Value.bool (!decide (xs=ys))≠Value.notImplemented/\EP X pins σ Q (Value.bool (!decide (xs=ys))) s from⟨(fun x=>nomatch x),⟨.bl _,H,I,rfl,k⟩⟩)
 .refine richCompare_meets_room (op:=.NotEq) ⟨_,ho,rfl⟩ ⟨_,ho2,rfl⟩ F.slot_list_ne F.entry_list_ne (F.args_list_ne_2 _ _) (list_ne_lengthsAt p q its.toArray its2.toArray n n2 dd dd2 sl sl2 (by simp;omega)) ⟨ho,ho2,?_⟩ hu
  rw[decide_eq_false (fun z=>hl (by rw[z]))]at k
  exact(show Value.bool true≠Value.notImplemented/\EP X pins σ Q (Value.bool true) s from⟨(fun x=>nomatch x),⟨.bl true,H,I,rfl,k⟩⟩)
noncomputable def rgs (i:Int) (n:Nat):List V:=(List.range n).map fun(k:Nat)=>V.int (i+(k:Int))
noncomputable def rRng:List V->Hp->VK->Prop:=fun xs H Q=>∃i j:Int,(xs=[.int i,.int j]\/(i=0/\xs=[.int j]))/\∀p,H p=none->Q (.ref p) (upd H p (.rng i j))
theorem call_rng:CallR X (.type "range") rRng:=by
 intro pins s σ H xs us Q I rv h
 obtain⟨i,j,hx,q⟩:=h
 have hn:H s.heap.objs.size=none:=I.hok.fresh (Nat.le_refl _)
 rcases hx with rfl|⟨rfl,rfl⟩
 .cases rv with
  |cons r1 rv=>
   cases rv with
   |cons r2 rv=>
    cases rv
    obtain⟨t,rfl⟩:=r1
    obtain⟨u,rfl⟩:=r2
    exact call_range_2 ⟨.ref s.heap.objs.size,_,I.laid (t':=s.toks+1) (fun _ _ e=>Heap.get?_push_of_some _ e) (Nat.le_refl _) (o:=.rng i j) ⟨t,u,s.toks,Heap.get?_push_size _ rfl⟩,rfl,q _ hn⟩
 .cases rv with
  |cons r1 rv=>
   cases rv
   obtain⟨t,rfl⟩:=r1
   exact call_range_1 ⟨.ref s.heap.objs.size,_,I.laid (t':=s.toks+1+1) (fun _ _ e=>Heap.get?_push_of_some _ e) (Nat.le_refl _) (o:=.rng 0 j) ⟨s.toks,t,s.toks+1,Heap.get?_push_size _ rfl⟩,rfl,q _ hn⟩
noncomputable def rLrg:List V->Hp->VK->Prop:=fun xs H Q=>∃r i j,xs=[.ref r]/\H r=some (.rng i j)/\(-(2 ^ 62)<=i/\i<2 ^ 62/\-(2 ^ 62)<=j/\j<2 ^ 62)/\(j-i).toNat<=sizeLine/\∀p,H p=none->Q (.ref p) (upd H p (.lst (rgs i (j-i).toNat)))
theorem call_lrg (hc:X.calm=true):CallR X (.type "list") rLrg:=by
 intro pins s σ H xs us Q I rv h
 obtain⟨r,i,j,rfl,hr,⟨h1,h2,h3,h4⟩,hz,q⟩:=h
 cases rv with
 |cons r1 rv=>
  cases rv
  cases r1
  obtain⟨t,u,v,e⟩:=(show ObjOk X.prog X.w H s.heap r (.rng i j) from I.hok r _ hr)
  refine call_list_range (n:=(j-i).toNat) (I.ok.hd hc) e (small_one h1 h2 h3 h4) (by rw[rangeSize_one];split<;>omega) hz fun h' tk' acc' c' hk hS hit=>?_
  obtain⟨hsz,hv⟩:=hit
  have hn:H s.heap.objs.size=none:=I.hok.fresh (Nat.le_refl _)
  have key:∀(n:Nat) (l:List Value) (f:Nat->Int),l.length=n->(∀k v,l[k]?=some v->∃t,v=Value.int (f k) t)->Vals ((List.range n).map fun k=>V.int (f k)) l:=by
   intro n
   induction n with
   |zero=>intro l f hl hv;have:l=[]:=List.length_eq_zero_iff.mp hl;subst this;exact .nil
   |succ n ih=>
    intro l f hl hv
    cases l with
    |nil=>cases hl
    |cons x r=>
     rw[List.range_succ_eq_map,List.map_cons,List.map_map]
     refine .cons (hv 0 x rfl) ?_
     exact ih r (fun k=>f (k+1)) (by simpa using hl) fun k v hk=>hv (k+1) v (by simpa using hk)
  refine⟨.ref s.heap.objs.size,_,I.laid (t':=tk') hk (Nat.le_refl _) (o:=.lst (rgs i (j-i).toNat)) ⟨by unfold rgs;rw[List.length_map,List.length_range];exact hz,acc'.toList,c',?_,hS⟩,rfl,q _ hn⟩
  refine key _ _ (fun k=>i+(k:Int)) (by rw[Array.length_toList];exact hsz) fun k v hk=>?_
  obtain⟨t,e⟩:=hv k v (by simpa using hk)
  exact⟨t,by rw[e];simp⟩
end
section
variable {X:Cx}
noncomputable def eV (y:V) (w:Value):Bool:=match w,y with
 | .none,.non=>true
 | .bool a,.bl b=>a == b
 | .int i _,.int j=>i == j
 | .str x _,.str z=>x == z
 |_,_=>false
theorem eV_of {z y:V} {w:Value} (r:RelV z w) (h:scal z y=true) (hb:∀b,z≠.byt b):eV y w=decide (z=y):=by
 cases z with
 |non=>cases r;cases y<;>first|rfl|cases h
 |bl a=>cases r;cases y<;>first|(cases h;done)|(rename_i b;cases a<;>cases b<;>rfl)|rfl
 |int a=>
  obtain⟨t,rfl⟩:=r
  cases y<;>first|(cases h;done)|rfl|skip
  rw[dec_int]
  rfl
 |str a=>
  obtain⟨t,rfl⟩:=r
  cases y<;>first|(cases h;done)|rfl|skip
  rename_i b
  show(a == b)=_
  by_cases hab:a=b
  .subst hab;simp
  .rw[decide_eq_false (by intro z;cases z;exact hab rfl)];simp[hab]
 |byt b=>exact absurd rfl (hb b)
 |_=>cases y<;>cases h
theorem vals_mem {xs:List V} {us:List Value} {u:Value} (r:Vals xs us) (h:u∈us):∃x∈xs,RelV x u:=by
 obtain⟨i,hi⟩:=List.getElem?_of_mem h
 have hl:=r.length
 have hlt:i<xs.length:=by
  rcases Nat.lt_or_ge i us.length with q|q
  .omega
  .rw[List.getElem?_eq_none_iff.mpr q]at hi;cases hi
 obtain⟨w,e,rw_⟩:=r.get (List.getElem?_eq_getElem hlt)
 rw[hi]at e
 cases e
 exact⟨_,List.getElem_mem hlt,rw_⟩
theorem op_mulW:OpR X (binaryOp .Mult) (rI IntMulOk fun i j=>.int (i*j)):=opI fun _ _ _ _ _ _ _ hc q=>mul_int q hc
noncomputable def isPl:V->Bool
 | .ty _=>false
 | .byt _=>false
 | .flt _=>false
 |_=>true
noncomputable def rIsB (neg:Bool):R2:=fun x y H Q=>∃b,y=.bl b/\isPl x=true/\Q (.bl (if neg then !decide (x=.bl b)else decide (x=.bl b))) H
theorem is_eq {x:V} {v:Value} {b:Bool} (r:RelV x v) (h:isPl x=true):plainIs v (.bool b)=true/\(v == Value.bool b)=decide (x=.bl b):=by
 cases x with
 |non=>cases r;exact⟨rfl,rfl⟩
 |bl a=>cases r;refine⟨rfl,?_⟩;cases a<;>cases b<;>rfl
 |int i=>obtain⟨t,rfl⟩:=r;exact⟨rfl,rfl⟩
 |str i=>obtain⟨t,rfl⟩:=r;exact⟨rfl,rfl⟩
 |ref a=>cases r;exact⟨rfl,rfl⟩
 |_=>cases h
theorem op_isB:OpR X (compareOp .Is) (rIsB false):=by
 intro pins s σ H x y v u Q I rx ry h
 obtain⟨b,rfl,hp,q⟩:=h
 cases ry
 obtain⟨h1,h2⟩:=is_eq (b:=b) rx hp
 exact wpAny_is_plain h1 ⟨.bl _,H,I,by rw[h2];rfl,q⟩
theorem op_isNotB:OpR X (compareOp .IsNot) (rIsB true):=by
 intro pins s σ H x y v u Q I rx ry h
 obtain⟨b,rfl,hp,q⟩:=h
 cases ry
 obtain⟨h1,h2⟩:=is_eq (b:=b) rx hp
 exact wpAny_isNot_plain h1 ⟨.bl _,H,I,by rw[h2];rfl,q⟩
theorem op_fdivW:OpR X (binaryOp .FloorDiv) (rI (fun _ j=>0<j/\j.natAbs.log2<9000) fun i j=>.int (i / j)):=opI fun i j _ _ _ _ _ hc q=>by
 refine floordiv_int (by omega) ?_ (.inl (PyProof.noPylong_of_log2 hc.2))
 rw[Int.fdiv_eq_ediv_of_nonneg i (by omega)]
 exact q
end
section
variable {κ:Type} [DecidableEq κ]
noncomputable def valV (kvs:List (κ×V)) (k:κ):Option V:=(kvs.find? fun kv=>decide (kv.1=k)).map (·.2)
noncomputable def putK (kvs:List (κ×V)) (k:κ) (v:V):List (κ×V):=
 if(kvs.any fun kv=>decide (kv.1=k))=true then kvs.map (fun kv=>if kv.1=k then(kv.1,v)else kv)else kvs++[(k,v)]
theorem valV_pos {p:κ×V} {r:List (κ×V)} {k:κ} (e:p.1=k):valV (p :: r) k=some p.2:=by simp[valV,List.find?_cons,e]
theorem valV_neg {p:κ×V} {r:List (κ×V)} {k:κ} (e:¬p.1=k):valV (p :: r) k=valV r k:=by simp[valV,List.find?_cons,e]
theorem valV_any (k:κ):∀kvs:List (κ×V),(kvs.any fun kv=>decide (kv.1=k))=(valV kvs k).isSome
 | []=>rfl
 |p :: r=>by
  rw[List.any_cons]
  by_cases e:p.1=k
  .simp only[valV_pos e,decide_eq_true e,Bool.true_or,Option.isSome_some]
  .rw[valV_neg e,decide_eq_false e,Bool.false_or];exact valV_any k r
theorem valV_map (k j:κ) (y:V):∀kvs:List (κ×V),valV (kvs.map fun kv=>if kv.1=k then(kv.1,y)else kv) j=(valV kvs j).map fun x=>if j=k then y else x
 | []=>rfl
 |p :: r=>by
  have ih:=valV_map k j y r
  rw[List.map_cons]
  by_cases h:p.1=k
  .rw[if_pos h]
   by_cases e:p.1=j
   .rw[valV_pos (p:=(p.1,y)) e,valV_pos e,Option.map_some,if_pos (e.symm.trans h)]
   .rw[valV_neg (p:=(p.1,y)) e,valV_neg e,ih]
  .rw[if_neg h]
   by_cases e:p.1=j
   .rw[valV_pos (p:=p) e,valV_pos e,Option.map_some,if_neg (fun z=>h (e.trans z))]
   .rw[valV_neg (p:=p) e,valV_neg e,ih]
theorem valV_snoc (k j:κ) (y:V):∀kvs:List (κ×V),valV kvs k=none->valV (kvs++[(k,y)]) j=if j=k then some y else valV kvs j
 | [],_=>by
  by_cases e:k=j
  .rw[if_pos e.symm];exact valV_pos (p:=(k,y)) e
  .rw[if_neg (fun z=>e z.symm)];exact valV_neg (p:=(k,y)) e
 |p :: r,hn=>by
  rw[List.cons_append]
  have hk:¬p.1=k:=fun z=>by rw[valV_pos z]at hn;cases hn
  rw[valV_neg hk]at hn
  have ih:=valV_snoc k j y r hn
  by_cases e:p.1=j
  .rw[valV_pos e,valV_pos e,if_neg (fun z=>hk (e.trans z))]
  .rw[valV_neg e,valV_neg e,ih]
theorem valV_put (kvs:List (κ×V)) (k j:κ) (y:V):valV (putK kvs k y) j=if j=k then some y else valV kvs j:=by
 unfold putK
 by_cases a:(kvs.any fun kv=>decide (kv.1=k))=true
 .rw[if_pos a,valV_map]
  rw[valV_any]at a
  by_cases e:j=k
  .obtain⟨x,hx⟩:=Option.isSome_iff_exists.mp a
   rw[if_pos e,e,hx,Option.map_some,if_pos rfl]
  .rw[if_neg e]
   cases valV kvs j with
   |none=>rfl
   |some x=>rw[Option.map_some,if_neg e]
 .rw[if_neg a]
  refine valV_snoc k j y kvs ?_
  rw[valV_any]at a
  cases q:valV kvs k with
  |none=>rfl
  |some x=>rw[q]at a;exact(a rfl).elim
theorem length_putK (kvs:List (κ×V)) (k:κ) (v:V):(putK kvs k v).length<=kvs.length+1:=by
 unfold putK
 split
 .rw[List.length_map];omega
 .rw[List.length_append,List.length_cons,List.length_nil];omega
theorem putK_new {kvs:List (κ×V)} {k:κ} (v:V) (h:valV kvs k=none):putK kvs k v=kvs++[(k,v)]:=by
 unfold putK
 rw[valV_any,h]
 exact if_neg (by decide)
theorem RelO.isSome_eq {o:Option V} {u:Option Value} (r:RelO o u):o.isSome=u.isSome:=by
 cases o with
 |none=>cases u with
  |none=>rfl
  |some _=>exact(show False from r).elim
 |some _=>cases u with
  |none=>exact(show False from r).elim
  |some _=>rfl
theorem RelO.getD {o:Option V} {u:Option Value} {d:V} {d':Value} (r:RelO o u) (rd:RelV d d'):RelV (o.getD d) (u.getD d'):=by
 cases o with
 |none=>cases u with
  |none=>exact rd
  |some _=>exact(show False from r).elim
 |some _=>cases u with
  |none=>exact(show False from r).elim
  |some _=>exact r
theorem KV.val {kvs:List (κ×V)} {vs:List (κ×Value)} (r:KV kvs vs) (k:κ):RelO (valV kvs k) (valueAt vs k):=by
 unfold KV at r
 induction r with
 |nil=>exact True.intro
 | @cons p q ps qs h t ih=>
  obtain⟨h1,h2⟩:=h
  by_cases e:p.1=k
  .have e':q.1=k:=h1.symm.trans e
   have b:valueAt (q :: qs) k=some q.2:=by simp[valueAt,List.find?_cons,e']
   rw[valV_pos e,b];exact h2
  .have e':¬q.1=k:=fun z=>e (h1.trans z)
   have b:valueAt (q :: qs) k=valueAt qs k:=by simp[valueAt,List.find?_cons,e']
   rw[valV_neg e,b];exact ih
theorem KV.any {kvs:List (κ×V)} {vs:List (κ×Value)} (r:KV kvs vs) (k:κ):(kvs.any fun kv=>decide (kv.1=k))=vs.any fun kv=>decide (kv.1=k):=by
 unfold KV at r
 induction r with
 |nil=>rfl
 |cons h t ih=>rw[List.any_cons,List.any_cons,ih,h.1]
theorem KV.repl {kvs:List (κ×V)} {vs:List (κ×Value)} (r:KV kvs vs) (k:κ) {y:V} {u:Value} (ry:RelV y u):
  KV (kvs.map fun kv=>if kv.1=k then(kv.1,y)else kv) (vs.map fun kv=>if kv.1=k then(kv.1,u)else kv):=by
 unfold KV at r ⊢
 induction r with
 |nil=>exact .nil
 | @cons p q ps qs h t ih=>
  rw[List.map_cons,List.map_cons]
  refine .cons ?_ ih
  obtain⟨h1,h2⟩:=h
  by_cases e:p.1=k
  .rw[if_pos e,if_pos (h1.symm.trans e)];exact⟨h1,ry⟩
  .rw[if_neg e,if_neg (fun z=>e (h1.trans z))];exact⟨h1,h2⟩
theorem KV.put {kvs:List (κ×V)} {vs:List (κ×Value)} (r:KV kvs vs) (k:κ) {y:V} {u:Value} (ry:RelV y u):KV (putK kvs k y) (stored vs k u):=by
 unfold putK stored
 rw[r.any k]
 by_cases e:(vs.any fun kv=>decide (kv.1=k))=true
 .rw[if_pos e,if_pos e];exact r.repl k ry
 .rw[if_neg e,if_neg e];exact Paired.snoc r ⟨rfl,ry⟩
theorem KV.keys {kvs:List (κ×V)} {vs:List (κ×Value)} (r:KV kvs vs):kvs.map (·.1)=vs.map (·.1):=by
 unfold KV at r
 induction r with
 |nil=>rfl
 |cons h t ih=>rw[List.map_cons,List.map_cons,ih,h.1]
theorem KV.length {kvs:List (κ×V)} {vs:List (κ×Value)} (r:KV kvs vs):kvs.length=vs.length:=Paired.length r
end
theorem kV_is {P:Program} {w:World} {k:Key} {u:Value} (r:RelV (kV k) u):(mixKind P w).is k u=true:=by
 cases k with
 |inl i=>obtain⟨t,e⟩:=(show ∃t,u=Value.int i t from r);subst e;exact mixKind_int P w i t
 |inr x=>obtain⟨t,e⟩:=(show ∃t,u=Value.str x t from r);subst e;exact mixKind_str P w x t
 |non=>obtain rfl:u=Value.none:=r;rfl
theorem items_are {P:Program} {w:World}:∀{ks:List Key} {us:List Value},Vals (ks.map kV) us->ItemsAre (mixKind P w) ks us
 | [],_,r=>by rw[List.map_nil]at r;cases r;exact .nil
 |k :: ks,_,r=>by
  rw[List.map_cons]at r
  cases r with
  |cons h t=>exact .cons (kV_is h) (items_are t)
noncomputable abbrev KT (H:Hp):List (List Key×V)->List (List Key×Addr×Value)->Prop:=Paired fun p q=>p.1=q.1/\H q.2.1=some (.tup (p.1.map kV))/\RelV p.2 q.2.2
theorem KT.val {H:Hp} {kvs:List (List Key×V)} {xs:List (List Key×Addr×Value)} (r:KT H kvs xs) (k:List Key):RelO (valV kvs k) ((atKey xs k).map (·.2)):=by
 induction r with
 |nil=>exact True.intro
 | @cons p q ps qs h t ih=>
  obtain⟨h1,_,h2⟩:=h
  by_cases e:p.1=k
  .have e':q.1=k:=h1.symm.trans e
   have b:atKey (q :: qs) k=some q.2:=by simp[atKey,List.find?_cons,e']
   rw[valV_pos e,b];exact h2
  .have e':¬q.1=k:=fun z=>e (h1.trans z)
   have b:atKey (q :: qs) k=atKey qs k:=by simp[atKey,List.find?_cons,e']
   rw[valV_neg e,b];exact ih
theorem KT.repl {H:Hp} {kvs:List (List Key×V)} {xs:List (List Key×Addr×Value)} (r:KT H kvs xs) (k:List Key) {y:V} {u:Value} (ry:RelV y u):
  KT H (kvs.map fun kv=>if kv.1=k then(kv.1,y)else kv) (xs.map (putAt k u)):=by
 induction r with
 |nil=>exact .nil
 | @cons p q ps qs h t ih=>
  rw[List.map_cons,List.map_cons]
  refine .cons ?_ ih
  obtain⟨h1,h2,h3⟩:=h
  unfold putAt
  by_cases e:p.1=k
  .rw[if_pos e,if_pos (h1.symm.trans e)];exact⟨h1,h2,ry⟩
  .rw[if_neg e,if_neg (fun z=>e (h1.trans z))];exact⟨h1,h2,h3⟩
theorem KT.put {H:Hp} {kvs:List (List Key×V)} {xs:List (List Key×Addr×Value)} (r:KT H kvs xs) (k:List Key) {b:Addr} {y:V} {u:Value} (hb:H b=some (.tup (k.map kV))) (ry:RelV y u):
  KT H (putK kvs k y) (storedH xs k b u):=by
 have e:(kvs.any fun kv=>decide (kv.1=k))=(atKey xs k).isSome:=by
  rw[valV_any,(r.val k).isSome_eq,Option.isSome_map]
 unfold putK storedH
 rw[e]
 by_cases q:(atKey xs k).isSome=true
 .rw[if_pos q,if_pos q];exact r.repl k ry
 .rw[if_neg q,if_neg q];exact Paired.snoc r ⟨rfl,hb,ry⟩
theorem KT.keeps {H H':Hp} {kvs:List (List Key×V)} {xs:List (List Key×Addr×Value)} (r:KT H kvs xs) (ht:∀b ys,H b=some (.tup ys)->H' b=some (.tup ys)):KT H' kvs xs:=
 Paired.mapP r fun _ _ z=>⟨z.1,ht _ _ z.2.1,z.2.2⟩
section
variable {P:Program} {w:World} {H:Hp} {h:Heap} {a:Addr}
theorem rd_of {u:HO} (ok:HOk P w H h) (e:Rd H a u):ObjOk P w H h a u:=e.ok ok
theorem dk_rd {kvs:List (Key×V)} (ok:HOk P w H h) (e:Rd H a (.dK kvs)):kvs.length<=sizeLine/\(a == sysModules)=false/\∃vs,KV kvs vs/\h.DictOf (mixKind P w) a vs:=
 show ObjOk P w H h a (.dK kvs) from rd_of ok e
theorem dk_of {kvs:List (Key×V)} (ok:HOk P w H h) (e:H a=some (.dK kvs)):kvs.length<=sizeLine/\(a == sysModules)=false/\∃vs,KV kvs vs/\h.DictOf (mixKind P w) a vs:=dk_rd ok (.inl e)
theorem key_of {ks:List Key} (ok:HOk P w H h) (e:H a=some (.tup (ks.map kV))):(tupleKind (mixKind P w)).is h ks a:=by
 obtain⟨_,its,r,o,h1,h2,⟨n,h3⟩,_⟩:=(show ObjOk P w H h a (.tup (ks.map kV)) from ok a _ e)
 exact⟨o,its.toArray,n,h1,h2,h3,by simpa using items_are r⟩
theorem dt_rd {kvs:List (List Key×V)} (ok:HOk P w H h) (e:Rd H a (.dT kvs)):kvs.length<=sizeLine/\(a == sysModules)=false/\
  ∃xs,KT H kvs xs/\h.DictOfH (tupleKind (mixKind P w)) a xs:=by
 obtain⟨z,y,xs,r,o,es,ep,h1,h2,h3,h4,h5⟩:=(show ObjOk P w H h a (.dT kvs) from rd_of ok e)
 refine⟨z,y,xs,r,o,es,ep,h1,h2,h3,h4,fun x hx=>?_,h5⟩
 have all:∀{l:List (List Key×V)} {m:List (List Key×Addr×Value)},KT H l m->∀x∈m,(tupleKind (mixKind P w)).is h x.1 x.2.1:=by
  intro l m q
  induction q with
  |nil=>intro x hx;exact nomatch hx
  | @cons p q ps qs hq t ih=>
   intro x hx
   rcases List.mem_cons.mp hx with e|hx
   .subst e
    exact key_of ok (by rw[<- hq.1];exact hq.2.1)
   .exact ih x hx
 exact all r x hx
theorem dt_of {kvs:List (List Key×V)} (ok:HOk P w H h) (e:H a=some (.dT kvs)):kvs.length<=sizeLine/\(a == sysModules)=false/\
  ∃xs,KT H kvs xs/\h.DictOfH (tupleKind (mixKind P w)) a xs:=dt_rd ok (.inl e)
end
def DGet (H:Hp) (a:Addr) (y:V) (r:Option V):Prop:=
 (∃kvs k,Rd H a (.dK kvs)/\y=kV k/\r=valV kvs k)\/∃kvs k b,Rd H a (.dT kvs)/\y=.ref b/\H b=some (.tup (k.map kV))/\r=valV kvs k
def DPut (H:Hp) (a:Addr) (y v:V) (H':Hp):Prop:=
 (∃kvs k,H a=some (.dK kvs)/\y=kV k/\kvs.length<sizeLine/\H'=upd H a (.dK (putK kvs k v)))\/
 ∃kvs k b,H a=some (.dT kvs)/\y=.ref b/\H b=some (.tup (k.map kV))/\kvs.length<sizeLine/\H'=upd H a (.dT (putK kvs k v))
theorem DGet.t {H:Hp} {a b:Addr} {kvs:List (List Key×V)} {k:List Key} (e:H a=some (.dT kvs)) (eb:H b=some (.tup (k.map kV))):DGet H a (.ref b) (valV kvs k):=.inr ⟨kvs,k,b,.inl e,rfl,eb,rfl⟩
theorem DPut.t {H:Hp} {a b:Addr} {kvs:List (List Key×V)} {k:List Key} {v:V} (e:H a=some (.dT kvs)) (eb:H b=some (.tup (k.map kV))) (hl:kvs.length<sizeLine):
  DPut H a (.ref b) v (upd H a (.dT (putK kvs k v))):=.inr ⟨kvs,k,b,e,rfl,eb,hl,rfl⟩
section
variable {X:Cx} {pins:List (Addr×Obj)} {σ:St} {H:Hp} {s:Shared} {a:Addr} {y v:V} {u r:Value} {o:Option V} {A:Around} {E:Value->Shared->Prop}
theorem Inv.big (I:Inv X pins σ H s):sysModules<s.heap.objs.size:=by
 have h:mainGlobals<s.heap.objs.size:=(I.mod.glob.keeps I.bk).lt
 exact Nat.lt_trans (by decide) h
theorem d_getItem {Q:Value->Shared->Prop} (hu:A.units+1<cLine) (I:Inv X pins σ H s) (g:DGet H a y (some v)) (ry:RelV y u) (h:∀w' s',Inv X pins σ H s'->RelV v w'->Q w' s'):
  wpAny (model X.prog X.w) A (getItem (.ref a) u) Q E s:=by
 rcases g with⟨kvs,k,e,ey,l⟩|⟨kvs,k,b,e,ey,eb,l⟩
 .subst ey
  obtain⟨z,hd,vs,rel,dd⟩:=dk_rd I.hok e
  obtain⟨w',hw,rw'⟩:=RelO.some_of (v:=v) (o:=valueAt vs k) (by rw[l];exact rel.val k)
  exact wpAny_getItem_of (kV_is ry) dd.mapOf hw (h w' _ (I.tok _) rw')
 .subst ey
  cases(show u=Value.ref b from ry)
  obtain⟨z,hd,xs,rel,dd⟩:=dt_rd I.hok e
  obtain⟨w',hw,rw'⟩:=RelO.some_of (v:=v) (o:=(atKey xs k).map (·.2)) (by rw[l];exact rel.val k)
  obtain⟨p,hp,hp2⟩:=Option.map_eq_some_iff.mp hw
  refine wpAny_getItem_heap (tupleKind_room_in1 hu) (key_of I.hok eb) dd hp ?_
  rw[hp2]
  exact h w' _ (I.tok _) rw'
theorem d_in {Q:Value->Shared->Prop} (hu:A.units+1<cLine) (I:Inv X pins σ H s) (g:DGet H a y o) (ry:RelV y u) (h:∀s',Inv X pins σ H s'->Q (.bool o.isSome) s'):
  wpAny (model X.prog X.w) A (compareOp .In u (.ref a)) Q E s:=by
 rcases g with⟨kvs,k,e,ey,l⟩|⟨kvs,k,b,e,ey,eb,l⟩
 .subst ey
  obtain⟨z,hd,vs,rel,dd⟩:=dk_rd I.hok e
  refine wpAny_in_of (kV_is ry) hd dd.mapOf ?_
  rw[<- (rel.val k).isSome_eq,<- l]
  exact h _ (I.tok _)
 .subst ey
  cases(show u=Value.ref b from ry)
  obtain⟨z,hd,xs,rel,dd⟩:=dt_rd I.hok e
  refine wpAny_in_heap (tupleKind_room_in1 hu) (key_of I.hok eb) hd dd ?_
  have q:=(rel.val k).isSome_eq
  rw[Option.isSome_map]at q
  rw[<- q,<- l]
  exact h _ (I.tok _)
theorem d_notIn {Q:Value->Shared->Prop} (hu:A.units+1<cLine) (I:Inv X pins σ H s) (g:DGet H a y o) (ry:RelV y u) (h:∀s',Inv X pins σ H s'->Q (.bool (!o.isSome)) s'):
  wpAny (model X.prog X.w) A (compareOp .NotIn u (.ref a)) Q E s:=by
 rcases g with⟨kvs,k,e,ey,l⟩|⟨kvs,k,b,e,ey,eb,l⟩
 .subst ey
  obtain⟨z,hd,vs,rel,dd⟩:=dk_rd I.hok e
  refine wpAny_notIn_of (kV_is ry) hd dd.mapOf ?_
  rw[<- (rel.val k).isSome_eq,<- l]
  exact h _ (I.tok _)
 .subst ey
  cases(show u=Value.ref b from ry)
  obtain⟨z,hd,xs,rel,dd⟩:=dt_rd I.hok e
  refine wpAny_notIn_heap (tupleKind_room_in1 hu) (key_of I.hok eb) hd dd ?_
  have q:=(rel.val k).isSome_eq
  rw[Option.isSome_map]at q
  rw[<- q,<- l]
  exact h _ (I.tok _)
theorem d_write {h':Heap} {t':Nat} {ob:HO} (I:Inv X pins σ H s) (mu:Mut (H a)) (hs:Heap.SameBut a s.heap h') (he:∃q,h'.get? a=some q) (new:ObjOk X.prog X.w (upd H a ob) h' a ob):
  Inv X pins σ (upd H a ob) { s with heap:=h',toks:=t' }:=
 I.write (x:=a) (e:=a) mu (.inl rfl) (fun b q hb z=>(hs.2 b hb).trans z) he new
theorem dk_new {P:Program} {w:World} {H':Hp} {h':Heap} {kvs:List (Key×V)} {vs:List (Key×Value)} (z:kvs.length<=sizeLine) (hd:(a == sysModules)=false) (rel:KV kvs vs) (dd:h'.DictOf (mixKind P w) a vs):
  ObjOk P w H' h' a (.dK kvs):=⟨z,hd,vs,rel,dd⟩
theorem d_setItem {H':Hp} {Q:Unit->Shared->Prop} (hu:A.units+1<cLine) (I:Inv X pins σ H s) (g:DPut H a y v H') (ry:RelV y u) (rv:RelV v r) (h:∀s',Inv X pins σ H' s'->Q () s'):
  wpAny (model X.prog X.w) A (setItem (.ref a) u r) Q E s:=by
 rcases g with⟨kvs,k,e,ey,l,eH⟩|⟨kvs,k,b,e,ey,eb,l,eH⟩
 .subst ey eH
  obtain⟨z,hd,vs,rel,dd⟩:=dk_of I.hok e
  have hz:vs.length<=sizeLine:=by rw[<- rel.length];exact z
  have hl:(putK kvs k v).length<=sizeLine:=by have:=length_putK kvs k v;omega
  refine wpAny_setItem_pairs (hsz:=hz) (kV_is ry) dd fun h' dd' hs=>h _ ?_
  have he:∃q,h'.get? a=some q:=let⟨q,_,_,hq,_⟩:=dd';⟨q,hq⟩
  exact d_write I (by rw[e];exact True.intro) hs he (dk_new hl hd (rel.put k rv) dd')
 .subst ey eH
  cases(show u=Value.ref b from ry)
  obtain⟨z,hd,xs,rel,dd⟩:=dt_of I.hok e
  have hz:xs.length<=sizeLine:=by rw[<- Paired.length rel];exact z
  have hl:(putK kvs k v).length<=sizeLine:=by have:=length_putK kvs k v;omega
  refine wpAny_setItem_heap (hsz:=hz) (tupleKind_room_in1 hu) (key_of I.hok eb) dd fun h' dd' hs=>h _ ?_
  obtain⟨q,es,ep,hq,h2,h3,h4,_,h5⟩:=dd'
  refine d_write I (by rw[e];exact True.intro) hs ⟨q,hq⟩ ⟨hl,hd,_,(rel.put k eb rv).keeps fun c ys ec=>?_,q,es,ep,hq,h2,h3,h4,h5⟩
  rw[upd_ne (ne_of ec e (fun z=>nomatch z))]
  exact ec
end
section
variable {X:Cx} {pins:List (Addr×Obj)} {σ:St} {H:Hp} {s:Shared} {a:Addr} {kvs:List (Key×V)} {k:Key} {u:Value} {A:Around} {E:Value->Shared->Prop}
theorem d_len {Q:Value->Shared->Prop} (I:Inv X pins σ H s) (e:Rd H a (.dK kvs)) (h:∀t s',Inv X pins σ H s'->Q (.int kvs.length t) s'):wpAny (model X.prog X.w) A (call (.builtin "len") [.ref a]) Q E s:=by
 obtain⟨z,hd,vs,rel,dd⟩:=dk_rd I.hok e
 refine call_len_dict hd dd (by rw[<- rel.length];rw[sizeLine_eq]at z;omega) ?_
 rw[<- rel.length]
 exact h _ _ (I.tok _)
end
def NoSl (i:Expr):Prop:=∀ov iv,subscripted i false ov iv=operate [ov,iv] (getItem ov iv)
theorem subD_of {prog:Program} {w:World} {A:Around} {E:Value->Shared->Prop} {s:Shared} {env:Env} {value slice:Expr} {pos:Pos} {T id:String} {Q:Value->Shared->Prop}
  (hl:typeLookup (.type T) "__getitem__"=pure (some (.builtin id))) (hs:NoSl slice)
  (h:wpAny (model prog w) A (eval value env) (fun o s₁=>wpAny (model prog w) A (eval slice env) (fun i s₂=>s₂.TypeIs o T/\wpAny (model prog w) A (getItem o i) Q E s₂) E s₁) E s):
  wpAny (model prog w) A (eval (.Subscript value slice pos) env) Q E s:=by
 refine Subscript_ (wpAny_mono h (fun o s₁ h₁=>wpAny_mono h₁ (fun i s₂ h₂=>?_) fun _ _ x=>x) fun _ _ x=>x)
 obtain⟨hT,h₂⟩:=h₂
 unfold subscriptTail
 refine wpAny_bind ?_
 rw[getitemInPython_of_ne hT.not_modules]
 refine wpAny_bind (wpAny_specialOf hT hl ?_)
 have fin:wpAny (model prog w) A (subscripted slice false o i) (fun r s₃=>wpAny (model prog w) A (letTemporaryGo value o r >>= fun _=>pure r) Q E s₃) E s₂:=by
  rw[hs o i]
  exact wpAny_operating (wpAny_mono h₂ (fun r s₃ h₃=>wpAny_bind (wpAny_letTemporaryGo (wpAny_pure h₃))) fun _ _ x=>x)
 first
  |exact wpAny_pure (wpAny_bind fin)
  |exact wpAny_bind (wpAny_pure (wpAny_bind fin))
  |exact wpAny_bind fin
theorem dict_typeIs {X:Cx} {pins:List (Addr×Obj)} {σ:St} {H:Hp} {s:Shared} {a:Addr} {y:V} {o:Option V} (I:Inv X pins σ H s) (g:DGet H a y o):s.TypeIs (.ref a) "dict":=by
 rcases g with⟨kvs,k,e,_,_⟩|⟨kvs,k,b,e,_,_,_⟩
 .obtain⟨_,_,vs,_,dd⟩:=dk_rd I.hok e
  exact dd.typeIs
 .obtain⟨_,_,xs,_,dd⟩:=dt_rd I.hok e
  exact dd.typeIs
noncomputable def tDGet (td ty:TE):TE:=fun σ H Q=>td σ H fun x H1=>ty σ H1 fun y H2=>∃a v,x=.ref a/\DGet H2 a y (some v)/\Q v H2
noncomputable def sDPut (td ty tv:TE):TS:=fun D σ H=>tv σ H fun v H1=>td σ H1 fun x H2=>ty σ H2 fun y H3=>∃a H4,x=.ref a/\DPut H3 a y v H4/\D.nx σ H4
section
variable {X:Cx} {o i e value:Expr} {pos pos' tpos:Pos} {td ty tv:TE}
theorem pe_dget (hu:X.A.units+1<cLine) (ho:PE X o td) (hi:PE X i ty) (hs:NoSl i):PE X (.Subscript o i pos) (tDGet td ty):=by
 intro pins s σ H Q I h
 refine subD_of PySem.F.slot_dict_getitem.lookup hs (thn (ho pins s σ H _ I h) fun u s1 ⟨x,H1,I1,rx,q1⟩=>thn (hi pins s1 σ H1 _ I1 q1) fun iv s2 ⟨y,H2,I2,ry,a,v,ex,g,q2⟩=>?_)
 subst ex
 obtain rfl:u=Value.ref a:=rx
 exact⟨dict_typeIs I2 g,d_getItem hu I2 g ry fun w' s3 I3 rw'=>⟨v,H2,I3,rw',q2⟩⟩
theorem ps_dput (hu:X.A.units+1<cLine) (ho:PE X o td) (hi:PE X i ty) (hv:PE X value tv) (hs:swapsWith value (some (.Subscript o i pos')) pos.line X.env=pure false):
  PS X (.Assign [.Subscript o i pos'] value pos) (sDPut td ty tv):=by
 intro pins s σ H D I h
 refine wpAny_Assign_Subscript (thn (hv pins s σ H _ I h) fun r s1 ⟨v,H1,I1,rv,q1⟩=>thn (ho pins s1 σ H1 _ I1 q1) fun u s2 ⟨x,H2,I2,rx,q2⟩=>thn (hi pins s2 σ H2 _ I2 q2) fun iv s3 ⟨y,H3,I3,ry,a,H4,ex,g,q3⟩=>?_) hs
 subst ex
 obtain rfl:u=Value.ref a:=rx
 exact d_setItem hu I3 g ry rv fun s4 I4=>⟨σ,H4,I4,q3⟩
end
theorem dt_empty {P:Program} {w:World} {H:Hp} (h:Heap) (hb:sysModules<h.objs.size):ObjOk P w H (h.push { cls:=.type "dict",data:=.dict #[] }) h.objs.size (.dT []):=
 ⟨Nat.zero_le _,beq_eq_false_iff_ne.mpr (Ne.symm (Nat.ne_of_lt hb)),[],.nil,_,#[],0,Heap.get?_push_size _ rfl,⟨rfl,rfl,rfl⟩,rfl,rfl,List.nodup_nil⟩
noncomputable def tDNewT:TE:=fun _ H Q=>∀p,H p=none->Q (.ref p) (upd H p (.dT []))
section
variable {X:Cx} {pos:Pos}
theorem pe_dnewT:PE X (.Dict [] [] pos) tDNewT:=fun pins s σ H Q I h=>
 wpAny_Dict_empty ⟨.ref s.heap.objs.size,_,I.laid (a:=s.heap.objs.size) (o:=.dT []) (t':=s.toks) (fun _ _ q=>Heap.get?_push_of_some _ q) (Nat.le_refl _) (dt_empty s.heap I.big),rfl,h _ (I.hok.fresh (Nat.le_refl _))⟩
end
noncomputable def mergeK (kvs more:List (Key×V)):List (Key×V):=more.foldl (fun acc kv=>putK acc kv.1 kv.2) kvs
theorem KV.merge:∀{more:List (Key×V)} {rs:List (Key×Value)} {kvs:List (Key×V)} {vs:List (Key×Value)},KV more rs->KV kvs vs->KV (mergeK kvs more) (merged vs rs):=by
 intro more rs kvs vs r
 unfold KV at r
 induction r generalizing kvs vs with
 |nil=>intro q;exact q
 | @cons p q ps qs h t ih=>
  intro r0
  have e:KV (putK kvs p.1 p.2) (stored vs q.1 q.2):=by
   have:=r0.put p.1 h.2
   rw[<- h.1];exact this
  exact ih e
structure M1 (X:Cx) (o:Expr) (m:Str) (apos:Pos) (e:Expr) (cpos:Pos):Prop where
 base:attributeBase o m X.env (eval o X.env)=eval o X.env
 few:((backTo cpos (starEach [e] X.env)).all (fun x=>!x.1)&&(backToKw cpos (keywordEach [] X.env)).all (fun x=>x.1.isSome)
  && decide (([e]:List Expr).length+([]:List Keyword).length+(if([]:List Keyword).isEmpty then 0 else 1)<30))=true
 line:(apos.endLine == cpos.line)=true
 trees:backTo cpos (starEach [e] X.env)=[(false,eval e X.env)]
structure M2 (X:Cx) (o:Expr) (m:Str) (apos:Pos) (e f:Expr) (cpos:Pos):Prop where
 base:attributeBase o m X.env (eval o X.env)=eval o X.env
 few:((backTo cpos (starEach [e,f] X.env)).all (fun x=>!x.1)&&(backToKw cpos (keywordEach [] X.env)).all (fun x=>x.1.isSome)
  && decide (([e,f]:List Expr).length+([]:List Keyword).length+(if([]:List Keyword).isEmpty then 0 else 1)<30))=true
 line:(apos.endLine == cpos.line)=true
 trees:backTo cpos (starEach [e,f] X.env)=[(false,eval e X.env),(false,eval f X.env)]
section
variable {X:Cx} {pins:List (Addr×Obj)} {σ:St} {H:Hp} {s:Shared} {a:Addr} {y d:V} {u r:Value} {o:Option V} {A:Around} {E:Value->Shared->Prop}
end
section
variable {X:Cx} {o e f:Expr} {apos cpos:Pos} {td ty tx:TE}
end
section
variable {X:Cx} {pins:List (Addr×Obj)} {σ:St} {H:Hp} {s:Shared} {a:Addr} {kvs:List (Key×V)} {A:Around} {E:Value->Shared->Prop}
end
section
variable {X:Cx} {pins:List (Addr×Obj)} {σ:St} {H:Hp} {s:Shared} {a:Addr} {y:V} {u:Value} {A:Around} {E:Value->Shared->Prop}
end
section
variable {X:Cx}
theorem call_lenD:CallR X (.builtin "len") (fun xs H Q=>∃a kvs,xs=[V.ref a]/\H a=some (.dK kvs)/\Q (.int kvs.length) H):=by
 intro pins s σ H xs us Q I r h
 obtain⟨a,kvs,rfl,ha,q⟩:=h
 obtain⟨u,rfl,ru⟩:=vals1 r
 cases ru
 exact d_len I (.inl ha) fun t s' I'=>⟨.int kvs.length,H,I',⟨t,rfl⟩,q⟩
end
section
variable {κ:Type} [DecidableEq κ]
end
noncomputable def Itc (lo c:Int) (n:Nat):It:=⟨fun i _=>i<n,fun i H x H'=>H'=H/\x=.int (lo+i*c),fun i _=>n<=i⟩
theorem turn_rangeC {P:Program} {w:World} {K:W.Frag} {tg:Expr} (it:Addr) (lo c:Int) (n:Nat):Turn P w K tg (Itc lo c n) [it] it (fun i h=>IsRangeIter h it (lo+(i:Nat)*c) ((n:Int)-(i:Nat)) c) where
 mem:=by simp
 obj:=fun i h st b hb=>by
  have e:b=it:=by simpa using hb
  subst e
  exact⟨_,st,fun v z=>by
   have z':Data.fields _=Data.cell v:=z
   cases z'⟩
 keep:=fun i h h' st k=>k it (by simp) _ st
 item:=by
  intro X hP hw hK hc i pins s σ H E I hf st hg
  subst hP hw hK
  obtain⟨f0,f1,f2,f3,f4,f5⟩:=hf it (by simp)
  have W:=Walks.range (prog:=X.prog) (w:=X.w) (I.ok.hd hc) it lo c n
  refine W.item i s _ _ hg st fun v h' tk hv st' kk=>?_
  obtain⟨t,rfl⟩:=hv
  have I1:Inv X pins σ H { s with heap:=h',toks:=tk }:=I.turned (fun b o hb e=>kk b o (by simpa using hb) e) f0 f1 f3 f4 f5
  exact⟨_,rfl,go_of (s:={ s with heap:=h',toks:=tk }) (n:="range_iterator") st' rfl rfl (by decide) ⟨.int (lo+i*c),H,I1,⟨t,rfl⟩,⟨rfl,rfl⟩,st',fun b hb=>(hf b hb).1⟩⟩
 done:=by
  intro X hP hw hK hc i pins s σ H E I hf st hg
  subst hP hw hK
  obtain⟨f0,f1,f2,f3,f4,f5⟩:=hf it (by simp)
  exact wpAny_pyNext_range_end (I.ok.hd hc) st (by have:n<=i:=hg;omega) fun h' eb=>⟨rfl,I.turned (t':=s.toks) (fun b o hb e=>eb b o hb e) f0 f1 f3 f4 f5⟩
 self:=fun _ _ _ _ _ st h=>wpAny_pyIter_rangeiter st h
section
variable {prog:Program} {w:World} {A:Around} {E:Value->Shared->Prop} {s:Shared}
end
section
variable {X:Cx} {tg:Expr}
noncomputable def nStep (i j c:Int):Nat:=if i<j then((j-i-1) / c+1).toNat else 0
noncomputable def rStep (i j c:Int):Nat:=if c=-1 then(i-j).toNat else nStep i j c
theorem rStep_pos {i j c:Int} (h:0<c):rStep i j c=nStep i j c:=if_neg (by omega)
noncomputable def iRng3 (ta:TA):TI:=fun σ H R=>ta σ H fun vs H1=>∃i j c:Int,vs=[.int i,.int j,.int c]/\(-(2 ^ 60)<=i/\i<2 ^ 60/\-(2 ^ 60)<=j/\j<2 ^ 60/\(0<c/\c<2 ^ 29\/c=-1))/\R (Itc i c (rStep i j c)) H1
theorem rangeSize_pos {i j c:Int} (hc:0<c):Builtin.Range.rangeSize i j c=(nStep i j c:Int):=by
 unfold Builtin.Range.rangeSize nStep
 rw[if_pos (show c > 0 from hc)]
 split
 .have:=Int.ediv_nonneg (a:=j-i-1) (b:=c) (by omega) (by omega)
  omega
 .rfl
theorem nStep_le {i j c:Int} (hc:0<c) (h:i<=j):(nStep i j c:Int)<=j-i:=by
 unfold nStep
 split
 .have h0:=Int.ediv_nonneg (a:=j-i-1) (b:=c) (by omega) (by omega)
  have h1:=Int.ediv_le_self (a:=j-i-1) c (by omega)
  omega
 .omega
theorem small_step {i j c:Int} (h1:-(2 ^ 60)<=i) (h2:i<2 ^ 60) (h3:-(2 ^ 60)<=j) (h4:j<2 ^ 60) (h5:0<c) (h6:c<2 ^ 29):Builtin.Range.small i j c=true:=by
 unfold Builtin.Range.small
 rw[rangeSize_pos h5,if_pos (show c > 0 from h5)]
 have hn:(nStep i j c:Int)<=2 ^ 62:=by
  rcases Int.lt_or_le i j with h|h
  .have:=nStep_le (i:=i) (j:=j) h5 (by omega);omega
  .have:nStep i j c=0:=by unfold nStep;rw[if_neg (by omega)]
   rw[this];decide
 unfold Builtin.Range.rangeFitsLong
 simp
 omega
theorem rangeSize_any {i j c:Int} (hc:0<c/\c<2 ^ 29\/c=-1):Builtin.Range.rangeSize i j c=(rStep i j c:Int):=by
 rcases hc with hc|rfl
 .rw[rStep_pos hc.1];exact rangeSize_pos hc.1
 .unfold Builtin.Range.rangeSize rStep
  rw[if_neg (show ¬(-1:Int) > 0 by decide),if_pos rfl]
  split
  .have:(i-j-1) / (-(-1:Int))=i-j-1:=by simp
   omega
  .omega
theorem small_any {i j c:Int} (h1:-(2 ^ 60)<=i) (h2:i<2 ^ 60) (h3:-(2 ^ 60)<=j) (h4:j<2 ^ 60) (hc:0<c/\c<2 ^ 29\/c=-1):Builtin.Range.small i j c=true:=by
 rcases hc with hc|rfl
 .exact small_step h1 h2 h3 h4 hc.1 hc.2
 .unfold Builtin.Range.small
  rw[rangeSize_any (.inr rfl),if_neg (show ¬(-1:Int) > 0 by decide)]
  have hn:(rStep i j (-1):Int)<=2 ^ 62:=by unfold rStep;rw[if_pos rfl];omega
  unfold Builtin.Range.rangeFitsLong
  simp
  omega
theorem pi_range3 {a b c:Expr} {ta:TA} {p pos:Pos} (hg:Gl X "range") (hm:X.mg "range"=none) (ha:PA X [a,b,c] ta) (hs:starEach [a,b,c] X.env=[(false,eval a X.env),(false,eval b X.env),(false,eval c X.env)]) (hs2:starEach [b,c] X.env=[(false,eval b X.env),(false,eval c X.env)]):
  PI X tg (.Call (.Name "range" p) [a,b,c] [] pos) (iRng3 ta):=by
 intro pins s σ H R I h
 refine Call_ (ld_blt I hg hm boot_range (PyProof.Rows.callWith_type1 (thn (ha pos pins s σ H _ I h) fun us s1 ⟨vs,H1,I1,r1,q1⟩=>?_) (by rw[hs,hs2]) (by rw[hs2];rfl)))
 obtain⟨i,j,k,e,⟨q1,q2,q3,q4,q5⟩,q⟩:=q1
 subst e
 cases r1 with
 |cons r rr=>
  cases rr with
  |cons r' rr=>
   cases rr with
   |cons r'' rr=>
    cases rr
    obtain⟨t,rfl⟩:=r
    obtain⟨t',rfl⟩:=r'
    obtain⟨t'',rfl⟩:=r''
    refine call_range_3 (by omega) ?_ (Or.inl (PyProof.noPylong_small (by omega)))
    refine wpAny_pyIter_range (IsRange.new ..) (small_any q1 q2 q3 q4 q5) ?_
    have I2:Inv X pins σ H1 { s1 with heap:=s1.heap.push { cls:=.type "range",data:=.fields #[.int i t,.int j t',.int k t''] } }:=I1.kept (t':=s1.toks) fun b o e=>Heap.get?_push_of_some _ e
    refine⟨(s1.heap.push { cls:=.type "range",data:=.fields #[.int i t,.int j t',.int k t''] }).objs.size,[(s1.heap.push { cls:=.type "range",data:=.fields #[.int i t,.int j t',.int k t''] }).objs.size],_,_,H1,rfl,I2.kept (t':=s1.toks) (fun b o e=>Heap.get?_push_of_some _ e),turn_rangeC _ i k (rStep i j k),?_,fun b hb=>?_,q⟩
    .have e1:i+((0:Nat):Int)*k=i:=by simp
     have e2:((rStep i j k:Nat):Int)-((0:Nat):Int)=Builtin.Range.rangeSize i j k:=by rw[rangeSize_any q5];omega
     show IsRangeIter _ _ (i+((0:Nat):Int)*k) (((rStep i j k:Nat):Int)-((0:Nat):Int)) k
     rw[e1,e2]
     exact Heap.get?_push_size _ rfl
    .have e:b=(s1.heap.push { cls:=.type "range",data:=.fields #[.int i t,.int j t',.int k t''] }).objs.size:=by simpa using hb
     subst e
     exact I2.fpOk (Nat.le_refl _) (I2.hok.fresh (Nat.le_refl _))
end
section
variable {X:Cx}
theorem and_one {i:Int} (h:0<=i):Builtin.bitAnd i 1=i % 2:=by
 rw[PyProof.Rows.bitAnd_pp h (by decide)]
 have e:(1:Int).toNat=1:=rfl
 rw[e,Nat.and_one_is_mod]
 omega
theorem op_and1:OpR X (binaryOp .BitAnd) (rI (fun i j=>0<=i/\j=1) fun i _=>.int (i % 2)):=by
 intro pins s σ H x y v u Q I rx ry h
 obtain⟨i,j,rfl,rfl,⟨h0,rfl⟩,q⟩:=h
 refine op_and pins s σ H _ _ v u Q I rx ry ⟨i,1,rfl,rfl,?_⟩
 have q':Q (.int (i % 2)) H:=q
 rw[<- and_one h0]at q'
 exact q'
noncomputable def inT (x y:Str):Bool:=!(Builtin.Str.occurrences x y 0 x.length 1).isEmpty
noncomputable def rInS (neg:Bool):R2:=fun x y H Q=>∃a b,x=.str a/\y=.str b/\Q (.bl (if neg then !inT b a else inT b a)) H
theorem op_inS:OpR X (compareOp .In) (rInS false):=by
 intro pins s σ H x y v u Q I rx ry h
 obtain⟨a,b,rfl,rfl,q⟩:=h
 obtain⟨t,rfl⟩:=rx
 obtain⟨t',rfl⟩:=ry
 exact in_str ⟨.bl _,H,I,rfl,q⟩
theorem op_notInS:OpR X (compareOp .NotIn) (rInS true):=by
 intro pins s σ H x y v u Q I rx ry h
 obtain⟨a,b,rfl,rfl,q⟩:=h
 obtain⟨t,rfl⟩:=rx
 obtain⟨t',rfl⟩:=ry
 have q':Q (.bl (!inT b a)) H:=q
 refine notIn_str ⟨.bl (!inT b a),H,I,?_,q'⟩
 show Value.bool _=Value.bool _
 simp[inT]
noncomputable def rIndexL (K:W.Frag):V->List V->Hp->VK->Prop:=fun x vs H Q=>∃p xs y,∃j:Nat,x=.ref p/\vs=[y]/\SqL K H p xs/\(∀z∈xs,scal z y=true/\∀b,z≠.byt b)/\xs[j]?=some y/\(∀k,k<j->xs[k]?≠some y)/\Q (.int j) H
open PySem.SeqAt in
theorem mt_indexL:MtR X "list.index" (rIndexL X.K):=by
 intro pins s σ H x vs v us Q I rx rv h
 obtain⟨p,xs,y,j,rfl,rfl,hs,hsc,hj,hno,q⟩:=h
 cases rx
 obtain⟨u,rfl,ru⟩:=rv.one
 obtain⟨its,r,pl,hz⟩:=I.list hs
 obtain⟨⟨cls,dd,data,sl⟩,ho,hcl,n,hd⟩:=id pl.isList
 simp only at hcl hd
 subst hcl hd
 have hl:=r.length
 have hlt:j<xs.length:=(List.getElem?_eq_some_iff.mp hj).1
 have hlt2:j<its.toArray.size:=by simp;omega
 have at_:∀(m:Nat) (hm:m<its.toArray.size),∃z,xs[m]?=some z/\RelV z its.toArray[m]/\z∈xs:=by
  intro m hm
  have hm2:m<xs.length:=by simp at hm;omega
  obtain⟨w,e,rz⟩:=r.get (List.getElem?_eq_getElem hm2)
  refine⟨_,List.getElem?_eq_getElem hm2,?_,List.getElem_mem hm2⟩
  have hm3:m<its.length:=by simpa using hm
  rw[List.getElem?_eq_getElem hm3]at e
  cases e
  simpa using rz
 refine call_meets F.slot_list_index ⟨_,ho,rfl⟩ F.entry_list_index (F.args_list_index_2 _ _) (list_indexAt p its.toArray n dd sl u (eV y) j hlt2 ?_ ?_ ?_) ⟨ho,fun w hw=>?_,?_⟩
 .have:(j:Int)<2 ^ 24+1:=by
   have:j<2 ^ 24+1:=Nat.lt_of_lt_of_le hlt (Nat.le_trans hz (show 2 ^ 24<=2 ^ 24+1 by decide))
   omega
  omega
 .obtain⟨z,e1,rz,hm⟩:=at_ j hlt2
  rw[hj]at e1
  cases e1
  rw[eV_of rz (hsc _ hm).1 (hsc _ hm).2]
  exact decide_eq_true rfl
 .intro m hm hmj
  obtain⟨z,e1,rz,hmm⟩:=at_ m hm
  rw[eV_of rz (hsc _ hmm).1 (hsc _ hmm).2]
  exact decide_eq_false fun e=>hno m hmj (by rw[e1,e])
 .obtain⟨z,hz,rz⟩:=vals_mem r (by simpa using hw)
  rw[eV_of rz (hsc z hz).1 (hsc z hz).2]
  exact eqAt_of rz ru (.inl (hsc z hz))
 .exact⟨.int _,H,I.tok _,⟨_,rfl⟩,q⟩
end
section
variable {X:Cx}
noncomputable def txGt (x y:Str):Bool:=decide (y.cps.toList<x.cps.toList)
noncomputable def rGtS:R2:=fun x y H Q=>∃a b,x=.str a/\y=.str b/\Q (.bl (txGt a b)) H
theorem op_gtS:OpR X (compareOp .Gt) rGtS:=by
 intro pins s σ H x y v u Q I rx ry h
 obtain⟨a,b,rfl,rfl,k⟩:=h
 obtain⟨t,rfl⟩:=rx
 obtain⟨t',rfl⟩:=ry
 exact PySem.P.gt_str ⟨.bl _,H,I,rfl,k⟩
noncomputable def dSc:V->Bool
 | .int _=>true
 | .str _=>true
 | .bl _=>true
 | .non=>true
 |_=>false
noncomputable def Dq (H:Hp):Nat->V->V->Prop
 |0,v,w=>v=w/\dSc v=true
 |n+1,v,w=>(v=w/\dSc v=true)\/∃a b xs ys,v=.ref a/\w=.ref b/\((H a=some (.lst xs)/\H b=some (.lst ys))\/(H a=some (.tup xs)/\H b=some (.tup ys)))/\xs.length=ys.length/\∀(i:Nat) x y,xs[i]?=some x->ys[i]?=some y->Dq H n x y
open PySem.SeqAt in
theorem dq_sc {A:Around} {s:Shared} {x:V} {u v:Value} (h:dSc x=true) (r1:RelV x u) (r2:RelV x v):EqAt A s u v true:=by
 have:=eqAt_of (A:=A) (s:=s) r1 r2 (.inl (by cases x<;>first|(cases h;done)|exact⟨rfl,fun b=>by intro z;cases z⟩))
 rw[decide_eq_true rfl]at this
 exact this
theorem all_true {n:Nat}:(List.range n).all (fun _=>true)=true:=by simp
theorem arr_at {its:List Value} {j:Nat} {u:Value} (e:its[j]?=some u) (h:j<its.toArray.size):its.toArray[j]=u:=by
 simp at h ⊢
 rw[List.getElem?_eq_getElem h]at e
 exact Option.some.inj e
open PySem.SeqAt in
theorem dq_items {n:Nat} {H:Hp} {A:Around} {s:Shared} {xs ys:List V} {its its2:List Value} (ih:∀x y u v,Dq H n x y->RelV x u->RelV y v->EqAt A.in1 s u v true) (hl:xs.length=ys.length) (r1:Vals xs its) (r2:Vals ys its2)
  (he:∀(i:Nat) x y,xs[i]?=some x->ys[i]?=some y->Dq H n x y):∀j (h1:j<its.toArray.size) (h2:j<its2.toArray.size),EqAt A.in1 s its.toArray[j] its2.toArray[j] ((fun _=>true) j):=by
 intro j h1 h2
 have l1:=r1.length
 have j1:j<xs.length:=by simp at h1;omega
 have j2:j<ys.length:=by omega
 have g1:xs[j]?=some xs[j]:=List.getElem?_eq_getElem j1
 have g2:ys[j]?=some ys[j]:=List.getElem?_eq_getElem j2
 obtain⟨u1,e1,ru1⟩:=r1.get g1
 obtain⟨u2,e2,ru2⟩:=r2.get g2
 rw[arr_at e1 h1,arr_at e2 h2]
 exact ih _ _ _ _ (he j _ _ g1 g2) ru1 ru2
open PySem.SeqAt in
theorem dq_at {pins:List (Addr×Obj)} {σ:L2.St} {H:Hp} {s:Shared} (I:Inv X pins σ H s):∀(n:Nat) (A:Around) (x y:V) (u v:Value),A.units+n<cLine->Dq H n x y->RelV x u->RelV y v->EqAt A s u v true:=by
 intro n
 induction n with
 |zero=>
  rintro A x y u v hu ⟨rfl,hs⟩ r1 r2
  exact dq_sc hs r1 r2
 |succ n ih=>
  rintro A x y u v hu h rx ry
  rcases h with⟨rfl,hs⟩|⟨a,b,xs,ys,rfl,rfl,hab,hl,he⟩
  .exact dq_sc hs rx ry
  cases rx
  cases ry
  by_cases hne:a=b
  .subst hne;exact EqAt.same _
  have ih':∀x y u v,Dq H n x y->RelV x u->RelV y v->EqAt A.in1 s u v true:=fun x y u v=>ih A.in1 x y u v (by show A.units+1+n<cLine;omega)
  rcases hab with⟨h1,h2⟩|⟨h1,h2⟩
  .obtain⟨its,r1,pl1,_⟩:=I.list (SqL.of h1)
   obtain⟨its2,r2,pl2,_⟩:=I.list (SqL.of h2)
   have l1:=r1.length
   have l2:=r2.length
   have:=RcAt.lists pl1.isList pl2.isList (by simp;omega) (by omega) (dq_items ih' hl r1 r2 he)
   rw[all_true]at this
   exact EqAt.of_refs hne this
  .obtain⟨its,r1,pl1,_⟩:=I.tuple (SqT.of h1)
   obtain⟨its2,r2,pl2,_⟩:=I.tuple (SqT.of h2)
   have l1:=r1.length
   have l2:=r2.length
   have:=RcAt.tuples pl1 pl2 (by omega) (dq_items ih' hl r1 r2 he)
   rw[all_true]at this
   have e:(true&&its.toArray.size == its2.toArray.size)=true:=by simp;omega
   rw[e]at this
   exact EqAt.of_refs hne this
noncomputable def rEqD (neg:Bool):R2:=fun x y H Q=>∃n,n<=8/\Dq H n x y/\(∃a b,x=.ref a/\y=.ref b)/\Q (.bl (!neg)) H
theorem Dq.open {H:Hp} {n:Nat} {a b:Addr} (h:Dq H n (.ref a) (.ref b)):∃m xs ys,n=m+1/\((H a=some (.lst xs)/\H b=some (.lst ys))\/(H a=some (.tup xs)/\H b=some (.tup ys)))/\xs.length=ys.length/\∀(i:Nat) x y,xs[i]?=some x->ys[i]?=some y->Dq H m x y:=by
 cases n with
 |zero=>exact absurd h.2 (by simp[dSc])
 |succ m=>
  rcases h with⟨_,hs⟩|⟨a',b',xs,ys,e1,e2,hab,hl,he⟩
  .cases hs
  .cases e1;cases e2;exact⟨m,xs,ys,rfl,hab,hl,he⟩
open PySem.SeqAt in
theorem op_eqD (hu:X.A.units+64<cLine):OpR X (compareOp .Eq) (rEqD false):=by
 intro pins s σ H x y v u Q I rx ry h
 obtain⟨n,hn,hd,⟨a,b,rfl,rfl⟩,k⟩:=h
 cases rx
 cases ry
 obtain⟨m,xs,ys,rfl,hab,hl,he⟩:=hd.open
 have ih':∀x y u v,Dq H m x y->RelV x u->RelV y v->EqAt X.A.in1 s u v true:=fun x y u v=>dq_at I m X.A.in1 x y u v (by show X.A.units+1+m<cLine;omega)
 rcases hab with⟨h1,h2⟩|⟨h1,h2⟩
 .obtain⟨its,r1,pl1,_⟩:=I.list (SqL.of h1)
  obtain⟨its2,r2,pl2,_⟩:=I.list (SqL.of h2)
  have l1:=r1.length
  have l2:=r2.length
  refine eq_listAt pl1.isList pl2.isList (by simp;omega) (by omega) (dq_items ih' hl r1 r2 he) ?_
  rw[all_true]
  exact⟨.bl true,H,I,rfl,k⟩
 .obtain⟨its,r1,pl1,_⟩:=I.tuple (SqT.of h1)
  obtain⟨its2,r2,pl2,_⟩:=I.tuple (SqT.of h2)
  have l1:=r1.length
  have l2:=r2.length
  refine eq_tupleAt pl1 pl2 (by omega) (dq_items ih' hl r1 r2 he) ?_
  have e:(true&&its.toArray.size == its2.toArray.size)=true:=by simp;omega
  rw[all_true,e]
  exact⟨.bl true,H,I,rfl,k⟩
open PySem.SeqAt in
theorem op_neD (hu:X.A.units+64<cLine):OpR X (compareOp .NotEq) (rEqD true):=by
 intro pins s σ H x y v u Q I rx ry h
 obtain⟨n,hn,hd,⟨a,b,rfl,rfl⟩,k⟩:=h
 cases rx
 cases ry
 obtain⟨m,xs,ys,rfl,hab,hl,he⟩:=hd.open
 have ih':∀x y u v,Dq H m x y->RelV x u->RelV y v->EqAt X.A.in1 s u v true:=fun x y u v=>dq_at I m X.A.in1 x y u v (by show X.A.units+1+m<cLine;omega)
 have hend:EP X pins σ Q (Value.bool false) s:=⟨.bl false,H,I,rfl,k⟩
 rcases hab with⟨h1,h2⟩|⟨h1,h2⟩
 .obtain⟨its,r1,pl1,_⟩:=I.list (SqL.of h1)
  obtain⟨its2,r2,pl2,_⟩:=I.list (SqL.of h2)
  have l1:=r1.length
  have l2:=r2.length
  obtain⟨⟨cls,dd,data,sl⟩,ho,hc,n1,hd1⟩:=pl1.isList
  obtain⟨⟨cls2,dd2,data2,sl2⟩,ho2,hc2,n2,hd2⟩:=pl2.isList
  simp only at hc hd1 hc2 hd2
  subst hc hd1 hc2 hd2
  refine richCompare_meets_room (op:=.NotEq) ⟨_,ho,rfl⟩ ⟨_,ho2,rfl⟩ F.slot_list_ne F.entry_list_ne (F.args_list_ne_2 _ _) (list_neAt a b its.toArray its2.toArray n1 n2 dd dd2 sl sl2 (by simp;omega) (fun _=>true)) ⟨ho,ho2,dq_items ih' hl r1 r2 he,?_⟩ (by omega)
  rw[all_true]
  exact(show Value.bool false≠Value.notImplemented/\EP X pins σ Q (Value.bool false) s from⟨(fun x=>nomatch x),hend⟩)
 .obtain⟨its,r1,pl1,_⟩:=I.tuple (SqT.of h1)
  obtain⟨its2,r2,pl2,_⟩:=I.tuple (SqT.of h2)
  have l1:=r1.length
  have l2:=r2.length
  obtain⟨⟨cls,dd,data,sl⟩,ho,hc,n1,hd1⟩:=id pl1
  obtain⟨⟨cls2,dd2,data2,sl2⟩,ho2,hc2,n2,hd2⟩:=id pl2
  simp only at hc hd1 hc2 hd2
  subst hc hd1 hc2 hd2
  refine richCompare_meets_room (op:=.NotEq) ⟨_,ho,rfl⟩ ⟨_,ho2,rfl⟩ F.slot_tuple_ne F.entry_tuple_ne (F.args_tuple_ne_2 _ _) (tuple_neAt a b its.toArray its2.toArray n1 n2 dd dd2 sl sl2 (fun _=>true)) ⟨ho,ho2,dq_items ih' hl r1 r2 he,?_⟩ (by omega)
  have e:(true&&its.toArray.size == its2.toArray.size)=true:=by simp;omega
  rw[all_true,e]
  exact(show Value.bool false≠Value.notImplemented/\EP X pins σ Q (Value.bool false) s from⟨(fun x=>nomatch x),hend⟩)
end
end L2
namespace HT
open PySem PyProof.Rows
open PySem.SeqAt
open PySem.MeetsSeq PySem.MeetsSeq2 PySem.MeetsSeq3
section
variable {prog:Program} {w:World} {A:Around} {E:Value->Shared->Prop} {s:Shared}
theorem cat_tup0 {t b:Addr} {ws:List Value} {Q:Value->Shared->Prop} (ht:IsTup s.heap t #[]) (hb:IsTup s.heap b ws.toArray) (h0:Q (.ref b) s):wpAny (model prog w) A (binaryOp .Add (.ref t) (.ref b)) Q E s:=by
 obtain⟨⟨cls,dd,data,sl⟩,ho,hc,n,hd⟩:=id ht
 obtain⟨⟨cls2,dd2,data2,sl2⟩,ho2,hc2,n2,hd2⟩:=id hb
 simp only at hc hd hc2 hd2
 subst hc hd hc2 hd2
 exact concat_meets ⟨_,ho,rfl⟩ ⟨_,ho2,rfl⟩ noFill_tuple_add seq_tuple_add PySem.F.slot_tuple_add PySem.F.entry_tuple_add (PySem.F.args_tuple_add_2 _ _)
  (tuple_addW0 t b #[] ws.toArray n n2 dd dd2 sl sl2 rfl) ⟨ho,ho2,h0⟩
end
end HT
namespace L2
open PySem PySem.Spec PyProof.Rows
section
variable {X:Cx}
noncomputable def rCatT0 (K:W.Frag):R2:=fun x y H Q=>∃a b ys,x=.ref a/\y=.ref b/\SqT K H a []/\SqT K H b ys/\Q (.ref b) H
theorem op_catT0:OpR X (binaryOp .Add) (rCatT0 X.K):=by
 intro pins s σ H x y v u Q I rx ry h
 obtain⟨a,b,ys,rfl,rfl,ha,hb,q⟩:=h
 cases rx
 cases ry
 obtain⟨its,r1,p1,_⟩:=I.tuple ha
 obtain⟨its2,r2,p2,_⟩:=I.tuple hb
 have e:its=[]:=r1.nil_iff.mpr rfl
 subst e
 exact HT.cat_tup0 p1 p2 ⟨.ref b,H,I,rfl,q⟩
end
end L2
namespace L2
open PySem PySem.Spec PyProof.Rows PySem.Calls PySem.NumText
def B2 (x:PySem.Str) (n:Int):Prop:=(x.cps.all (· < 128))=true/\(x.cps.toList.takeWhile (· != 0)).length<=640/\(int_private% "readNumeral") 0 2 (x.cps.toList.takeWhile (· != 0))=(int_private% "Numeral.value") n/\((x.cps.toList.takeWhile (· != 0)).length == x.cps.toList.length)=true
theorem wp_text2 {M:Model} {A:Around} {E:Value->Shared->Prop} {s:Shared} {Q:Value->Shared->Prop} {v:Value} {text:List Nat} {n:Int}
  (hs:(text.takeWhile (· != 0)).length<=640) (hr:(int_private% "readNumeral") 0 2 (text.takeWhile (· != 0))=(int_private% "Numeral.value") n)
  (ha:((text.takeWhile (· != 0)).length == text.length)=true) (h:Q (.int n s.toks) { s with toks:=s.toks+1 }):
  wpAny M A ((int_private% "intFromText") v text 2) Q E s:=by
 obtain⟨hp,g,d,tk,os⟩:=s
 repeat (any_goals (first
  |assumption
  |(with_reducible refine wpAny_ite_true (decide_eq_true hs) ?_)
  |(with_reducible refine wpAny_ite_true (decide_eq_true ha) ?_)
  |wp_step))
 all_goals (try rw[hr])
 all_goals (try dsimp only)
 repeat (any_goals (first
  |assumption
  |(with_reducible refine wpAny_ite_true (decide_eq_true hs) ?_)
  |(with_reducible refine wpAny_ite_true (decide_eq_true ha) ?_)
  |wp_step))
set_option maxHeartbeats 4000000 in
theorem gives_text2 {x:PySem.Str} {u v:Tok} {n:Int} (hb:B2 x n):Gives (Builtin.«int.__new__» ⟨[.type "int",.str x u,.int 2 v],[]⟩) (.int n):=
 .of_wp fun M A E s Q h=>by
  obtain⟨hp,g,d,tk,os⟩:=s
  have f1:=F.conv_sub_int
  have f2:=F.madeHere_int
  have f6:typeOf (.str x u)=pure (.type "str"):=rfl
  have hk:=W.KIN.Hid.mk hb
  clear hb
  repeat (any_goals (first
   |assumption
   |((with_reducible show wpAny _ _ ((int_private% "intFromText") _ _ _) _ _ _);rw[if_pos hk.out.1];refine wp_text2 hk.out.2.1 hk.out.2.2.1 hk.out.2.2.2 ?_)
   |wp_step))
  all_goals first|exact⟨_,rfl,h⟩|skip
theorem typeCall_int_2 (a b:Value):checkTypeCall "int" ⟨[a,b],[]⟩=pure ():=by kernel_rfl
theorem newCall_int_2 (a b:Value):checkBuiltinCall "int.__new__" ⟨[.type "int",a,b],[]⟩=pure ():=by kernel_rfl
section
variable {X:Cx}
noncomputable def rInt2:List V->Hp->VK->Prop:=fun xs H Q=>∃x n,xs=[.str x,.int 2]/\B2 x n/\Q (.int n) H
theorem call_int2:CallR X (.type "int") rInt2:=by
 intro pins s σ H xs us Q I r h
 obtain⟨x,n,rfl,hb,q⟩:=h
 obtain⟨u,v,rfl,⟨t,rfl⟩,⟨t',rfl⟩⟩:=vals2 r
 exact callType_new F.called_int F.newNe_int (typeCall_int_2 _ _) (newCall_int_2 _ _) (fun obj=>F.args_object_init_3 obj _ _) F.entry_int_new (gives_text2 hb).meets (show(Made.int n).post _ s from⟨rfl,⟨.int n,H,I.tok _,⟨_,rfl⟩,q⟩⟩)
theorem call_intB:CallR X (.type "int") (fun xs H Q=>rInt xs H Q\/rInt2 xs H Q):=call_intA.or call_int2
end
section
variable {X:Cx}
end
end L2
namespace PySem
open PyProof.Rows
def Heap.IsRvd (h:Heap) (a t:Addr) (i:Int):Prop:=∃o,h.get? a=some o/\o.cls=.type "reversed"/\o.data=.fields #[.ref t,rawInt i]
theorem Heap.IsRvd.at {h h':Heap} {a t:Addr} {i:Int} (x:h.IsRvd a t i) (e:∀o,h.get? a=some o->h'.get? a=some o):h'.IsRvd a t i:=let⟨o,ho,r⟩:=x;⟨o,e _ ho,r⟩
section
variable {prog:Program} {w:World} {A:Around} {E:Value->Shared->Prop} {s:Shared}
theorem Heap.IsRvd.typeIs {a t:Addr} {i:Int} (x:s.heap.IsRvd a t i):s.TypeIs (.ref a) "reversed":=let⟨o,ho,hc,_⟩:=x;⟨o,ho,hc⟩
end
section
variable {prog:Program} {w:World} {A:Around} {E:Value->Shared->Prop} {s:Shared}
end
section
variable {prog:Program} {w:World} {A:Around} {E:Value->Shared->Prop} {s:Shared}
end
end PySem
namespace L2
open PySem PySem.Spec PyProof.Rows
section
variable {X:Cx}
end
end L2
namespace HT
open PySem PyProof.Rows
section
variable {prog:Program} {w:World} {A:Around} {E:Value->Shared->Prop} {s:Shared}
theorem getItem_tuple_whole {t sl:Addr} {items:Array Value} {vl vu:Value} {lo hi:Option Int} {Q:Value->Shared->Prop} (ht:IsTup s.heap t items) (hs:s.heap.IsSliceOf sl vl vu .none) (pl:IsPart vl lo) (pu:IsPart vu hi)
  (hw:sIx items.size 0 lo=0/\sIx items.size items.size hi=items.size)
  (h:Q (.ref t) s):wpAny (model prog w) A (getItem (.ref t) (.ref sl)) Q E s:=by
 obtain⟨os,hos,hcs,hds⟩:=id hs
 have hTs:s.TypeIs (.ref sl) "slice":=⟨os,hos,hcs⟩
 unfold getItem
 try with_reducible refine wpAny_holding ?_
 first|refine wpAny_bind (wpAny_pure ?_)|skip
 refine wpAny_bind (wpAny_sequenceKey ht.typeIs (by decide) ?_)
 refine wpAny_bind (wpAny_callSpecial?_slot (name:=Str.ofString "__getitem__") ht.typeIs PyProof.Rows.slot_tuple_getitem
  (wpAny_call_entry PyProof.Rows.slot_tuple_getitem ht.typeIs entry_tuple_getitem ?_ (args_tuple_getitem _ _)))
 show wpAny _ _ (Builtin.Tuple.tupleItemsOf (.ref t) >>= _) _ _ s
 refine wpAny_bind (tupleItemsOf_ ht ?_)
 refine wpAny_bind (wpAny_typeOf hTs ?_)
 rw[if_pos (by decide)]
 refine wpAny_bind (sliceApplied_gen hs pl pu ?_)
 have hyes:(((sIx items.size 0 lo:Nat):Int) == 0&&(1:Int) == 1&&(sIx items.size items.size hi-sIx items.size 0 lo) == items.size)=true:=by
  rw[hw.1,hw.2]
  simp
 show wpAny _ _ (if(((sIx items.size 0 lo:Nat):Int) == 0&&(1:Int) == 1&&(sIx items.size items.size hi-sIx items.size 0 lo) == items.size)=true then _ else _) _ _ s
 rw[if_pos hyes]
 obtain⟨ot,hot,hct,nt,hdt⟩:=id ht
 refine wpAny_bind (wpAny_mono (Q:=fun b s'=>b=true/\s'=s) (E:=E) ?_ ?_ (fun _ _ z=>z))
 .unfold Builtin.Tuple.tupleIsExact
  exact wpAny_bind (wpAny_typeOf ht.typeIs (wpAny_pure ⟨rfl,rfl⟩))
 .rintro b s' ⟨rfl,rfl⟩
  rw[if_pos rfl]
  exact wpAny_bind (wpAny_rule (wpAny_pure ⟨_,rfl,wpAny_pure h⟩))
end
end HT
namespace L2
open PySem PySem.Spec PyProof.Rows
section
variable {X:Cx}
noncomputable def rSlW (K:W.Frag):V->Option Int->Option Int->Hp->VK->Prop:=fun x lo hi H Q=>∃a xs,x=.ref a/\SqT K H a xs/\(HT.sIx xs.length 0 lo=0/\HT.sIx xs.length xs.length hi=xs.length)/\Q (.ref a) H
theorem sl_whole:SlR X (rSlW X.K):=by
 intro pins s σ H x v vl vu lo hi sl Q I rx hs pl pu h
 obtain⟨a,xs,rfl,hx,hw,q⟩:=h
 cases rx
 obtain⟨its,r,ht,hz⟩:=I.tuple hx
 have hlen:its.toArray.size=xs.length:=by rw[List.size_toArray];exact r.length.symm
 refine⟨"tuple",_,PyProof.Rows.slot_tuple_getitem.lookup,ht.typeIs,?_⟩
 exact HT.getItem_tuple_whole ht hs pl pu (by rw[hlen];exact hw) ⟨.ref a,H,I,rfl,q⟩
end
section
variable {X:Cx} {pins:List (Addr×Obj)} {σ:St} {H:Hp} {s:Shared}
variable {X:Cx}
end
end L2
namespace HT
open PySem PyProof.Rows
section
variable {prog:Program} {w:World} {A:Around} {E:Value->Shared->Prop} {s:Shared}
end
end HT
namespace L2
open PySem PySem.Spec PyProof.Rows
section
variable {X:Cx} {e st:Expr} {te:TE} {p2 pos:Pos}
end
section
variable {prog:Program} {w:World} {A:Around} {E:Value->Shared->Prop} {s:Shared} {b0:Array Keyed} {κ:PyProof.Rows.KeyKind}
end
section
variable {X:Cx}
end
end L2
namespace L2
open PySem PySem.Spec PyProof.Rows PySem.SeqAt
def Ls1 (H:Hp) (v:V) (ns:List Int):Prop:=∃p,v=.ref p/\H p=some (.lst (ns.map V.int))
def LL (H:Hp) (a:Addr) (L:List (List Int)):Prop:=∃vs,H a=some (.lst vs)/\vs.length=L.length/\∀(i:Nat) v ns,vs[i]?=some v->L[i]?=some ns->Ls1 H v ns
section
variable {X:Cx} {pins:List (Addr×Obj)} {σ:L2.St} {H:Hp} {s:Shared}
noncomputable def rEqB (neg:Bool):R2:=fun x y H Q=>∃a b L M,x=.ref a/\y=.ref b/\LL H a L/\LL H b M/\Q (.bl (decide (L=M))) H
noncomputable def rNinB:R2:=fun x y H Q=>∃b L ns,Ls1 H x ns/\y=.ref b/\LL H b L/\Q (.bl (!decide (ns∈L))) H
end
section
variable {X:Cx}
end
section
variable {X:Cx} {env:Env}
def Fr {α:Type} (t:Sem α):Prop:=∀(M:Model) (Γ:PySem.Ctx) (Q:α->Pos->Shared->Prop) (E:Value->Pos->Shared->Prop) (p:Pos) (s:Shared),Sem.wp M Γ t Q E p s->Sem.wp M Γ t (fun a p' s'=>1<=s'.toks/\Q a p' s') E p s
theorem Fr.bindL {α β:Type} {m:Sem α} {f:α->Sem β} (h:Fr m):Fr (m >>= f):=by
 intro M Γ Q E p s q
 rw[Sem.wp_bind']at q ⊢
 refine Sem.wp_mono M Γ m (fun a p' s' z=>?_) (fun _ _ _ z=>z) p s (h M Γ _ E p s q)
 exact Sem.wp_mono M Γ (f a) (fun _ _ _ z=>z) (fun _ _ _ z=>z.2) p' s' (Sem.wp_toks M Γ 1 (f a) Q E p' s' z.1 z.2)
theorem Fr.any {α:Type} {M:Model} {A:Around} {t:Sem α} {Q:α->Shared->Prop} {E:Value->Shared->Prop} {s:Shared} (h:Fr t) (q:wpAny M A t Q E s):wpAny M A t (fun a s'=>1<=s'.toks/\Q a s') E s:=fun Γ p hΓ=>h M Γ _ _ p s (q Γ p hΓ)
end
section
variable {X:Cx}
noncomputable def rLenD:List V->Hp->VK->Prop:=fun xs H Q=>∃a kvs,xs=[V.ref a]/\H a=some (.dK kvs)/\Q (.int kvs.length) H
theorem call_lenD':CallR X (.builtin "len") rLenD:=call_lenD
end
section
variable {prog:Program} {w:World} {A:Around} {E:Value->Shared->Prop} {s:Shared} {b0:Array Keyed} {κ:SortKind}
end
section
variable {X:Cx}
end
end L2
namespace So
open PySem PySem.Spec PyProof.Rows
noncomputable def gallop':Bool->Keyed->Array Keyed->Nat->Nat->Nat->StateT SortSt Sem (Option Nat):=sortPriv% PySem.Builtin.gallop
section
variable {M:Model} {A:Around} {E:Value->Shared->Prop} {s:Shared} {O:KeyOrd} {ky:Keyed->O.α} {P:Keyed->Prop} {kd:SortKind}
structure Cmp (M:Model) (A:Around) (E:Value->Shared->Prop) (s:Shared) (O:KeyOrd) (ky:Keyed->O.α) (P:Keyed->Prop) (kd:SortKind):Prop where
 lt:∀{x y:Keyed} {st:SortSt} {Q:Option Bool->SortSt->Prop},P x->P y->kindOf st=kd->Q (some (O.blt (ky x) (ky y))) st->wpS M A E s (lt' x y) Q st
theorem wpS_elem {a:Array Keyed} {i:Nat} {x:Keyed} {Q:Keyed->SortSt->Prop} {st:SortSt} (e:a[i]?=some x) (h:Q x st):wpS M A E s (elem' a i) Q st:=by
 rw[elem'_eq,e];exact wpS_pure h
end
end So
namespace So
open PySem PySem.Spec PyProof.Rows
structure Mg (R:Keyed->Keyed->Prop) (T o ra rb:List Keyed):Prop where
 pm:(o++(ra++rb)).Perm T
 so:o.Pairwise R
 sa:ra.Pairwise R
 sb:rb.Pairwise R
 oa:∀x∈o,∀y∈ra,R x y
 ob:∀x∈o,∀y∈rb,R x y
section
variable {R:Keyed->Keyed->Prop} {T o ra rb:List Keyed}
theorem Mg.swap (m:Mg R T o ra rb):Mg R T o rb ra:=⟨(List.Perm.append_left o List.perm_append_comm).trans m.pm,m.so,m.sb,m.sa,m.ob,m.oa⟩
theorem Mg.put {u:List Keyed} (m:Mg R T o (u++ra) rb) (h:∀y∈u,∀z∈rb,R y z):Mg R T (o++u) ra rb:=by
 have⟨s1,s2,s3⟩:=List.pairwise_append.mp m.sa
 refine⟨?_,List.pairwise_append.mpr ⟨m.so,s1,fun x hx y hy=>m.oa x hx y (List.mem_append_left _ hy)⟩,s2,m.sb,?_,?_⟩
 .have:=m.pm;simpa[List.append_assoc]using this
 .intro x hx y hy
  rcases List.mem_append.mp hx with hx|hx
  .exact m.oa x hx y (List.mem_append_right _ hy)
  .exact s3 x hx y hy
 .intro x hx y hy
  rcases List.mem_append.mp hx with hx|hx
  .exact m.ob x hx y hy
  .exact h x hx y hy
theorem Mg.put1 {u:Keyed} (m:Mg R T o (u :: ra) rb) (h:∀z∈rb,R u z):Mg R T (o++[u]) ra rb:=
 Mg.put (u:=[u]) m fun y hy=>by rw[List.mem_singleton]at hy;subst hy;exact h
theorem Mg.putB {u:List Keyed} (m:Mg R T o ra (u++rb)) (h:∀y∈u,∀z∈ra,R y z):Mg R T (o++u) ra rb:=(m.swap.put h).swap
theorem Mg.putB1 {u:Keyed} (m:Mg R T o ra (u :: rb)) (h:∀z∈ra,R u z):Mg R T (o++[u]) ra rb:=(m.swap.put1 h).swap
theorem Mg.fin (m:Mg R T o ra rb) (h:∀y∈ra,∀z∈rb,R y z):(o++(ra++rb)).Perm T/\(o++(ra++rb)).Pairwise R:=by
 refine⟨m.pm,List.pairwise_append.mpr ⟨m.so,List.pairwise_append.mpr ⟨m.sa,m.sb,h⟩,fun x hx y hy=>?_⟩⟩
 rcases List.mem_append.mp hy with hy|hy
 .exact m.oa x hx y hy
 .exact m.ob x hx y hy
end
end So
namespace So
open PySem PySem.Spec PyProof.Rows
section
variable {M:Model} {A:Around} {E:Value->Shared->Prop} {s:Shared} {O:KeyOrd} {ky:Keyed->O.α} {P:Keyed->Prop} {kd:SortKind}
def SameG (st st':SortSt):Prop:=kindOf st'=kindOf st/\arrOf st'=arrOf st/\pendingOf st'=pendingOf st/\failedOf st'=failedOf st
theorem SameG.rfl' (st:SortSt):SameG st st:=⟨rfl,rfl,rfl,rfl⟩
theorem SameG.trans {a b c:SortSt} (h:SameG a b) (g:SameG b c):SameG a c:=⟨g.1.trans h.1,g.2.1.trans h.2.1,g.2.2.1.trans h.2.2.1,g.2.2.2.trans h.2.2.2⟩
theorem SameG.set (st:SortSt) (m:Nat):SameG st (SortSt.mk' (kindOf st) (arrOf st) (pendingOf st) m (failedOf st)):=⟨rfl,rfl,rfl,rfl⟩
def Rk (O:KeyOrd) (ky:Keyed->O.α) (p q:Keyed):Prop:=O.kle (ky p) (ky q)
theorem at_some {a:Array Keyed} {i:Nat} (h:i<a.size):∃p,a[i]?=some p/\p∈a.toList:=⟨a[i],by simp,by simp⟩
theorem drop_at {a:Array Keyed} {i:Nat} {p:Keyed} (e:a[i]?=some p):a.toList.drop i=p :: a.toList.drop (i+1):=by
 have hi:i<a.size:=by
  rcases Nat.lt_or_ge i a.size with h|h
  .exact h
  .rw[Array.getElem?_eq_none h]at e;cases e
 have:a[i]=p:=by rw[Array.getElem?_eq_getElem hi]at e;exact Option.some.inj e
 rw[List.drop_eq_getElem_cons (by simpa using hi)]
 simp[this]
theorem list_extract (a:Array Keyed) (i j:Nat):(a.extract i j).toList=(a.toList.drop i).take (j-i):=by
 simp[Array.toList_extract,List.extract_eq_take_drop]
theorem list_rest (a:Array Keyed) (i:Nat):(a.extract i a.size).toList=a.toList.drop i:=by
 rw[list_extract,List.take_of_length_le];simp
theorem drop_k (l:List Keyed) (i k:Nat):l.drop i=(l.drop i).take k++l.drop (i+k):=by
 rw[<- List.drop_drop,List.take_append_drop]
theorem mem_take_at {a:Array Keyed} {i k:Nat} {p:Keyed} (h:p∈(a.toList.drop i).take k):∃n,n<k/\a[i+n]?=some p:=by
 obtain⟨n,hn,e⟩:=List.getElem_of_mem h
 have hl:n<k:=by simp at hn;omega
 refine⟨n,hl,?_⟩
 rw[List.getElem_take,List.getElem_drop]at e
 simp at hn
 rw[Array.getElem?_eq_getElem (by omega)]
 simpa using e
theorem mem_drop_at {a:Array Keyed} {i:Nat} {p:Keyed} (h:p∈a.toList.drop i):∃n,i<=n/\a[n]?=some p:=by
 obtain⟨n,hn,e⟩:=List.getElem_of_mem h
 refine⟨i+n,by omega,?_⟩
 rw[List.getElem_drop]at e
 simp at hn
 rw[Array.getElem?_eq_getElem (by omega)]
 simpa using e
theorem pw_at {R:Keyed->Keyed->Prop} {a:Array Keyed} (h:a.toList.Pairwise R) {i j:Nat} {p q:Keyed} (hij:i<j) (e:a[i]?=some p) (e2:a[j]?=some q):R p q:=by
 have hj:j<a.size:=by
  rcases Nat.lt_or_ge j a.size with h|h
  .exact h
  .rw[Array.getElem?_eq_none h]at e2;cases e2
 have h1:a[i]=p:=by rw[Array.getElem?_eq_getElem (by omega)]at e;exact Option.some.inj e
 have h2:a[j]=q:=by rw[Array.getElem?_eq_getElem hj]at e2;exact Option.some.inj e2
 have:=List.pairwise_iff_getElem.mp h i j (by simp;omega) (by simp;omega) hij
 simpa[h1,h2]using this
theorem up_at {a:Array Keyed} (h:a.toList.Pairwise (Rk O ky)) {i j:Nat} {p q:Keyed} (hij:i<=j) (e:a[i]?=some p) (e2:a[j]?=some q):O.kle (ky p) (ky q):=by
 by_cases g:i=j
 .subst g;rw[e]at e2;cases e2;exact KeyOrd.kle_refl _
 .exact pw_at h (by omega) e e2
end
end So
namespace So
open PySem PySem.Spec PyProof.Rows
section
variable {M:Model} {A:Around} {E:Value->Shared->Prop} {s:Shared} {O:KeyOrd} {ky:Keyed->O.α} {P:Keyed->Prop} {kd:SortKind} {x y:Array Keyed}
def Good (O:KeyOrd) (ky:Keyed->O.α) (x y r:Array Keyed):Prop:=r.toList.Perm (x.toList++y.toList)/\r.toList.Pairwise (Rk O ky)
def Wk (O:KeyOrd) (ky:Keyed->O.α) (x y o:Array Keyed) (i j:Nat):Prop:=Mg (Rk O ky) (x.toList++y.toList) o.toList (x.toList.drop i) (y.toList.drop j)/\i<=x.size/\j<=y.size
theorem Wk.dn {o:Array Keyed} {i j:Nat} (w:Wk O ky x y o i j) (e:j=y.size):Good O ky x y (o++x.extract i x.size++y.extract j y.size):=by
 subst e
 have:=w.1.fin (fun p _ q hq=>by rw[List.drop_eq_nil_of_le (by simp)]at hq;cases hq)
 unfold Good
 rw[Array.toList_append,Array.toList_append,list_rest,list_rest,List.append_assoc]
 exact this
theorem Wk.la {o:Array Keyed} {i j:Nat} (w:Wk O ky x y o i j) (e:i+1=x.size) (hl:∀p q,x[x.size-1]?=some p->q∈y.toList->O.klt (ky q) (ky p)):Good O ky x y (o++y.extract j y.size++x.extract i x.size):=by
 have:=w.1.swap.fin (fun q hq p hp=>by
  obtain⟨n,hn,e2⟩:=mem_drop_at hp
  have:n<x.size:=by
   rcases Nat.lt_or_ge n x.size with h|h
   .exact h
   .rw[Array.getElem?_eq_none h]at e2;cases e2
  have:n=x.size-1:=by omega
  subst this
  exact KeyOrd.kle_of_klt (hl p q e2 (List.mem_of_mem_drop hq)))
 unfold Good
 rw[Array.toList_append,Array.toList_append,list_rest,list_rest,List.append_assoc]
 exact this
theorem Wk.putB {o:Array Keyed} {i j:Nat} {p q:Keyed} (w:Wk O ky x y o i j) (e1:x[i]?=some p) (e2:y[j]?=some q) (h:O.kle (ky q) (ky p)) (hj:j<y.size) (sx:x.toList.Pairwise (Rk O ky)):Wk O ky x y (o.push q) i (j+1):=by
 refine⟨?_,w.2.1,hj⟩
 have m:=w.1
 rw[drop_at e2]at m
 rw[Array.toList_push]
 refine m.putB1 fun z hz=>?_
 obtain⟨n,hn,e3⟩:=mem_drop_at hz
 exact KeyOrd.kle_trans h (up_at sx hn e1 e3)
theorem Wk.putA {o:Array Keyed} {i j:Nat} {p q:Keyed} (w:Wk O ky x y o i j) (e1:x[i]?=some p) (e2:y[j]?=some q) (h:O.kle (ky p) (ky q)) (hi:i<x.size) (sy:y.toList.Pairwise (Rk O ky)):Wk O ky x y (o.push p) (i+1) j:=by
 refine⟨?_,hi,w.2.2⟩
 have m:=w.1
 rw[drop_at e1]at m
 rw[Array.toList_push]
 refine m.put1 fun z hz=>?_
 obtain⟨n,hn,e3⟩:=mem_drop_at hz
 exact KeyOrd.kle_trans h (up_at sy hn e2 e3)
theorem Wk.manyA {o:Array Keyed} {i j k:Nat} {q:Keyed} (w:Wk O ky x y o i j) (e2:y[j]?=some q) (h:∀n p,n<k->x[i+n]?=some p->O.kle (ky p) (ky q)) (hi:i+k<=x.size) (sy:y.toList.Pairwise (Rk O ky)):
  Wk O ky x y (o++x.extract i (i+k)) (i+k) j:=by
 refine⟨?_,hi,w.2.2⟩
 have m:=w.1
 rw[drop_k _ i k]at m
 rw[Array.toList_append,list_extract,Nat.add_sub_cancel_left]
 refine m.put fun p hp z hz=>?_
 obtain⟨n,hn,e3⟩:=mem_take_at hp
 obtain⟨n2,hn2,e4⟩:=mem_drop_at hz
 exact KeyOrd.kle_trans (h n p hn e3) (up_at sy hn2 e2 e4)
theorem Wk.manyB {o:Array Keyed} {i j k:Nat} {p:Keyed} (w:Wk O ky x y o i j) (e1:x[i]?=some p) (h:∀n q,n<k->y[j+n]?=some q->O.klt (ky q) (ky p)) (hj:j+k<=y.size) (sx:x.toList.Pairwise (Rk O ky)):
  Wk O ky x y (o++y.extract j (j+k)) i (j+k):=by
 refine⟨?_,w.2.1,hj⟩
 have m:=w.1
 rw[drop_k _ j k]at m
 rw[Array.toList_append,list_extract,Nat.add_sub_cancel_left]
 refine m.putB fun q hq z hz=>?_
 obtain⟨n,hn,e3⟩:=mem_take_at hq
 obtain⟨n2,hn2,e4⟩:=mem_drop_at hz
 exact KeyOrd.kle_trans (KeyOrd.kle_of_klt (h n q hn e3)) (up_at sx hn2 e1 e4)
end
end So
namespace So
open PySem PySem.Spec PyProof.Rows
noncomputable def dnH (x y o:Array Keyed) (i j:Nat):Array Keyed:=x.extract 0 i++y.extract 0 j++o.reverse
noncomputable def fbH (x y o:Array Keyed) (i j:Nat):Array Keyed:=y.extract 0 j++x.extract 0 i++o.reverse
noncomputable abbrev TG:Type:=Option (Array Keyed)×Nat×Nat×Array Keyed×Nat×Nat×Nat
noncomputable abbrev TI:Type:=Option (Array Keyed)×Nat×Nat×Array Keyed×Nat×Nat
noncomputable abbrev TO:Type:=Option (Array Keyed)×Nat×Nat×Array Keyed×Nat
noncomputable def hi3 (x y:Array Keyed) (i j:Nat) (o:Array Keyed) (mg ca cb:Nat):StateT SortSt Sem (ForInStep TG):=do
 let p <- elem' x (i-1)
 if(i-1 == 0)=true then pure (.done (some (dnH x y (o.push p) (i-1) j),i-1,j,o.push p,mg,ca,cb))
 else if(decide (ca<7)&&decide (cb<7))=true then pure (.done (none,i-1,j,o.push p,mg,ca,cb))else pure (.yield (none,i-1,j,o.push p,mg,ca,cb))
noncomputable def hi2 (x y:Array Keyed) (i j:Nat) (o:Array Keyed) (mg ca cb:Nat):StateT SortSt Sem (ForInStep TG):=do
 let q <- elem' y (j-1)
 if(j-1 == 1)=true then pure (.done (some (fbH x y (o.push q) i (j-1)),i,j-1,o.push q,mg,ca,cb))
 else do
  let p <- elem' x (i-1)
  let r <- gallop' true p y 0 (j-1) (j-1-1)
  match r with
  |some z=>
   if j-1-z > 0 then
    if(z == 1)=true then pure (.done (some (fbH x y (o.push q++(y.extract z (j-1)).reverse) i z),i,z,o.push q++(y.extract z (j-1)).reverse,mg,ca,j-1-z))
    else if(z == 0)=true then pure (.done (some (dnH x y (o.push q++(y.extract z (j-1)).reverse) i z),i,z,o.push q++(y.extract z (j-1)).reverse,mg,ca,j-1-z))
    else hi3 x y i z (o.push q++(y.extract z (j-1)).reverse) mg ca (j-1-z)
   else hi3 x y i (j-1) (o.push q) mg ca (j-1-z)
  |_=>pure (.done (some (dnH x y (o.push q) i (j-1)),i,j-1,o.push q,mg,ca,cb))
section
variable {M:Model} {A:Around} {E:Value->Shared->Prop} {s:Shared} {O:KeyOrd} {ky:Keyed->O.α} {P:Keyed->Prop} {kd:SortKind} {x y:Array Keyed}
theorem take_at {a:Array Keyed} {i:Nat} {p:Keyed} (e:a[i]?=some p):(a.toList.take (i+1)).reverse=p :: (a.toList.take i).reverse:=by
 have:a.toList[i]?=some p:=by simpa using e
 rw[List.take_add_one,this];simp
theorem list_begin (a:Array Keyed) (i:Nat):(a.extract 0 i).toList=a.toList.take i:=by rw[list_extract];simp
theorem take_k (l:List Keyed) {z i:Nat} (h:z<=i):(l.take i).reverse=((l.drop z).take (i-z)).reverse++(l.take z).reverse:=by
 rw[<- List.reverse_append]
 congr 1
 rw[<- List.take_append_drop z (l.take i),List.take_take,List.drop_take]
 congr 2
 omega
theorem mem_begin_at {a:Array Keyed} {i:Nat} {p:Keyed} (h:p∈(a.toList.take i).reverse):∃n,n<i/\a[n]?=some p:=by
 obtain⟨n,hn,e⟩:=mem_take_at (a:=a) (i:=0) (k:=i) (p:=p) (by simpa using h)
 exact⟨n,hn,by simpa using e⟩
def Wh (O:KeyOrd) (ky:Keyed->O.α) (x y o:Array Keyed) (i j:Nat):Prop:=Mg (fun p q=>Rk O ky q p) (x.toList++y.toList) o.toList (x.toList.take i).reverse (y.toList.take j).reverse/\i<=x.size/\j<=y.size
theorem Wh.dn {o:Array Keyed} {i j:Nat} (w:Wh O ky x y o i j) (e:i=0):Good O ky x y (x.extract 0 i++y.extract 0 j++o.reverse):=by
 subst e
 have⟨h1,h2⟩:=w.1.swap.fin (fun q _ p hp=>by simp at hp)
 unfold Good
 have e:(x.extract 0 0++y.extract 0 j++o.reverse).toList=(o.toList++((y.toList.take j).reverse++(x.toList.take 0).reverse)).reverse:=by
  rw[Array.toList_append,Array.toList_append,list_begin,list_begin];simp
 rw[e]
 exact⟨(List.reverse_perm _).trans h1,List.pairwise_reverse.mpr h2⟩
theorem Wh.putA {o:Array Keyed} {i j:Nat} {p:Keyed} (w:Wh O ky x y o (i+1) j) (e1:x[i]?=some p) (h:∀n q,n<j->y[n]?=some q->O.kle (ky q) (ky p)):Wh O ky x y (o.push p) i j:=by
 refine⟨?_,by have:=w.2.1;omega,w.2.2⟩
 have m:=w.1
 rw[take_at e1]at m
 rw[Array.toList_push]
 refine m.put1 fun z hz=>?_
 obtain⟨n,hn,e3⟩:=mem_begin_at hz
 exact h n z hn e3
theorem Wh.putB {o:Array Keyed} {i j:Nat} {q:Keyed} (w:Wh O ky x y o i (j+1)) (e2:y[j]?=some q) (h:∀n p,n<i->x[n]?=some p->O.kle (ky p) (ky q)):Wh O ky x y (o.push q) i j:=by
 refine⟨?_,w.2.1,by have:=w.2.2;omega⟩
 have m:=w.1
 rw[take_at e2]at m
 rw[Array.toList_push]
 refine m.putB1 fun z hz=>?_
 obtain⟨n,hn,e3⟩:=mem_begin_at hz
 exact h n z hn e3
theorem Wh.manyA {o:Array Keyed} {i j z:Nat} (w:Wh O ky x y o i j) (hz:z<=i) (h:∀n p m q,z<=n->n<i->x[n]?=some p->m<j->y[m]?=some q->O.kle (ky q) (ky p)):Wh O ky x y (o++(x.extract z i).reverse) z j:=by
 refine⟨?_,by have:=w.2.1;omega,w.2.2⟩
 have m:=w.1
 rw[take_k _ hz]at m
 rw[Array.toList_append,Array.toList_reverse,list_extract]
 refine m.put fun p hp q hq=>?_
 obtain⟨n,hn,e3⟩:=mem_take_at (List.mem_reverse.mp hp)
 obtain⟨n2,hn2,e4⟩:=mem_begin_at hq
 exact h _ p n2 q (by omega) (by omega) e3 hn2 e4
theorem Wh.manyB {o:Array Keyed} {i j z:Nat} (w:Wh O ky x y o i j) (hz:z<=j) (h:∀n q m p,z<=n->n<j->y[n]?=some q->m<i->x[m]?=some p->O.kle (ky p) (ky q)):Wh O ky x y (o++(y.extract z j).reverse) i z:=by
 refine⟨?_,w.2.1,by have:=w.2.2;omega⟩
 have m:=w.1
 rw[take_k _ hz]at m
 rw[Array.toList_append,Array.toList_reverse,list_extract]
 refine m.putB fun q hq p hp=>?_
 obtain⟨n,hn,e3⟩:=mem_take_at (List.mem_reverse.mp hq)
 obtain⟨n2,hn2,e4⟩:=mem_begin_at hp
 exact h _ q n2 p (by omega) (by omega) e3 hn2 e4
end
end So
namespace So
open PySem PySem.Spec PyProof.Rows
section
variable {M:Model} {A:Around} {E:Value->Shared->Prop} {s:Shared} {O:KeyOrd} {ky:Keyed->O.α} {P:Keyed->Prop} {kd:SortKind}
end
end So
namespace So
open PySem PySem.Spec PyProof.Rows
section
variable {M:Model} {A:Around} {E:Value->Shared->Prop} {s:Shared} {O:KeyOrd} {ky:Keyed->O.α} {P:Keyed->Prop} {kd:SortKind} {st0:SortSt} {lo nrem:Nat}
noncomputable def ke (ky:Keyed->O.α) (a:Array Keyed) (i:Nat):O.α:=ky ((a[i]?).getD (Value.none,Value.none))
theorem ke_at {a:Array Keyed} {i:Nat} {p:Keyed} (h:a[i]?=some p):ke ky a i=ky p:=by unfold ke;rw[h];rfl
structure Sb (st0:SortSt) (lo:Nat) (st:SortSt):Prop where
 perm:(arrOf st).Perm (arrOf st0)
 same:∀i,i<lo->(arrOf st)[i]?=(arrOf st0)[i]?
 kind:kindOf st=kindOf st0
 fail:failedOf st=failedOf st0
 pend:pendingOf st=pendingOf st0
theorem Sb.rfl' (st0:SortSt) (lo:Nat):Sb st0 lo st0:=⟨Array.Perm.refl _,fun _ _=>rfl,rfl,rfl,rfl⟩
theorem Sb.size {st:SortSt} (B:Sb st0 lo st):(arrOf st).size=(arrOf st0).size:=B.perm.size_eq
theorem Sb.lt (C:Cmp M A E s O ky P kd) {st:SortSt} {i j:Nat} {Q:Option Bool->SortSt->Prop} (kst:kindOf st0=kd) (pa:∀p∈(arrOf st0).toList,P p) (B:Sb st0 lo st) (hi:i<(arrOf st0).size) (hj:j<(arrOf st0).size)
  (h:Q (some (O.blt (ke ky (arrOf st) i) (ke ky (arrOf st) j))) st):wpS M A E s (ltAt' i j) Q st:=by
 obtain⟨p,ep,mp⟩:=at_some (a:=arrOf st) (i:=i) (by rw[B.size];exact hi)
 obtain⟨q,eq,mq⟩:=at_some (a:=arrOf st) (i:=j) (by rw[B.size];exact hj)
 have pm:=Array.perm_iff_toList_perm.mp B.perm
 rw[ltAt'_eq]
 refine wpS_bind (wpS_get ?_)
 refine wpS_bind (wpS_elem ep (wpS_bind (wpS_elem eq (C.lt (pa p (pm.mem_iff.mp mp)) (pa q (pm.mem_iff.mp mq)) (B.kind.trans kst) ?_))))
 rw[ke_at ep,ke_at eq]at h
 exact h
def Si (ky:Keyed->O.α) (lo:Nat) (a:Array Keyed) (n:Nat):Prop:=∀i j,i<=j->j<n->O.kle (ke ky a (lo+i)) (ke ky a (lo+j))
def Ni (ky:Keyed->O.α) (lo:Nat) (a:Array Keyed) (n:Nat):Prop:=∀i j,i<=j->j<n->O.kle (ke ky a (lo+j)) (ke ky a (lo+i))
theorem Si.more {a:Array Keyed} {n:Nat} (h:Si ky lo a n) (h1:1<=n) (g:O.kle (ke ky a (lo+(n-1))) (ke ky a (lo+n))):Si ky lo a (n+1):=by
 intro i j hij hj
 by_cases c:j<n
 .exact h i j hij c
 .have e:j=n:=by omega
  subst e
  by_cases c2:i=j
  .subst c2;exact KeyOrd.kle_refl _
  .exact KeyOrd.kle_trans (h i (j-1) (by omega) (by omega)) g
theorem Ni.more {a:Array Keyed} {n:Nat} (h:Ni ky lo a n) (h1:1<=n) (g:O.kle (ke ky a (lo+n)) (ke ky a (lo+(n-1)))):Ni ky lo a (n+1):=by
 intro i j hij hj
 by_cases c:j<n
 .exact h i j hij c
 .have e:j=n:=by omega
  subst e
  by_cases c2:i=j
  .subst c2;exact KeyOrd.kle_refl _
  .exact KeyOrd.kle_trans g (h i (j-1) (by omega) (by omega))
end
end So
namespace So
open PySem PySem.Spec PyProof.Rows
section
variable {M:Model} {A:Around} {E:Value->Shared->Prop} {s:Shared} {O:KeyOrd} {ky:Keyed->O.α} {P:Keyed->Prop} {kd:SortKind} {st0:SortSt} {lo nrem:Nat}
end
end So
namespace So
open PySem PySem.Spec PyProof.Rows
noncomputable def sP (lo n:Nat):StateT SortSt Sem (ForInStep (Option Unit×Nat)):=do
 modify fun s=>setPending s ((pendingOf s).push (lo,n,0))
 pure (ForInStep.yield (none,lo+n))
noncomputable def sT (z lo n:Nat):StateT SortSt Sem (ForInStep (Option Unit×Nat)):=do
 let st <- get
 match (pendingOf st).back? with
 |some (s1,n1,_)=>do
  let r <- forIn [0:z] ((none,()):Option Unit×Unit) fun _ _=>do
   let st <- get
   match (if(pendingOf st).size > 1 then(pendingOf st)[(pendingOf st).size-2]? else none)with
   |some (_,_,older)=>(if older<=power' z (2*s1+n1) (2*s1+n1+n1+n) z then pure (ForInStep.done (none,()))else mergeAt' ((pendingOf st).size-2) >>= fun b=>if(!b)=true then pure (ForInStep.done (some (),()))else pure (ForInStep.yield (none,())))
   |_=>pure (ForInStep.done (none,()))
  match r.1 with
  |some v=>pure (ForInStep.done (some v,lo))
  |none=>do
   modify fun s=>setPending s ((pendingOf s).modify ((pendingOf s).size-1) fun(x:Nat×Nat×Nat)=>(x.1,x.2.1,power' z (2*s1+n1) (2*s1+n1+n1+n) z))
   sP lo n
 |_=>sP lo n
noncomputable def sB (z mr lo:Nat):StateT SortSt Sem (ForInStep (Option Unit×Nat)):=
 if lo ≥ z then pure (ForInStep.done (none,lo))else countRun' lo (z-lo) >>= fun x=>match x with
  |some m=>if m<mr then(liftM (rule "list.sort.binary-insertion") >>= fun(_:Unit)=>binarySort' lo (min (z-lo) mr) m >>= fun b=>if(!b)=true then pure (ForInStep.done (some (),lo))else sT z lo (min (z-lo) mr))else sT z lo m
  |_=>pure (ForInStep.done (some (),lo))
section
variable {M:Model} {A:Around} {E:Value->Shared->Prop} {s:Shared} {O:KeyOrd} {ky:Keyed->O.α} {P:Keyed->Prop} {kd:SortKind} {st0:SortSt} {lo nrem:Nat}
inductive Rn (R:Keyed->Keyed->Prop):List (Nat×Nat×Nat)->List (List Keyed)->Nat->Prop
 |nil (a:Nat):Rn R [] [] a
 |cons {a:Nat} (w:Nat) {l:List Keyed} {p:List (Nat×Nat×Nat)} {L:List (List Keyed)}:0<l.length->l.Pairwise R->Rn R p L (a+l.length)->Rn R ((a,l.length,w) :: p) (l :: L) a
theorem Rn.len {R:Keyed->Keyed->Prop}:∀{p:List (Nat×Nat×Nat)} {L:List (List Keyed)} {a:Nat},Rn R p L a->p.length=L.length/\L.length<=L.flatten.length
 |_,_,_,.nil _=>⟨rfl,Nat.le_refl _⟩
 |_,_,_,.cons w h0 hs r=>by
  have⟨h1,h2⟩:=r.len
  refine⟨by simp[h1],?_⟩
  simp only[List.length_cons,List.flatten_cons,List.length_append];omega
theorem Rn.push {R:Keyed->Keyed->Prop} {l:List Keyed} (h0:0<l.length) (hs:l.Pairwise R):∀{p:List (Nat×Nat×Nat)} {L:List (List Keyed)} {a:Nat},Rn R p L a->∀b,b=a+L.flatten.length->Rn R (p++[(b,l.length,0)]) (L++[l]) a
 |_,_,a,.nil _,b,e=>by
  have:b=a:=by simpa using e
  subst this
  exact .cons 0 h0 hs (.nil _)
 |_,_,a,.cons w g0 gs r,b,e=>.cons w g0 gs (r.push h0 hs b (by rw[e,List.flatten_cons,List.length_append];omega))
theorem Rn.merge {R:Keyed->Keyed->Prop} {su nu pw sv nv pv:Nat}:∀{p:List (Nat×Nat×Nat)} {L:List (List Keyed)} {a i:Nat},Rn R p L a->p[i]?=some (su,nu,pw)->p[i+1]?=some (sv,nv,pv)->
  ∃L1 l1 l2 L2,L=L1++l1 :: l2 :: L2/\su=a+L1.flatten.length/\nu=l1.length/\sv=su+nu/\nv=l2.length/\0<nu/\0<nv/\l1.Pairwise R/\l2.Pairwise R/\
   ∀m,m.length=nu+nv->m.Pairwise R->Rn R ((p.set i (su,nu+nv,pw)).eraseIdx (i+1)) (L1++m :: L2) a
 |_,_,a,i,.nil _,e,_=>by simp at e
 |_,_,a,0,@Rn.cons _ _ w l p L h0 hs r,e,e2=>by
  have e':(a,l.length,w)=(su,nu,pw):=by simpa using e
  have e2':p[0]?=some (sv,nv,pv):=by simpa using e2
  obtain⟨rfl,rfl,rfl⟩:a=su/\l.length=nu/\w=pw:=by simpa using e'
  cases r with
  |nil _=>simp at e2'
  | @cons _ w2 l2 p2 L2 g0 gs r2=>
   obtain⟨rfl,rfl,rfl⟩:a+l.length=sv/\l2.length=nv/\w2=pv:=by simpa using e2'
   refine⟨[],l,l2,L2,rfl,by simp,rfl,rfl,rfl,h0,g0,hs,gs,fun m hm hsm=>?_⟩
   show Rn R ((a,l.length+l2.length,w) :: p2) (m :: L2) a
   rw[<- hm]
   refine .cons w (by omega) hsm ?_
   rw[hm,<- Nat.add_assoc];exact r2
 |_,_,a,i+1,@Rn.cons _ _ w l p L h0 hs r,e,e2=>by
  have e':p[i]?=some (su,nu,pw):=by simpa using e
  have e2':p[i+1]?=some (sv,nv,pv):=by simpa using e2
  obtain⟨L1,l1,l2,L2,rfl,a1,a2,a3,a4,a5,a6,a7,a8,a9⟩:=r.merge e' e2'
  refine⟨l :: L1,l1,l2,L2,rfl,by rw[a1,List.flatten_cons,List.length_append];omega,a2,a3,a4,a5,a6,a7,a8,fun m hm hsm=>?_⟩
  have:=a9 m hm hsm
  exact .cons w h0 hs this
structure Wt (O:KeyOrd) (ky:Keyed->O.α) (kd:SortKind) (a0:Array Keyed) (st:SortSt) (L:List (List Keyed)) (T:List Keyed):Prop where
 ar:(arrOf st).toList=L.flatten++T
 rn:Rn (Rk O ky) (pendingOf st).toList L 0
 pm:(arrOf st).toList.Perm a0.toList
 kd:kindOf st=kd
 fl:failedOf st=none
theorem Wt.size {a0:Array Keyed} {st:SortSt} {L:List (List Keyed)} {T:List Keyed} (w:Wt O ky kd a0 st L T):(arrOf st).size=a0.size:=by
 have:=w.pm.length_eq;simpa using this
theorem Wt.pa {a0:Array Keyed} {st:SortSt} {L:List (List Keyed)} {T:List Keyed} (w:Wt O ky kd a0 st L T) (pa:∀p∈a0.toList,P p):∀p∈(arrOf st).toList,P p:=fun p hp=>pa p (w.pm.mem_iff.mp hp)
theorem Sb.split {U T:List Keyed} {st:SortSt} {n:Nat} (B:Sb st0 lo st) (e:(arrOf st0).toList=U++T) (hl:U.length=lo) (hn:lo+n<=(arrOf st0).size) (S:Si ky lo (arrOf st) n):
  ∃l T',(arrOf st).toList=U++(l++T')/\l.length=n/\l.Pairwise (Rk O ky):=by
 have hz:(arrOf st).toList.length=(arrOf st0).size:=by rw[Array.length_toList];exact B.size
 have eU:(arrOf st).toList.take lo=U:=by
  apply List.ext_getElem?
  intro i
  by_cases hi:i<lo
  .rw[List.getElem?_take_of_lt hi]
   have h1:=B.same i hi
   have h2:(arrOf st0).toList[i]?=U[i]?:=by rw[e,List.getElem?_append_left (by omega)]
   rw[<- h2];simpa using h1
  .rw[List.getElem?_eq_none (by rw[List.length_take];omega),List.getElem?_eq_none (by omega)]
 refine⟨((arrOf st).toList.drop lo).take n,(arrOf st).toList.drop (lo+n),?_,by rw[List.length_take,List.length_drop];omega,?_⟩
 .rw[<- eU,<- drop_k,List.take_append_drop]
 .rw[List.pairwise_iff_getElem]
  intro i j hi hj hij
  have hj':j<n:=by rw[List.length_take]at hj;omega
  have:=S i j (by omega) hj'
  have a1:(arrOf st)[lo+i]?=some (((arrOf st).toList.drop lo).take n)[i]:=by
   rw[List.getElem_take,List.getElem_drop,Array.getElem?_eq_getElem (by simp at hz;omega)];simp
  have a2:(arrOf st)[lo+j]?=some (((arrOf st).toList.drop lo).take n)[j]:=by
   rw[List.getElem_take,List.getElem_drop,Array.getElem?_eq_getElem (by simp at hz;omega)];simp
  rw[ke_at a1,ke_at a2]at this
  exact this
end
end So
namespace L2
open PySem PySem.Spec PyProof.Rows So
section
variable {prog:Program} {w:World} {A:Around} {E:Value->Shared->Prop} {s:Shared}
end
section
variable {X:Cx}
end
noncomputable abbrev Itm:Type:=Int ⊕ PySem.Str
noncomputable def itIs:Itm->Value->Prop
 | .inl i,v=>∃t,v=.int i t
 | .inr x,v=>∃t,v=.str x t
inductive ItsAre:List Value->List Itm->Prop
 |nil:ItsAre [] []
 |cons {v:Value} {a:Itm} {vs:List Value} {l:List Itm}:itIs a v->ItsAre vs l->ItsAre (v :: vs) (a :: l)
theorem ItsAre.len:∀{vs:List Value} {l:List Itm},ItsAre vs l->vs.length=l.length
 |_,_,.nil=>rfl
 |_,_,.cons _ r=>by simp[r.len]
section
variable {prog:Program} {w:World} {A:Around} {E:Value->Shared->Prop} {s:Shared}
end
section
variable {X:Cx}
end
section
variable {prog:Program} {w:World} {A:Around} {E:Value->Shared->Prop} {s:Shared}
end
def Fz (H:Hp) (d:Addr) (o:Obj):Prop:=∃u,H d=some (.frz o u)
theorem Fz.at {P:Program} {w:World} {H:Hp} {h:Heap} {d:Addr} {o:Obj} (f:Fz H d o) (x:HOk P w H h):h.get? d=some o:=let⟨u,e⟩:=f;(x d _ e).1
section
variable {X:Cx} {tg:Expr}
theorem HOk.freeze {P:Program} {w:World} {H:Hp} {h:Heap} {d:Addr} {u:HO} {o:Obj} (x:HOk P w H h) (e:H d=some u) (hu:Mut (some u)) (ho:h.get? d=some o):HOk P w (upd H d (.frz o u)) h:=fun b v q=>by
 have ntup:∀c xs,H c=some (.tup xs)->c≠d:=fun c xs r z=>by subst z;rw[r]at e;cases e;exact hu
 have nown:∀c y,H c=some (.own y)->c≠d:=fun c y r z=>by subst z;rw[r]at e;cases e;exact hu
 have st:∀a v,ObjOk P w H h a v->ObjOk P w (upd H d (.frz o u)) h a v:=fun a v y=>y.stay (fun _ _ _ q=>q) (fun c r=>by rw[upd_ne (nown c a r)];exact r) fun c xs r=>by rw[upd_ne (ntup c xs r)];exact r
 by_cases hb:b=d
 .subst hb;rw[upd_same]at q;cases q;exact⟨ho,st _ _ (x _ _ e)⟩
 .rw[upd_ne hb]at q;exact st _ _ (x b v q)
theorem Inv.freeze {pins:List (Addr×Obj)} {σ:St} {H:Hp} {s:Shared} {d:Addr} {u:HO} {o:Obj} (I:Inv X pins σ H s) (e:H d=some u) (hu:Mut (some u)) (ho:s.heap.get? d=some o):Inv X pins σ (upd H d (.frz o u)) s:=by
 have:=I.step (h':=s.heap) (g':=s.gens) (d':=s.drawn) (t':=s.toks) (ch:=[]) (H':=upd H d (.frz o u)) (fun _ z=>nomatch z) (fun b o _ _ _ q _=>q) (fun b o _ _ _ q _=>⟨o.slots,q⟩)
  (fun b o _ _ n=>by rw[upd_ne (fun z=>by subst z;rw[n]at e;cases e)];exact n) (fun b o _ q=>⟨o,q⟩)
  (fun b xs q=>by rw[upd_ne (fun z=>by subst z;rw[q]at e;cases e;exact hu)];exact q)
  (fun b o v q=>by rw[upd_ne (fun z=>by subst z;rw[q]at e;cases e;exact hu)];exact q)
  (fun b ps q=>⟨#[],by rw[upd_ne (fun z=>by subst z;rw[q]at e;cases e;exact hu),Array.append_empty];exact q⟩)
  (fun m n=>n) (I.hok.freeze e hu ho) I.bare
 exact this
end
section
variable {X:Cx} {pos:Pos}
noncomputable def gSeq (K:W.Frag) (n:Nat) (t:TGs):TG:=fun v σ H Q=>∃a xs,v=.ref a/\(SqT K H a xs\/SqL K H a xs)/\xs.length=n/\t xs σ H Q
theorem pg_seq {es:List Expr} {k:Nat} {t:TGs} {n:Nat} (hc:X.calm=true) (h:PGs X es t)
  (hn:(assignEach es X.env).length=n:=by rfl) (hst:(assignEach es X.env).findIdx? (·.1)=none:=by rfl):PG X (.Tuple es k pos) (gSeq X.K n t):=by
 intro pins s σ H v u Q I r hw
 obtain⟨a,xs,e1,hq,hl,hw⟩:=hw
 rcases hq with hq|hq
 .exact pg_tup hc h hn hst pins s σ H v u Q I r ⟨a,xs,e1,hq,hl,hw⟩
 .subst e1
  cases r
  obtain⟨its,rv,pl,hz⟩:=I.list hq
  rw[assign_Tuple]
  refine wpAny_bind (wpAny_standAt ?_)
  unfold unpack
  rw[hn,hst]
  have e:n=its.toArray.size:=by simp[<- hl,rv.length]
  rw[e]
  refine wpAny_bind (wpAny_holding (W.kun_itemsOf (I.ok.hd hc) pl.isList fun h' hx=>?_))
  have I1:Inv X pins σ H { s with heap:=h' }:=I.kept (t':=s.toks) fun b o e=>hx b o (Nat.ne_of_lt (Heap.lt_size e)) e
  exact h pins _ σ H xs _ Q I1 (by simpa using rv) hw
end
section
variable {prog:Program} {w:World} {A:Around} {E:Value->Shared->Prop} {s:Shared} {K:Type} [DecidableEq K] {knd:HeapKind prog w K} {d:Addr}
theorem meets_lenH (knd:HeapKind prog w K) (hd:(d == sysModules)=false):MeetsIn prog w (Builtin.«dict.__len__» ⟨[.ref d],[]⟩) (fun _ R s=>∃xs,s.heap.DictOfH knd d xs/\R (.ok (.ret (.int xs.length s.toks))) { s with toks:=s.toks+1 }):=
 .of_wp fun A R s ⟨xs,hm,h⟩=>by
  obtain⟨o,es,ep,ho,hc,hdat,hk,_⟩:=hm
  show wpAny _ _ (dictSize d >>= _) _ _ s
  unfold dictSize
  refine wpAny_bind (wpAny_bind (wpAny_dictEntries ho hdat (wpAny_pure ?_)))
  show wpAny _ _ (Builtin.Dict.pendingCount d >>= _) _ _ s
  refine wpAny_bind (wpAny_pendingCount_other hd ?_)
  refine wpAny_ret_mkInt ?_
  rw[Nat.add_zero,size_of_entries hk];exact h
theorem call_lenH {xs:List (K×Addr×Value)} {Q:Value->Shared->Prop} (hd:(d == sysModules)=false) (hm:s.heap.DictOfH knd d xs) (hfit:(xs.length:Int)<2 ^ 63)
  (h:Q (.int xs.length (s.toks+1)) { s with toks:=s.toks+1+1 }):wpAny (model prog w) A (call (.builtin "len") [.ref d]) Q E s:=by
 refine Calls.call_function_entry kind_len plain_len entry_len (args_len1 _) ?_
 unfold Builtin.«len»
 refine wpAny_bind (m:=oneArg "len" _) (wpAny_pure ?_)
 refine wpAny_bind (m:=callSpecial? (.ref d) (Str.ofString "__len__")) (wpAny_callSpecial?_slot (name:=Str.ofString "__len__") hm.typeIs F.slot_dict_len
  (call_meetsIn F.slot_dict_len hm.typeIs F.entry_dict_len (F.args_dict_len_1 _) (meets_lenH knd hd) ⟨xs,hm,?_⟩))
 show wpAny _ _ _ _ _ { s with toks:=s.toks+1 }
 refine wpAny_bind (wpAny_holding (wpAny_pure ?_))
 refine wpAny_bind (wpAny_letGo ?_)
 show wpAny _ _ (if((xs.length:Nat):Int)<0 then _ else _) _ _ _
 rw[if_neg (by omega)]
 show wpAny _ _ (if((xs.length:Nat):Int) ≥ 2 ^ 63 then _ else _) _ _ _
 rw[if_neg (by omega)]
 exact wpAny_bind (wpAny_mkInt (wpAny_pure ⟨_,rfl,h⟩))
end
section
variable {X:Cx}
noncomputable def rLenDT:List V->Hp->VK->Prop:=fun xs H Q=>rLenD xs H Q\/∃a kvs,xs=[V.ref a]/\H a=some (.dT kvs)/\Q (.int kvs.length) H
theorem call_lenDT:CallR X (.builtin "len") rLenDT:=by
 intro pins s σ H xs us Q I r h
 rcases h with h|⟨a,kvs,rfl,ha,q⟩
 .exact call_lenD' pins s σ H xs us Q I r h
 .obtain⟨u,rfl,ru⟩:=vals1 r
  cases ru
  obtain⟨z,hd,vs,rel,dd⟩:=dt_of I.hok ha
  have e:=Paired.length rel
  exact call_lenH hd dd (by rw[<- e];rw[sizeLine_eq]at z;omega) ⟨.int kvs.length,H,I.tok _,⟨_,by rw[e]⟩,q⟩
end
end L2
namespace PySem
def Rsn (xs:Array Nat):Prop:=xs.toList.Pairwise (· < ·)
end PySem
namespace PySem
section
variable {prog:Program} {w:World} {K:Type} [DecidableEq K] (knd:KeyKind prog w K)
variable {knd}
variable {A:Around} {E:Value->Shared->Prop} {s:Shared}
end
end PySem
namespace L2
open PySem PySem.Spec PyProof.Rows
noncomputable def less1 (h:Heap) (a:Addr):Heap:=h.update a fun o=>{ o with data:=.freed }
noncomputable def less (h:Heap) (S:List Addr):Heap:=S.foldl less1 h
def ExcT (h:Heap) (e:Addr) (cls:Value) (T:Addr):Prop:=∃oe vs oT ts a0,h.get? e=some oe/\(oe.cls=cls/\vs[0]?=some a0)/\oe.data=.fields vs/\vs[1]?=some (.ref T)/\T≠e/\h.get? T=some oT/\oT.data=.fields ts/\ts[3]?=some .none
structure LeftX (F S:List Addr) (e:Addr) (cls:Value) (h h':Heap):Prop where
 keep:∀b o,b∉F->b∉S->h.get? b=some o->h'.get? b=some o
 slot:∀b o,b∈F->h.get? b=some o->∃sl,h'.get? b=some { o with slots:=sl }
 there:∀b o,b∉S->h.get? b=some o->∃o',h'.get? b=some o'
 exc:∃T,(h.get? T=none\/T∈S)/\ExcT h' e cls T
section
variable {M:Model} {A:Around} {E:Value->Shared->Prop} {s:Shared}
end
structure FnCx (X:Cx):Prop where
 ex:X.ex=[]
 fn:∀x,X.fn x=true
 stk:X.stack=X.env :: X.outer
 fr:X.env.frame=some X.env.locals
theorem FnCx.frs {X:Cx} (F:FnCx X):L2.frs X.stack=X.env.locals :: X.fs:=by
 rw[F.stk]
 show List.filterMap _ _=_
 rw[List.filterMap_cons,F.fr]
 rfl
section
variable {X:Cx} {pins:List (Addr×Obj)} {σ:St} {H:Hp} {s:Shared}
noncomputable def CX1 (P:Program) (w:World) (mg:Str->Option Value):CXT:=fun outer H s E e s'=>∃(ea T Ca:Addr) (nm:Str) (H':Hp),e=.ref ea/\mg nm=some (.ref Ca)/\s'.os=s.os/\AllBare s'.gens/\Un (frs outer) [] H H' s.heap s'.heap/\HOk P w H' s'.heap/\
 ExcT s'.heap ea (.ref Ca) T/\H' ea=none/\H' T=none/\s.heap.get? ea=none/\s.heap.get? T=none/\E (.str nm 0) none H'
end
def bmV:List Value:=[.type "ValueError",.type "Exception",.type "BaseException",.type "object"]
section
variable {X:Cx}
end
section
variable {X:Cx} {pins:List (Addr×Obj)} {σ:St} {H:Hp} {s:Shared} {D:Ends} {hs:List ExceptHandler}
noncomputable def Cx.inX (X:Cx) (e:Addr):Cx:={ X with A:=X.A.mark (some (.ref e)),calm:=false,xe:=fun _ _=>False }
def ExcObj (e Ca:Addr) (h:Heap):Prop:=∃o vs,h.get? e=some o/\o.cls=.ref Ca/\o.data=.fields vs
noncomputable def ExcO (e Ca:Addr):HO:=.ext (ExcObj e Ca)
end
end L2
namespace L2
open PySem PySem.Spec PyProof.Rows PySem.W
structure XCls (K:Frag) (C:Addr):Prop where
 ga:findIn K (.ref C) "__getattribute__"=some (some (.builtin "BaseException.__getattribute__"))
 gt:findIn K (.ref C) "__getattr__"=some none
 cl:findIn K (.ref C) "__class__"=some (some (.builtin "object.__class__"))
 be:subIn K (.ref C) (.type "BaseException")=some true
 ob:subIn K (.ref C) (.type "object")=some true
 is:(clsIn K C).isSome=true
section
variable {prog:Program} {w:World} {A:Around} {E:Value->Shared->Prop} {K:Frag} {h:Heap} {g:Array GenState} {d:Drawn} {t:Nat} {os:OsState} {a C:Addr} {o:Obj}
end
end L2
namespace L2
open PySem PySem.Spec PyProof.Rows PySem.W
section
variable {X:Cx}
end
noncomputable def okIs:Option Int->Value->Bool
 |some k,v=>Value.isInt k v
 |none,.none=>true
 |none,_=>false
theorem okIs_shape:∀{k:Option Int} {v:Value},okIs k v=true->(∃i t,k=some i/\v=Value.int i t)\/(k=none/\v=Value.none)
 |some i,v,h=>by
  obtain⟨t,e⟩:=Value.isInt_shape (k:=i) (v:=v) h
  exact .inl ⟨i,t,rfl,e⟩
 |none,v,h=>by cases v<;>first|exact .inr ⟨rfl,rfl⟩|cases h
noncomputable def okH:Option Int->Int
 |some k=>hashInt k
 |none=>0xFCA86420
noncomputable def oKind (prog:Program) (w:World):PySem.KeyKind prog w (Option Int) where
 is:=okIs
 hash:=okH
 inj:=fun v a b ha hb=>by
  rcases okIs_shape ha with⟨i,t,rfl,rfl⟩|⟨rfl,rfl⟩
  .rcases okIs_shape hb with⟨j,u,rfl,e⟩|⟨rfl,e⟩
   .injection e with e1 _;rw[e1]
   .exact nomatch e
  .rcases okIs_shape hb with⟨j,u,rfl,e⟩|⟨rfl,e⟩
   .exact nomatch e
   .rfl
 byValue:=fun k v h=>by
  rcases okIs_shape h with⟨i,t,rfl,rfl⟩|⟨rfl,rfl⟩<;>rfl
 pyHash:=fun hv h=>by
  rcases okIs_shape hv with⟨i,t,rfl,rfl⟩|⟨rfl,rfl⟩
  .exact wpAny_pyHash_int h
  .exact hash_none h
 eqBool:=fun {A E s a b u v Q} hu hv h=>by
  rcases okIs_shape hu with⟨i,t,rfl,rfl⟩|⟨rfl,rfl⟩
  .rcases okIs_shape hv with⟨j,u,rfl,rfl⟩|⟨rfl,rfl⟩
   .have e:decide ((some i:Option Int)=some j)=(i == j):=by
     by_cases q:i=j
     .subst q;simp
     .rw[decide_eq_false (fun z=>q (Option.some.inj z)),(beq_eq_false_iff_ne.mpr q)]
    rw[e]at h
    exact wpAny_eqBool_int h
   .exact SeqAt.EqAt.int_none i t _ _ _ _ h
  .rcases okIs_shape hv with⟨j,u,rfl,rfl⟩|⟨rfl,rfl⟩
   .exact SeqAt.EqAt.none_int j u _ _ _ _ h
   .exact SeqAt.EqAt.same .none _ _ _ _ h
 «strs»:=fun k x t v h=>by
  rcases okIs_shape h with⟨i,u,rfl,e⟩|⟨rfl,e⟩<;>exact nomatch e
end L2
namespace PySem
open PyProof.Rows
section
variable {prog:Program} {w:World} {K:Type} [DecidableEq K] {knd:KeyKind prog w K}
variable {A:Around} {R:Result->Shared->Prop} {I:Addr} {fp wr:List Addr} {G:Array GenState->Array GenState->Prop} {n:Nat} {P:Nat->Value->Prop} {St:Nat->Shared->Prop}
end
section
variable {prog:Program} {w:World} {K:Type} [DecidableEq K] {knd:KeyKind prog w K} {A:Around} {E:Value->Shared->Prop} {s:Shared}
end
end PySem
namespace PySem
open PyProof.Rows
def Heap.IsSti (h:Heap) (a d:Addr) (f:Value) (i n ep:Nat):Prop:=∃o,h.get? a=some o/\o.cls=.type "set_iterator"/\o.data=.fields #[f,rawInt i,.ref d,rawInt n,rawInt ep]
theorem Heap.IsSti.at {h h':Heap} {a d:Addr} {f:Value} {i n ep:Nat} (x:h.IsSti a d f i n ep) (e:∀o,h.get? a=some o->h'.get? a=some o):h'.IsSti a d f i n ep:=let⟨o,ho,r⟩:=x;⟨o,e _ ho,r⟩
def Ord (bt:Bool) (w:World) (d ep:Nat) (es:Array (Int×Value)) (t:SetTable) (xs:Array Value) (h:Heap) (f:Value) (i:Nat):Prop:=
 (bt=true/\f=rawInt 0/\xs=(pickOrder (w.params.setOrder d ep) es).map (·.2))\/
 (bt=false/\(!t.plain&&decide (es.size > 1))=false/\Rsn t.place/\f=rawInt (if i=0 then 0 else((t.place.getD (i-1) 0+1:Nat):Int))/\xs=es.map (·.2))\/
 (bt=false/\∃(T:Addr) (pl:Array Nat),f=.ref T/\IsTup h T (pl.map fun(j:Nat)=>rawInt j)/\xs.size=pl.size/\∀(j p:Nat),pl[j]?=some p->∃x:Int×Value,es[p]?=some x/\xs[j]?=some x.2)
section
variable {prog:Program} {w:World} {A:Around} {E:Value->Shared->Prop} {s:Shared}
theorem Heap.IsSti.typeIs {a d:Addr} {f:Value} {i n ep:Nat} (x:s.heap.IsSti a d f i n ep):s.TypeIs (.ref a) "set_iterator":=let⟨o,ho,hc,_⟩:=x;⟨o,ho,hc⟩
theorem out_perm {α:Type}:∀(l:List α) (i:Nat) (h:i<l.length),(l[i] :: l.eraseIdx i).Perm l
 |a :: l,0,h=>List.Perm.refl _
 |a :: l,i+1,h=>by
  rw[List.eraseIdx_cons_succ,List.getElem_cons_succ]
  exact(List.Perm.swap a _ _).trans ((out_perm l i (by simpa using h)).cons a)
theorem pick_go {α:Type} (f:Nat->Nat):∀(n k:Nat) (l:List α) (out:Array α),n=l.length->(pickOrder.go f n k l out).toList.Perm (out.toList++l)
 |0,k,l,out,e=>by
  have:l=[]:=List.length_eq_zero_iff.mp e.symm
  subst this
  unfold pickOrder.go
  simp
 |n+1,k,l,out,e=>by
  unfold pickOrder.go
  have hl:f k % l.length<l.length:=Nat.mod_lt _ (by omega)
  rw[List.getElem?_eq_getElem hl]
  dsimp only
  refine(pick_go f n (k+1) _ _ (by rw[List.length_eraseIdx_of_lt hl];omega)).trans ?_
  rw[Array.toList_push,List.append_assoc]
  refine List.Perm.append_left _ ?_
  rw[List.singleton_append]
  exact out_perm l _ hl
theorem pick_perm {α:Type} (f:Nat->Nat) (xs:Array α):(pickOrder f xs).toList.Perm xs.toList:=by
 have:=pick_go f xs.size 0 xs.toList #[] (by simp)
 simpa[pickOrder]using this
end
end PySem
namespace PySem
open PyProof.Rows
section
variable {prog:Program} {w:World} {A:Around} {E:Value->Shared->Prop} {s:Shared}
end
end PySem
namespace PySem
open PyProof.Rows
section
variable {prog:Program} {w:World}
variable {A:Around} {E:Value->Shared->Prop} {s:Shared}
end
end PySem
namespace L2
open PySem PySem.Spec PyProof.Rows
structure CompInG {α:Type} (Is:α->Obj->Prop) (X:Cx) (e:Expr) (scope:Scope) (tg:Expr) (iter:Expr) (ifs:List Expr) (nx:Addr->Env->Sem Unit) (g:TG) (tc:TT) (rest:TL α) (own:List Nat):Prop where
 sc:CompSc X scope
 ow:∀i x,X.N[i]?=some x->(scope.names.lookup x=some .local\/scope.names.lookup x=some .cell)->i∈own
 cl:∃gs,clausesOf e=⟨tg,iter,ifs,0⟩ :: gs
 fs:∀x,foldedSetIterable iter X.env x=pure x
 calm:X.calm=true
 q:∀it D env,(Code.compLoop e 0 it (.ref D) env).quiet=true/\(Code.compStart e 0 it (.ref D) env).quiet=true
 u:∀A it D env,Around.under A (Code.compLoop e 0 it (.ref D) env)=A/\Around.under A (Code.compStart e 0 it (.ref D) env)=A
 T:∀P w it D env,(model P w).den (.compLoop e 0 it (.ref D) env)=(turnCode e 0 tg iter ifs (nx D env) it (.ref D) env).onRaise (fun x=>do noteFrame x env;theTreesLotGoes x)
 S:∀P w it D env,(model P w).den (.compStart e 0 it (.ref D) env)=(compStart e 0 it (.ref D) env).onRaise (fun x=>do noteFrame x env;standAt theWindowsPlace)
 ge:GExt own g
 inn:∀s0 H0 ex D,PG (X.comp scope s0 H0 ex) tg g/\PTs (X.comp scope s0 H0 ex) ifs tc/\∃ws',(∀j∈ws',j∈own)/\CompRun (X.comp scope s0 H0 ex) D Is ws' (nx D (X.comp scope s0 H0 ex).env) rest
section
variable {X:Cx} {e:Expr} {scope:Scope} {tg iter:Expr} {ifs:List Expr} {nx:Addr->Env->Sem Unit} {g:TG} {tc:TT} {α:Type} {Is:α->Obj->Prop} {rest:TL α} {own:List Nat} {wi:TI} {a0:α} {o0:Bool->Obj} {newAcc:Sem Value} {ho:Addr->α->HO} {ok:α->Hp->Prop}
end
section
variable {X:Cx} {e:Expr} {scope:Scope} {tg iter:Expr} {ifs:List Expr} {nx:Addr->Env->Sem Unit} {g:TG} {tc:TT} {α:Type} {Is:α->Obj->Prop} {rest:TL α} {own:List Nat} {wi:TI} {a0:α} {o0:Bool->Obj} {newAcc:Sem Value} {ho:Addr->α->HO} {ok:α->Hp->Prop}
end
noncomputable def kO:Option Int->V
 |some i=>.int i
 |none=>.non
theorem kO_is {P:Program} {w:World} {k:Option Int} {u:Value} (r:RelV (kO k) u):(oKind P w).is k u=true/\u.scannable=true:=by
 cases k with
 |none=>cases r;exact⟨rfl,rfl⟩
 |some i=>
  obtain⟨t,rfl⟩:=r
  exact⟨by show Value.isInt i (.int i t)=true;simp[Value.isInt],rfl⟩
def IsS (a:(Option Int->Bool)×Nat) (o:Obj):Prop:=a.2<=4000/\(∃es ep t,o.data=.set es ep t)/\∃m,m<=a.2/\∀(P:Program) (w:World),o.SetObjOf (oKind P w) a.1 m
noncomputable def SetO (D:Addr) (S:Option Int->Bool) (n:Nat):HO:=.ext fun h=>∃o,h.get? D=some o/\IsS (S,n) o
section
variable {X:Cx}
theorem isS_at {s:Shared} {D:Addr} {a:(Option Int->Bool)×Nat} {o:Obj} (e:s.heap.get? D=some o) (i:IsS a o):∃m,m<=a.2/\s.heap.SetOf (oKind X.prog X.w) D a.1 m:=by
 obtain⟨hn,_,m,hm,h⟩:=i
 exact⟨m,hm,(h X.prog X.w).setOf e (Nat.lt_of_le_of_lt (Nat.le_trans hm hn) (by decide))⟩
noncomputable def rInO (neg:Bool):R2:=fun x y H Q=>∃k D S n,x=kO k/\y=.ref D/\H D=some (SetO D S n)/\Q (.bl (if neg then !(S k)else S k)) H
theorem op_inO:OpR X (compareOp .In) (rInO false):=by
 intro pins s σ H x y v u Q I rx ry h
 obtain⟨k,D,S,n,rfl,rfl,hD,q⟩:=h
 cases ry
 obtain⟨o,e,i⟩:=(show ObjOk X.prog X.w H s.heap D (SetO D S n) from I.hok D _ hD).1
 obtain⟨m,_,hS⟩:=isS_at (X:=X) e i
 exact wpAny_inSet_of (kO_is rx).1 (kO_is (P:=X.prog) (w:=X.w) rx).2 hS ⟨.bl (S k),H,I.tok _,rfl,q⟩
theorem op_notInO:OpR X (compareOp .NotIn) (rInO true):=by
 intro pins s σ H x y v u Q I rx ry h
 obtain⟨k,D,S,n,rfl,rfl,hD,q⟩:=h
 cases ry
 obtain⟨o,e,i⟩:=(show ObjOk X.prog X.w H s.heap D (SetO D S n) from I.hok D _ hD).1
 obtain⟨m,_,hS⟩:=isS_at (X:=X) e i
 exact wpAny_notInSet_of (kO_is rx).1 (kO_is (P:=X.prog) (w:=X.w) rx).2 hS ⟨.bl (!S k),H,I.tok _,rfl,q⟩
end
noncomputable abbrev NH:Int:=0xFCA86420
section
variable {prog:Program} {w:World} {A:Around} {E:Value->Shared->Prop} {s:Shared}
end
theorem pairs_mem {P:Program} {w:World} {k:Key}:∀{es:List DictEntry} {vs:List (Key×Value)} {en:DictEntry},Pairs (mixKind P w) es vs->en∈es->(mixKind P w).is k en.key=true->k∈vs.map (·.1)
 |_,_,_,.nil,h,_=>by cases h
 |_,_,en,.cons (e:=e) (kv:=kv) h1 h2 r,h,hk=>by
  rcases List.mem_cons.mp h with rfl|h
  .rw[(mixKind P w).inj _ _ _ hk h1]
   exact List.mem_cons_self
  .exact List.mem_cons_of_mem _ (pairs_mem r h hk)
theorem paired_mem_r {α β:Type} {F:α->β->Prop}:∀{xs:List α} {ys:List β} {y:β},Paired F xs ys->y∈ys->∃x∈xs,F x y
 |_,_,_,.nil,h=>by cases h
 |_,_,y,.cons h1 r,h=>by
  rcases List.mem_cons.mp h with rfl|h
  .exact⟨_,List.mem_cons_self,h1⟩
  .obtain⟨x,hx,hf⟩:=paired_mem_r r h
   exact⟨x,List.mem_cons_of_mem _ hx,hf⟩
def NoN (H:Hp) (a:Addr):Prop:=(∃kvs,H a=some (.dK kvs)/\∀kv∈kvs,∃i:Int,kv.1=.inl i/\hashInt i≠NH)\/
 ∃kvs,H a=some (.dT kvs)/\∀kv∈kvs,∃is:List Int,kv.1=is.map Key.inl/\reduceHash (Builtin.Tuple.tupleHashOf (is.map hashInt))≠NH
theorem NoN.at {X:Cx} {pins:List (Addr×Obj)} {σ:St} {H:Hp} {s:Shared} {a:Addr} (I:Inv X pins σ H s) (h:NoN H a):(a == sysModules)=false/\s.TypeIs (.ref a) "dict"/\∃o es ep,s.heap.get? a=some o/\o.data=.dict es ep/\∀e∈es.toList,e.hash≠NH:=by
 rcases h with⟨kvs,e,hk⟩|⟨kvs,e,hk⟩
 .obtain⟨z,hd,vs,rel,dd⟩:=dk_of I.hok e
  refine⟨hd,dd.typeIs,?_⟩
  obtain⟨o,es,ep,h1,_,h3,h4,h5,_⟩:=dd
  refine⟨o,es,ep,h1,h3,fun en hen=>?_⟩
  obtain⟨k,hk1,hk2⟩:=h4 en (Array.mem_toList_iff.mp hen)
  have hin:k∈kvs.map (·.1):=by
   rw[rel.keys]
   exact pairs_mem h5 hen hk1
  obtain⟨kv,hkv,rfl⟩:=List.mem_map.mp hin
  obtain⟨i,ei,hi⟩:=hk kv hkv
  rw[hk2,ei]
  exact hi
 .obtain⟨z,hd,xs,rel,dd⟩:=dt_of I.hok e
  refine⟨hd,dd.typeIs,?_⟩
  obtain⟨o,es,ep,h1,_,h3,h4,_⟩:=dd
  refine⟨o,es,ep,h1,h3,fun en hen=>?_⟩
  rw[h4]at hen
  obtain⟨x,hx,rfl⟩:=List.mem_map.mp hen
  obtain⟨kv,hkv,hp⟩:=paired_mem_r rel hx
  obtain⟨is,ei,hi⟩:=hk kv hkv
  show(tupleKind (mixKind X.prog X.w)).hash x.1≠NH
  rw[<- hp.1,ei]
  show reduceHash (Builtin.Tuple.tupleHashOf ((is.map Key.inl).map (mixKind X.prog X.w).hash))≠NH
  rw[List.map_map]
  exact hi
section
variable {X:Cx}
end
section
variable {X:Cx}
end
noncomputable def tInX (neg:Bool) (ty td:TE):TE:=fun σ H Q=>ty σ H fun y H1=>td σ H1 fun x H2=>(∃a o,x=.ref a/\DGet H2 a y o/\Q (.bl (if neg then !o.isSome else o.isSome)) H2)\/rInO neg y x H2 Q
section
variable {X:Cx} {o e f i:Expr} {apos cpos:Pos} {td ty tx:TE}
theorem pc_inX (hu:X.A.units+1<cLine) (hi:PE X i ty) (ho:PE X o td):PC X .In i o (tInX false ty td):=by
 intro pins s σ H Q I h
 refine thn (hi pins s σ H _ I h) fun iv s1 ⟨y,H1,I1,ry,q1⟩=>thn (ho pins s1 σ H1 _ I1 q1) fun u s2 ⟨x,H2,I2,rx,q2⟩=>?_
 rcases q2 with⟨a,ov,ex,g,q2⟩|q2
 .subst ex
  obtain rfl:u=Value.ref a:=rx
  exact d_in hu I2 g ry fun s3 I3=>⟨.bl ov.isSome,H2,I3,rfl,q2⟩
 .exact op_inO pins s2 σ H2 y x iv u Q I2 ry rx q2
theorem pc_notInX (hu:X.A.units+1<cLine) (hi:PE X i ty) (ho:PE X o td):PC X .NotIn i o (tInX true ty td):=by
 intro pins s σ H Q I h
 refine thn (hi pins s σ H _ I h) fun iv s1 ⟨y,H1,I1,ry,q1⟩=>thn (ho pins s1 σ H1 _ I1 q1) fun u s2 ⟨x,H2,I2,rx,q2⟩=>?_
 rcases q2 with⟨a,ov,ex,g,q2⟩|q2
 .subst ex
  obtain rfl:u=Value.ref a:=rx
  exact d_notIn hu I2 g ry fun s3 I3=>⟨.bl (!ov.isSome),H2,I3,rfl,q2⟩
 .exact op_notInO pins s2 σ H2 y x iv u Q I2 ry rx q2
end
section
variable {X:Cx} {e:Expr} {scope:Scope} {tg iter:Expr} {ifs:List Expr} {nx:Addr->Env->Sem Unit} {g:TG} {tc:TT} {own:List Nat} {wi:TI}
end
section
variable {prog:Program} {w:World} {A:Around} {E:Value->Shared->Prop} {s:Shared}
end
section
variable {X:Cx}
variable {e:Expr} {scope:Scope} {tg iter:Expr} {ifs:List Expr} {nx:Addr->Env->Sem Unit} {g:TG} {tc:TT} {rest:TL ((Option Int->Bool)×Nat)} {own:List Nat} {wi:TI}
end
section
variable {prog:Program} {w:World} {A:Around} {E:Value->Shared->Prop} {s:Shared}
end
section
variable {X:Cx}
end
section
variable {prog:Program} {w:World} {A:Around} {E:Value->Shared->Prop} {s:Shared}
end
section
variable {X:Cx}
end
end L2
namespace R3
open PySem PySem.Spec PyProof.Rows L2
inductive Bf where
 |len|abs|int|isinstance|all|list|tuple|range|lenD
 deriving DecidableEq
inductive Mf where
 |append|clear|join|insert|indexL
 deriving DecidableEq
inductive Xf where
 |eqT|inR|notInR
 deriving DecidableEq
inductive Zf where
 |eqB|ninB|ltS
 deriving DecidableEq
inductive Yf where
 |strd|ltx
 deriving DecidableEq
mutual
inductive Ce where
 |var (i:Nat)|int (n:Int)|bl (b:Bool)|non|str (x:Str)|ty (n:String)
 |bin (op:Operator) (a b:Ce)
 |neg (a:Ce)|not (a:Ce)
 |and (a b:Ce)|or (a b:Ce)
 |cmp (op:CmpOp) (a b:Ce)
 |ife (q:Cq) (a b:Ce)
 |tup (es:Ces)|lst (es:Ces)
 |idx (a b:Ce)
 |cut (a:Ce) (lo hi:Co)
 |call (f:Str) (es:Ces)
 |blt (f:Bf) (es:Ces)
 |met (m:Mf) (o:Ce) (es:Ces)
 |comp (elt:Ce) (own:List Nat) (t:Ct) (it:Ci) (q:Cqo) (r:Cc)
 |dnt|dix (a b:Ce)|din (neg:Bool) (a b:Ce)
inductive Ces where
 |nil|cons (e:Ce) (r:Ces)
inductive Cq where
 |val (e:Ce)|not (q:Cq)|and (a b:Cq)|or (a b:Cq)|cmp (op:CmpOp) (a b:Ce)|din (neg:Bool) (a b:Ce)
inductive Cqo where
 |none|some (q:Cq)
inductive Co where
 |none|some (e:Ce)
inductive Ci where
 |val (e:Ce)|range1 (a:Ce)|zip (a b:Ce)|enum (a:Ce)|range3 (a b c:Ce)
inductive Ct where
 |name (i:Nat)|tup (ts:Cts)|sub (o i:Ce)
inductive Cts where
 |nil|cons (t:Ct) (r:Cts)
inductive Cc where
 |nil|cons (ws:List Nat) (t:Ct) (it:Ci) (q:Cqo) (r:Cc)
end
mutual
inductive Cs where
 |expr (e:Ce)|ret (e:Ce)|asg (t:Ct) (e:Ce)
 |ite (q:Cq) (a b:Css)|whl (q:Cq) (b:Css)|for_ (t:Ct) (it:Ci) (b:Css)|dput (o i e:Ce)
inductive Css where
 |nil|cons (s:Cs) (r:Css)
end
def CShl (i j:Int):Prop:=0<=j/\j<=1000000/\i.natAbs<2 ^ 100
def CDivW (_ j:Int):Prop:=0<j/\(j<1073741824\/j.natAbs.log2<9000)
def CMulW (i j:Int):Prop:=(-(2 ^ 64)<i/\i<2 ^ 64)\/(-(2 ^ 64)<j/\j<2 ^ 64)\/IntMulOk i j
section
variable (K:W.Frag)
noncomputable def rBin:Operator->R2
 | .Add=>fun x y H Q=>match x,y with
  | .int i,.int j=>Q (.int (i+j)) H
  | .str i,.str j=>i.length+j.length<=sizeLine/\Q (.str (i++j)) H
  |x,y=>rCat x y H Q\/rCatT K x y H Q\/rCatT0 K x y H Q
 | .Sub=>rI0 fun i j=>.int (i-j)
 | .Mult=>fun x y H Q=>match x,y with
  | .int i,.int j=>CMulW i j/\Q (.int (i*j)) H
  | .str a,.int n=>-1000000<=n/\n<=1000000/\a.length*n.toNat<=1000000/\Q (.str (Txt.mul a n)) H
  |x,y=>rRep x y H Q
 | .Mod=>rI (fun _ j=>0<j) fun i j=>.int (i % j)
 | .FloorDiv=>rI CDivW fun i j=>.int (i / j)
 | .Pow=>rI CPow fun i j=>.int (i ^ j.toNat)
 | .LShift=>rI CShl fun i j=>.int (i*2 ^ j.toNat)
 | .RShift=>rI (fun _ j=>0<=j) fun i j=>.int (i / 2 ^ j.toNat)
 | .BitAnd=>rI (fun i j=>0<=i/\j=1) fun i _=>.int (i % 2)
 |_=>fun _ _ _ _=>False
noncomputable def rCmp:CmpOp->R2
 | .Eq=>fun x y H Q=>match x,y with
  | .ref a,.ref b=>rEqL K false (.ref a) (.ref b) H Q\/rEqD false (.ref a) (.ref b) H Q
  |x,y=>rEq x y H Q
 | .NotEq=>fun x y H Q=>match x,y with
  | .ref a,.ref b=>rEqL K true (.ref a) (.ref b) H Q\/rEqD true (.ref a) (.ref b) H Q
  |x,y=>rNe x y H Q
 | .Lt=>rI0 fun i j=>.bl (decide (i<j))
 | .LtE=>rI0 fun i j=>.bl (decide (i<=j))
 | .Gt=>fun x y H Q=>match x with
  | .str a=>rGtS (.str a) y H Q
  |x=>rI0 (fun i j=>.bl (decide (j<i))) x y H Q
 | .GtE=>rI0 fun i j=>.bl (decide (j<=i))
 | .Is=>fun x y H Q=>match y with
  | .bl b=>rIsB false x (.bl b) H Q
  |y=>y=.non/\Q (.bl (decide (x=.non))) H
 | .IsNot=>fun x y H Q=>match y with
  | .bl b=>rIsB true x (.bl b) H Q
  |y=>y=.non/\Q (.bl (!decide (x=.non))) H
 | .In=>fun x y H Q=>match y with
  | .str b=>rInS false x (.str b) H Q
  |y=>rIn K false x y H Q
 | .NotIn=>fun x y H Q=>match y with
  | .str b=>rInS true x (.str b) H Q
  |y=>rIn K true x y H Q
noncomputable def rBlt:Bf->List V->Hp->VK->Prop
 | .len=>fun xs H Q=>∃x n,xs=[x]/\LenV K x H n/\Q (.int n) H
 | .abs=>fun xs H Q=>∃i,xs=[.int i]/\Q (.int (if i<0 then -i else i)) H
 | .int=>fun xs H Q=>match xs with
  | [.int i]=>Q (.int i) H
  | [.bl k]=>Q (.int (if k then 1 else 0)) H
  | [.str x]=>∃n,PySem.intText? x=some n/\x.length<=640/\Q (.int n) H
  | [.str x,.int j]=>j=2/\∃n,B2 x n/\Q (.int n) H
  |_=>False
 | .isinstance=>fun xs H Q=>rIsi xs H Q\/False
 | .all=>rAll K false
 | .list=>fun xs H Q=>(∃p ys,xs=[.ref p]/\(SqL K H p ys\/SqT K H p ys)/\∀l,H l=none->Q (.ref l) (upd H l (.lst ys)))\/rLrg xs H Q
 | .range=>rRng
 | .lenD=>rLenDT
 | .tuple=>fun xs H Q=>∃p ys,xs=[.ref p]/\((SqL K H p ys/\∀l,H l=none->Q (.ref l) (upd H l (.tup ys)))\/(SqT K H p ys/\Q (.ref p) H))
noncomputable def rMet:Mf->V->List V->Hp->VK->Prop
 | .append=>rAppend
 | .clear=>rClear
 | .join=>rJoin K
 | .insert=>rInsert
 | .indexL=>rIndexL K
noncomputable def metTy:Mf->String
 | .join=>"str"
 |_=>"list"
noncomputable def metName:Mf->Str
 | .append=>"append"
 | .clear=>"clear"
 | .join=>"join"
 | .insert=>"insert"
 | .indexL=>"index"
noncomputable def bltName:Bf->Str
 | .len=>"len"
 | .abs=>"abs"
 | .int=>"int"
 | .isinstance=>"isinstance"
 | .all=>"all"
 | .list=>"list"
 | .tuple=>"tuple"
 | .range=>"range"
 | .lenD=>"len"
noncomputable def rIxM:R2:=fun x y H Q=>match x,y with
 | .str z,.int i=>z.length<=sizeLine/\∃c,atI z.cps.toList i=some c/\Q (.str ⟨#[c]⟩) H
 |x,y=>rIxL K x y H Q\/rIxT K x y H Q
noncomputable def rSl:V->Option Int->Option Int->Hp->VK->Prop:=fun x lo hi H Q=>match x with
 | .str a=>a.length<=sizeLine/\Q (.str (Txt.slice a lo hi)) H
 |x=>rSlL K x lo hi H Q\/rSlT K x lo hi H Q\/rSlW K x lo hi H Q
end
noncomputable def rZf:Zf->R2
 | .eqB=>rEqB false
 | .ninB=>rNinB
 | .ltS=>fun x y H Q=>∃i j,x=.str i/\y=.str j/\Q (.bl (decide (i.cps.toList<j.cps.toList))) H
structure Rc where
 N:List Str
 B:List Str
 K:W.Frag
 fs:Str->Option Sp
 xk:L2.St->XK:=fun _=>E0
 cl:Str->Option Addr:=fun _=>none
noncomputable def tDinB (neg:Bool) (ty td:TE):TE:=tInX neg ty td
noncomputable def lenTs:Cts->Nat
 | .nil=>0
 | .cons _ r=>lenTs r+1
mutual
noncomputable def tE (C:Rc):Ce->TE
 | .var i=>tVar i
 | .int n=>tC (.int n)
 | .bl b=>tC (.bl b)
 | .non=>tC .non
 | .str x=>tC (.str x)
 | .ty n=>tC (.ty n)
 | .bin op a b=>tOp (rBin C.K op) (tE C a) (tE C b)
 | .neg a=>tUn (rU fun i=>.int (-i)) (tE C a)
 | .not a=>tNotV (tE C a)
 | .and a b=>tAndV (tE C a) (tE C b)
 | .or a b=>tOrV (tE C a) (tE C b)
 | .cmp op a b=>tOp (rCmp C.K op) (tE C a) (tE C b)
 | .ife q a b=>tIf (tQ C q) (tE C a) (tE C b)
 | .tup es=>tTup (tA C es)
 | .lst es=>tLst (tA C es)
 | .idx a b=>tOp (rIxM C.K) (tE C a) (tE C b)
 | .cut a lo hi=>tSl (rSl C.K) (tE C a) (tO C lo) (tO C hi)
 | .call f es=>fun σ H Q=>match C.fs f with
  |some sp=>tCall sp [] (C.xk σ) (tA C es) σ H Q
  |none=>False
 | .blt f es=>tCB (rBlt C.K f) (tA C es)
 | .met m o es=>tBM C.K (metTy m) (rMet C.K m) (tE C o) (tA C es)
 | .dnt=>tDNewT
 | .dix a b=>tDGet (tE C a) (tE C b)
 | .din neg a b=>tDinB neg (tE C a) (tE C b)
 | .comp elt own t it q r=>tComp own (tI C it) (tG C t) (tQo C q) (tR C r (tEmit (tE C elt)))
noncomputable def tA (C:Rc):Ces->TA
 | .nil=>tNil
 | .cons e r=>tCons (tE C e) (tA C r)
noncomputable def tQ (C:Rc):Cq->TT
 | .val e=>fun σ H Q=>tE C e σ H fun x H'=>∃k,TruV C.K x H' k/\Q k H'
 | .not q=>tNot (tQ C q)
 | .and a b=>tAnd (tQ C a) (tQ C b)
 | .or a b=>tOr (tQ C a) (tQ C b)
 | .cmp op a b=>tTest (tOp (rCmp C.K op) (tE C a) (tE C b))
 | .din neg a b=>tTest (tDinB neg (tE C a) (tE C b))
noncomputable def tQo (C:Rc):Cqo->TT
 | .none=>fun _ H Q=>Q true H
 | .some q=>tQ C q
noncomputable def tO (C:Rc):Co->TO
 | .none=>tNoPart
 | .some e=>tPart (tE C e)
noncomputable def tI (C:Rc):Ci->TI
 | .val e=>iVal C.K (tE C e)
 | .range1 a=>iRng1 (tCons (tE C a) tNil)
 | .zip a b=>iZip C.K (tCons (tE C a) (tCons (tE C b) tNil))
 | .enum a=>iEnum C.K (tE C a)
 | .range3 a b c=>iRng3 (tCons (tE C a) (tCons (tE C b) (tCons (tE C c) tNil)))
noncomputable def tG (C:Rc):Ct->TG
 | .name i=>gName i
 | .tup ts=>gSeq C.K (lenTs ts) (tGs C ts)
 | .sub o i=>gSub (tE C o) (tE C i) rSetL
noncomputable def tGs (C:Rc):Cts->TGs
 | .nil=>gNil
 | .cons t r=>gCons (tG C t) (tGs C r)
noncomputable def tR (C:Rc):Cc->TL (List V)->TL (List V)
 | .nil,em=>em
 | .cons ws t it q r,em=>tNest (tI C it) (tClause ws (tG C t) (tQo C q) (tR C r em))
end
mutual
noncomputable def tS (C:Rc):Cs->TS
 | .expr e=>tDrop (tE C e)
 | .ret e=>tRet (tE C e)
 | .asg t e=>tAsg (tE C e) (tG C t)
 | .ite q a b=>tIfS (tQ C q) (tSs C a) (tSs C b)
 | .whl q b=>tWhile (tQ C q) (tSs C b)
 | .for_ t it b=>tFor (tI C it) (tG C t) (tSs C b)
 | .dput o i e=>sDPut (tE C o) (tE C i) (tE C e)
noncomputable def tSs (C:Rc):Css->TS
 | .nil=>tNext
 | .cons s r=>tSeq (tS C s) (tSs C r)
end
noncomputable def vis (sc:Scope) (x:Str):Bool:=match sc.names.lookup x with
 |some .local=>true
 |some .cell=>true
 |some .free=>true
 |_=>false
noncomputable def locb (sc:Scope) (x:Str):Bool:=match sc.names.lookup x with
 |some .local=>true
 |some .cell=>true
 |_=>false
noncomputable def glb (sc:Scope) (x:Str):Bool:=decide (sc.names.lookup x=some .globalImplicit)
noncomputable def nameOk (N:List Str) (i:Nat) (x:Str):Bool:=decide (N[i]?=some x)&&!(x == ("__debug__":Str))&&!(x == ("__classdict__":Str))
noncomputable def notStar:Expr->Bool
 | .Starred ..=>false
 |_=>true
noncomputable def okIter:Expr->Bool
 | .Set ..=>false
 |_=>true
noncomputable def notSlice:Expr->Bool
 | .Slice ..=>false
 |_=>true
noncomputable def baseOk:Expr->Bool
 | .Call _ [] _ _=>false
 |_=>true
noncomputable def plainT:Expr->Bool
 | .UnaryOp .Not _ _=>false
 | .BoolOp ..=>false
 | .IfExp ..=>false
 | .Compare ..=>false
 |_=>true
noncomputable def typeNames:List String:=["list","tuple","str","bool","int","dict","ValueError"]
noncomputable def scOk (N:List Str) (sc scope:Scope) (own:List Nat):Bool:=
 decide (scope.kind=.function)&&
 scope.names.all (fun x=>(decide (x.2≠.local) || decide (scope.names.lookup x.1=some .local))&&(decide (x.2≠.cell) || decide (scope.names.lookup x.1=some .cell))&&
  (decide (x.2≠.free) || decide (sc.names.lookup x.1=some .cell) || decide (sc.names.lookup x.1=some .free)))&&
 (List.range N.length).all (fun i=>match N[i]? with
  |some x=>(decide (scope.names.lookup x≠some .local)&&decide (scope.names.lookup x≠some .cell)) || decide (i∈own)
  |none=>true)
noncomputable def zipT:Ci->Expr->Bool
 | .zip _ _,.Tuple ..=>true
 | .zip _ _,_=>false
 | .enum _,.Tuple ..=>true
 | .enum _,_=>false
 |_,_=>true
mutual
noncomputable def tOwn (own:List Nat):Ct->Bool
 | .name i=>decide (i∈own)
 | .tup ts=>tOwns own ts
 | .sub _ _=>false
noncomputable def tOwns (own:List Nat):Cts->Bool
 | .nil=>true
 | .cons t r=>tOwn own t&&tOwns own r
end
noncomputable def tld (B:List Str):Bool:=decide (("~":Str)∈B)
noncomputable def hat (B:List Str):Bool:=decide (("^":Str)∈B)
noncomputable def pct (B:List Str):Bool:=decide (("%":Str)∈B)
noncomputable def bang (x:Str):Str:=⟨#[33]++x.cps⟩
theorem no_tt {P:Prop} (h:false=true):P:=(Bool.false_ne_true h).elim
theorem band {a b:Bool} (h:(a&&b)=true):a=true/\b=true:=by
 cases a with
 |true=>exact⟨rfl,h⟩
 |false=>exact no_tt h
noncomputable def vAnd (e:Expr) (f:Expr->Expr->Bool):Bool:=match e with
 | .BoolOp .And [x,y] _=>f x y
 | .BoolOp .And (x :: y :: z :: r) pos=>f x (.BoolOp .And (y :: z :: r) pos)
 |_=>false
theorem vAnd_of {e:Expr} {f:Expr->Expr->Bool} (h:vAnd e f=true):(∃x y pos,e=.BoolOp .And [x,y] pos/\f x y=true)\/∃x y z r pos,e=.BoolOp .And (x :: y :: z :: r) pos/\f x (.BoolOp .And (y :: z :: r) pos)=true:=by
 cases e with
 |BoolOp o vs pos=>
  cases o with
  |And=>
   cases vs with
   |nil=>exact no_tt h
   |cons x r=>
    cases r with
    |nil=>exact no_tt h
    |cons y r=>
     cases r with
     |nil=>exact .inl ⟨x,y,pos,rfl,h⟩
     |cons z r=>exact .inr ⟨x,y,z,r,pos,rfl,h⟩
  |_=>exact no_tt h
 |_=>exact no_tt h
noncomputable def vOr (e:Expr) (f:Expr->Expr->Bool):Bool:=match e with
 | .BoolOp .Or [x,y] _=>f x y
 | .BoolOp .Or (x :: y :: z :: r) pos=>f x (.BoolOp .Or (y :: z :: r) pos)
 |_=>false
theorem vOr_of {e:Expr} {f:Expr->Expr->Bool} (h:vOr e f=true):(∃x y pos,e=.BoolOp .Or [x,y] pos/\f x y=true)\/∃x y z r pos,e=.BoolOp .Or (x :: y :: z :: r) pos/\f x (.BoolOp .Or (y :: z :: r) pos)=true:=by
 cases e with
 |BoolOp o vs pos=>
  cases o with
  |Or=>
   cases vs with
   |nil=>exact no_tt h
   |cons x r=>
    cases r with
    |nil=>exact no_tt h
    |cons y r=>
     cases r with
     |nil=>exact .inl ⟨x,y,pos,rfl,h⟩
     |cons z r=>exact .inr ⟨x,y,z,r,pos,rfl,h⟩
  |_=>exact no_tt h
 |_=>exact no_tt h
noncomputable def w_nil {α:Type} (z:List α) (f:Bool):Bool:=match z with
 | []=>f
 |_=>false
theorem w_nil_of {α:Type} {z:List α} {f:Bool} (h:w_nil z f=true):z=[]/\f=true:=by
 cases z with
 |nil=>exact⟨rfl,h⟩
 |_=>exact no_tt h
noncomputable def w_cons {α:Type} (z:List α) (f:α->List α->Bool):Bool:=match z with
 |x :: r=>f x r
 |_=>false
theorem w_cons_of {α:Type} {z:List α} {f:α->List α->Bool} (h:w_cons z f=true):∃x r,z=x :: r/\f x r=true:=by
 cases z with
 |cons x r=>exact⟨x,r,rfl,h⟩
 |_=>exact no_tt h
noncomputable def w_none {α:Type} (z:Option α) (f:Bool):Bool:=match z with
 |none=>f
 |_=>false
theorem w_none_of {α:Type} {z:Option α} {f:Bool} (h:w_none z f=true):z=none/\f=true:=by
 cases z with
 |none=>exact⟨rfl,h⟩
 |_=>exact no_tt h
noncomputable def w_some {α:Type} (z:Option α) (f:α->Bool):Bool:=match z with
 |some x=>f x
 |_=>false
theorem w_some_of {α:Type} {z:Option α} {f:α->Bool} (h:w_some z f=true):∃x,z=some x/\f x=true:=by
 cases z with
 |some x=>exact⟨x,rfl,h⟩
 |_=>exact no_tt h
noncomputable def w_gen (z:Comprehension) (f:Expr->Expr->List Expr->Int->Bool):Bool:=f z.target z.iter z.ifs z.is_async
theorem w_gen_of {z:Comprehension} {f:Expr->Expr->List Expr->Int->Bool} (h:w_gen z f=true):∃a b c d,z=⟨a,b,c,d⟩/\f a b c d=true:=by
 cases z
 exact⟨_,_,_,_,rfl,h⟩
noncomputable def wE_Name (z:Expr) (f:Str->Pos->Bool):Bool:=match z with
 | .Name x0 x1=>f x0 x1
 |_=>false
theorem wE_Name_of {z f} (h:wE_Name z f=true):∃x0 x1,z=.Name x0 x1/\f x0 x1=true:=by
 cases z with
 |Name x0 x1=>exact⟨x0,x1,rfl,h⟩
 |_=>exact no_tt h
noncomputable def wE_Constant (z:Expr) (f:Const->Nat->Pos->Bool):Bool:=match z with
 | .Constant x0 x1 x2=>f x0 x1 x2
 |_=>false
theorem wE_Constant_of {z f} (h:wE_Constant z f=true):∃x0 x1 x2,z=.Constant x0 x1 x2/\f x0 x1 x2=true:=by
 cases z with
 |Constant x0 x1 x2=>exact⟨x0,x1,x2,rfl,h⟩
 |_=>exact no_tt h
noncomputable def wC_int (z:Const) (f:Int->Bool):Bool:=match z with
 | .int x0=>f x0
 |_=>false
theorem wC_int_of {z f} (h:wC_int z f=true):∃x0,z=.int x0/\f x0=true:=by
 cases z with
 |int x0=>exact⟨x0,rfl,h⟩
 |_=>exact no_tt h
noncomputable def wC_bool (z:Const) (f:Bool->Bool):Bool:=match z with
 | .bool x0=>f x0
 |_=>false
theorem wC_bool_of {z f} (h:wC_bool z f=true):∃x0,z=.bool x0/\f x0=true:=by
 cases z with
 |bool x0=>exact⟨x0,rfl,h⟩
 |_=>exact no_tt h
noncomputable def wC_none (z:Const) (f:Bool):Bool:=match z with
 | .none=>f
 |_=>false
theorem wC_none_of {z f} (h:wC_none z f=true):z=.none/\f=true:=by
 cases z with
 |none=>exact⟨rfl,h⟩
 |_=>exact no_tt h
noncomputable def wC_str (z:Const) (f:Str->Bool):Bool:=match z with
 | .str x0=>f x0
 |_=>false
theorem wC_str_of {z f} (h:wC_str z f=true):∃x0,z=.str x0/\f x0=true:=by
 cases z with
 |str x0=>exact⟨x0,rfl,h⟩
 |_=>exact no_tt h
noncomputable def wE_BinOp (z:Expr) (f:Expr->Operator->Expr->Pos->Bool):Bool:=match z with
 | .BinOp x0 x1 x2 x3=>f x0 x1 x2 x3
 |_=>false
theorem wE_BinOp_of {z f} (h:wE_BinOp z f=true):∃x0 x1 x2 x3,z=.BinOp x0 x1 x2 x3/\f x0 x1 x2 x3=true:=by
 cases z with
 |BinOp x0 x1 x2 x3=>exact⟨x0,x1,x2,x3,rfl,h⟩
 |_=>exact no_tt h
noncomputable def wE_UnaryOp (z:Expr) (f:UnaryOp->Expr->Pos->Bool):Bool:=match z with
 | .UnaryOp x0 x1 x2=>f x0 x1 x2
 |_=>false
theorem wE_UnaryOp_of {z f} (h:wE_UnaryOp z f=true):∃x0 x1 x2,z=.UnaryOp x0 x1 x2/\f x0 x1 x2=true:=by
 cases z with
 |UnaryOp x0 x1 x2=>exact⟨x0,x1,x2,rfl,h⟩
 |_=>exact no_tt h
noncomputable def wU_USub (z:UnaryOp) (f:Bool):Bool:=match z with
 | .USub=>f
 |_=>false
theorem wU_USub_of {z f} (h:wU_USub z f=true):z=.USub/\f=true:=by
 cases z with
 |USub=>exact⟨rfl,h⟩
 |_=>exact no_tt h
noncomputable def wU_Not (z:UnaryOp) (f:Bool):Bool:=match z with
 | .Not=>f
 |_=>false
theorem wU_Not_of {z f} (h:wU_Not z f=true):z=.Not/\f=true:=by
 cases z with
 |Not=>exact⟨rfl,h⟩
 |_=>exact no_tt h
noncomputable def wE_Compare (z:Expr) (f:Expr->List CmpOp->List Expr->Pos->Bool):Bool:=match z with
 | .Compare x0 x1 x2 x3=>f x0 x1 x2 x3
 |_=>false
theorem wE_Compare_of {z f} (h:wE_Compare z f=true):∃x0 x1 x2 x3,z=.Compare x0 x1 x2 x3/\f x0 x1 x2 x3=true:=by
 cases z with
 |Compare x0 x1 x2 x3=>exact⟨x0,x1,x2,x3,rfl,h⟩
 |_=>exact no_tt h
noncomputable def wE_IfExp (z:Expr) (f:Expr->Expr->Expr->Pos->Bool):Bool:=match z with
 | .IfExp x0 x1 x2 x3=>f x0 x1 x2 x3
 |_=>false
theorem wE_IfExp_of {z f} (h:wE_IfExp z f=true):∃x0 x1 x2 x3,z=.IfExp x0 x1 x2 x3/\f x0 x1 x2 x3=true:=by
 cases z with
 |IfExp x0 x1 x2 x3=>exact⟨x0,x1,x2,x3,rfl,h⟩
 |_=>exact no_tt h
noncomputable def wE_Tuple (z:Expr) (f:List Expr->Nat->Pos->Bool):Bool:=match z with
 | .Tuple x0 x1 x2=>f x0 x1 x2
 |_=>false
theorem wE_Tuple_of {z f} (h:wE_Tuple z f=true):∃x0 x1 x2,z=.Tuple x0 x1 x2/\f x0 x1 x2=true:=by
 cases z with
 |Tuple x0 x1 x2=>exact⟨x0,x1,x2,rfl,h⟩
 |_=>exact no_tt h
noncomputable def wE_List (z:Expr) (f:List Expr->Pos->Bool):Bool:=match z with
 | .List x0 x1=>f x0 x1
 |_=>false
theorem wE_List_of {z f} (h:wE_List z f=true):∃x0 x1,z=.List x0 x1/\f x0 x1=true:=by
 cases z with
 |List x0 x1=>exact⟨x0,x1,rfl,h⟩
 |_=>exact no_tt h
noncomputable def wE_Subscript (z:Expr) (f:Expr->Expr->Pos->Bool):Bool:=match z with
 | .Subscript x0 x1 x2=>f x0 x1 x2
 |_=>false
theorem wE_Subscript_of {z f} (h:wE_Subscript z f=true):∃x0 x1 x2,z=.Subscript x0 x1 x2/\f x0 x1 x2=true:=by
 cases z with
 |Subscript x0 x1 x2=>exact⟨x0,x1,x2,rfl,h⟩
 |_=>exact no_tt h
noncomputable def wE_Slice (z:Expr) (f:Option Expr->Option Expr->Option Expr->Pos->Bool):Bool:=match z with
 | .Slice x0 x1 x2 x3=>f x0 x1 x2 x3
 |_=>false
theorem wE_Slice_of {z f} (h:wE_Slice z f=true):∃x0 x1 x2 x3,z=.Slice x0 x1 x2 x3/\f x0 x1 x2 x3=true:=by
 cases z with
 |Slice x0 x1 x2 x3=>exact⟨x0,x1,x2,x3,rfl,h⟩
 |_=>exact no_tt h
noncomputable def wE_Call (z:Expr) (f:Expr->List Expr->List Keyword->Pos->Bool):Bool:=match z with
 | .Call x0 x1 x2 x3=>f x0 x1 x2 x3
 |_=>false
theorem wE_Call_of {z f} (h:wE_Call z f=true):∃x0 x1 x2 x3,z=.Call x0 x1 x2 x3/\f x0 x1 x2 x3=true:=by
 cases z with
 |Call x0 x1 x2 x3=>exact⟨x0,x1,x2,x3,rfl,h⟩
 |_=>exact no_tt h
noncomputable def wE_Attribute (z:Expr) (f:Expr->Str->Pos->Bool):Bool:=match z with
 | .Attribute x0 x1 x2=>f x0 x1 x2
 |_=>false
theorem wE_Attribute_of {z f} (h:wE_Attribute z f=true):∃x0 x1 x2,z=.Attribute x0 x1 x2/\f x0 x1 x2=true:=by
 cases z with
 |Attribute x0 x1 x2=>exact⟨x0,x1,x2,rfl,h⟩
 |_=>exact no_tt h
noncomputable def wE_Dict (z:Expr) (f:List (Option Expr)->List Expr->Pos->Bool):Bool:=match z with
 | .Dict x0 x1 x2=>f x0 x1 x2
 |_=>false
theorem wE_Dict_of {z f} (h:wE_Dict z f=true):∃x0 x1 x2,z=.Dict x0 x1 x2/\f x0 x1 x2=true:=by
 cases z with
 |Dict x0 x1 x2=>exact⟨x0,x1,x2,rfl,h⟩
 |_=>exact no_tt h
noncomputable def wE_ListComp (z:Expr) (f:Expr->List Comprehension->Scope->Pos->Bool):Bool:=match z with
 | .ListComp x0 x1 x2 x3=>f x0 x1 x2 x3
 |_=>false
theorem wE_ListComp_of {z f} (h:wE_ListComp z f=true):∃x0 x1 x2 x3,z=.ListComp x0 x1 x2 x3/\f x0 x1 x2 x3=true:=by
 cases z with
 |ListComp x0 x1 x2 x3=>exact⟨x0,x1,x2,x3,rfl,h⟩
 |_=>exact no_tt h
noncomputable def wS_Expr (z:Stmt) (f:Expr->Pos->Bool):Bool:=match z with
 | .Expr x0 x1=>f x0 x1
 |_=>false
theorem wS_Expr_of {z f} (h:wS_Expr z f=true):∃x0 x1,z=.Expr x0 x1/\f x0 x1=true:=by
 cases z with
 |Expr x0 x1=>exact⟨x0,x1,rfl,h⟩
 |_=>exact no_tt h
noncomputable def wS_Return (z:Stmt) (f:Option Expr->Pos->Bool):Bool:=match z with
 | .Return x0 x1=>f x0 x1
 |_=>false
theorem wS_Return_of {z f} (h:wS_Return z f=true):∃x0 x1,z=.Return x0 x1/\f x0 x1=true:=by
 cases z with
 |Return x0 x1=>exact⟨x0,x1,rfl,h⟩
 |_=>exact no_tt h
noncomputable def wS_Assign (z:Stmt) (f:List Expr->Expr->Pos->Bool):Bool:=match z with
 | .Assign x0 x1 x2=>f x0 x1 x2
 |_=>false
theorem wS_Assign_of {z f} (h:wS_Assign z f=true):∃x0 x1 x2,z=.Assign x0 x1 x2/\f x0 x1 x2=true:=by
 cases z with
 |Assign x0 x1 x2=>exact⟨x0,x1,x2,rfl,h⟩
 |_=>exact no_tt h
noncomputable def wS_If (z:Stmt) (f:Expr->List Stmt->List Stmt->Pos->Bool):Bool:=match z with
 | .If x0 x1 x2 x3=>f x0 x1 x2 x3
 |_=>false
theorem wS_If_of {z f} (h:wS_If z f=true):∃x0 x1 x2 x3,z=.If x0 x1 x2 x3/\f x0 x1 x2 x3=true:=by
 cases z with
 |If x0 x1 x2 x3=>exact⟨x0,x1,x2,x3,rfl,h⟩
 |_=>exact no_tt h
noncomputable def wS_While (z:Stmt) (f:Expr->List Stmt->List Stmt->Pos->Bool):Bool:=match z with
 | .While x0 x1 x2 x3=>f x0 x1 x2 x3
 |_=>false
theorem wS_While_of {z f} (h:wS_While z f=true):∃x0 x1 x2 x3,z=.While x0 x1 x2 x3/\f x0 x1 x2 x3=true:=by
 cases z with
 |While x0 x1 x2 x3=>exact⟨x0,x1,x2,x3,rfl,h⟩
 |_=>exact no_tt h
noncomputable def wS_For (z:Stmt) (f:Expr->Expr->List Stmt->List Stmt->Pos->Bool):Bool:=match z with
 | .For x0 x1 x2 x3 x4=>f x0 x1 x2 x3 x4
 |_=>false
theorem wS_For_of {z f} (h:wS_For z f=true):∃x0 x1 x2 x3 x4,z=.For x0 x1 x2 x3 x4/\f x0 x1 x2 x3 x4=true:=by
 cases z with
 |For x0 x1 x2 x3 x4=>exact⟨x0,x1,x2,x3,x4,rfl,h⟩
 |_=>exact no_tt h
noncomputable def v1 (zz:Expr) (f:Str->Bool):Bool:=wE_Name zz fun y1 y2=>f y1
theorem v1_k {zz f} {P:Prop} (h:v1 zz f=true) (k:∀x w1,zz=.Name x w1->f x=true->P):P:=by
 obtain⟨y1,y2,e0,h⟩:=wE_Name_of h
 exact k y1 y2 (by rw[e0]) h
noncomputable def v2 (zz:Expr) (f:Int->Bool):Bool:=wE_Constant zz fun y1 y2 y3=>wC_int y1 fun y4=>f y4
theorem v2_k {zz f} {P:Prop} (h:v2 zz f=true) (k:∀m w1 w2,zz=.Constant (.int m) w1 w2->f m=true->P):P:=by
 obtain⟨y1,y2,y3,e0,h⟩:=wE_Constant_of h
 obtain⟨y4,e1,h⟩:=wC_int_of h
 exact k y4 y2 y3 (by rw[e0,e1]) h
noncomputable def v3 (zz:Expr) (f:Bool->Bool):Bool:=wE_Constant zz fun y1 y2 y3=>wC_bool y1 fun y4=>f y4
theorem v3_k {zz f} {P:Prop} (h:v3 zz f=true) (k:∀c w1 w2,zz=.Constant (.bool c) w1 w2->f c=true->P):P:=by
 obtain⟨y1,y2,y3,e0,h⟩:=wE_Constant_of h
 obtain⟨y4,e1,h⟩:=wC_bool_of h
 exact k y4 y2 y3 (by rw[e0,e1]) h
noncomputable def v4 (zz:Expr) (f:Bool):Bool:=wE_Constant zz fun y1 y2 y3=>wC_none y1 (f)
theorem v4_k {zz f} {P:Prop} (h:v4 zz f=true) (k:∀w1 w2,zz=.Constant .none w1 w2->f=true->P):P:=by
 obtain⟨y1,y2,y3,e0,h⟩:=wE_Constant_of h
 obtain⟨e1,h⟩:=wC_none_of h
 exact k y2 y3 (by rw[e0,e1]) h
noncomputable def v5 (zz:Expr) (f:Str->Bool):Bool:=wE_Constant zz fun y1 y2 y3=>wC_str y1 fun y4=>f y4
theorem v5_k {zz f} {P:Prop} (h:v5 zz f=true) (k:∀y w1 w2,zz=.Constant (.str y) w1 w2->f y=true->P):P:=by
 obtain⟨y1,y2,y3,e0,h⟩:=wE_Constant_of h
 obtain⟨y4,e1,h⟩:=wC_str_of h
 exact k y4 y2 y3 (by rw[e0,e1]) h
noncomputable def v6 (zz:Expr) (f:Expr->Operator->Expr->Bool):Bool:=wE_BinOp zz fun y1 y2 y3 y4=>f y1 y2 y3
theorem v6_k {zz f} {P:Prop} (h:v6 zz f=true) (k:∀ea op' eb w1,zz=.BinOp ea op' eb w1->f ea op' eb=true->P):P:=by
 obtain⟨y1,y2,y3,y4,e0,h⟩:=wE_BinOp_of h
 exact k y1 y2 y3 y4 (by rw[e0]) h
noncomputable def v7 (zz:Expr) (f:Expr->Bool):Bool:=wE_UnaryOp zz fun y1 y2 y3=>wU_USub y1 (f y2)
theorem v7_k {zz f} {P:Prop} (h:v7 zz f=true) (k:∀ea w1,zz=.UnaryOp .USub ea w1->f ea=true->P):P:=by
 obtain⟨y1,y2,y3,e0,h⟩:=wE_UnaryOp_of h
 obtain⟨e1,h⟩:=wU_USub_of h
 exact k y2 y3 (by rw[e0,e1]) h
noncomputable def v8 (zz:Expr) (f:Expr->Bool):Bool:=wE_UnaryOp zz fun y1 y2 y3=>wU_Not y1 (f y2)
theorem v8_k {zz f} {P:Prop} (h:v8 zz f=true) (k:∀ea w1,zz=.UnaryOp .Not ea w1->f ea=true->P):P:=by
 obtain⟨y1,y2,y3,e0,h⟩:=wE_UnaryOp_of h
 obtain⟨e1,h⟩:=wU_Not_of h
 exact k y2 y3 (by rw[e0,e1]) h
noncomputable def v9 (zz:Expr) (f:Expr->CmpOp->Expr->Bool):Bool:=wE_Compare zz fun y1 y2 y3 y4=>w_cons y2 fun y5 y6=>w_nil y6 (w_cons y3 fun y7 y8=>w_nil y8 (f y1 y5 y7))
theorem v9_k {zz f} {P:Prop} (h:v9 zz f=true) (k:∀ea op' eb w1,zz=.Compare ea (op' :: []) (eb :: []) w1->f ea op' eb=true->P):P:=by
 obtain⟨y1,y2,y3,y4,e0,h⟩:=wE_Compare_of h
 obtain⟨y5,y6,e1,h⟩:=w_cons_of h
 obtain⟨e2,h⟩:=w_nil_of h
 obtain⟨y7,y8,e3,h⟩:=w_cons_of h
 obtain⟨e4,h⟩:=w_nil_of h
 exact k y1 y5 y7 y4 (by rw[e0,e1,e2,e3,e4]) h
noncomputable def v11 (zz:Expr) (f:Expr->Expr->Expr->Bool):Bool:=wE_IfExp zz fun y1 y2 y3 y4=>f y1 y2 y3
theorem v11_k {zz f} {P:Prop} (h:v11 zz f=true) (k:∀eq ea eb w1,zz=.IfExp eq ea eb w1->f eq ea eb=true->P):P:=by
 obtain⟨y1,y2,y3,y4,e0,h⟩:=wE_IfExp_of h
 exact k y1 y2 y3 y4 (by rw[e0]) h
noncomputable def v12 (zz:Expr) (f:List Expr->Bool):Bool:=wE_Tuple zz fun y1 y2 y3=>f y1
theorem v12_k {zz f} {P:Prop} (h:v12 zz f=true) (k:∀xs w1 w2,zz=.Tuple xs w1 w2->f xs=true->P):P:=by
 obtain⟨y1,y2,y3,e0,h⟩:=wE_Tuple_of h
 exact k y1 y2 y3 (by rw[e0]) h
noncomputable def v13 (zz:Expr) (f:List Expr->Bool):Bool:=wE_List zz fun y1 y2=>f y1
theorem v13_k {zz f} {P:Prop} (h:v13 zz f=true) (k:∀xs w1,zz=.List xs w1->f xs=true->P):P:=by
 obtain⟨y1,y2,e0,h⟩:=wE_List_of h
 exact k y1 y2 (by rw[e0]) h
noncomputable def v14 (zz:Expr) (f:Expr->Expr->Bool):Bool:=wE_Subscript zz fun y1 y2 y3=>f y1 y2
theorem v14_k {zz f} {P:Prop} (h:v14 zz f=true) (k:∀ea eb w1,zz=.Subscript ea eb w1->f ea eb=true->P):P:=by
 obtain⟨y1,y2,y3,e0,h⟩:=wE_Subscript_of h
 exact k y1 y2 y3 (by rw[e0]) h
noncomputable def v15 (zz:Expr) (f:Expr->Option Expr->Option Expr->Bool):Bool:=wE_Subscript zz fun y1 y2 y3=>wE_Slice y2 fun y4 y5 y6 y7=>w_none y6 (f y1 y4 y5)
theorem v15_k {zz f} {P:Prop} (h:v15 zz f=true) (k:∀ea l h w1 w2,zz=.Subscript ea (.Slice l h none w1) w2->f ea l h=true->P):P:=by
 obtain⟨y1,y2,y3,e0,h⟩:=wE_Subscript_of h
 obtain⟨y4,y5,y6,y7,e1,h⟩:=wE_Slice_of h
 obtain⟨e2,h⟩:=w_none_of h
 exact k y1 y4 y5 y7 y3 (by rw[e0,e1,e2]) h
noncomputable def v16 (zz:Expr) (f:Str->Expr->List Expr->Bool):Bool:=wE_Call zz fun y1 y2 y3 y4=>wE_Name y1 fun y5 y6=>w_cons y2 fun y7 y8=>w_nil y3 (f y5 y7 y8)
theorem v16_k {zz f} {P:Prop} (h:v16 zz f=true) (k:∀x w1 e r w2,zz=.Call (.Name x w1) (e :: r) [] w2->f x e r=true->P):P:=by
 obtain⟨y1,y2,y3,y4,e0,h⟩:=wE_Call_of h
 obtain⟨y5,y6,e1,h⟩:=wE_Name_of h
 obtain⟨y7,y8,e2,h⟩:=w_cons_of h
 obtain⟨e3,h⟩:=w_nil_of h
 exact k y5 y6 y7 y8 y4 (by rw[e0,e1,e2,e3]) h
noncomputable def v17 (zz:Expr) (f:Expr->Str->Pos->List Expr->Pos->Bool):Bool:=wE_Call zz fun y1 y2 y3 y4=>wE_Attribute y1 fun y5 y6 y7=>w_nil y3 (f y5 y6 y7 y2 y4)
theorem v17_k {zz f} {P:Prop} (h:v17 zz f=true) (k:∀eo nm apos args pos,zz=.Call (.Attribute eo nm apos) args [] pos->f eo nm apos args pos=true->P):P:=by
 obtain⟨y1,y2,y3,y4,e0,h⟩:=wE_Call_of h
 obtain⟨y5,y6,y7,e1,h⟩:=wE_Attribute_of h
 obtain⟨e2,h⟩:=w_nil_of h
 exact k y5 y6 y7 y2 y4 (by rw[e0,e1,e2]) h
noncomputable def v18 (zz:Expr) (f:Bool):Bool:=wE_Dict zz fun y1 y2 y3=>w_nil y1 (w_nil y2 (f))
theorem v18_k {zz f} {P:Prop} (h:v18 zz f=true) (k:∀w1,zz=.Dict [] [] w1->f=true->P):P:=by
 obtain⟨y1,y2,y3,e0,h⟩:=wE_Dict_of h
 obtain⟨e1,h⟩:=w_nil_of h
 obtain⟨e2,h⟩:=w_nil_of h
 exact k y3 (by rw[e0,e1,e2]) h
noncomputable def v23 (zz:Expr) (f:Str->Expr->Bool):Bool:=wE_Call zz fun y1 y2 y3 y4=>wE_Name y1 fun y5 y6=>w_cons y2 fun y7 y8=>w_nil y8 (w_nil y3 (f y5 y7))
theorem v23_k {zz f} {P:Prop} (h:v23 zz f=true) (k:∀x w1 y w2,zz=.Call (.Name x w1) (y :: []) [] w2->f x y=true->P):P:=by
 obtain⟨y1,y2,y3,y4,e0,h⟩:=wE_Call_of h
 obtain⟨y5,y6,e1,h⟩:=wE_Name_of h
 obtain⟨y7,y8,e2,h⟩:=w_cons_of h
 obtain⟨e3,h⟩:=w_nil_of h
 obtain⟨e4,h⟩:=w_nil_of h
 exact k y5 y6 y7 y4 (by rw[e0,e1,e2,e3,e4]) h
noncomputable def v26 (zz:Expr) (f:Expr->Expr->Expr->List Expr->Int->Scope->Bool):Bool:=wE_ListComp zz fun y1 y2 y3 y4=>w_cons y2 fun y5 y6=>w_gen y5 fun y7 y8 y9 y10=>w_nil y6 (f y1 y7 y8 y9 y10 y3)
theorem v26_k {zz f} {P:Prop} (h:v26 zz f=true) (k:∀ee tg iter ifs a scope w1,zz=.ListComp ee (⟨tg,iter,ifs,a⟩ :: []) scope w1->f ee tg iter ifs a scope=true->P):P:=by
 obtain⟨y1,y2,y3,y4,e0,h⟩:=wE_ListComp_of h
 obtain⟨y5,y6,e1,h⟩:=w_cons_of h
 obtain⟨y7,y8,y9,y10,e2,h⟩:=w_gen_of h
 obtain⟨e3,h⟩:=w_nil_of h
 exact k y1 y7 y8 y9 y10 y3 y4 (by rw[e0,e1,e2,e3]) h
noncomputable def v29 (zz:List Expr) (f:Bool):Bool:=w_nil zz (f)
theorem v29_k {zz f} {P:Prop} (h:v29 zz f=true) (k:zz=[]->f=true->P):P:=by
 obtain⟨e0,h⟩:=w_nil_of h
 exact k (by rw[e0]) h
noncomputable def v30 (zz:List Expr) (f:Expr->List Expr->Bool):Bool:=w_cons zz fun y1 y2=>f y1 y2
theorem v30_k {zz f} {P:Prop} (h:v30 zz f=true) (k:∀x xs,zz=(x :: xs)->f x xs=true->P):P:=by
 obtain⟨y1,y2,e0,h⟩:=w_cons_of h
 exact k y1 y2 (by rw[e0]) h
noncomputable def v31 (zz:List Expr) (f:Expr->Bool):Bool:=w_cons zz fun y1 y2=>w_nil y2 (f y1)
theorem v31_k {zz f} {P:Prop} (h:v31 zz f=true) (k:∀e,zz=(e :: [])->f e=true->P):P:=by
 obtain⟨y1,y2,e0,h⟩:=w_cons_of h
 obtain⟨e1,h⟩:=w_nil_of h
 exact k y1 (by rw[e0,e1]) h
noncomputable def v32 (zz:Option Expr) (f:Bool):Bool:=w_none zz (f)
theorem v32_k {zz f} {P:Prop} (h:v32 zz f=true) (k:zz=none->f=true->P):P:=by
 obtain⟨e0,h⟩:=w_none_of h
 exact k (by rw[e0]) h
noncomputable def v33 (zz:Option Expr) (f:Expr->Bool):Bool:=w_some zz fun y1=>f y1
theorem v33_k {zz f} {P:Prop} (h:v33 zz f=true) (k:∀y,zz=(some y)->f y=true->P):P:=by
 obtain⟨y1,e0,h⟩:=w_some_of h
 exact k y1 (by rw[e0]) h
noncomputable def v34 (zz:Expr) (f:Str->Expr->Expr->Bool):Bool:=wE_Call zz fun y1 y2 y3 y4=>wE_Name y1 fun y5 y6=>w_cons y2 fun y7 y8=>w_cons y8 fun y9 y10=>w_nil y10 (w_nil y3 (f y5 y7 y9))
theorem v34_k {zz f} {P:Prop} (h:v34 zz f=true) (k:∀n w1 y z w2,zz=.Call (.Name n w1) (y :: (z :: [])) [] w2->f n y z=true->P):P:=by
 obtain⟨y1,y2,y3,y4,e0,h⟩:=wE_Call_of h
 obtain⟨y5,y6,e1,h⟩:=wE_Name_of h
 obtain⟨y7,y8,e2,h⟩:=w_cons_of h
 obtain⟨y9,y10,e3,h⟩:=w_cons_of h
 obtain⟨e4,h⟩:=w_nil_of h
 obtain⟨e5,h⟩:=w_nil_of h
 exact k y5 y6 y7 y9 y4 (by rw[e0,e1,e2,e3,e4,e5]) h
noncomputable def v35 (zz:Expr) (f:Str->Expr->Expr->Expr->Bool):Bool:=wE_Call zz fun y1 y2 y3 y4=>wE_Name y1 fun y5 y6=>w_cons y2 fun y7 y8=>w_cons y8 fun y9 y10=>w_cons y10 fun y11 y12=>w_nil y12 (w_nil y3 (f y5 y7 y9 y11))
theorem v35_k {zz f} {P:Prop} (h:v35 zz f=true) (k:∀n w1 y z u w2,zz=.Call (.Name n w1) (y :: (z :: (u :: []))) [] w2->f n y z u=true->P):P:=by
 obtain⟨y1,y2,y3,y4,e0,h⟩:=wE_Call_of h
 obtain⟨y5,y6,e1,h⟩:=wE_Name_of h
 obtain⟨y7,y8,e2,h⟩:=w_cons_of h
 obtain⟨y9,y10,e3,h⟩:=w_cons_of h
 obtain⟨y11,y12,e4,h⟩:=w_cons_of h
 obtain⟨e5,h⟩:=w_nil_of h
 obtain⟨e6,h⟩:=w_nil_of h
 exact k y5 y6 y7 y9 y11 y4 (by rw[e0,e1,e2,e3,e4,e5,e6]) h
noncomputable def v36 (zz:Stmt) (f:Expr->Bool):Bool:=wS_Expr zz fun y1 y2=>f y1
theorem v36_k {zz f} {P:Prop} (h:v36 zz f=true) (k:∀x w1,zz=.Expr x w1->f x=true->P):P:=by
 obtain⟨y1,y2,e0,h⟩:=wS_Expr_of h
 exact k y1 y2 (by rw[e0]) h
noncomputable def v37 (zz:Stmt) (f:Expr->Bool):Bool:=wS_Return zz fun y1 y2=>w_some y1 fun y3=>f y3
theorem v37_k {zz f} {P:Prop} (h:v37 zz f=true) (k:∀x w1,zz=.Return (some x) w1->f x=true->P):P:=by
 obtain⟨y1,y2,e0,h⟩:=wS_Return_of h
 obtain⟨y3,e1,h⟩:=w_some_of h
 exact k y3 y2 (by rw[e0,e1]) h
noncomputable def v39 (zz:Stmt) (f:Expr->Expr->Bool):Bool:=wS_Assign zz fun y1 y2 y3=>w_cons y1 fun y4 y5=>w_nil y5 (f y4 y2)
theorem v39_k {zz f} {P:Prop} (h:v39 zz f=true) (k:∀tg x w1,zz=.Assign (tg :: []) x w1->f tg x=true->P):P:=by
 obtain⟨y1,y2,y3,e0,h⟩:=wS_Assign_of h
 obtain⟨y4,y5,e1,h⟩:=w_cons_of h
 obtain⟨e2,h⟩:=w_nil_of h
 exact k y4 y2 y3 (by rw[e0,e1,e2]) h
noncomputable def v48 (zz:Stmt) (f:Expr->Expr->Expr->Bool):Bool:=wS_Assign zz fun y1 y2 y3=>w_cons y1 fun y4 y5=>wE_Subscript y4 fun y6 y7 y8=>w_nil y5 (f y6 y7 y2)
theorem v48_k {zz f} {P:Prop} (h:v48 zz f=true) (k:∀eo ei w1 ee w2,zz=.Assign ((.Subscript eo ei w1) :: []) ee w2->f eo ei ee=true->P):P:=by
 obtain⟨y1,y2,y3,e0,h⟩:=wS_Assign_of h
 obtain⟨y4,y5,e1,h⟩:=w_cons_of h
 obtain⟨y6,y7,y8,e2,h⟩:=wE_Subscript_of h
 obtain⟨e3,h⟩:=w_nil_of h
 exact k y6 y7 y8 y2 y3 (by rw[e0,e1,e2,e3]) h
noncomputable def v50 (zz:Stmt) (f:Expr->List Stmt->List Stmt->Bool):Bool:=wS_If zz fun y1 y2 y3 y4=>f y1 y2 y3
theorem v50_k {zz f} {P:Prop} (h:v50 zz f=true) (k:∀x ss rs w1,zz=.If x ss rs w1->f x ss rs=true->P):P:=by
 obtain⟨y1,y2,y3,y4,e0,h⟩:=wS_If_of h
 exact k y1 y2 y3 y4 (by rw[e0]) h
noncomputable def v51 (zz:Stmt) (f:Expr->List Stmt->Bool):Bool:=wS_While zz fun y1 y2 y3 y4=>w_nil y3 (f y1 y2)
theorem v51_k {zz f} {P:Prop} (h:v51 zz f=true) (k:∀x ss w1,zz=.While x ss [] w1->f x ss=true->P):P:=by
 obtain⟨y1,y2,y3,y4,e0,h⟩:=wS_While_of h
 obtain⟨e1,h⟩:=w_nil_of h
 exact k y1 y2 y4 (by rw[e0,e1]) h
noncomputable def v52 (zz:Stmt) (f:Expr->Expr->List Stmt->Bool):Bool:=wS_For zz fun y1 y2 y3 y4 y5=>w_nil y4 (f y1 y2 y3)
theorem v52_k {zz f} {P:Prop} (h:v52 zz f=true) (k:∀tg iter ss w1,zz=.For tg iter ss [] w1->f tg iter ss=true->P):P:=by
 obtain⟨y1,y2,y3,y4,y5,e0,h⟩:=wS_For_of h
 obtain⟨e1,h⟩:=w_nil_of h
 exact k y1 y2 y3 y5 (by rw[e0,e1]) h
noncomputable def v56 (zz:List Stmt) (f:Bool):Bool:=w_nil zz (f)
theorem v56_k {zz f} {P:Prop} (h:v56 zz f=true) (k:zz=[]->f=true->P):P:=by
 obtain⟨e0,h⟩:=w_nil_of h
 exact k (by rw[e0]) h
noncomputable def v57 (zz:List Stmt) (f:Stmt->List Stmt->Bool):Bool:=w_cons zz fun y1 y2=>f y1 y2
theorem v57_k {zz f} {P:Prop} (h:v57 zz f=true) (k:∀x xs,zz=(x :: xs)->f x xs=true->P):P:=by
 obtain⟨y1,y2,e0,h⟩:=w_cons_of h
 exact k y1 y2 (by rw[e0]) h
mutual
noncomputable def mE (N B:List Str) (sc:Scope):Ce->Expr->Bool
 | .var i,e=>v1 e fun x=>nameOk N i x&&vis sc x
 | .int n,e=>v2 e fun m=>decide (n=m)
 | .bl b,e=>v3 e fun c=>decide (b=c)
 | .non,e=>v4 e (true)
 | .str x,e=>v5 e fun y=>decide (x=y)
 | .ty n,e=>v1 e fun x=>decide (x=Str.ofString n)&&glb sc x&&typeNames.contains n&&decide (x∈B)
 | .bin op a b,e=>v6 e fun ea op' eb=>decide (op=op')&&mE N B sc a ea&&mE N B sc b eb
 | .neg a,e=>v7 e fun ea=>mE N B sc a ea
 | .not a,e=>v8 e fun ea=>mE N B sc a ea
 | .and a b,e=>vAnd e fun x y=>mE N B sc a x&&mE N B sc b y
 | .or a b,e=>vOr e fun x y=>mE N B sc a x&&mE N B sc b y
 | .cmp op a b,e=>v9 e fun ea op' eb=>decide (op=op')&&mE N B sc a ea&&mE N B sc b eb&&okIter eb
 | .ife q a b,e=>v11 e fun eq ea eb=>mQ N B sc q eq&&mE N B sc a ea&&mE N B sc b eb
 | .tup es,e=>v12 e fun xs=>mA N B sc es xs
 | .lst es,e=>v13 e fun xs=>mA N B sc es xs
 | .idx a b,e=>v14 e fun ea eb=>mE N B sc a ea&&mE N B sc b eb&&notSlice eb
 | .cut a lo hi,e=>v15 e fun ea l h=>mE N B sc a ea&&mO N B sc lo l&&mO N B sc hi h
 | .call f es,e=>v16 e fun x e r=>decide (x=f)&&glb sc x&&mA N B sc es (e :: r)&&!(x == ("__debug__":Str))&&!(hat B)&&!(tld B&&decide (bang x∈B))
 | .blt f es,e=>v16 e fun x e r=>decide (x=bltName f)&&glb sc x&&mA N B sc es (e :: r)&&decide (x∈B)&&(!(hat B) || decide (f=.isinstance))
 | .met m o es,e=>v17 e fun eo nm apos args pos=>decide (nm=metName m)&&mE N B sc o eo&&baseOk eo&&(apos.endLine == pos.line)&&mA N B sc es args&&decide (args.length<28)
 | .dnt,e=>v18 e (true)
 | .dix a b,e=>v14 e fun ea eb=>mE N B sc a ea&&mE N B sc b eb&&notSlice eb
 | .din neg a b,e=>v9 e fun ea op' eb=>decide (op'=if neg then .NotIn else .In)&&mE N B sc a ea&&mE N B sc b eb&&okIter eb
 | .comp elt own t it q .nil,e=>v26 e fun ee tg iter ifs a scope=>!(hat B)&&scOk N sc scope own&&mE N ("~" :: B) scope elt ee&&tOwn own t&&decide (a=0)&&mI N B sc it iter&&zipT it tg&&okIter iter&&mT N ("~" :: B) scope t tg&&mQo N ("~" :: B) scope q ifs
 | .comp _ _ _ _ _ (.cons _ _ _ _ _),_=>false
noncomputable def mA (N B:List Str) (sc:Scope):Ces->List Expr->Bool
 | .nil,es=>v29 es (true)
 | .cons e r,es=>v30 es fun x xs=>mE N B sc e x&&notStar x&&mA N B sc r xs
noncomputable def mQ (N B:List Str) (sc:Scope):Cq->Expr->Bool
 | .val e,x=>mE N B sc e x&&plainT x
 | .not q,x=>v8 x fun y=>mQ N B sc q y
 | .and a b,e=>vAnd e fun x y=>mQ N B sc a x&&mQ N B sc b y
 | .or a b,e=>vOr e fun x y=>mQ N B sc a x&&mQ N B sc b y
 | .cmp op a b,e=>v9 e fun ea op' eb=>decide (op=op')&&mE N B sc a ea&&mE N B sc b eb&&okIter eb
 | .din neg a b,e=>v9 e fun ea op' eb=>decide (op'=if neg then .NotIn else .In)&&mE N B sc a ea&&mE N B sc b eb&&okIter eb
noncomputable def mQo (N B:List Str) (sc:Scope):Cqo->List Expr->Bool
 | .none,es=>v29 es (true)
 | .some q,es=>v31 es fun e=>mQ N B sc q e
noncomputable def mO (N B:List Str) (sc:Scope):Co->Option Expr->Bool
 | .none,x=>v32 x (true)
 | .some e,x=>v33 x fun y=>mE N B sc e y
noncomputable def mI (N B:List Str) (sc:Scope):Ci->Expr->Bool
 | .val e,x=>mE N B sc e x
 | .range1 a,x=>v23 x fun n y=>decide (n="range")&&glb sc n&&decide (n∈B)&&mE N B sc a y&&notStar y
 | .zip a b,x=>v34 x fun n y z=>decide (n="zip")&&glb sc n&&decide (n∈B)&&mE N B sc a y&&notStar y&&mE N B sc b z&&notStar z
 | .enum a,x=>v23 x fun n y=>decide (n="enumerate")&&glb sc n&&decide (n∈B)&&mE N B sc a y&&notStar y
 | .range3 a b c,x=>v35 x fun n y z u=>decide (n="range")&&glb sc n&&decide (n∈B)&&mE N B sc a y&&notStar y&&mE N B sc b z&&notStar z&&mE N B sc c u&&notStar u
noncomputable def mT (N B:List Str) (sc:Scope):Ct->Expr->Bool
 | .name i,e=>v1 e fun x=>nameOk N i x&&locb sc x
 | .tup ts,e=>v12 e fun es=>mTs N B sc ts es&&!(hat B)
 | .sub o i,e=>v14 e fun eo ei=>mE N B sc o eo&&mE N B sc i ei&&notSlice ei
noncomputable def mTs (N B:List Str) (sc:Scope):Cts->List Expr->Bool
 | .nil,es=>v29 es (true)
 | .cons t r,es=>v30 es fun x xs=>mT N B sc t x&&notStar x&&mTs N B sc r xs
end
noncomputable def isDcx:Ce->Bool
 |_=>false
mutual
noncomputable def mS (N B:List Str) (sc:Scope):Cs->Stmt->Bool
 | .expr e,s=>v36 s fun x=>mE N B sc e x&&(match e with | .comp ..=>false|_=>true)&&!isDcx e
 | .ret e,s=>v37 s fun x=>mE N B sc e x
 | .asg t e,s=>v39 s fun tg x=>mE N B sc e x&&!isDcx e&&mT N B sc t tg&&notStar tg&&(match tg,x with
   | .Tuple ..,.Tuple vs _ _=>vs.all (foldedForSure 8)
   | .Tuple ..,.ListComp ..=>false
   |_,_=>true)
 | .dput o i e,s=>v48 s fun eo ei ee=>mE N B sc o eo&&mE N B sc i ei&&notSlice ei&&mE N B sc e ee&&(match ee with
   | .ListComp ..=>false
   | .SetComp ..=>false
   | .DictComp ..=>false
   |_=>true)
 | .ite q a b,s=>v50 s fun x ss rs=>mQ N B sc q x&&mSs N B sc a ss&&mSs N B sc b rs
 | .whl q b,s=>v51 s fun x ss=>mQ N B sc q x&&mSs N B sc b ss
 | .for_ t it b,s=>v52 s fun tg iter ss=>mI N B sc it iter&&zipT it tg&&okIter iter&&mT N B sc t tg&&mSs N B sc b ss&&!(hat B)
noncomputable def mSs (N B:List Str) (sc:Scope):Css->List Stmt->Bool
 | .nil,ss=>v56 ss (true)
 | .cons s r,ss=>v57 ss fun x xs=>mS N B sc s x&&mSs N B sc r xs
end
def PassS (CX:CXT) (X:Cx) (xk:L2.St->XK):Prop:=∀(pins:List (Addr×Obj)) (σ:L2.St) (H:Hp) (s:Shared) (e:Value) (s':Shared),Inv X pins σ H s->CX X.stack H s (xk σ) e s'->X.xe e s'
theorem passS0 {X:Cx} {xk:L2.St->XK}:PassS CX0 X xk:=fun _ _ _ _ _ _ _ h=>h.elim
structure Rok (C:Rc) (B:List Str) (X:Cx) (sc:Scope):Prop where
 hN:X.N=C.N
 nd:C.N.Nodup
 hK:X.K=C.K
 own:PassesOwn (model X.prog X.w) X.A X.env X.xe
 calm:hat B=false->X.calm=true
 hu:X.A.units+64<cLine
 gd:X.A.guards=some []
 loc:∀x,sc.names.lookup x=some .local->X.env.scope.names.lookup x=some .local
 cel:∀x,sc.names.lookup x=some .cell->X.env.scope.names.lookup x=some .cell/\X.fn x=true
 fre:∀x,sc.names.lookup x=some .free->X.env.scope.names.lookup x=some .cell\/X.env.scope.names.lookup x=some .free
 glo:∀x,sc.names.lookup x=some .globalImplicit->X.env.kindOf x=some .globalImplicit
 fn:∀x sp,C.fs x=some sp->hat B=false->(tld B=true->bang x∉B)->∃f fd ps k CX,FnOk X.prog X.w X.K X.mg X.base CX k f fd ps sp/\Room k X.A/\X.mg x=some (.ref f)/\W.keepIn X.K (.ref f)=true/\Binds X.K fd ps []/\(CX=CX0\/CX=CX1 X.prog X.w X.mg/\bang x∈B)/\PassS CX X C.xk
 blt:∀x∈B,X.mg x=none
 mrk:X.mg "~"=none/\X.mg "^"=none/\X.mg "%"=none
 cls:∀c Ca,C.cl c=some Ca->X.mg c=some (.ref Ca)/\W.nsIn X.K mainGlobals c=some (some (.ref Ca))
 fx:tld B=false->FnCx X
 nohat:tld B=false->hat B=false
 xr:tld B=false->pct B=false->∀nm Ca pins σ H s e t,C.cl nm=some Ca->Inv X pins σ H s->H e=none->X.s₀.heap.get? e=none->(∀p∈X.pn++pins,p.1≠e)->s.heap.get? e=some { cls:=.ref Ca,data:=.fields #[.ref t,.none,.none,.none,.bool false,.none] }->C.xk σ (.str nm 0) none H->X.xe (.ref e) s
theorem Rok.hu1 {C:Rc} {B:List Str} {X:Cx} {sc:Scope} (R:Rok C B X sc):X.A.units+1<cLine:=by have:=R.hu;omega
section
variable {C:Rc} {B:List Str} {X:Cx} {sc:Scope}
theorem Rok.vis (R:Rok C B X sc) {x:Str} (h:R3.vis sc x=true):Vis X.env.scope x:=by
 unfold R3.vis at h
 split at h
 .rename_i e;exact .inl (R.loc x e)
 .rename_i e;exact .inr (.inl (R.cel x e).1)
 .rename_i e
  rcases R.fre x e with q|q
  .exact .inr (.inl q)
  .exact .inr (.inr q)
 .cases h
theorem Rok.locb (R:Rok C B X sc) {x:Str} (h:R3.locb sc x=true):Loc X.env.scope x/\(X.fn x=true\/X.env.scope.names.lookup x=some .local):=by
 unfold R3.locb at h
 split at h
 .rename_i e;exact⟨.inl (R.loc x e),.inr (R.loc x e)⟩
 .rename_i e;exact⟨.inr (R.cel x e).1,.inl (R.cel x e).2⟩
 .cases h
theorem Rok.glb (R:Rok C B X sc) {x:Str} (h:R3.glb sc x=true):Gl X x:=R.glo x (of_decide_eq_true h)
theorem nameOk_of {N:List Str} {i:Nat} {x:Str} (h:nameOk N i x=true):N[i]?=some x/\(x == ("__debug__":Str))=false/\(x == ("__classdict__":Str))=false:=by
 unfold nameOk at h
 simp only[Bool.and_eq_true,decide_eq_true_eq,Bool.not_eq_true']at h
 exact⟨h.1.1,h.1.2,h.2⟩
theorem star_cons {e:Expr} {es:List Expr} {env:Env} (h:notStar e=true):starEach (e :: es) env=(false,eval e env) :: starEach es env:=by
 cases e<;>first|rfl|cases h
theorem mA_star {N B:List Str} {sc:Scope} {env:Env} {pos:Pos}:∀{es:Ces} {xs:List Expr},mA N B sc es xs=true->(backTo pos (starEach xs env)).any (·.1)=false
 | .nil,xs,h=>by
  refine v29_k h fun e0 g=>?_
  clear h
  subst e0
  revert g
  intro h
  rfl
 | .cons e r,xs,h=>by
  refine v30_k h fun x xs e0 g=>?_
  clear h
  subst e0
  revert g
  intro h
  simp only[Bool.and_eq_true]at h
  rw[star_cons h.1.2]
  have ih:=mA_star (env:=env) (pos:=pos) (es:=r) h.2
  exact ih
theorem folded_ok {e:Expr} {env:Env} (h:okIter e=true) (x:Value):foldedSetIterable e env x=pure x:=by
 cases e<;>first|rfl|cases h
theorem marks_ok {op:CmpOp} {e:Expr} (h:okIter e=true):behindInMarks op e=false:=by
 cases e<;>first|rfl|cases h
theorem ix_plain {e:Expr} (h:notSlice e=true):PlainIx e:=by
 intro o i
 cases e<;>first|rfl|cases h
theorem base_ok {e:Expr} {f:Str} {env:Env} {w:Sem Value} (h:baseOk e=true):attributeBase e f env w=w:=by
 cases e with
 |Call g args kw pos=>
  cases args with
  |nil=>cases h
  |cons a r=>cases g<;>rfl
 |_=>rfl
theorem plainT_ok {e:Expr} {env:Env} (h:plainT e=true) (w:Sem Value):isTrue e env w=(do let v <- w;standAt e.pos;holding [v] (truthy v)):=by
 cases e with
 |UnaryOp op a p=>cases op<;>first|rfl|cases h
 |_=>first|rfl|cases h
theorem OpR.imp {f:Value->Value->Sem Value} {r r':R2} (h:OpR X f r) (i:∀x y H Q,r' x y H Q->r x y H Q):OpR X f r':=fun pins s σ H x y v u Q I rx ry q=>h pins s σ H x y v u Q I rx ry (i _ _ _ _ q)
theorem CallR.imp {f:Value} {r r':List V->Hp->VK->Prop} (h:CallR X f r) (i:∀xs H Q,r' xs H Q->r xs H Q):CallR X f r':=fun pins s σ H xs us Q I rv q=>h pins s σ H xs us Q I rv (i _ _ _ q)
theorem ixM:IxR X (rIxM X.K):=by
 intro value slice pins s σ H x y v u Q I rx ry q hp
 refine ix_seq value slice pins s σ H x y v u Q I rx ry ?_ hp
 unfold rIxM at q
 split at q
 .obtain⟨z,c,hc,q⟩:=q
  exact .inr (.inr ⟨_,_,c,rfl,rfl,z,hc,q⟩)
 .rcases q with q|q
  .exact .inl q
  .exact .inr (.inl q)
theorem run_at {CX:CXT} {k:Nat} {f:Addr} {fd:FuncData} {ps:List Str} {sp:Sp} {dvs:List V} {ds:List Value} {E:XK} {pins:List (Addr×Obj)} {σ:L2.St} {H:Hp} {s:Shared} {Q:VK} {us:List Value} {vs:List V} (F:FnOk X.prog X.w X.K X.mg X.base CX k f fd ps sp) (hr:Room k X.A) (hb:Binds X.K fd ps ds) (hd:Vals dvs ds)
  (hx:∀e s',CX X.stack H s E e s'->X.xe e s') (I:Inv X pins σ H s) (r:Vals vs us) (h:sp (vs++dvs) H Q E):wpAny (model X.prog X.w) X.A (call (.ref f) us) (EP X pins σ Q) X.xe s:=by
 have r2:=r.append hd
 have hl:(us++ds).length=ps.length:=r2.length ▸ F.len _ _ _ _ h
 have go:=F.run X.A X.stack s H ⟨us,[]⟩ (us++ds) (vs++dvs) Q E hr I.env0 (hb s us I.kIn hl) r2 h
 refine wpAny_call (codeAny_mono go fun r s' hq=>?_)
 match r,hq with
 | .error e,hq=>exact hx e s' hq
 | .ok (.ret u),hq=>exact I.after hq
theorem pe_callS {CX:CXT} {k:Nat} {f:Addr} {fd:FuncData} {ps:List Str} {sp:Sp} {dvs:List V} {ds:List Value} {xk:L2.St->XK} {x:Str} {p pos:Pos} {e:Expr} {es:List Expr} {t:TA} (F:FnOk X.prog X.w X.K X.mg X.base CX k f fd ps sp) (hr:Room k X.A) (hg:Gl X x) (hm:X.mg x=some (.ref f)) (hk:W.keepIn X.K (.ref f)=true) (hb:Binds X.K fd ps ds) (hd:Vals dvs ds) (hx:PassS CX X xk)
  (ha:PA X (e :: es) t) (hdb:(x == ("__debug__":Str))=false) (he:starEach (e :: es) X.env=(false,eval e X.env) :: starEach es X.env) (hpl:(backTo pos (starEach es X.env)).any (·.1)=false):
  PE X (.Call (.Name x p) (e :: es) [] pos) (fun σ H Q=>tCall sp dvs (xk σ) t σ H Q):=by
 intro pins s σ H Q I h
 refine wpAny_Call_Name_kw (ld_glob I hg hm ?_ hdb)
 exact W.callWith_K (h₀:=X.base) I.ok.mod.kin hk (thn (ha pos pins s σ H _ I h) fun us s1 ⟨vs,H1,I1,r,q⟩=>⟨I1.kIn,run_at F hr hb hd (fun e s' c=>hx pins σ H1 s1 e s' I1 c) I1 r q⟩) he hpl
theorem bits100 {a:Int} (h:a.natAbs<2 ^ 100):(Builtin.Int.intBits a:Int)<=100:=by
 unfold Builtin.Int.intBits
 by_cases h0:a.natAbs=0
 .rw[if_pos (by simpa using h0)];decide
 .rw[if_neg (by simpa using h0)]
  have:=(Nat.log2_lt h0).mpr h
  omega
theorem op_shlX {X:Cx}:OpR X (binaryOp .LShift) (rI CShl fun i j=>.int (i*2 ^ j.toNat)):=opI fun _ _ _ _ _ _ _ hc q=>lshift_int hc.1 (by have:=bits100 hc.2.2;have:=hc.2.1;omega) q
theorem bin_ok (op:Operator):OpR X (binaryOp op) (rBin X.K op):=by
 cases op with
 |Add=>
  refine OpR.imp ((op_add.or op_add_str).or (op_cat.or (op_catT.or op_catT0))) fun x y H Q q=>?_
  unfold rBin at q
  dsimp only at q
  split at q
  .exact .inl (.inl ⟨_,_,rfl,rfl,q⟩)
  .exact .inl (.inr ⟨_,_,rfl,rfl,q.1,q.2⟩)
  .exact .inr q
 |Sub=>exact op_sub
 |Mult=>
  refine OpR.imp (op_mulW.or (op_mul_str.or op_rep)) fun x y H Q q=>?_
  unfold rBin at q
  dsimp only at q
  split at q
  .refine .inl ⟨_,_,rfl,rfl,?_,q.2⟩
   rcases q.1 with h|h|h
   .exact CMul.ok (.inl h)
   .exact CMul.ok (.inr h)
   .exact h
  .exact .inr (.inl ⟨_,_,rfl,rfl,q.1,q.2.1,q.2.2.1,q.2.2.2⟩)
  .exact .inr (.inr q)
 |Mod=>exact op_mod
 |FloorDiv=>
  refine OpR.imp (op_fdiv.or op_fdivW) fun x y H Q q=>?_
  obtain⟨i,j,h1,h2,⟨h3,h4⟩,q⟩:=q
  rcases h4 with h4|h4
  .exact .inl ⟨i,j,h1,h2,⟨h3,h4⟩,q⟩
  .exact .inr ⟨i,j,h1,h2,⟨h3,h4⟩,q⟩
 |Pow=>exact op_pow
 |LShift=>exact op_shlX
 |RShift=>exact op_shr
 |MatMult=>exact fun _ _ _ _ _ _ _ _ _ _ _ _ h=>h.elim
 |Div=>exact fun _ _ _ _ _ _ _ _ _ _ _ _ h=>h.elim
 |BitOr=>exact fun _ _ _ _ _ _ _ _ _ _ _ _ h=>h.elim
 |BitXor=>exact fun _ _ _ _ _ _ _ _ _ _ _ _ h=>h.elim
 |BitAnd=>exact op_and1
theorem cmp_ok (hu':X.A.units+64<cLine) (op:CmpOp):OpR X (compareOp op) (rCmp X.K op):=by
 cases op with
 |Eq=>
  refine OpR.imp (op_eq.or ((op_eqL (by omega)).or (op_eqD hu'))) fun x y H Q q=>?_
  unfold rCmp at q
  dsimp only at q
  split at q
  .exact .inr q
  .exact .inl q
 |NotEq=>
  refine OpR.imp (op_ne.or ((op_neL (by omega)).or (op_neD hu'))) fun x y H Q q=>?_
  unfold rCmp at q
  dsimp only at q
  split at q
  .exact .inr q
  .exact .inl q
 |Lt=>exact op_lt
 |LtE=>exact op_le
 |Gt=>
  refine OpR.imp (op_gt.or op_gtS) fun x y H Q q=>?_
  unfold rCmp at q
  dsimp only at q
  split at q
  .exact .inr q
  .exact .inl q
 |GtE=>exact op_ge
 |Is=>
  refine OpR.imp (op_isN.or op_isB) fun x y H Q q=>?_
  unfold rCmp at q
  dsimp only at q
  split at q
  .exact .inr q
  .exact .inl q
 |IsNot=>
  refine OpR.imp (op_notN.or op_isNotB) fun x y H Q q=>?_
  unfold rCmp at q
  dsimp only at q
  split at q
  .exact .inr q
  .exact .inl q
 |In=>
  refine OpR.imp (op_inS.or op_in_seq) fun x y H Q q=>?_
  unfold rCmp at q
  dsimp only at q
  split at q
  .exact .inl q
  .exact .inr q
 |NotIn=>
  refine OpR.imp (op_notInS.or op_notIn_seq) fun x y H Q q=>?_
  unfold rCmp at q
  dsimp only at q
  split at q
  .exact .inl q
  .exact .inr q
theorem sl_ok:SlR X (rSl X.K):=by
 intro pins s σ H x v vl vu lo hi sl Q I rx hs pl pu q
 refine(sl_list.or (sl_tup.or (sl_whole.or sl_str))) pins s σ H x v vl vu lo hi sl Q I rx hs pl pu ?_
 unfold rSl at q
 split at q
 .exact .inr (.inr (.inr ⟨_,rfl,q.1,q.2⟩))
 .rcases q with q|q|q
  .exact .inl q
  .exact .inr (.inl q)
  .exact .inr (.inr (.inl q))
inductive BltIs:Bf->Prop where
 |fn (f:Bf) (id:String) (hv:bootBuiltins (bltName f)=some (.builtin id)) (h:∀X:Cx,(X.calm=true\/f=.isinstance)->CallR X (.builtin id) (rBlt X.K f)):BltIs f
 |ty (f:Bf) (T:String) (hv:bootBuiltins (bltName f)=some (.type T)) (h:∀X:Cx,(X.calm=true\/f=.isinstance)->CallR X (.type T) (rBlt X.K f)):BltIs f
theorem blt_is (f:Bf):BltIs f:=by
 cases f with
 |len=>exact .fn _ "len" (by decide +kernel) fun X _=>call_len
 |abs=>exact .fn _ "abs" (by decide +kernel) fun X _=>call_abs
 |int=>
  refine .ty _ "int" (by decide +kernel) fun X _=>CallR.imp call_intB fun xs H Q q=>?_
  unfold rBlt at q
  dsimp only at q
  split at q
  .exact .inl (.inl (.inl ⟨_,rfl,q⟩))
  .exact .inl (.inl (.inr ⟨_,rfl,q⟩))
  .obtain⟨n,h1,h2,q⟩:=q
   exact .inl (.inr ⟨_,n,rfl,h1,h2,q⟩)
  .obtain⟨rfl,n,h1,q⟩:=q
   exact .inr ⟨_,n,rfl,h1,q⟩
  .exact q.elim
 |lenD=>exact .fn _ "len" (by decide +kernel) fun X _=>call_lenDT
 |isinstance=>exact .fn _ "isinstance" (by decide +kernel) fun X _=>CallR.imp call_isi fun _ _ _ q=>q.resolve_right id
 |all=>exact .fn _ "all" (by decide +kernel) fun X c0=>have c:X.calm=true:=c0.resolve_right (fun z=>by cases z);call_allL c
 |list=>exact .ty _ "list" (by decide +kernel) fun X c0=>have c:X.calm=true:=c0.resolve_right (fun z=>by cases z);call_list_of.or (call_lrg c)
 |range=>exact .ty _ "range" (by decide +kernel) fun X _=>call_rng
 |tuple=>exact .ty _ "tuple" (by decide +kernel) fun X _=>call_tuple_of
structure MetIs (m:Mf) (id:String):Prop where
 pa:PlainAttrs (metTy m)
 slot:Slot (metTy m) (metName m) id
 ty:typeOf (.builtin id)=pure (.type "method_descriptor")
 h:∀X:Cx,MtR X id (rMet X.K m)
theorem met_is (m:Mf):∃id,MetIs m id:=by
 cases m with
 |append=>exact⟨_,F.plainAttrs_list,F.slot_list_append,F.type_list_append,fun _=>mt_append⟩
 |clear=>exact⟨_,F.plainAttrs_list,F.slot_list_clear,F.type_list_clear,fun _=>mt_clear⟩
 |join=>exact⟨_,F.plainAttrs_str,F.slot_str_join,F.type_str_join,fun _=>mt_join⟩
 |insert=>exact⟨_,F.plainAttrs_list,F.slot_list_insert,F.type_list_insert,fun _=>mt_insert⟩
 |indexL=>exact⟨_,F.plainAttrs_list,F.slot_list_index,F.type_list_index,fun _=>mt_indexL⟩
end
theorem scOk_of {N:List Str} {sc scope:Scope} {own:List Nat} (h:scOk N sc scope own=true):scope.kind=.function/\(∀x∈scope.names,x.2=.local->scope.names.lookup x.1=some .local)/\(∀n,(n,NameKind.cell)∈scope.names->scope.names.lookup n=some .cell)/\
  (∀n,(n,NameKind.free)∈scope.names->sc.names.lookup n=some .cell\/sc.names.lookup n=some .free)/\∀(i:Nat) (x:Str),N[i]?=some x->(scope.names.lookup x=some .local\/scope.names.lookup x=some .cell)->i∈own:=by
 unfold scOk at h
 simp only[Bool.and_eq_true,decide_eq_true_eq,List.all_eq_true,Bool.or_eq_true]at h
 obtain⟨⟨hk,hn⟩,ho⟩:=h
 refine⟨hk,fun x hx e=>?_,fun n hn'=>?_,fun n hn'=>?_,fun i x e hx=>?_⟩
 .exact(hn x hx).1.1.resolve_left fun q=>q e
 .exact(hn _ hn').1.2.resolve_left fun q=>q rfl
 .rcases(hn _ hn').2 with(q|q)|q
  .exact absurd rfl q
  .exact .inl q
  .exact .inr q
 .have:=ho i (List.mem_range.mpr (List.getElem?_eq_some_iff.mp e).1)
  rw[e]at this
  simp only[Bool.or_eq_true,Bool.and_eq_true,decide_eq_true_eq]at this
  rcases this with⟨q1,q2⟩|q
  .rcases hx with z|z
   .exact absurd z q1
   .exact absurd z q2
  .exact q
theorem Rok.compSc {C:Rc} {B:List Str} {X:Cx} {sc scope:Scope} {own:List Nat} (R:Rok C B X sc) (h:scOk C.N sc scope own=true):CompSc X scope:=by
 obtain⟨h1,h2,h3,h4,h5⟩:=scOk_of h
 refine⟨h1,h2,h3,fun n hn=>?_⟩
 rcases h4 n hn with q|q
 .exact .inl (R.cel n q).1
 .exact R.fre n q
theorem tld_cons {B:List Str}:tld ("~" :: B)=true:=decide_eq_true (List.mem_cons_self)
theorem Rok.comp {C:Rc} {B:List Str} {X:Cx} {sc scope:Scope} {own:List Nat} (R:Rok C B X sc) (hh:hat B=false) (h:scOk C.N sc scope own=true) (s0:Shared) (H0:Hp) (ex:List Addr):Rok C ("~" :: B) (X.comp scope s0 H0 ex) scope:=by
 refine⟨R.hN,R.nd,R.hK,PassesOwn.never,fun _=>R.calm hh,R.hu,R.gd,fun x e=>lookup_relabel_local e,fun x e=>⟨?_,?_⟩,fun x e=>?_,fun x e=>?_,fun x sp e _ ht=>?_,fun x hx=>?_,R.mrk,R.cls,(fun z=>by rw[tld_cons]at z;cases z),(fun z=>by rw[tld_cons]at z;cases z),(fun z=>by rw[tld_cons]at z;cases z)⟩
 .obtain⟨k',e1,e2⟩:=relabel_lookup' (env:=X.env) e
  rcases e2 with rfl|⟨q,_⟩
  .exact e1
  .cases q
 .exact W.cellsFrom_some _ _ _ (.inl e)
 .obtain⟨k',e1,e2⟩:=relabel_lookup' (env:=X.env) e
  rcases e2 with rfl|⟨_,rfl⟩
  .exact .inr e1
  .exact .inl e1
 .obtain⟨k',e1,e2⟩:=relabel_lookup' (env:=X.env) e
  rcases e2 with rfl|⟨q,_⟩
  .exact e1
  .cases q
 .have hb:bang x∉B:=fun z=>ht tld_cons (List.mem_cons_of_mem _ z)
  obtain⟨f,fd,ps,k,CX,h1,h2,h3,h4,h5,h6,_⟩:=R.fn x sp e hh fun _=>hb
  rcases h6 with rfl|⟨_,z⟩
  .exact⟨f,fd,ps,k,CX0,h1,h2,h3,h4,h5,.inl rfl,passS0⟩
  .exact absurd z hb
 .rcases List.mem_cons.mp hx with rfl|hx
  .exact R.mrk.1
  .exact R.blt x hx
mutual
theorem gmono_of (C:Rc) (own:List Nat):∀(t:Ct),tOwn own t=true->∀(x:V) (σ:L2.St) (H:Hp) (Q Q':L2.St->Hp->Prop),tG C t x σ H Q->(∀σ2 H2,Q σ2 H2->Ext own σ σ2->Q' σ2 H2)->tG C t x σ H Q'
 | .name i,h,x,σ,H,Q,Q',q,m=>by
  simp only[tOwn,decide_eq_true_eq]at h
  simp only[tG]at q ⊢
  obtain⟨q1,q2⟩:=gext_name h x σ H Q q
  exact m _ _ q1 q2
 | .tup ts,h,x,σ,H,Q,Q',q,m=>by
  simp only[tOwn]at h
  simp only[tG]at q ⊢
  obtain⟨a,xs,e,hs,hl,q⟩:=q
  exact⟨a,xs,e,hs,hl,gmonos_of C own ts h xs σ H Q Q' q m⟩
 | .sub _ _,h,_,_,_,_,_,_,_=>by simp[tOwn]at h
theorem gmonos_of (C:Rc) (own:List Nat):∀(ts:Cts),tOwns own ts=true->∀(xs:List V) (σ:L2.St) (H:Hp) (Q Q':L2.St->Hp->Prop),tGs C ts xs σ H Q->(∀σ2 H2,Q σ2 H2->Ext own σ σ2->Q' σ2 H2)->tGs C ts xs σ H Q'
 | .nil,h,xs,σ,H,Q,Q',q,m=>by
  simp only[tGs,gNil]at q ⊢
  exact⟨q.1,m _ _ q.2 Ext.refl⟩
 | .cons t r,h,xs,σ,H,Q,Q',q,m=>by
  simp only[tOwns,Bool.and_eq_true]at h
  simp only[tGs,gCons]at q ⊢
  obtain⟨v,vr,e,q⟩:=q
  exact⟨v,vr,e,gmono_of C own t h.1 v σ H _ _ q fun σ2 H2 q2 x2=>gmonos_of C own r h.2 vr σ2 H2 _ _ q2 fun σ3 H3 q3 x3=>m _ _ q3 (x2.trans x3)⟩
end
theorem gext_of {C:Rc} {own:List Nat} {t:Ct} (h:tOwn own t=true):GExt own (tG C t):=fun x σ H Q q=>gmono_of C own t h x σ H Q _ q fun _ _ q x=>⟨q,x⟩
theorem assign_star:∀{ts:Cts} {es:List Expr} {N B:List Str} {sc:Scope} {env:Env},mTs N B sc ts es=true->(assignEach es env).length=lenTs ts/\(assignEach es env).findIdx? (·.1)=none
 | .nil,es,N,B,sc,env,h=>by
  refine v29_k h fun e0 g=>?_
  clear h
  subst e0
  revert g
  intro h
  exact⟨rfl,rfl⟩
 | .cons t r,es,N,B,sc,env,h=>by
  refine v30_k h fun x xs e0 g=>?_
  clear h
  subst e0
  revert g
  intro h
  simp only[Bool.and_eq_true]at h
  obtain⟨h1,h2⟩:=assign_star (env:=env) h.2
  have e:assignEach (x :: xs) env=(false,assign x env) :: assignEach xs env:=by
   have hs:=h.1.2
   cases x<;>first|rfl|cases hs
  rw[e]
  refine⟨by rw[List.length_cons,h1];rfl,?_⟩
  rw[List.findIdx?_cons,h2]
  rfl
theorem assign_each {x:Expr} {xs:List Expr} {env:Env} (hs:notStar x=true):(assignEach (x :: xs) env).map (·.2)=assign x env :: (assignEach xs env).map (·.2):=by
 cases x<;>first|rfl|cases hs
theorem asg_sub {o i:Expr} {pos:Pos} {env:Env} (h:notSlice i=true) (v:Value):assign (.Subscript o i pos) env v=(do
   let ov <- holding [v] (eval o env)
   let iv <- holding [v,ov] (eval i env)
   standAt pos
   holding [v,ov,iv] (setItem ov iv v)
   release [v,ov,iv] []):=by
 cases i<;>first|rfl|cases h
noncomputable def CompX (C:Rc) (X:Cx) (e:Expr):Ce->Prop
 | .comp elt own t it q r=>∃tg iter ifs nx scope pos,CompIn X e scope tg iter ifs nx (tG C t) (tQo C q) (tR C r (tEmit (tE C elt))) own/\PI X tg iter (tI C it)/\
   eval e X.env=comprehension e scope X.env pos (newList []) false (eval iter X.env)/\(∀u,evalThenUse e X.env u=(do let _ <- comprehension e scope X.env pos (newList []) false (eval iter X.env) (some u)))/\
   ∀y py line,∃b,swapsWith e (some (.Name y py)) line X.env=pure b
 |_=>True
theorem inv1 {N B:List Str} {sc:Scope} {elt:Ce} {own:List Nat} {t:Ct} {it:Ci} {q:Cqo} {e:Expr} (h:mE N B sc (.comp elt own t it q .nil) e=true):∃ee tg iter ifs scope pos,e=.ListComp ee [⟨tg,iter,ifs,0⟩] scope pos/\
  hat B=false/\scOk N sc scope own=true/\mE N ("~" :: B) scope elt ee=true/\tOwn own t=true/\mI N B sc it iter=true/\zipT it tg=true/\okIter iter=true/\mT N ("~" :: B) scope t tg=true/\mQo N ("~" :: B) scope q ifs=true:=by
 refine v26_k h fun ee tg iter ifs a scope w1 e0 g=>?_
 clear h
 subst e0
 revert g
 intro h
 simp only[Bool.and_eq_true,decide_eq_true_eq,Bool.not_eq_true']at h
 obtain⟨⟨⟨⟨⟨⟨⟨⟨⟨hh,hsc⟩,helt⟩,hown⟩,rfl⟩,h1⟩,h2⟩,h3⟩,h4⟩,h5⟩:=h
 exact⟨_,_,_,_,_,_,rfl,hh,hsc,helt,hown,h1,h2,h3,h4,h5⟩
theorem inv4 {N B:List Str} {sc:Scope} {elt:Ce} {own:List Nat} {t:Ct} {it:Ci} {q:Cqo} {ws:List Nat} {t2:Ct} {it2:Ci} {q2:Cqo} {r4:Cc} {e:Expr} (h:mE N B sc (.comp elt own t it q (.cons ws t2 it2 q2 r4)) e=true):False:=by
 exact no_tt h
set_option maxHeartbeats 4000000
mutual
theorem sE0 {C:Rc}:∀(c:Ce) {B:List Str} {X:Cx} {sc:Scope} {e:Expr},Rok C B X sc->mE C.N B sc c e=true->PE X e (tE C c)/\CompX C X e c
 | .var i,B,X,sc,e,R,h=>by
  refine⟨?_,trivial⟩
  refine v1_k h fun x w1 e0 g=>?_
  clear h
  subst e0
  revert g
  intro h
  simp only[Bool.and_eq_true]at h
  obtain⟨h1,h2,h3⟩:=nameOk_of h.1
  simp only[tE]
  exact pe_var (by rw[R.hN];exact h1) (R.vis h.2) h2 h3
 | .int n,B,X,sc,e,R,h=>by
  refine⟨?_,trivial⟩
  refine v2_k h fun m w1 w2 e0 g=>?_
  clear h
  subst e0
  revert g
  intro h
  cases of_decide_eq_true h
  simp only[tE]
  exact pe_int
 | .bl n,B,X,sc,e,R,h=>by
  refine⟨?_,trivial⟩
  refine v3_k h fun c w1 w2 e0 g=>?_
  clear h
  subst e0
  revert g
  intro h
  cases of_decide_eq_true h
  simp only[tE]
  exact pe_bl
 | .non,B,X,sc,e,R,h=>by
  refine⟨?_,trivial⟩
  refine v4_k h fun w1 w2 e0 g=>?_
  clear h
  subst e0
  revert g
  intro h
  simp only[tE]
  exact pe_non
 | .str n,B,X,sc,e,R,h=>by
  refine⟨?_,trivial⟩
  refine v5_k h fun y w1 w2 e0 g=>?_
  clear h
  subst e0
  revert g
  intro h
  cases of_decide_eq_true h
  simp only[tE]
  exact pe_str
 | .ty n,B,X,sc,e,R,h=>by
  refine⟨?_,trivial⟩
  refine v1_k h fun x w1 e0 g=>?_
  clear h
  subst e0
  revert g
  intro h
  simp only[Bool.and_eq_true,decide_eq_true_eq]at h
  obtain⟨⟨⟨rfl,h2⟩,h3⟩,h4⟩:=h
  simp only[tE]
  have hb:bootBuiltins (Str.ofString n)=some (.type n)/\Str.ofString n≠"__name__"/\(Str.ofString n == ("__debug__":Str))=false:=by
   simp only[typeNames,List.contains_iff_mem,List.mem_cons,List.not_mem_nil,or_false]at h3
   rcases h3 with rfl|rfl|rfl|rfl|rfl|rfl|rfl<;>decide +kernel
  exact pe_bltn (v:=.ty n) (R.glb h2) (R.blt _ h4) hb.1 rfl hb.2.1 hb.2.2
 | .bin op a b,B,X,sc,e,R,h=>by
  refine⟨?_,trivial⟩
  refine v6_k h fun ea op' eb w1 e0 g=>?_
  clear h
  subst e0
  revert g
  intro h
  simp only[Bool.and_eq_true,decide_eq_true_eq]at h
  obtain⟨⟨rfl,h1⟩,h2⟩:=h
  simp only[tE]
  rw[<- R.hK]
  exact pe_op (bin_ok _) ((sE0 a R h1).1) ((sE0 b R h2).1)
 | .neg a,B,X,sc,e,R,h=>by
  refine⟨?_,trivial⟩
  refine v7_k h fun ea w1 e0 g=>?_
  clear h
  subst e0
  revert g
  intro h
  simp only[tE]
  exact pe_un un_neg ((sE0 a R h).1)
 | .not a,B,X,sc,e,R,h=>by
  refine⟨?_,trivial⟩
  refine v8_k h fun ea w1 e0 g=>?_
  clear h
  subst e0
  revert g
  intro h
  simp only[tE]
  exact pe_not ((sE0 a R h).1)
 | .and a b,B,X,sc,e,R,h=>by
  refine⟨?_,trivial⟩
  replace h:=vAnd_of h
  rcases h with⟨x,y,pos,rfl,h⟩|⟨x,y,z,r,pos,rfl,h⟩
  .simp only[Bool.and_eq_true]at h
   simp only[tE]
   exact pe_and ((sE0 a R h.1).1) (pe_one ((sE0 b R h.2).1))
  .simp only[Bool.and_eq_true]at h
   simp only[tE]
   exact pe_and ((sE0 a R h.1).1) ((sE0 b R h.2).1)
 | .or a b,B,X,sc,e,R,h=>by
  refine⟨?_,trivial⟩
  replace h:=vOr_of h
  rcases h with⟨x,y,pos,rfl,h⟩|⟨x,y,z,r,pos,rfl,h⟩
  .simp only[Bool.and_eq_true]at h
   simp only[tE]
   exact pe_or ((sE0 a R h.1).1) (pe_one ((sE0 b R h.2).1))
  .simp only[Bool.and_eq_true]at h
   simp only[tE]
   exact pe_or ((sE0 a R h.1).1) ((sE0 b R h.2).1)
 | .cmp op a b,B,X,sc,e,R,h=>by
  refine⟨?_,trivial⟩
  refine v9_k h fun ea op' eb w1 e0 g=>?_
  clear h
  subst e0
  revert g
  intro h
  simp only[Bool.and_eq_true,decide_eq_true_eq]at h
  obtain⟨⟨⟨rfl,h1⟩,h2⟩,h3⟩:=h
  simp only[tE]
  rw[<- R.hK]
  exact pe_cmpR (cmp_ok R.hu _) ((sE0 a R h1).1) ((sE0 b R h2).1) (marks_ok h3)
 | .ife q a b,B,X,sc,e,R,h=>by
  refine⟨?_,trivial⟩
  refine v11_k h fun eq ea eb w1 e0 g=>?_
  clear h
  subst e0
  revert g
  intro h
  simp only[Bool.and_eq_true]at h
  simp only[tE]
  exact pe_ifExp (sQ q R h.1.1).1 ((sE0 a R h.1.2).1) ((sE0 b R h.2).1)
 | .tup es,B,X,sc,e,R,h=>by
  refine⟨?_,trivial⟩
  refine v12_k h fun xs w1 w2 e0 g=>?_
  clear h
  subst e0
  revert g
  intro h
  simp only[tE]
  exact pe_tup (sA es R h)
 | .lst es,B,X,sc,e,R,h=>by
  refine⟨?_,trivial⟩
  refine v13_k h fun xs w1 e0 g=>?_
  clear h
  subst e0
  revert g
  intro h
  simp only[tE]
  exact pe_lst (sA es R h)
 | .idx a b,B,X,sc,e,R,h=>by
  refine⟨?_,trivial⟩
  refine v14_k h fun ea eb w1 e0 g=>?_
  clear h
  subst e0
  revert g
  intro h
  simp only[Bool.and_eq_true]at h
  simp only[tE]
  rw[<- R.hK]
  exact pe_ix ixM ((sE0 a R h.1.1).1) ((sE0 b R h.1.2).1) (ix_plain h.2)
 | .cut a lo hi,B,X,sc,e,R,h=>by
  refine⟨?_,trivial⟩
  refine v15_k h fun ea l h_ w1 w2 e0 g=>?_
  clear h
  subst e0
  revert g
  intro h
  simp only[Bool.and_eq_true]at h
  simp only[tE]
  rw[<- R.hK]
  exact pe_slice sl_ok ((sE0 a R h.1.1).1) (sO lo R h.1.2) (sO hi R h.2)
 | .call f es,B,X,sc,e,R,h=>by
  refine⟨?_,trivial⟩
  refine v16_k h fun x w1 e r pos e0 g=>?_
  clear h
  subst e0
  revert g
  intro h
  simp only[Bool.and_eq_true,decide_eq_true_eq,Bool.not_eq_true']at h
  obtain⟨⟨⟨⟨⟨rfl,h1⟩,h2⟩,h3⟩,hh⟩,h6⟩:=h
  simp only[tE]
  have ht:tld B=true->bang x∉B:=fun t m=>by rw[t,decide_eq_true m]at h6;cases h6
  cases hf:C.fs x with
  |none=>exact fun _ _ _ _ _ _ q=>q.elim
  |some sp=>
   obtain⟨f,fd,ps,k,CX,F,hr,hm,hk,hb,_,hx⟩:=R.fn x sp hf hh ht
   have hs:notStar e=true:=by
    cases es with
    |nil=>exact no_tt h2
    |cons c r=>exact(band (band h2).1).2
   have hp:(backTo pos (starEach r X.env)).any (·.1)=false:=by
    have q:=mA_star (env:=X.env) (pos:=pos) h2
    rw[star_cons hs]at q
    exact q
   exact pe_callS F hr (R.glb h1) hm hk hb .nil hx (sA es R h2) h3 (star_cons hs) hp
 | .blt f es,B,X,sc,e,R,h=>by
  refine⟨?_,trivial⟩
  refine v16_k h fun x w1 e r pos e0 g=>?_
  clear h
  subst e0
  revert g
  intro h
  simp only[Bool.and_eq_true,decide_eq_true_eq,Bool.or_eq_true,Bool.not_eq_true']at h
  obtain⟨⟨⟨⟨rfl,h1⟩,h2⟩,h4⟩,h5⟩:=h
  have hcc:X.calm=true\/f=.isinstance:=h5.imp R.calm id
  simp only[tE]
  have hs:notStar e=true:=by
   cases es with
   |nil=>exact no_tt h2
   |cons c r=>exact(band (band h2).1).2
  have hp:(backTo pos (starEach r X.env)).any (·.1)=false:=by
   have q:=mA_star (env:=X.env) (pos:=pos) h2
   rw[star_cons hs]at q
   exact q
  rw[<- R.hK]
  have hn:bltName f≠"__name__"/\(bltName f == ("__debug__":Str))=false:=by cases f<;>decide +kernel
  cases blt_is f with
  |fn id hv hc=>exact pe_callB (hc X hcc) (R.glb h1) (R.blt _ h4) hv (sA es R h2) hn.1 hn.2 (star_cons hs) hp
  |ty T hv hc=>exact pe_callTy (hc X hcc) (R.glb h1) (R.blt _ h4) hv (sA es R h2) hn.1 hn.2 (star_cons hs) hp
 | .dnt,B,X,sc,e,R,h=>by
  refine⟨?_,trivial⟩
  refine v18_k h fun w1 e0 g=>?_
  clear h
  subst e0
  revert g
  intro h
  simp only[tE];exact pe_dnewT
 | .dix a b,B,X,sc,e,R,h=>by
  refine⟨?_,trivial⟩
  refine v14_k h fun ea eb w1 e0 g=>?_
  clear h
  subst e0
  revert g
  intro h
  simp only[Bool.and_eq_true]at h
  simp only[tE]
  exact pe_dget R.hu1 (sE0 a R h.1.1).1 (sE0 b R h.1.2).1 (ix_plain h.2)
 | .din neg a b,B,X,sc,e,R,h=>by
  refine⟨?_,trivial⟩
  refine v9_k h fun ea op' eb w1 e0 g=>?_
  clear h
  subst e0
  revert g
  intro h
  simp only[Bool.and_eq_true,decide_eq_true_eq]at h
  obtain⟨⟨⟨rfl,h1⟩,h2⟩,h3⟩:=h
  simp only[tE]
  cases neg with
  |true=>exact pe_cmp (pc_notInX R.hu1 (sE0 a R h1).1 (sE0 b R h2).1) (marks_ok h3)
  |false=>exact pe_cmp (pc_inX R.hu1 (sE0 a R h1).1 (sE0 b R h2).1) (marks_ok h3)
 | .met m o es,B,X,sc,e,R,h=>by
  refine⟨?_,trivial⟩
  refine v17_k h fun eo nm apos args pos e0 g=>?_
  clear h
  subst e0
  revert g
  intro h
  simp only[Bool.and_eq_true,decide_eq_true_eq]at h
  obtain⟨⟨⟨⟨⟨rfl,h1⟩,h2⟩,h3⟩,h4⟩,h5⟩:=h
  simp only[tE]
  rw[<- R.hK]
  obtain⟨id,M⟩:=met_is m
  cases args with
  |nil=>
   cases es with
   |cons c r=>exact no_tt h4
   |nil=>
    simp only[tA]
    exact pe_bm0 M.pa M.slot M.ty (M.h X) ((sE0 o R h1).1) (base_ok h2) h3
  |cons a r=>
   have hs:notStar a=true:=by
    cases es with
    |nil=>exact no_tt h4
    |cons c r=>exact(band (band h4).1).2
   have hq:=mA_star (env:=X.env) (pos:=pos) h4
   have hp:(backTo pos (starEach r X.env)).any (·.1)=false:=by
    rw[star_cons hs]at hq
    exact hq
   refine pe_bm M.pa M.slot M.ty (M.h X) ((sE0 o R h1).1) (sA es R h4) (base_ok h2) ?_ h3 (star_cons hs) hp
   have e1:(backTo pos (starEach (a :: r) X.env)).all (fun x=>!x.1)=true:=by
    rw[List.all_eq_true]
    intro x hx
    rw[List.any_eq_false]at hq
    simpa using hq x hx
   rw[e1]
   show(true&&true&&decide ((a :: r).length+0+0<30))=true
   simp only[Bool.true_and,decide_eq_true_eq]
   omega
 | .comp elt own t it q .nil,B,X,sc,e,R,h=>by
  have D:CompX C X e (.comp elt own t it q .nil):=by
   obtain⟨ee,tg,iter,ifs,scope,pos,rfl,hh,hsc,helt,hown,h1,h2,h3,h4,h5⟩:=inv1 h
   refine⟨tg,iter,ifs,fun D env=>do let _ <- call (.builtin "list.append") [.ref D,<- eval ee env],scope,_,⟨R.compSc hsc,?_,⟨[],rfl⟩,folded_ok h3,R.calm hh,fun _ _ _=>⟨rfl,rfl⟩,fun _ _ _ _=>⟨rfl,rfl⟩,fun _ _ _ _ _=>rfl,fun _ _ _ _ _=>rfl,gext_of hown,?_⟩,sI it R h1 h2,rfl,fun _=>rfl,fun _ _ _=>⟨_,rfl⟩⟩
   .rw[R.hN];exact(scOk_of hsc).2.2.2.2
   .intro s0 H0 ex D
    have R':=R.comp hh hsc s0 H0 ex
    refine⟨sG t R' h4,sQo q R' h5,[],by simp,?_⟩
    simp only[tR]
    exact run_emit rfl (sE0 elt R' helt).1
  refine⟨?_,D⟩
  obtain⟨tg,iter,ifs,nx,scope,pos,D,hi,he,_⟩:=D
  simp only[tE]
  exact pe_comp D hi he
 | .comp elt own t it q (.cons _ _ _ _ _),B,X,sc,e,R,h=>(inv4 h).elim
termination_by structural c=>c
theorem sA {C:Rc}:∀(es:Ces) {B:List Str} {X:Cx} {sc:Scope} {xs:List Expr},Rok C B X sc->mA C.N B sc es xs=true->PA X xs (tA C es)
 | .nil,B,X,sc,xs,R,h=>by
  refine v29_k h fun e0 g=>?_
  clear h
  subst e0
  revert g
  intro h
  simp only[tA]
  exact pa_nil
 | .cons e r,B,X,sc,xs,R,h=>by
  refine v30_k h fun x xs e0 g=>?_
  clear h
  subst e0
  revert g
  intro h
  simp only[Bool.and_eq_true]at h
  simp only[tA]
  exact pa_cons ((sE0 e R h.1.1).1) (sA r R h.2) (star_cons h.1.2)
termination_by structural c=>c
theorem sQ {C:Rc}:∀(q:Cq) {B:List Str} {X:Cx} {sc:Scope} {e:Expr},Rok C B X sc->mQ C.N B sc q e=true->PT X e (tQ C q)/\((∃op vs pos,e=.BoolOp op vs pos)->PW X e (tQ C q))
 | .val c,B,X,sc,e,R,h=>by
  replace h:=band h
  refine⟨?_,fun⟨op,vs,pos,z⟩=>?_⟩
  .simp only[tQ]
   rw[<- R.hK]
   exact pt_truth (sE0 c R h.1).1 (plainT_ok h.2)
  .subst z;exact absurd h.2 (by simp[plainT])
 | .din neg a b,B,X,sc,e,R,h=>by
  refine v9_k h fun ea op' eb w1 e0 g=>?_
  clear h
  subst e0
  revert g
  intro h
  simp only[Bool.and_eq_true,decide_eq_true_eq]at h
  obtain⟨⟨⟨rfl,h1⟩,h2⟩,h3⟩:=h
  simp only[tQ]
  cases neg with
  |true=>exact⟨pt_cmp (pc_notInX R.hu1 (sE0 a R h1).1 (sE0 b R h2).1) (marks_ok h3),fun⟨op,vs,pos,z⟩=>by cases z⟩
  |false=>exact⟨pt_cmp (pc_inX R.hu1 (sE0 a R h1).1 (sE0 b R h2).1) (marks_ok h3),fun⟨op,vs,pos,z⟩=>by cases z⟩
 | .not q,B,X,sc,e,R,h=>by
  refine v8_k h fun y w1 e0 g=>?_
  clear h
  subst e0
  revert g
  intro h
  simp only[tQ]
  exact⟨pt_not (sQ q R h).1,fun⟨op,vs,pos,z⟩=>by cases z⟩
 | .and a b,B,X,sc,e,R,h=>by
  replace h:=vAnd_of h
  rcases h with⟨x,y,pos,rfl,h⟩|⟨x,y,z,r,pos,rfl,h⟩
  .simp only[Bool.and_eq_true]at h
   simp only[tQ]
   have w:PW X (.BoolOp .And [x,y] pos) (tAnd (tQ C a) (tQ C b)):=pw_and (sQ a R h.1).1 (pw_and1 (sQ b R h.2).1)
   exact⟨w.pt,fun _=>w⟩
  .simp only[Bool.and_eq_true]at h
   simp only[tQ]
   have w:=pw_and (sQ a R h.1).1 ((sQ b R h.2).2 ⟨_,_,_,rfl⟩)
   exact⟨w.pt,fun _=>w⟩
 | .or a b,B,X,sc,e,R,h=>by
  replace h:=vOr_of h
  rcases h with⟨x,y,pos,rfl,h⟩|⟨x,y,z,r,pos,rfl,h⟩
  .simp only[Bool.and_eq_true]at h
   simp only[tQ]
   have w:PW X (.BoolOp .Or [x,y] pos) (tOr (tQ C a) (tQ C b)):=pw_or (sQ a R h.1).1 (pw_or1 (sQ b R h.2).1)
   exact⟨w.pt,fun _=>w⟩
  .simp only[Bool.and_eq_true]at h
   simp only[tQ]
   have w:=pw_or (sQ a R h.1).1 ((sQ b R h.2).2 ⟨_,_,_,rfl⟩)
   exact⟨w.pt,fun _=>w⟩
 | .cmp op a b,B,X,sc,e,R,h=>by
  refine v9_k h fun ea op' eb w1 e0 g=>?_
  clear h
  subst e0
  revert g
  intro h
  simp only[Bool.and_eq_true,decide_eq_true_eq]at h
  obtain⟨⟨⟨rfl,h1⟩,h2⟩,h3⟩:=h
  simp only[tQ]
  rw[<- R.hK]
  exact⟨pt_cmpR (cmp_ok R.hu _) (sE0 a R h1).1 (sE0 b R h2).1 (marks_ok h3),fun⟨op,vs,pos,z⟩=>by cases z⟩
termination_by structural c=>c
theorem sQo {C:Rc}:∀(q:Cqo) {B:List Str} {X:Cx} {sc:Scope} {es:List Expr},Rok C B X sc->mQo C.N B sc q es=true->PTs X es (tQo C q)
 | .none,B,X,sc,es,R,h=>by
  refine v29_k h fun e0 g=>?_
  clear h
  subst e0
  revert g
  intro h
  simp only[tQo];exact pts_nil
 | .some q,B,X,sc,es,R,h=>by
  refine v31_k h fun e e0 g=>?_
  clear h
  subst e0
  revert g
  intro h
  simp only[tQo];exact pts_one (sQ q R h).1
termination_by structural c=>c
theorem sO {C:Rc}:∀(o:Co) {B:List Str} {X:Cx} {sc:Scope} {e:Option Expr},Rok C B X sc->mO C.N B sc o e=true->PO X e (tO C o)
 | .none,B,X,sc,e,R,h=>by
  refine v32_k h fun e0 g=>?_
  clear h
  subst e0
  revert g
  intro h
  simp only[tO];exact po_none
 | .some c,B,X,sc,e,R,h=>by
  refine v33_k h fun y e0 g=>?_
  clear h
  subst e0
  revert g
  intro h
  simp only[tO];exact po_some (sE0 c R h).1
termination_by structural c=>c
theorem sI {C:Rc}:∀(i:Ci) {B:List Str} {X:Cx} {sc:Scope} {x tg:Expr},Rok C B X sc->mI C.N B sc i x=true->zipT i tg=true->PI X tg x (tI C i)
 | .val c,B,X,sc,x,tg,R,h,_=>by
  simp only[tI]
  rw[<- R.hK]
  exact pi_val (sE0 c R h).1
 | .range1 a,B,X,sc,x,tg,R,h,_=>by
  refine v23_k h fun n w1 y w2 e0 g=>?_
  clear h
  subst e0
  revert g
  intro h
  simp only[Bool.and_eq_true,decide_eq_true_eq]at h
  obtain⟨⟨⟨⟨rfl,h1⟩,h2⟩,h3⟩,h4⟩:=h
  simp only[tI]
  exact pi_range1 (R.glb h1) (R.blt _ h2) (pa_cons (sE0 a R h3).1 pa_nil (star_cons h4)) (star_cons h4)
 | .zip a b,B,X,sc,x,tg,R,h,hz=>by
  refine v34_k h fun n w1 y z w2 e0 g=>?_
  clear h
  subst e0
  revert g
  intro h
  simp only[Bool.and_eq_true,decide_eq_true_eq]at h
  obtain⟨⟨⟨⟨⟨⟨rfl,h1⟩,h2⟩,h3⟩,h4⟩,h5⟩,h6⟩:=h
  simp only[tI]
  rw[<- R.hK]
  have e2:starEach [_] X.env=[(false,eval _ X.env)]:=star_cons (es:=[]) h6
  cases tg with
  |Tuple es k p=>exact pi_zip (R.glb h1) (R.blt _ h2) (pa_cons (sE0 a R h3).1 (pa_cons (sE0 b R h5).1 pa_nil (star_cons h6)) (star_cons h4)) (by rw[star_cons h4,e2]) e2
  |_=>cases hz
 | .enum a,B,X,sc,x,tg,R,h,hz=>by
  refine v23_k h fun n w1 y w2 e0 g=>?_
  clear h
  subst e0
  revert g
  intro h
  simp only[Bool.and_eq_true,decide_eq_true_eq]at h
  obtain⟨⟨⟨⟨rfl,h1⟩,h2⟩,h3⟩,h4⟩:=h
  simp only[tI]
  rw[<- R.hK]
  cases tg with
  |Tuple es k p=>exact pi_enum (R.glb h1) (R.blt _ h2) (pa_cons (sE0 a R h3).1 pa_nil (star_cons h4)) (star_cons h4)
  |_=>cases hz
 | .range3 a b c,B,X,sc,x,tg,R,h,_=>by
  refine v35_k h fun n w1 y z u w2 e0 g=>?_
  clear h
  subst e0
  revert g
  intro h
  simp only[Bool.and_eq_true,decide_eq_true_eq]at h
  obtain⟨⟨⟨⟨⟨⟨⟨⟨rfl,h1⟩,h2⟩,h3⟩,h4⟩,h5⟩,h6⟩,h7⟩,h8⟩:=h
  simp only[tI]
  have e2:starEach [_] X.env=[(false,eval _ X.env)]:=star_cons (es:=[]) h8
  have e3:starEach [_,_] X.env=[(false,eval _ X.env),(false,eval _ X.env)]:=(star_cons (es:=[_]) h6).trans (by rw[e2])
  exact pi_range3 (R.glb h1) (R.blt _ h2) (pa_cons (sE0 a R h3).1 (pa_cons (sE0 b R h5).1 (pa_cons (sE0 c R h7).1 pa_nil (star_cons h8)) (star_cons h6)) (star_cons h4)) (by rw[star_cons h4,e3]) e3
termination_by structural c=>c
theorem sG {C:Rc}:∀(t:Ct) {B:List Str} {X:Cx} {sc:Scope} {e:Expr},Rok C B X sc->mT C.N B sc t e=true->PG X e (tG C t)
 | .name i,B,X,sc,e,R,h=>by
  refine v1_k h fun x w1 e0 g=>?_
  clear h
  subst e0
  revert g
  intro h
  simp only[Bool.and_eq_true]at h
  obtain⟨h1,h2,h3⟩:=nameOk_of h.1
  obtain⟨h4,h5⟩:=R.locb h.2
  simp only[tG]
  exact pg_name (by rw[R.hN];exact R.nd) (by rw[R.hN];exact h1) h4 h5
 | .tup ts,B,X,sc,e,R,h=>by
  refine v12_k h fun es w1 w2 e0 g=>?_
  clear h
  subst e0
  revert g
  intro h
  simp only[tG]
  rw[<- R.hK]
  simp only[Bool.and_eq_true,Bool.not_eq_true']at h
  exact pg_seq (R.calm h.2) (sGs ts R h.1) (assign_star h.1).1 (assign_star h.1).2
 | .sub o i,B,X,sc,e,R,h=>by
  refine v14_k h fun eo ei w1 e0 g=>?_
  clear h
  subst e0
  revert g
  intro h
  simp only[Bool.and_eq_true]at h
  simp only[tG]
  exact pg_sub (sE0 o R h.1.1).1 (sE0 i R h.1.2).1 set_list (asg_sub h.2)
termination_by structural c=>c
theorem sGs {C:Rc}:∀(ts:Cts) {B:List Str} {X:Cx} {sc:Scope} {es:List Expr},Rok C B X sc->mTs C.N B sc ts es=true->PGs X es (tGs C ts)
 | .nil,B,X,sc,es,R,h=>by
  refine v29_k h fun e0 g=>?_
  clear h
  subst e0
  revert g
  intro h
  simp only[tGs];exact pgs_nil
 | .cons t r,B,X,sc,es,R,h=>by
  refine v30_k h fun x xs e0 g=>?_
  clear h
  subst e0
  revert g
  intro h
  simp only[Bool.and_eq_true]at h
  simp only[tGs]
  exact pgs_cons (sG t R h.1.1) (sGs r R h.2) (assign_each h.1.2)
termination_by structural c=>c
end
theorem sE {C:Rc} {B:List Str} (c:Ce) {X:Cx} {sc:Scope} {e:Expr} (R:Rok C B X sc) (h:mE C.N B sc c e=true):PE X e (tE C c):=(sE0 c R h).1
end R3
set_option maxHeartbeats 4000000
namespace R3
open PySem PySem.Spec PyProof.Rows L2
noncomputable def noCompX:Expr->Bool
 | .ListComp ..=>false
 | .SetComp ..=>false
 | .DictComp ..=>false
 |_=>true
theorem swaps_no {x tg:Expr} {l:Nat} {env:Env} (h:noCompX x=true):swapsWithSole [tg] x l env=pure false:=by
 cases x<;>first|rfl|cases h
theorem swaps_none {x:Expr} {l:Nat} {env:Env} (h:noCompX x=true):swapsWith x none l env=pure false:=by
 cases x<;>first|rfl|cases h
theorem mE_comp {N B:List Str} {sc:Scope} {c:Ce} {x:Expr} (h:mE N B sc c x=true) (hd:isDcx c=false) (hx:noCompX x=false):∃elt own t it q r,c=.comp elt own t it q r/\∃ee gens scope pos,x=.ListComp ee gens scope pos:=by
 cases x<;>first|(simp[noCompX]at hx;done)|skip
 .cases c<;>first|(exact no_tt h)|(cases hd;done)|exact⟨_,_,_,_,_,_,rfl,_,_,_,_,rfl⟩
 .cases c<;>first|(exact no_tt h)|(cases hd;done)|(rename_i r;cases r<;>first|(exact no_tt h)|(cases hd;done)|(rename_i r;cases r<;>first|(exact no_tt h)|(cases hd;done)|(rename_i r;cases r<;>exact no_tt h)))
 .cases c<;>first|(exact no_tt h)|(cases hd;done)|(rename_i r;cases r<;>first|(exact no_tt h)|(cases hd;done)|(rename_i r;cases r<;>first|(exact no_tt h)|(cases hd;done)|(rename_i r;cases r<;>exact no_tt h)))
theorem one_assign {tg:Expr} {env:Env} (h:notStar tg=true):(assignEach [tg] env).map (·.2)=[assign tg env]:=by
 cases tg<;>first|rfl|cases h
noncomputable def notPair:Expr->Expr->Bool
 | .Tuple ..,.Tuple ..=>false
 | .List ..,.Tuple ..=>false
 |_,_=>true
theorem swapped_no {tg x:Expr} {env:Env} (h:notPair tg x=true):swappedStores [tg] x env=pure none:=by
 cases tg<;>first|rfl|(cases x<;>first|rfl|cases h)
theorem swapped_fold {tg:Expr} {vs:List Expr} {k:Nat} {pos:Pos} {env:Env} (h:vs.all (foldedForSure 8)=true):swappedStores [tg] (.Tuple vs k pos) env=pure none:=by
 have key:∀ts:List Expr,swappedStores [.Tuple ts 0 pos] (.Tuple vs k pos) env=pure none:=by
  intro ts
  unfold swappedStores
  dsimp only
  split
  .rfl
  .split
   .rfl
   .split
    .rfl
    .rfl
 cases tg<;>first|rfl|exact key _
theorem mT_list {N B:List Str} {sc:Scope} {t:Ct} {a:List Expr} {p:Pos} (h:mT N B sc t (.List a p)=true):False:=by
 cases t<;>exact no_tt h
section
variable {C:Rc} {B:List Str} {X:Cx} {sc:Scope}
theorem Rok.suite (R:Rok C B X sc) (e:Addr):Rok { C with xk:=fun _=>E0 } ("~" :: "^" :: B) (X.inX e) sc:=by
 have t1:tld ("~" :: "^" :: B)=true:=tld_cons
 have t2:hat ("~" :: "^" :: B)=true:=decide_eq_true (List.mem_cons_of_mem _ List.mem_cons_self)
 refine⟨R.hN,R.nd,R.hK,PassesOwn.never,(fun z=>by rw[t2]at z;cases z),R.hu,R.gd,R.loc,R.cel,R.fre,R.glo,(fun _ _ _ z=>by rw[t2]at z;cases z),fun x hx=>?_,R.mrk,R.cls,(fun z=>by rw[t1]at z;cases z),(fun z=>by rw[t1]at z;cases z),(fun z=>by rw[t1]at z;cases z)⟩
 rcases List.mem_cons.mp hx with rfl|hx
 .exact R.mrk.1
 .rcases List.mem_cons.mp hx with rfl|hx
  .exact R.mrk.2.1
  .exact R.blt x hx
end
set_option maxHeartbeats 4000000
mutual
theorem sS:∀(c:Cs) {C:Rc} {B:List Str} {X:Cx} {sc:Scope} {s:Stmt},Rok C B X sc->X.env.scope.kind=.function->mS C.N B sc c s=true->PS X s (tS C c)
 | .expr e,C,B,X,sc,s,R,hk,h=>by
  refine v36_k h fun x w1 e0 g=>?_
  clear h
  subst e0
  revert g
  intro h
  simp only[Bool.and_eq_true,Bool.not_eq_true']at h
  simp only[tS]
  refine ps_expr (sE e R h.1.1) (swaps_none ?_)
  cases hx:noCompX x with
  |true=>rfl
  |false=>
   obtain⟨elt,own,t,it,q,r,rfl,_⟩:=mE_comp h.1.1 h.2 hx
   exact absurd h.1.2 (by simp)
 | .ret e,C,B,X,sc,s,R,hk,h=>by
  refine v37_k h fun x w1 e0 g=>?_
  clear h
  subst e0
  revert g
  intro h
  simp only[tS]
  exact ps_ret (sE e R h)
 | .asg t e,C,B,X,sc,s,R,hk,h=>by
  refine v39_k h fun tg x pos e0 g=>?_
  clear h
  subst e0
  revert g
  intro h
  simp only[Bool.and_eq_true]at h
  obtain⟨⟨⟨⟨h1,h0⟩,h2⟩,h3⟩,h4⟩:=h
  simp only[Bool.not_eq_true']at h0
  simp only[tS]
  have hw:swappedStores [tg] x X.env=pure none:=by
   cases tg with
   |Tuple a b c=>cases x<;>first|exact swapped_no rfl|exact swapped_fold h4|(simp at h4)
   |List a b=>exact(mT_list h2).elim
   |_=>exact swapped_no rfl
  cases hx:noCompX x with
  |true=>exact ps_asg (sE e R h1) (sG t R h2) (swaps_no hx) hw (one_assign h3)
  |false=>
   obtain⟨elt,own,t',it,q,r,rfl,ee,gens,scope,p2,rfl⟩:=mE_comp h1 h0 hx
   have D:=(sE0 _ R h1).2
   obtain⟨tg',iter,ifs,nx,scope',pos',D,hi,he,hu,hsw⟩:=D
   cases t with
   |name i=>
    cases tg with
    |Name y py=>
     obtain⟨b,hb⟩:=hsw y py pos.line
     cases b with
     |true=>
      replace h2:=band h2
      obtain⟨g1,g2,g3⟩:=nameOk_of h2.1
      obtain⟨g4,g5⟩:=R.locb h2.2
      simp only[tE,tG]
      exact ps_setcomp D hi (by rw[R.hN];exact R.nd) (by rw[R.hN];exact g1) g4 g5 (hu _) hb
     |false=>exact ps_asg (sE _ R h1) (sG _ R h2) hb hw (one_assign h3)
    |_=>exact no_tt h2
   |tup ts=>
    cases tg with
    |Tuple a b c=>simp at h4
    |_=>exact no_tt h2
   |sub o i=>
    cases tg with
    |Subscript a b c=>exact ps_asg (sE _ R h1) (sG _ R h2) rfl hw (one_assign h3)
    |_=>exact no_tt h2
 | .dput o i e,C,B,X,sc,s,R,hk,h=>by
  refine v48_k h fun eo ei w1 ee w2 e0 g=>?_
  clear h
  subst e0
  revert g
  intro h
  simp only[Bool.and_eq_true]at h
  obtain⟨⟨⟨⟨h1,h2⟩,h3⟩,h4⟩,h5⟩:=h
  simp only[tS]
  refine ps_dput R.hu1 (sE o R h1) (sE i R h2) (sE e R h4) ?_
  cases ee<;>first|rfl|cases h5
 | .ite q a b,C,B,X,sc,s,R,hk,h=>by
  refine v50_k h fun x ss rs w1 e0 g=>?_
  clear h
  subst e0
  revert g
  intro h
  simp only[Bool.and_eq_true]at h
  simp only[tS]
  exact ps_if (sQ q R h.1.1).1 (sSs a R hk h.1.2) (sSs b R hk h.2)
 | .whl q b,C,B,X,sc,s,R,hk,h=>by
  refine v51_k h fun x ss w1 e0 g=>?_
  clear h
  subst e0
  revert g
  intro h
  simp only[Bool.and_eq_true]at h
  simp only[tS]
  exact ps_while R.own (sQ q R h.1).1 (sSs b R hk h.2)
 | .for_ t it b,C,B,X,sc,s,R,hk,h=>by
  refine v52_k h fun tg iter ss w1 e0 g=>?_
  clear h
  subst e0
  revert g
  intro h
  simp only[Bool.and_eq_true,Bool.not_eq_true']at h
  obtain⟨⟨⟨⟨⟨h1,h2⟩,h3⟩,h4⟩,h5⟩,hh⟩:=h
  simp only[tS]
  exact ps_for R.own (R.calm hh) (sI it R h1 h2) (sG t R h4) (sSs b R hk h5) (folded_ok h3)
theorem sSs:∀(c:Css) {C:Rc} {B:List Str} {X:Cx} {sc:Scope} {ss:List Stmt},Rok C B X sc->X.env.scope.kind=.function->mSs C.N B sc c ss=true->PSs X ss (tSs C c)
 | .nil,C,B,X,sc,ss,R,hk,h=>by
  refine v56_k h fun e0 g=>?_
  clear h
  subst e0
  revert g
  intro h
  simp only[tSs];exact pss_nil
 | .cons c r,C,B,X,sc,ss,R,hk,h=>by
  refine v57_k h fun x xs e0 g=>?_
  clear h
  subst e0
  revert g
  intro h
  simp only[Bool.and_eq_true]at h
  simp only[tSs]
  exact pss_cons (sS c R hk h.1) (sSs r R hk h.2)
end
section
variable {P:Program} {w:World} {K:W.Frag} {mg:Str->Option Value} {base:Heap}
structure Ask (P:Program) (w:World) (K:W.Frag) (mg:Str->Option Value) (base:Heap) (k:Nat) (C:Rc):Prop where
 fs:∀y sp',C.fs y=some sp'->∃f' fd' ps',(FnOk P w K mg base CX0 k f' fd' ps' sp'\/FnOk P w K mg base (CX1 P w mg) k f' fd' ps' sp'/\bang y∈C.B)/\mg y=some (.ref f')/\W.keepIn K (.ref f')=true/\Binds K fd' ps' []
 B:∀y∈C.B,mg y=none
 mrk:mg "~"=none/\mg "^"=none/\mg "%"=none
 cl:∀c Ca,C.cl c=some Ca->mg c=some (.ref Ca)/\W.nsIn K mainGlobals c=some (some (.ref Ca))
 nt:tld C.B=false
 nh:hat C.B=false
theorem code_ok {x qual:Str} {st:Stmt} {f:Addr} {fd:FuncData} {ps:List Str} {k:Nat} {sp:Sp} (F:Fun K x qual st f fd) (C:Rc) (S:FnScope C.N ps (defScope st)) (hK:C.K=K) (code:Css) (hm:mSs C.N C.B (defScope st) code (defBody st)=true)
  (len:∀vs H Q E,sp vs H Q E->vs.length=ps.length) (ask:Ask P w K mg base k C) (hxk:C.xk=fun _=>E0)
  (hbody:∀vs H Q E,sp vs H Q E->tSs C code { nx:=fun _ H'=>Q .non H',rt:=Q } (start C.N vs) H):FnOk P w K mg base CX0 (k+1) f fd ps sp:=by
 refine F.ok S len fun cdv A outer s H vs Q E hr h=>⟨_,sSs code (sc:=defScope st) (B:=C.B) ?_ S.kind hm,hbody vs H Q E h⟩
 refine⟨rfl,S.nd,hK.symm,PassesOwn.never,fun _=>rfl,hr.units,hr.gd,fun _ e=>e,fun _ e=>⟨e,rfl⟩,fun _ e=>.inr e,fun _ e=>e,fun y sp' e _ _=>?_,ask.B,ask.mrk,ask.cl,fun _=>⟨rfl,fun _=>rfl,rfl,rfl⟩,fun _=>ask.nh,fun _ _ nm Ca pins σ H s e t _ _ _ _ _ _ z=>?_⟩
 .obtain⟨f',fd',ps',h1,h2,h3,h4⟩:=ask.fs y sp' e
  rcases h1 with h1|⟨h1,hb⟩
  .exact⟨f',fd',ps',k,CX0,h1,hr,h2,h3,h4,.inl rfl,passS0⟩
  .refine⟨f',fd',ps',k,_,h1,hr,h2,h3,h4,.inr ⟨rfl,hb⟩,?_⟩
   rintro pins σ H s e s' I ⟨ea,T,Ca,nm,H',_,_,_,_,_,_,_,_,_,_,_,z⟩
   rw[hxk]at z
   exact z.elim
 .rw[hxk]at z
  exact z.elim
end
def BoxAt (a:Addr) (k:Nat) (h:Heap):Prop:=∃(x y z:Int) (t1 t2 t3:Tok) (n:Nat),h.get? a=some { cls:=.type "list",data:=.seq #[.int x t1,.int y t2,.int z t3] n }/\0<=x/\0<=y/\y<2 ^ 62/\0<=z/\z<=k
noncomputable def BoxO (a:Addr) (k:Nat):HO:=.ext (BoxAt a k)
noncomputable def BoxL (x y z:Int):HO:=.lst [.int x,.int y,.int z]
theorem box_le {a:Addr} {n k:Nat} (e:BoxO a n=BoxO a k):n<=k:=by
 have e1:BoxAt a n=BoxAt a k:=HO.ext.inj e
 let o:Obj:={ cls:=.type "list",data:=.seq #[.int 0 0,.int 0 0,.int n 0] 0 }
 let h0:Heap:={ (default:Heap)with objs:=Array.replicate a default }
 have hs:h0.objs.size=a:=Array.size_replicate
 have g:(h0.push o).get? a=some o:=by
  have:=Heap.get?_push_size h0 (o:=o) rfl
  rw[hs]at this
  exact this
 have q:BoxAt a n (h0.push o):=⟨0,0,n,0,0,0,0,g,by omega,by omega,by decide,by omega,by omega⟩
 rw[e1]at q
 obtain⟨x,y,z,t1,t2,t3,m,g2,_,_,_,_,hz⟩:=q
 rw[g]at g2
 have g3:=Option.some.inj g2
 have g4:(#[.int 0 0,.int 0 0,.int n 0]:Array Value)=#[.int x t1,.int y t2,.int z t3]:=by
  have:o.data=_:=congrArg Obj.data g3
  injection this
 have g6:=congrArg Array.toList g4
 simp only[List.cons.injEq,Value.int.injEq]at g6
 have g5:(n:Int)=z:=g6.2.2.1.1
 omega
theorem box_close {P:Program} {w:World} {H:Hp} {h:Heap} {b:Addr} {x y z:Int} {k:Nat} (hok:HOk P w H h) (e:H b=some (BoxL x y z)) (hx:0<=x) (hy:0<=y) (hy2:y<2 ^ 62) (hz:0<=z) (hk:z<=k):HOk P w (upd H b (BoxO b k)) h:=by
 intro c o ec
 by_cases hc:c=b
 .subst hc
  rw[upd_same]at ec
  cases ec
  obtain⟨_,its,n,rv,g⟩:=(show ObjOk P w H h c (.lst _) from hok c _ e)
  cases rv with
  |cons r1 r=>
   cases r with
   |cons r2 r=>
    cases r with
    |cons r3 r=>
     cases r
     obtain⟨t1,rfl⟩:=r1
     obtain⟨t2,rfl⟩:=r2
     obtain⟨t3,rfl⟩:=r3
     refine⟨⟨x,y,z,t1,t2,t3,n,g,hx,hy,hy2,hz,hk⟩,⟨_,g⟩,fun h1 h2 q kk=>?_⟩
     obtain⟨x,y,z,t1,t2,t3,n,g,r⟩:=q
     exact⟨x,y,z,t1,t2,t3,n,kk _ g,r⟩
 .rw[upd_ne hc]at ec
  have ne:∀d u,H d=some u->(∀xs,u≠.lst xs)->d≠b:=fun d u q nu z=>by subst z;rw[e]at q;cases q;exact nu _ rfl
  exact(hok c o ec).stay (fun _ _ _ q=>q) (fun d q=>by rw[upd_ne (ne d _ q fun _ z=>by cases z)];exact q) fun d xs q=>by rw[upd_ne (ne d _ q fun _ z=>by cases z)];exact q
theorem box_open {P:Program} {w:World} {H:Hp} {h:Heap} {b:Addr} {k:Nat} (hok:HOk P w H h) (e:H b=some (BoxO b k)):∃x y z:Int,0<=x/\0<=y/\y<2 ^ 62/\0<=z/\z<=k/\HOk P w (upd H b (BoxL x y z)) h:=by
 obtain⟨⟨x,y,z,t1,t2,t3,n,g,hx,hy,hy2,hz,hk⟩,_,_⟩:=(show ObjOk P w H h b (.ext _) from hok b _ e)
 refine⟨x,y,z,hx,hy,hy2,hz,hk,fun c o ec=>?_⟩
 by_cases hc:c=b
 .subst hc
  rw[upd_same]at ec
  cases ec
  exact⟨by show 3<=sizeLine;decide,[.int x t1,.int y t2,.int z t3],n,.cons ⟨_,rfl⟩ (.cons ⟨_,rfl⟩ (.cons ⟨_,rfl⟩ .nil)),g⟩
 .rw[upd_ne hc]at ec
  have ne:∀d u,H d=some u->(∀φ,u≠.ext φ)->d≠b:=fun d u q nu z=>by subst z;rw[e]at q;cases q;exact nu _ rfl
  exact(hok c o ec).stay (fun _ _ _ q=>q) (fun d q=>by rw[upd_ne (ne d _ q fun _ z=>by cases z)];exact q) fun d xs q=>by rw[upd_ne (ne d _ q fun _ z=>by cases z)];exact q
theorem un_close {fs ex:List Addr} {H H':Hp} {h h':Heap} {b:Addr} {xs:List V} {o:HO} (u:Un fs ex H H' h h') (e:H' b=some (.lst xs)):Un fs ex H (upd H' b o) h h' where
 keep:=u.keep
 slot:=u.slot
 free:=fun c ob q n hx=>by
  have z:=u.free c ob q n hx
  rw[upd_ne (fun z2=>by subst z2;rw[e]at z;cases z)]
  exact z
 there:=u.there
 tups:=fun c ys q=>by
  have z:=u.tups c ys q
  rw[upd_ne (fun z2=>by subst z2;rw[e]at z;cases z)]
  exact z
 frzs:=fun c ob ys q=>by
  have z:=u.frzs c ob ys q
  rw[upd_ne (fun z2=>by subst z2;rw[e]at z;cases z)]
  exact z
 tbls:=fun c ps q=>by
  obtain⟨m,z⟩:=u.tbls c ps q
  exact⟨m,by rw[upd_ne (fun z2=>by subst z2;rw[e]at z;cases z)];exact z⟩
theorem un_open {fs ex:List Addr} {H H':Hp} {h h':Heap} {b:Addr} {φ:Heap->Prop} {o:HO} (u:Un fs ex (upd H b o) H' h h') (e:H b=some (.ext φ)):Un fs ex H H' h h':=by
 have ne:∀c,H c=none->c≠b:=fun c n z=>by subst z;rw[e]at n;cases n
 have ne2:∀c v,H c=some v->(∀ψ,v≠.ext ψ)->c≠b:=fun c v q nv z=>by subst z;rw[e]at q;cases q;exact nv _ rfl
 exact⟨fun c ob q n=>u.keep c ob q (by rw[upd_ne (ne c n)];exact n),fun c ob q n=>u.slot c ob q (by rw[upd_ne (ne c n)];exact n),fun c ob q n=>u.free c ob q (by rw[upd_ne (ne c n)];exact n),u.there,
  fun c ys q=>u.tups c ys (by rw[upd_ne (ne2 c _ q fun _ z=>by cases z)];exact q),fun c ob ys q=>u.frzs c ob ys (by rw[upd_ne (ne2 c _ q fun _ z=>by cases z)];exact q),fun c ps q=>u.tbls c ps (by rw[upd_ne (ne2 c _ q fun _ z=>by cases z)];exact q)⟩
section
variable {P:Program} {w:World} {K:W.Frag} {mg:Str->Option Value} {base:Heap} {k:Nat} {f:Addr} {fd:FuncData} {ps:List Str} {sp sp':Sp}
def Shut (Q:VK) (v:V) (H:Hp):Prop:=∃b x y z m,H b=some (BoxL x y z)/\0<=x/\0<=y/\y<2 ^ 62/\0<=z/\z<=((m:Nat):Int)/\Q v (upd H b (BoxO b m))
theorem shut_fn (F:FnOk P w K mg base CX0 k f fd ps sp) (h:∀vs H Q E,sp' vs H Q E->sp vs H (Shut Q) E):FnOk P w K mg base CX0 k f fd ps sp':=by
 refine⟨fun vs H Q E q=>F.len vs H _ E (h _ _ _ _ q),fun A outer s H args us vs Q E hr e0 hb hv hs=>?_⟩
 refine codeAny_mono (F.run A outer s H args us vs _ E hr e0 hb hv (h _ _ _ _ hs)) fun r s' hq=>?_
 cases r with
 |error e=>exact hq
 |ok fl=>
  cases fl with
  |next=>exact hq
  |brk=>exact hq
  |cont=>exact hq
  |ret u=>
   obtain⟨v,H',os,bare,un,hok,rv,b,x,y,z,m,eb,hx,hy,hy2,hz,hm,q⟩:=hq
   exact⟨v,_,os,bare,un_close un eb,box_close hok eb hx hy hy2 hz hm,rv,q⟩
theorem open_fn (F:FnOk P w K mg base CX0 k f fd ps sp) (h:∀vs H Q E,sp' vs H Q E->∃b n,H b=some (BoxO b n)/\∀x y z,0<=x->0<=y->y<2 ^ 62->0<=z->z<=((n:Nat):Int)->sp vs (upd H b (BoxL x y z)) Q E) (len:∀vs H Q E,sp' vs H Q E->vs.length=ps.length):FnOk P w K mg base CX0 k f fd ps sp':=by
 refine⟨len,fun A outer s H args us vs Q E hr e0 hb hv hs=>?_⟩
 obtain⟨b,n,eb,hsp⟩:=h _ _ _ _ hs
 obtain⟨x,y,z,hx,hy,hy2,hz,hn,hok⟩:=box_open e0.hok eb
 have ne:∀c,H c=none->c≠b:=fun c n z=>by subst z;rw[eb]at n;cases n
 have e1:Env0 P w K mg base A outer s (upd H b (BoxL x y z)):=⟨e0.frames,e0.mod,fun c o e=>⟨(e0.bs c o e).1,by rw[upd_ne (ne c (e0.bs c o e).2)];exact(e0.bs c o e).2⟩,e0.bsz,e0.funs,fun c hc=>by rw[upd_ne (ne c (e0.frf c hc))];exact e0.frf c hc,hok,e0.bare⟩
 refine codeAny_mono (F.run A outer s _ args us vs Q E hr e1 hb hv (hsp x y z hx hy hy2 hz hn)) fun r s' hq=>?_
 cases r with
 |error e=>exact hq
 |ok fl=>
  cases fl with
  |next=>exact hq
  |brk=>exact hq
  |cont=>exact hq
  |ret u=>
   obtain⟨v,H',os,bare,un,hok,rv,q⟩:=hq
   exact⟨v,H',os,bare,un_open un eb,hok,rv,q⟩
end
structure Go (c:Nat) (H H':Hp):Prop where
 box:∀a n,H a=some (BoxO a n)->∃m,m<=n+c/\H' a=some (BoxO a m)
 oth:∀a o,H a=some o->(∀φ,o≠.ext φ)->H' a=some o
 free:∀a,H' a=none->H a=none
theorem Go.of_same {c:Nat} {H H':Hp} (h:Same H H'):Go c H H':=⟨fun a n e=>⟨n,by omega,h a _ e⟩,fun a o e _=>h a o e,fun a e=>h.free e⟩
theorem Go.refl {c:Nat} {H:Hp}:Go c H H:=.of_same (Same.refl H)
theorem Go.trans {c d:Nat} {H H1 H2:Hp} (a:Go c H H1) (b:Go d H1 H2):Go (c+d) H H2:=⟨fun p n e=>by
  obtain⟨m,hm,e1⟩:=a.box p n e
  obtain⟨m',hm',e2⟩:=b.box p m e1
  exact⟨m',by omega,e2⟩,fun p o e no=>b.oth p o (a.oth p o e no) no,fun p e=>a.free p (b.free p e)⟩
theorem Go.mono {c d:Nat} {H H1:Hp} (a:Go c H H1) (h:c<=d):Go d H H1:=⟨fun p n e=>by
  obtain⟨m,hm,e1⟩:=a.box p n e
  exact⟨m,by omega,e1⟩,a.oth,a.free⟩
theorem Go.lst {c:Nat} {H H1:Hp} (a:Go c H H1) {p:Addr} {xs:List V} (e:H p=some (.lst xs)):H1 p=some (.lst xs):=a.oth p _ e fun _ z=>by cases z
theorem Go.tup {c:Nat} {H H1:Hp} (a:Go c H H1) {p:Addr} {xs:List V} (e:H p=some (.tup xs)):H1 p=some (.tup xs):=a.oth p _ e fun _ z=>by cases z
theorem Go.seq {c:Nat} {K:W.Frag} {H H1:Hp} (g:Go c H H1) {a:Addr} {xs:List V} (h:SqL K H a xs):SqL K H1 a xs:=by
 rcases h with(h|⟨o,h⟩)|h
 .exact .inl (.inl (g.lst h))
 .exact .inl (.inr ⟨o,g.oth _ _ h fun _ z=>by cases z⟩)
 .exact .inr h
theorem Go.draw {H:Hp} {b:Addr} {n m:Nat} (e:H b=some (BoxO b n)) (h:m<=n+1) (o:HO):Go 1 H (upd (upd H b o) b (BoxO b m)):=by
 rw[upd_upd]
 refine⟨fun p k q=>?_,fun p u q no=>?_,fun p q=>?_⟩
 .by_cases hp:p=b
  .subst hp
   rw[e]at q
   have:=box_le (Option.some.inj q)
   exact⟨m,by omega,upd_same⟩
  .exact⟨k,by omega,by rw[upd_ne hp];exact q⟩
 .rw[upd_ne]
  .exact q
  .intro z
   subst z
   rw[e]at q
   cases q
   exact no _ rfl
 .by_cases hp:p=b
  .subst hp
   rw[upd_same]at q
   cases q
  .rw[upd_ne hp]at q
   exact q
section
variable {C:Rc} {σ:L2.St} {H:Hp} {Q:VK} {D:Ends} {Qb:Bool->Hp->Prop}
def kV (o:Option (Option V)) (H:Hp) (Q:VK):Prop:=∃v,o=some (some v)/\Q v H
theorem kV_some {v:V}:kV (some (some v)) H Q=Q v H:=propext ⟨fun⟨u,e,q⟩=>by cases e;exact q,fun q=>⟨v,rfl,q⟩⟩
theorem tE_var {i:Nat}:tE C (.var i) σ H Q=kV σ[i]? H Q:=rfl
theorem tE_int {n:Int}:tE C (.int n) σ H Q=Q (.int n) H:=rfl
theorem tE_bl {b:Bool}:tE C (.bl b) σ H Q=Q (.bl b) H:=rfl
theorem tE_non:tE C .non σ H Q=Q .non H:=rfl
theorem tE_str {x:Str}:tE C (.str x) σ H Q=Q (.str x) H:=rfl
theorem tE_ty {x:String}:tE C (.ty x) σ H Q=Q (.ty x) H:=rfl
noncomputable def kB1 (C:Rc) (σ:L2.St) (op:Operator) (b:Ce) (Q:VK):VK:=fun x H=>tE C b σ H fun y H2=>rBin C.K op x y H2 Q
noncomputable def kB2 (C:Rc) (op:Operator) (x:V) (Q:VK):VK:=fun y H=>rBin C.K op x y H Q
theorem tE_bin {op:Operator} {a b:Ce}:tE C (.bin op a b) σ H Q=tE C a σ H (kB1 C σ op b Q):=rfl
theorem kB1_at {op:Operator} {b:Ce} {x:V}:kB1 C σ op b Q x H=tE C b σ H (kB2 C op x Q):=rfl
theorem kB2_at {op:Operator} {x y:V}:kB2 C op x Q y H=rBin C.K op x y H Q:=rfl
noncomputable def kC1 (C:Rc) (σ:L2.St) (op:CmpOp) (b:Ce) (Q:VK):VK:=fun x H=>tE C b σ H fun y H2=>rCmp C.K op x y H2 Q
noncomputable def kC2 (C:Rc) (op:CmpOp) (x:V) (Q:VK):VK:=fun y H=>rCmp C.K op x y H Q
theorem tE_cmp {op:CmpOp} {a b:Ce}:tE C (.cmp op a b) σ H Q=tE C a σ H (kC1 C σ op b Q):=rfl
theorem kC1_at {op:CmpOp} {b:Ce} {x:V}:kC1 C σ op b Q x H=tE C b σ H (kC2 C op x Q):=rfl
theorem kC2_at {op:CmpOp} {x y:V}:kC2 C op x Q y H=rCmp C.K op x y H Q:=rfl
noncomputable def kI1 (C:Rc) (σ:L2.St) (b:Ce) (Q:VK):VK:=fun x H=>tE C b σ H fun y H2=>rIxM C.K x y H2 Q
noncomputable def kI2 (C:Rc) (x:V) (Q:VK):VK:=fun y H=>rIxM C.K x y H Q
theorem tE_idx {a b:Ce}:tE C (.idx a b) σ H Q=tE C a σ H (kI1 C σ b Q):=rfl
theorem kI1_at {b:Ce} {x:V}:kI1 C σ b Q x H=tE C b σ H (kI2 C x Q):=rfl
theorem kI2_at {x y:V}:kI2 C x Q y H=rIxM C.K x y H Q:=rfl
noncomputable def kNeg (Q:VK):VK:=fun x H=>rU (fun i=>.int (-i)) x H Q
theorem tE_neg {a:Ce}:tE C (.neg a) σ H Q=tE C a σ H (kNeg Q):=rfl
theorem kNeg_int {i:Int}:kNeg Q (.int i) H=Q (.int (-i)) H:=propext ⟨fun⟨u,e,q⟩=>by cases e;exact q,fun q=>⟨i,rfl,q⟩⟩
noncomputable def kT (Qb:Bool->Hp->Prop):VK:=fun x H=>∃k,x=.bl k/\Qb k H
theorem kT_bl {k:Bool}:kT Qb (.bl k) H=Qb k H:=propext ⟨fun⟨u,e,q⟩=>by cases e;exact q,fun q=>⟨k,rfl,q⟩⟩
theorem tQ_cmp {op:CmpOp} {a b:Ce}:tQ C (.cmp op a b) σ H Qb=tE C a σ H (kC1 C σ op b (kT Qb)):=rfl
noncomputable def kNotQ (Qb:Bool->Hp->Prop):Bool->Hp->Prop:=fun c H=>Qb (!c) H
theorem tQ_not {q:Cq}:tQ C (.not q) σ H Qb=tQ C q σ H (kNotQ Qb):=rfl
theorem kNotQ_at {c:Bool}:kNotQ Qb c H=Qb (!c) H:=rfl
noncomputable def kAndQ (C:Rc) (σ:L2.St) (b:Cq) (Qb:Bool->Hp->Prop):Bool->Hp->Prop:=fun c H=>if c=true then tQ C b σ H Qb else Qb false H
noncomputable def kOrQ (C:Rc) (σ:L2.St) (b:Cq) (Qb:Bool->Hp->Prop):Bool->Hp->Prop:=fun c H=>if c=true then Qb true H else tQ C b σ H Qb
theorem tQ_and {a b:Cq}:tQ C (.and a b) σ H Qb=tQ C a σ H (kAndQ C σ b Qb):=rfl
theorem tQ_or {a b:Cq}:tQ C (.or a b) σ H Qb=tQ C a σ H (kOrQ C σ b Qb):=rfl
theorem kAndQ_t {b:Cq}:kAndQ C σ b Qb true H=tQ C b σ H Qb:=rfl
theorem kAndQ_f {b:Cq}:kAndQ C σ b Qb false H=Qb false H:=rfl
theorem kOrQ_t {b:Cq}:kOrQ C σ b Qb true H=Qb true H:=rfl
theorem kOrQ_f {b:Cq}:kOrQ C σ b Qb false H=tQ C b σ H Qb:=rfl
variable {K:W.Frag} {i j:Int} {x y:Str}
theorem b_add:rBin K .Add (.int i) (.int j) H Q=Q (.int (i+j)) H:=rfl
theorem b_sub:rBin K .Sub (.int i) (.int j) H Q=Q (.int (i-j)) H:=propext ⟨fun⟨_,_,e,e',q⟩=>by cases e;cases e';exact q,fun q=>⟨_,_,rfl,rfl,q⟩⟩
theorem b_mul:rBin K .Mult (.int i) (.int j) H Q=(CMulW i j/\Q (.int (i*j)) H):=rfl
theorem b_muls:rBin K .Mult (.str x) (.int j) H Q=(-1000000<=j/\j<=1000000/\x.length*j.toNat<=1000000/\Q (.str (Txt.mul x j)) H):=rfl
theorem b_mod:rBin K .Mod (.int i) (.int j) H Q=(0<j/\Q (.int (i % j)) H):=propext ⟨fun⟨_,_,e,e',c,q⟩=>by cases e;cases e';exact⟨c,q⟩,fun q=>⟨_,_,rfl,rfl,q.1,q.2⟩⟩
theorem b_div:rBin K .FloorDiv (.int i) (.int j) H Q=(CDivW i j/\Q (.int (i / j)) H):=propext ⟨fun⟨_,_,e,e',c,q⟩=>by cases e;cases e';exact⟨c,q⟩,fun q=>⟨_,_,rfl,rfl,q.1,q.2⟩⟩
theorem b_pow:rBin K .Pow (.int i) (.int j) H Q=(CPow i j/\Q (.int (i ^ j.toNat)) H):=propext ⟨fun⟨_,_,e,e',c,q⟩=>by cases e;cases e';exact⟨c,q⟩,fun q=>⟨_,_,rfl,rfl,q.1,q.2⟩⟩
theorem c_lt:rCmp K .Lt (.int i) (.int j) H Q=Q (.bl (decide (i<j))) H:=propext ⟨fun⟨_,_,e,e',q⟩=>by cases e;cases e';exact q,fun q=>⟨_,_,rfl,rfl,q⟩⟩
theorem c_gt:rCmp K .Gt (.int i) (.int j) H Q=Q (.bl (decide (j<i))) H:=propext ⟨fun⟨_,_,e,e',q⟩=>by cases e;cases e';exact q,fun q=>⟨_,_,rfl,rfl,q⟩⟩
theorem c_ge:rCmp K .GtE (.int i) (.int j) H Q=Q (.bl (decide (j<=i))) H:=propext ⟨fun⟨_,_,e,e',q⟩=>by cases e;cases e';exact q,fun q=>⟨_,_,rfl,rfl,q⟩⟩
theorem c_eq:rCmp K .Eq (.int i) (.int j) H Q=Q (.bl (decide (i=j))) H:=by
 have e:decide (V.int i=V.int j)=decide (i=j):=by simp
 exact propext ⟨fun q=>e ▸ q.2,fun q=>⟨rfl,e.symm ▸ q⟩⟩
theorem c_eqs:rCmp K .Eq (.str x) (.str y) H Q=Q (.bl (decide (x=y))) H:=by
 have e:decide (V.str x=V.str y)=decide (x=y):=by simp
 exact propext ⟨fun q=>e ▸ q.2,fun q=>⟨rfl,e.symm ▸ q⟩⟩
theorem ix_ref {a:Addr}:rIxM K (.ref a) (.int i) H Q=(rIxL K (.ref a) (.int i) H Q\/rIxT K (.ref a) (.int i) H Q):=rfl
noncomputable def kSeq (C:Rc) (r:Css) (D:Ends):Ends:={ D with nx:=tSs C r D }
theorem ss_nil:tSs C .nil D σ H=D.nx σ H:=rfl
theorem ss_cons {s:Cs} {r:Css}:tSs C (.cons s r) D σ H=tS C s (kSeq C r D) σ H:=rfl
theorem seq_nx {r:Css}:(kSeq C r D).nx σ H=tSs C r D σ H:=rfl
theorem seq_rt {r:Css}:(kSeq C r D).rt=D.rt:=rfl
theorem seq_bk {r:Css}:(kSeq C r D).bk=D.bk:=rfl
theorem seq_ct {r:Css}:(kSeq C r D).ct=D.ct:=rfl
theorem s_ret {e:Ce}:tS C (.ret e) D σ H=tE C e σ H D.rt:=rfl
noncomputable def kDrop (D:Ends) (σ:L2.St):VK:=fun _ H=>D.nx σ H
theorem s_expr {e:Ce}:tS C (.expr e) D σ H=tE C e σ H (kDrop D σ):=rfl
theorem kDrop_at {v:V}:kDrop D σ v H=D.nx σ H:=rfl
noncomputable def kSet (i:Nat) (D:Ends) (σ:L2.St):VK:=fun x H=>D.nx (σ.set i (some x)) H
theorem s_set {i:Nat} {e:Ce}:tS C (.asg (.name i) e) D σ H=tE C e σ H (kSet i D σ):=rfl
theorem kSet_at {i:Nat} {v:V}:kSet i D σ v H=D.nx (σ.set i (some v)) H:=rfl
noncomputable def kSub1 (C:Rc) (o i:Ce) (D:Ends) (σ:L2.St):VK:=fun v H=>tE C o σ H fun p H1=>tE C i σ H1 fun k H2=>rSetL p k v H2 fun H3=>D.nx σ H3
noncomputable def kSub2 (C:Rc) (i:Ce) (v:V) (D:Ends) (σ:L2.St):VK:=fun p H1=>tE C i σ H1 fun k H2=>rSetL p k v H2 fun H3=>D.nx σ H3
noncomputable def kSub3 (p v:V) (D:Ends) (σ:L2.St):VK:=fun k H2=>rSetL p k v H2 fun H3=>D.nx σ H3
theorem s_sub {o i e:Ce}:tS C (.asg (.sub o i) e) D σ H=tE C e σ H (kSub1 C o i D σ):=rfl
theorem kSub1_at {o i:Ce} {v:V}:kSub1 C o i D σ v H=tE C o σ H (kSub2 C i v D σ):=rfl
theorem kSub2_at {i:Ce} {v p:V}:kSub2 C i v D σ p H=tE C i σ H (kSub3 p v D σ):=rfl
theorem kSub3_at {v p k:V}:kSub3 p v D σ k H=rSetL p k v H (D.nx σ):=rfl
noncomputable def kIf (C:Rc) (a b:Css) (D:Ends) (σ:L2.St):Bool->Hp->Prop:=fun c H=>if c=true then tSs C a D σ H else tSs C b D σ H
theorem s_if {q:Cq} {a b:Css}:tS C (.ite q a b) D σ H=tQ C q σ H (kIf C a b D σ):=rfl
theorem kIf_t {a b:Css}:kIf C a b D σ true H=tSs C a D σ H:=rfl
theorem kIf_f {a b:Css}:kIf C a b D σ false H=tSs C b D σ H:=rfl
theorem by_dec {p:Prop} [Decidable p] {F:Bool->Hp->Prop} (h1:p->F true H) (h2:¬p->F false H):F (decide p) H:=by
 by_cases h:p
 .rw[decide_eq_true h];exact h1 h
 .rw[decide_eq_false h];exact h2 h
end
section
variable {C:Rc} {σ:L2.St} {H:Hp} {Q:VK} {D:Ends} {Qb:Bool->Hp->Prop} {Qs:List V->Hp->Prop}
noncomputable def kA1 (C:Rc) (σ:L2.St) (r:Ces) (Qs:List V->Hp->Prop):VK:=fun x H=>tA C r σ H fun xs H2=>Qs (x :: xs) H2
noncomputable def kA2 (x:V) (Qs:List V->Hp->Prop):List V->Hp->Prop:=fun xs H=>Qs (x :: xs) H
theorem a_nil:tA C .nil σ H Qs=Qs [] H:=rfl
theorem a_cons {e:Ce} {r:Ces}:tA C (.cons e r) σ H Qs=tE C e σ H (kA1 C σ r Qs):=rfl
theorem kA1_at {r:Ces} {x:V}:kA1 C σ r Qs x H=tA C r σ H (kA2 x Qs):=rfl
theorem kA2_at {x:V} {xs:List V}:kA2 x Qs xs H=Qs (x :: xs) H:=rfl
noncomputable def kTup (Q:VK):List V->Hp->Prop:=fun xs H=>xs.length<=sizeLine/\∀p,H p=none->Q (.ref p) (upd H p (.tup xs))
noncomputable def kLst (Q:VK):List V->Hp->Prop:=fun xs H=>xs.length<=sizeLine/\∀p,H p=none->Q (.ref p) (upd H p (.lst xs))
theorem tE_tup {es:Ces}:tE C (.tup es) σ H Q=tA C es σ H (kTup Q):=rfl
theorem tE_lst {es:Ces}:tE C (.lst es) σ H Q=tA C es σ H (kLst Q):=rfl
theorem kTup_at {xs:List V}:kTup Q xs H=(xs.length<=sizeLine/\∀p,H p=none->Q (.ref p) (upd H p (.tup xs))):=rfl
theorem kLst_at {xs:List V}:kLst Q xs H=(xs.length<=sizeLine/\∀p,H p=none->Q (.ref p) (upd H p (.lst xs))):=rfl
noncomputable def kCall (o:Option Sp) (E:XK) (Q:VK):List V->Hp->Prop:=fun vs H=>match o with
 |some sp=>sp (vs++[]) H Q E
 |none=>False
theorem tE_call {f:Str} {es:Ces} {sp:Sp} (h:C.fs f=some sp):tE C (.call f es) σ H Q=tA C es σ H (kCall (some sp) (C.xk σ) Q):=by
 show(match C.fs f with|some sp=>tCall sp [] (C.xk σ) (tA C es) σ H Q|none=>False)=_
 rw[h]
 rfl
theorem kCall_at {sp:Sp} {E:XK} {vs:List V}:kCall (some sp) E Q vs H=sp vs H Q E:=by
 show sp (vs++[]) H Q E=_
 rw[List.append_nil]
noncomputable def kBlt (C:Rc) (f:Bf) (Q:VK):List V->Hp->Prop:=fun vs H=>rBlt C.K f vs H Q
theorem tE_blt {f:Bf} {es:Ces}:tE C (.blt f es) σ H Q=tA C es σ H (kBlt C f Q):=rfl
theorem kBlt_at {f:Bf} {vs:List V}:kBlt C f Q vs H=rBlt C.K f vs H Q:=rfl
noncomputable def kMet1 (C:Rc) (σ:L2.St) (m:Mf) (es:Ces) (Q:VK):VK:=fun x H=>tyV C.K (metTy m) x H/\tA C es σ H fun xs H2=>rMet C.K m x xs H2 Q
noncomputable def kMet2 (C:Rc) (m:Mf) (x:V) (Q:VK):List V->Hp->Prop:=fun xs H=>rMet C.K m x xs H Q
theorem tE_met {m:Mf} {o:Ce} {es:Ces}:tE C (.met m o es) σ H Q=tE C o σ H (kMet1 C σ m es Q):=rfl
theorem kMet1_at {m:Mf} {es:Ces} {x:V}:kMet1 C σ m es Q x H=(tyV C.K (metTy m) x H/\tA C es σ H (kMet2 C m x Q)):=rfl
theorem kMet2_at {m:Mf} {x:V} {xs:List V}:kMet2 C m x Q xs H=rMet C.K m x xs H Q:=rfl
noncomputable def kIfe (C:Rc) (σ:L2.St) (a b:Ce) (Q:VK):Bool->Hp->Prop:=fun c H=>if c=true then tE C a σ H Q else tE C b σ H Q
theorem tE_ife {q:Cq} {a b:Ce}:tE C (.ife q a b) σ H Q=tQ C q σ H (kIfe C σ a b Q):=rfl
theorem kIfe_t {a b:Ce}:kIfe C σ a b Q true H=tE C a σ H Q:=rfl
theorem kIfe_f {a b:Ce}:kIfe C σ a b Q false H=tE C b σ H Q:=rfl
noncomputable def kNotV (Q:VK):VK:=fun x H=>∃c,x=.bl c/\Q (.bl (!c)) H
theorem tE_not {a:Ce}:tE C (.not a) σ H Q=tE C a σ H (kNotV Q):=rfl
theorem kNotV_bl {c:Bool}:kNotV Q (.bl c) H=Q (.bl (!c)) H:=propext ⟨fun⟨u,e,q⟩=>by cases e;exact q,fun q=>⟨c,rfl,q⟩⟩
noncomputable def kAndV (C:Rc) (σ:L2.St) (b:Ce) (Q:VK):VK:=fun x H=>∃c,x=.bl c/\if c=true then tE C b σ H Q else Q (.bl false) H
noncomputable def kOrV (C:Rc) (σ:L2.St) (b:Ce) (Q:VK):VK:=fun x H=>∃c,x=.bl c/\if c=true then Q (.bl true) H else tE C b σ H Q
theorem tE_and {a b:Ce}:tE C (.and a b) σ H Q=tE C a σ H (kAndV C σ b Q):=rfl
theorem tE_or {a b:Ce}:tE C (.or a b) σ H Q=tE C a σ H (kOrV C σ b Q):=rfl
theorem kAndV_t {b:Ce}:kAndV C σ b Q (.bl true) H=tE C b σ H Q:=propext ⟨fun⟨u,e,q⟩=>by cases e;exact q,fun q=>⟨_,rfl,q⟩⟩
noncomputable def kTru (C:Rc) (Qb:Bool->Hp->Prop):VK:=fun x H=>∃k,TruV C.K x H k/\Qb k H
theorem tQ_val {e:Ce}:tQ C (.val e) σ H Qb=tE C e σ H (kTru C Qb):=rfl
theorem kTru_bl {b:Bool}:kTru C Qb (.bl b) H=Qb b H:=propext ⟨fun⟨u,e,q⟩=>by
  have e:u=b:=e
  subst e
  exact q,fun q=>⟨b,rfl,q⟩⟩
noncomputable def kCut1 (C:Rc) (σ:L2.St) (lo hi:Co) (Q:VK):VK:=fun x H=>tO C lo σ H fun l H2=>tO C hi σ H2 fun u H3=>rSl C.K x l u H3 Q
noncomputable def kCut2 (C:Rc) (σ:L2.St) (hi:Co) (x:V) (Q:VK):Option Int->Hp->Prop:=fun l H=>tO C hi σ H fun u H3=>rSl C.K x l u H3 Q
noncomputable def kCut3 (C:Rc) (x:V) (l:Option Int) (Q:VK):Option Int->Hp->Prop:=fun u H=>rSl C.K x l u H Q
theorem tE_cut {a:Ce} {lo hi:Co}:tE C (.cut a lo hi) σ H Q=tE C a σ H (kCut1 C σ lo hi Q):=rfl
theorem kCut1_at {lo hi:Co} {x:V}:kCut1 C σ lo hi Q x H=tO C lo σ H (kCut2 C σ hi x Q):=rfl
theorem kCut2_at {hi:Co} {x:V} {l:Option Int}:kCut2 C σ hi x Q l H=tO C hi σ H (kCut3 C x l Q):=rfl
theorem kCut3_at {x:V} {l u:Option Int}:kCut3 C x l Q u H=rSl C.K x l u H Q:=rfl
variable {Qo:Option Int->Hp->Prop}
noncomputable def kPart (Qo:Option Int->Hp->Prop):VK:=fun x H=>∃i,x=.int i/\Qo (some i) H
theorem o_none:tO C .none σ H Qo=Qo none H:=rfl
theorem o_some {e:Ce}:tO C (.some e) σ H Qo=tE C e σ H (kPart Qo):=rfl
theorem kPart_int {i:Int}:kPart Qo (.int i) H=Qo (some i) H:=propext ⟨fun⟨u,e,q⟩=>by cases e;exact q,fun q=>⟨i,rfl,q⟩⟩
theorem sl_ref {K:W.Frag} {a:Addr} {l u:Option Int}:rSl K (.ref a) l u H Q=(rSlL K (.ref a) l u H Q\/rSlT K (.ref a) l u H Q\/rSlW K (.ref a) l u H Q):=rfl
noncomputable def kPar1 (C:Rc) (σ:L2.St) (i j:Nat) (b:Ce) (D:Ends):VK:=fun v H=>tE C b σ H fun w H1=>D.nx ((σ.set i (some v)).set j (some w)) H1
noncomputable def kPar2 (σ:L2.St) (i j:Nat) (v:V) (D:Ends):VK:=fun w H=>D.nx ((σ.set i (some v)).set j (some w)) H
theorem kPar1_at {i j:Nat} {b:Ce} {v:V}:kPar1 C σ i j b D v H=tE C b σ H (kPar2 σ i j v D):=rfl
theorem kPar2_at {i j:Nat} {v w:V}:kPar2 σ i j v D w H=D.nx ((σ.set i (some v)).set j (some w)) H:=rfl
end
noncomputable def cb (b:Bool):Nat:=if b then 49 else 48
noncomputable def tx (l:List Bool):Str:=⟨(l.map cb).toArray⟩
theorem atI_lt {α:Type} {xs:List α} {i:Int} (h0:0<=i) (h1:i<xs.length):∃v,xs[i.toNat]?=some v/\atI xs i=some v:=by
 obtain⟨j,rfl⟩:=Int.eq_ofNat_of_zero_le h0
 have hk:j<xs.length:=by omega
 exact⟨xs[j],by simp,atI_nat (by rw[List.getElem?_eq_getElem hk])⟩
theorem start_eq {N:List Str} {vs:List V} {n:Nat} (h:N.length=n):L2.start N vs=vs.map some++List.replicate (n-vs.length) none:=by subst h;rfl
section
variable {C:Rc} {σ:L2.St} {H:Hp} {Q:VK} {D:Ends} {Qb:Bool->Hp->Prop}
theorem g_name {i:Nat} {v:V} {R:L2.St->Hp->Prop}:tG C (.name i) v σ H R=R (σ.set i (some v)) H:=rfl
theorem g_tup2 {i j:Nat} {a:Addr} {x y:V} {R:L2.St->Hp->Prop} (h:SqT C.K H a [x,y]) (q:R ((σ.set i (some x)).set j (some y)) H):tG C (.tup (.cons (.name i) (.cons (.name j) .nil))) (.ref a) σ H R:=
 ⟨a,[x,y],rfl,.inl h,rfl,_,_,rfl,_,_,rfl,rfl,q⟩
theorem g_tupN {i:Nat} {t:Ct} {a:Addr} {x y:V} {R:L2.St->Hp->Prop} (h:SqT C.K H a [x,y]) (q:tG C t y (σ.set i (some x)) H R):tG C (.tup (.cons (.name i) (.cons t .nil))) (.ref a) σ H R:=
 ⟨a,[x,y],rfl,.inl h,rfl,_,_,rfl,_,_,rfl,by
  have e:(fun σ' H'=>tGs C .nil [] σ' H' R)=R:=by funext σ' H';exact propext ⟨fun h=>h.2,fun h=>⟨rfl,h⟩⟩
  rw[e];exact q⟩
theorem g_lst2 {i j:Nat} {a:Addr} {x y:V} {R:L2.St->Hp->Prop} (h:SqL C.K H a [x,y]) (q:R ((σ.set i (some x)).set j (some y)) H):tG C (.tup (.cons (.name i) (.cons (.name j) .nil))) (.ref a) σ H R:=
 ⟨a,[x,y],rfl,.inr h,rfl,_,_,rfl,_,_,rfl,rfl,q⟩
def kFor (C:Rc) (t:Ct) (b:Css) (D:Ends) (σ:L2.St) (J:It) (H1:Hp):Prop:=∃W:Nat->Nat->L2.St->Hp->Prop,(∃m,W 0 m σ H1)/\∀i m σ H,W i m σ H->
 (J.stop i H/\D.nx σ H)\/(J.go i H/\∃N:L2.St->Hp->Prop,(∀σ' H',N σ' H'->∃m',m'<m/\W (i+1) m' σ' H')/\∀x H',J.yld i H x H'->tG C t x σ H' fun σ2 H2=>tSs C b { D with nx:=N,ct:=N,bk:=D.nx } σ2 H2)
theorem s_for {t:Ct} {it:Ci} {b:Css}:tS C (.for_ t it b) D σ H=tI C it σ H (kFor C t b D σ):=rfl
noncomputable def kIv (C:Rc) (R:It->Hp->Prop):VK:=fun x H1=>
 (∃a,x=.ref a/\(∃xs,SqL C.K H1 a xs)/\R (Itl C.K a) H1)\/(∃a,x=.ref a/\(∃xs,SqT C.K H1 a xs)/\R (Itt C.K a) H1)\/∃z,x=.str z/\R (Its z) H1
theorem i_val {e:Ce} {R:It->Hp->Prop}:tI C (.val e) σ H R=tE C e σ H (kIv C R):=rfl
noncomputable def kR1 (R:It->Hp->Prop):VK:=fun x H1=>∃j:Int,x=.int j/\-(2 ^ 62)<=j/\j<2 ^ 62/\R (Itr 0 j.toNat) H1
theorem i_range1 {e:Ce} {R:It->Hp->Prop}:tI C (.range1 e) σ H R=tE C e σ H fun x H1=>∃j:Int,[x]=[.int j]/\-(2 ^ 62)<=j/\j<2 ^ 62/\R (Itr 0 j.toNat) H1:=rfl
theorem i_range1' {e:Ce} {R:It->Hp->Prop}:tI C (.range1 e) σ H R=tE C e σ H (kR1 R):=by
 rw[i_range1]
 congr 1
 funext x H1
 unfold kR1
 simp only[List.cons.injEq,and_true]
noncomputable def kR2b (R:It->Hp->Prop) (x:V):VK:=fun y H1=>∃i j:Int,x=.int i/\y=.int j/\(-(2 ^ 62)<=i/\i<2 ^ 62/\-(2 ^ 62)<=j/\j<2 ^ 62)/\R (Itr i (j-i).toNat) H1
noncomputable def kR2a (C:Rc) (σ:L2.St) (e:Ce) (R:It->Hp->Prop):VK:=fun x H1=>tE C e σ H1 (kR2b R x)
theorem kR2a_at {e:Ce} {R:It->Hp->Prop} {x:V}:kR2a C σ e R x H=tE C e σ H (kR2b R x):=rfl
noncomputable def kZ2 (C:Rc) (R:It->Hp->Prop) (x:V):VK:=fun y H1=>∃(k j:Bool) (a b:Addr),x=.ref a/\y=.ref b/\(∃xs,Sq k C.K H1 a xs)/\(∃ys,Sq j C.K H1 b ys)/\R (Itz2 k j C.K a b) H1
noncomputable def kZ1 (C:Rc) (σ:L2.St) (e:Ce) (R:It->Hp->Prop):VK:=fun x H1=>tE C e σ H1 (kZ2 C R x)
theorem i_zip {a b:Ce} {R:It->Hp->Prop}:tI C (.zip a b) σ H R=tE C a σ H (kZ1 C σ b R):=by
 show(tE C a σ H fun x H1=>tE C b σ H1 fun y H2=>∃(k j:Bool) (p q:Addr),[x,y]=[.ref p,.ref q]/\(∃xs,Sq k C.K H2 p xs)/\(∃ys,Sq j C.K H2 q ys)/\R (Itz2 k j C.K p q) H2)=_
 congr 1
 funext x H1
 unfold kZ1
 congr 1
 funext y H2
 unfold kZ2
 simp only[List.cons.injEq,and_true,and_assoc]
theorem kZ1_at {e:Ce} {R:It->Hp->Prop} {x:V}:kZ1 C σ e R x H=tE C e σ H (kZ2 C R x):=rfl
noncomputable def kEn (C:Rc) (R:It->Hp->Prop):VK:=fun x H1=>(∃a,x=.ref a/\(∃xs,SqL C.K H1 a xs)/\R (Ite C.K a) H1)\/(∃z,x=.str z/\R (Iteg z) H1)\/∃a,x=.ref a/\(∃xs,SqT C.K H1 a xs)/\R (Itet C.K a) H1
theorem i_enum {a:Ce} {R:It->Hp->Prop}:tI C (.enum a) σ H R=tE C a σ H (kEn C R):=by
 show(tE C a σ H fun x H1=>∃y,[x]=[y]/\((∃a,y=.ref a/\(∃xs,SqL C.K H1 a xs)/\R (Ite C.K a) H1)\/(∃z,y=.str z/\R (Iteg z) H1)\/∃a,y=.ref a/\(∃xs,SqT C.K H1 a xs)/\R (Itet C.K a) H1))=_
 congr 1
 funext x H1
 unfold kEn
 exact propext ⟨fun⟨y,e,q⟩=>by cases e;exact q,fun q=>⟨x,rfl,q⟩⟩
theorem at_enL {R:It->Hp->Prop} {a:Addr} {xs:List V} (h:SqL C.K H a xs) (q:R (Ite C.K a) H):kEn C R (.ref a) H:=.inl ⟨a,rfl,⟨xs,h⟩,q⟩
theorem at_iv_lst {R:It->Hp->Prop} {a:Addr} {xs:List V} (h:SqL C.K H a xs) (q:R (Itl C.K a) H):kIv C R (.ref a) H:=.inl ⟨a,rfl,⟨xs,h⟩,q⟩
theorem at_iv_tup {R:It->Hp->Prop} {a:Addr} {xs:List V} (h:SqT C.K H a xs) (q:R (Itt C.K a) H):kIv C R (.ref a) H:=.inr (.inl ⟨a,rfl,⟨xs,h⟩,q⟩)
theorem at_r1 {R:It->Hp->Prop} {j:Int} (h0:-(2 ^ 62)<=j) (h1:j<2 ^ 62) (q:R (Itr 0 j.toNat) H):kR1 R (.int j) H:=⟨j,rfl,h0,h1,q⟩
theorem at_zipL {R:It->Hp->Prop} {a b:Addr} {xs ys:List V} (h:SqL C.K H a xs) (h2:SqL C.K H b ys) (q:R (Itz false C.K a b) H):kZ2 C R (.ref a) (.ref b) H:=⟨false,false,a,b,rfl,rfl,⟨xs,h⟩,⟨ys,h2⟩,q⟩
theorem at_zipT {R:It->Hp->Prop} {a b:Addr} {xs ys:List V} (h:SqT C.K H a xs) (h2:SqT C.K H b ys) (q:R (Itz true C.K a b) H):kZ2 C R (.ref a) (.ref b) H:=⟨true,true,a,b,rfl,rfl,⟨xs,h⟩,⟨ys,h2⟩,q⟩
theorem for_l {a:Addr} {xs:List V} {t:Ct} {b:Css} (Pv:Nat->L2.St->Hp->Prop) (h0:Pv 0 σ H) (hl:∀i σ H,i<=xs.length->Pv i σ H->SqL C.K H a xs)
  (hs:∀i x σ H,xs[i]?=some x->Pv i σ H->tG C t x σ H (tSs C b { D with nx:=Pv (i+1),ct:=Pv (i+1),bk:=D.nx })) (hd:∀σ H,Pv xs.length σ H->D.nx σ H):kFor C t b D σ (Itl C.K a) H:=for_list Pv h0 hl hs hd
theorem for_t {a:Addr} {xs:List V} {t:Ct} {b:Css} (Pv:Nat->L2.St->Hp->Prop) (h0:Pv 0 σ H) (hl:∀i σ H,i<=xs.length->Pv i σ H->SqT C.K H a xs)
  (hs:∀i x σ H,xs[i]?=some x->Pv i σ H->tG C t x σ H (tSs C b { D with nx:=Pv (i+1),ct:=Pv (i+1),bk:=D.nx })) (hd:∀σ H,Pv xs.length σ H->D.nx σ H):kFor C t b D σ (Itt C.K a) H:=for_tup Pv h0 hl hs hd
theorem for_r {lo:Int} {n:Nat} {t:Ct} {b:Css} (Pv:Nat->L2.St->Hp->Prop) (h0:Pv 0 σ H)
  (hs:∀i σ H,i<n->Pv i σ H->tG C t (.int (lo+i)) σ H (tSs C b { D with nx:=Pv (i+1),ct:=Pv (i+1),bk:=D.nx })) (hd:∀σ H,Pv n σ H->D.nx σ H):kFor C t b D σ (Itr lo n) H:=for_range Pv h0 hs hd
theorem for_e {a:Addr} {xs:List V} {t:Ct} {b:Css} (Pv:Nat->L2.St->Hp->Prop) (h0:Pv 0 σ H) (hl:∀i σ H,i<=xs.length->Pv i σ H->SqL C.K H a xs)
  (hs:∀i x σ H p,xs[i]?=some x->H p=none->Pv i σ H->tG C t (.ref p) σ (upd H p (.tup [.int i,x])) (tSs C b { D with nx:=Pv (i+1),ct:=Pv (i+1),bk:=D.nx })) (hd:∀σ H,Pv xs.length σ H->D.nx σ H):kFor C t b D σ (Ite C.K a) H:=by
 refine⟨fun i m σ H=>m=xs.length-i/\i<=xs.length/\Pv i σ H,⟨xs.length,by simp,Nat.zero_le _,h0⟩,?_⟩
 rintro i m σ H ⟨rfl,hi,p⟩
 have q:=hl i σ H hi p
 by_cases hlt:i<xs.length
 .refine .inr ⟨⟨xs,xs[i],q,by simp[hlt]⟩,Pv (i+1),fun σ' H' p'=>⟨xs.length-(i+1),by omega,rfl,hlt,p'⟩,fun x H' y=>?_⟩
  obtain⟨ad,v,rfl,hn,y,rfl⟩:=y
  exact hs i v σ _ ad (y xs q) hn p
 .have e:i=xs.length:=by omega
  subst e
  exact .inl ⟨⟨xs,q,rfl⟩,hd σ H p⟩
noncomputable def kWhl (C:Rc) (b:Css) (D:Ends) (N:L2.St->Hp->Prop) (σ:L2.St):Bool->Hp->Prop:=fun c H1=>if c=true then ∃N':L2.St->Hp->Prop,(∀σ' H',N' σ' H'->N σ' H')/\tSs C b { D with nx:=N',ct:=N',bk:=D.nx } σ H1 else D.nx σ H1
theorem whl_by {q:Cq} {b:Css} (Pv:Nat->L2.St->Hp->Prop) (m:Nat) (h0:Pv m σ H) (hs:∀m σ H,Pv m σ H->tQ C q σ H (kWhl C b D (fun σ' H'=>∃m',m'<m/\Pv m' σ' H') σ)):tS C (.whl q b) D σ H:=⟨Pv,⟨m,h0⟩,hs⟩
theorem kWhl_t {b:Css} {N:L2.St->Hp->Prop} (h:tSs C b { D with nx:=N,ct:=N,bk:=D.nx } σ H):kWhl C b D N σ true H:=⟨N,fun _ _ q=>q,h⟩
theorem kWhl_f {b:Css} {N:L2.St->Hp->Prop} (h:D.nx σ H):kWhl C b D N σ false H:=by unfold kWhl;rw[if_neg (by decide)];exact h
noncomputable def kPush (xs:List V) (P:List V->Hp->Prop):VK:=fun v H=>xs.length<sizeLine/\P (xs++[v]) H
noncomputable def kCT (C:Rc) (elt:Ce) (xs:List V) (P:List V->Hp->Prop) (σ:L2.St):Bool->Hp->Prop:=fun ok H=>if ok=true then tE C elt σ H (kPush xs P)else P xs H
noncomputable def kCG (C:Rc) (elt:Ce) (q:Cqo) (xs:List V) (P:List V->Hp->Prop):L2.St->Hp->Prop:=fun σ H=>tQo C q σ H (kCT C elt xs P σ)
theorem kCG_n {elt:Ce} {xs:List V} {P:List V->Hp->Prop}:kCG C elt .none xs P σ H=tE C elt σ H (kPush xs P):=rfl
theorem kCG_q {elt:Ce} {q:Cq} {xs:List V} {P:List V->Hp->Prop}:kCG C elt (.some q) xs P σ H=tQ C q σ H (kCT C elt xs P σ):=rfl
theorem kCT_t {elt:Ce} {xs:List V} {P:List V->Hp->Prop}:kCT C elt xs P σ true H=tE C elt σ H (kPush xs P):=rfl
theorem kCT_f {elt:Ce} {xs:List V} {P:List V->Hp->Prop}:kCT C elt xs P σ false H=P xs H:=rfl
theorem kPush_at {xs:List V} {P:List V->Hp->Prop} {v:V}:kPush xs P v H=(xs.length<sizeLine/\P (xs++[v]) H):=rfl
def kNew (Q:VK) (xs:List V) (H2:Hp):Prop:=∀p,H2 p=none->Q (.ref p) (upd H2 p (.lst xs))
def kComp (C:Rc) (elt:Ce) (own:List Nat) (t:Ct) (q:Cqo) (σ:L2.St) (Q:VK) (J:It) (H1:Hp):Prop:=tClause own (tG C t) (tQo C q) (tEmit (tE C elt)) J σ [] H1 (kNew Q)
theorem tE_comp {elt:Ce} {own:List Nat} {t:Ct} {it:Ci} {q:Cqo}:tE C (.comp elt own t it q .nil) σ H Q=tI C it σ H (kComp C elt own t q σ Q):=rfl
theorem comp_by {elt:Ce} {own:List Nat} {t:Ct} {q:Cqo} {J:It} {n:Nat} (Pv:Nat->List V->Hp->Prop) (h0:Pv 0 [] H) (hgo:∀i xs H,i<n->Pv i xs H->J.go i H) (hstop:∀xs H,Pv n xs H->J.stop n H)
  (hs:∀i xs H x H' (R:List V->Hp->Prop),i<n->Pv i xs H->J.yld i H x H'->(∀ys H2,Pv (i+1) ys H2->R ys H2)->tG C t x (clr own σ) H' (kCG C elt q xs R)) (hd:∀xs H,Pv n xs H->kNew Q xs H):kComp C elt own t q σ Q J H:=by
 refine⟨fun i m xs H=>m=n-i/\i<=n/\Pv i xs H,⟨n,by simp,Nat.zero_le _,h0⟩,?_⟩
 rintro i m xs H ⟨rfl,hi,p⟩
 by_cases hlt:i<n
 .refine .inr ⟨hgo i xs H hlt p,fun x H' y=>?_⟩
  exact hs i xs H x H' (fun c H4=>∃m',m'<n-i/\(m'=n-(i+1)/\i+1<=n/\Pv (i+1) c H4)) hlt p y fun ys H2 p2=>⟨n-(i+1),by omega,rfl,hlt,p2⟩
 .have e:i=n:=by omega
  subst e
  exact .inl ⟨hstop xs H p,hd xs H p⟩
theorem comp_l {elt:Ce} {own:List Nat} {t:Ct} {q:Cqo} {a:Addr} {vs:List V} (Pv:Nat->List V->Hp->Prop) (h0:Pv 0 [] H) (hl:∀i xs H,Pv i xs H->SqL C.K H a vs)
  (hs:∀i xs H x (R:List V->Hp->Prop),vs[i]?=some x->Pv i xs H->(∀ys H2,Pv (i+1) ys H2->R ys H2)->tG C t x (clr own σ) H (kCG C elt q xs R)) (hd:∀xs H,Pv vs.length xs H->kNew Q xs H):kComp C elt own t q σ Q (Itl C.K a) H:=
 comp_by (n:=vs.length) Pv h0 (fun i xs H hi p=>⟨vs,vs[i],hl i xs H p,by simp[hi]⟩) (fun xs H p=>⟨vs,hl _ xs H p,Nat.le_refl _⟩) (fun i xs H x H' R hi p y k=>by
  obtain⟨e,y⟩:=y
  subst e
  exact hs i xs H' x R (y vs (hl i xs H' p)) p k) hd
theorem comp_t {elt:Ce} {own:List Nat} {t:Ct} {q:Cqo} {a:Addr} {vs:List V} (Pv:Nat->List V->Hp->Prop) (h0:Pv 0 [] H) (hl:∀i xs H,Pv i xs H->SqT C.K H a vs)
  (hs:∀i xs H x (R:List V->Hp->Prop),vs[i]?=some x->Pv i xs H->(∀ys H2,Pv (i+1) ys H2->R ys H2)->tG C t x (clr own σ) H (kCG C elt q xs R)) (hd:∀xs H,Pv vs.length xs H->kNew Q xs H):kComp C elt own t q σ Q (Itt C.K a) H:=
 comp_by (n:=vs.length) Pv h0 (fun i xs H hi p=>⟨vs,vs[i],hl i xs H p,by simp[hi]⟩) (fun xs H p=>⟨vs,hl _ xs H p,Nat.le_refl _⟩) (fun i xs H x H' R hi p y k=>by
  obtain⟨e,y⟩:=y
  subst e
  exact hs i xs H' x R (y vs (hl i xs H' p)) p k) hd
theorem comp_r {elt:Ce} {own:List Nat} {t:Ct} {q:Cqo} {lo:Int} {n:Nat} (Pv:Nat->List V->Hp->Prop) (h0:Pv 0 [] H)
  (hs:∀i xs H (R:List V->Hp->Prop),i<n->Pv i xs H->(∀ys H2,Pv (i+1) ys H2->R ys H2)->tG C t (.int (lo+i)) (clr own σ) H (kCG C elt q xs R)) (hd:∀xs H,Pv n xs H->kNew Q xs H):kComp C elt own t q σ Q (Itr lo n) H:=
 comp_by (n:=n) Pv h0 (fun i xs H hi p=>hi) (fun xs H p=>Nat.le_refl _) (fun i xs H x H' R hi p y k=>by
  obtain⟨e,rfl⟩:=y
  subst e
  exact hs i xs H' R hi p k) hd
theorem comp_z {elt:Ce} {own:List Nat} {t:Ct} {q:Cqo} {k j:Bool} {a b:Addr} {vs ws:List V} (hw:vs.length=ws.length) (Pv:Nat->List V->Hp->Prop) (h0:Pv 0 [] H) (hl:∀i xs H,Pv i xs H->Sq k C.K H a vs/\Sq j C.K H b ws)
  (hs:∀i xs H x y p (R:List V->Hp->Prop),vs[i]?=some x->ws[i]?=some y->H p=none->Pv i xs H->(∀ys H2,Pv (i+1) ys H2->R ys H2)->tG C t (.ref p) (clr own σ) (upd H p (.tup [x,y])) (kCG C elt q xs R)) (hd:∀xs H,Pv vs.length xs H->kNew Q xs H):kComp C elt own t q σ Q (Itz2 k j C.K a b) H:=
 comp_by (n:=vs.length) Pv h0 (fun i xs H hi p=>⟨vs,ws,vs[i],ws[i],(hl i xs H p).1,(hl i xs H p).2,by simp[hi],by simp[hw ▸ hi]⟩) (fun xs H p=>⟨vs,ws,(hl _ xs H p).1,(hl _ xs H p).2,.inl (Nat.le_refl _)⟩) (fun i xs H x H' R hi p y kk=>by
  obtain⟨ad,u,v,rfl,hn,y1,y2,rfl⟩:=y
  exact hs i xs H u v ad R (y1 vs (hl i xs H p).1) (y2 ws (hl i xs H p).2) hn p kk) hd
theorem comp_e {elt:Ce} {own:List Nat} {t:Ct} {q:Cqo} {a:Addr} {vs:List V} (Pv:Nat->List V->Hp->Prop) (h0:Pv 0 [] H) (hl:∀i xs H,Pv i xs H->SqL C.K H a vs)
  (hs:∀i xs H x p (R:List V->Hp->Prop),vs[i]?=some x->H p=none->Pv i xs H->(∀ys H2,Pv (i+1) ys H2->R ys H2)->tG C t (.ref p) (clr own σ) (upd H p (.tup [.int i,x])) (kCG C elt q xs R)) (hd:∀xs H,Pv vs.length xs H->kNew Q xs H):kComp C elt own t q σ Q (Ite C.K a) H:=
 comp_by (n:=vs.length) Pv h0 (fun i xs H hi p=>⟨vs,vs[i],hl i xs H p,by simp[hi]⟩) (fun xs H p=>⟨vs,hl _ xs H p,rfl⟩) (fun i xs H x H' R hi p y k=>by
  obtain⟨ad,v,rfl,hn,y,rfl⟩:=y
  exact hs i xs H v ad R (y vs (hl i xs H p)) hn p k) hd
end
section
variable {C:Rc} {K:W.Frag} {σ:L2.St} {H:Hp} {Q:VK} {D:Ends} {Qb:Bool->Hp->Prop}
theorem call_e {f:Str} {es:Ces} {sp:Sp} (h:C.fs f=some sp) (q:tA C es σ H (kCall (some sp) (C.xk σ) Q)):tE C (.call f es) σ H Q:=by
 rw[tE_call h]
 exact q
theorem at_lenL {a:Addr} {xs:List V} (h:SqL K H a xs) (q:Q (.int xs.length) H):rBlt K .len [.ref a] H Q:=⟨_,_,rfl,.inl ⟨xs,h,rfl⟩,q⟩
theorem at_lenT {a:Addr} {xs:List V} (h:SqT K H a xs) (q:Q (.int xs.length) H):rBlt K .len [.ref a] H Q:=⟨_,_,rfl,.inr ⟨xs,h,rfl⟩,q⟩
theorem bl_abs {i:Int}:rBlt K .abs [.int i] H Q=Q (.int (if i<0 then -i else i)) H:=propext ⟨fun⟨u,e,q⟩=>by cases e;exact q,fun q=>⟨_,rfl,q⟩⟩
theorem bl_int_int {i:Int}:rBlt K .int [.int i] H Q=Q (.int i) H:=rfl
theorem bl_int_bl {k:Bool}:rBlt K .int [.bl k] H Q=Q (.int (if k then 1 else 0)) H:=rfl
theorem at_all {a:Addr} {bs:List Bool} (h:SqL K H a (bs.map V.bl)) (q:Q (.bl (bs.all id)) H):rBlt K .all [.ref a] H Q:=⟨a,bs,rfl,h,q⟩
theorem at_isi {x:V} {T c:String} (h:tyName H x=some T) (hT:T∈tyKnown) (hc:c∈["bool","int","str","list","tuple","dict"]) (q:Q (.bl (isT T c)) H):rBlt K .isinstance [x,.ty c] H Q:=.inl (.inl ⟨x,T,c,rfl,h,hT,hc,q⟩)
theorem at_isi2 {x:V} {T c d:String} {p:Addr} (h:tyName H x=some T) (hT:T∈tyKnown) (hp:H p=some (.tup [.ty c,.ty d])) (hc:c∈["bool","int","str","list","tuple","dict"]) (hd:d∈["bool","int","str","list","tuple","dict"]) (q:Q (.bl (isT T c || isT T d)) H):rBlt K .isinstance [x,.ref p] H Q:=
 .inl <| .inr ⟨x,T,p,[c,d],rfl,h,hT,hp,fun e he=>by
  simp only[List.mem_cons,List.not_mem_nil,or_false]at he
  rcases he with rfl|rfl
  .exact hc
  .exact hd,by simpa using q⟩
theorem at_ixL {a:Addr} {xs:List V} {i:Int} {v:V} (h:SqL K H a xs) (e:atI xs i=some v) (q:Q v H):rIxL K (.ref a) (.int i) H Q\/rIxT K (.ref a) (.int i) H Q:=.inl ⟨a,xs,i,v,rfl,rfl,h,e,q⟩
theorem at_ixT {a:Addr} {xs:List V} {i:Int} {v:V} (h:SqT K H a xs) (e:atI xs i=some v) (q:Q v H):rIxL K (.ref a) (.int i) H Q\/rIxT K (.ref a) (.int i) H Q:=.inr ⟨a,xs,i,v,rfl,rfl,h,e,q⟩
theorem at_two {a:Addr} {u v:V} {k:Bool} (h:SqL K H a [u,v]) (q:Q (if k then v else u) H):rIxL K (.ref a) (.int (if k then 1 else 0)) H Q\/rIxT K (.ref a) (.int (if k then 1 else 0)) H Q:=by
 refine at_ixL h ?_ q
 cases k<;>rfl
theorem c_eqV {x y:V} (h:scal x y=true):rCmp K .Eq x y H Q=Q (.bl (decide (x=y))) H:=by
 have e:rCmp K .Eq x y H Q=rEq x y H Q:=by
  unfold rCmp
  dsimp only
  split
  .cases h
  .rfl
 rw[e]
 exact propext ⟨fun⟨_,q⟩=>q,fun q=>⟨h,q⟩⟩
theorem c_neV {x y:V} (h:scal x y=true):rCmp K .NotEq x y H Q=Q (.bl (!decide (x=y))) H:=by
 have e:rCmp K .NotEq x y H Q=rNe x y H Q:=by
  unfold rCmp
  dsimp only
  split
  .cases h
  .rfl
 rw[e]
 exact propext ⟨fun⟨_,q⟩=>q,fun q=>⟨h,q⟩⟩
theorem at_neL {a b:Addr} {xs ys:List V} (h:SqL K H a xs) (h2:SqL K H b ys) (he:xs.length=ys.length->LEq xs ys) (q:Q (.bl (!decide (xs=ys))) H):rCmp K .NotEq (.ref a) (.ref b) H Q:=.inl ⟨a,b,xs,ys,rfl,rfl,h,h2,he,q⟩
theorem leq_nil {xs:List V}:xs.length=([]:List V).length->LEq xs []:=fun _ i x y _ h=>by cases h
theorem at_ins {a:Addr} {xs:List V} {y:V} {i:Nat} (h:H a=some (.lst xs)) (hz:xs.length<sizeLine) (hi:i<=xs.length) (q:Q .non (upd H a (.lst (xs.take i++y :: xs.drop i)))):rMet K .insert (.ref a) [.int i,y] H Q:=⟨a,xs,y,i,rfl,rfl,h,hz,hi,q⟩
theorem at_range2 {i j:Int} (q:∀p,H p=none->Q (.ref p) (upd H p (.rng i j))):rBlt K .range [.int i,.int j] H Q:=⟨i,j,.inl rfl,q⟩
theorem at_listR {r:Addr} {i j:Int} (h:H r=some (.rng i j)) (h1:-(2 ^ 62)<=i) (h2:i<2 ^ 62) (h3:-(2 ^ 62)<=j) (h4:j<2 ^ 62) (hz:(j-i).toNat<=sizeLine) (q:∀p,H p=none->Q (.ref p) (upd H p (.lst (rgs i (j-i).toNat)))):rBlt K .list [.ref r] H Q:=.inr ⟨r,i,j,rfl,h,⟨h1,h2,h3,h4⟩,hz,q⟩
theorem at_tupL {a:Addr} {xs:List V} (h:SqL K H a xs) (q:∀p,H p=none->Q (.ref p) (upd H p (.tup xs))):rBlt K .tuple [.ref a] H Q:=⟨a,xs,rfl,.inl ⟨h,q⟩⟩
theorem c_eqb {x y:Bool}:rCmp K .Eq (.bl x) (.bl y) H Q=Q (.bl (x == y)) H:=by
 rw[c_eqV rfl]
 cases x<;>cases y<;>rfl
theorem c_neb {x y:Bool}:rCmp K .NotEq (.bl x) (.bl y) H Q=Q (.bl (x != y)) H:=by
 have e:rCmp K .NotEq (.bl x) (.bl y) H Q=Q (.bl (!decide (V.bl x=V.bl y))) H:=propext ⟨fun⟨_,q⟩=>q,fun q=>⟨rfl,q⟩⟩
 rw[e]
 cases x<;>cases y<;>rfl
theorem c_is {x:V}:rCmp K .Is x .non H Q=Q (.bl (decide (x=.non))) H:=propext ⟨fun⟨_,q⟩=>q,fun q=>⟨rfl,q⟩⟩
theorem cut_to {xs:List V} {n:Nat}:cutV xs none (some (n:Int))=xs.take n:=by
 unfold cutV
 rw[HT.sIx_nat,HT.sIx_none]
 rcases Nat.le_total n xs.length with h|h
 .rw[Nat.min_eq_left h];simp
 .rw[Nat.min_eq_right h];simp[List.take_of_length_le h]
theorem at_cutL {a:Addr} {xs:List V} {lo hi:Option Int} (h:SqL K H a xs) (q:∀p,H p=none->Q (.ref p) (upd H p (.lst (cutV xs lo hi)))):rSlL K (.ref a) lo hi H Q\/rSlT K (.ref a) lo hi H Q\/rSlW K (.ref a) lo hi H Q:=.inl ⟨a,xs,rfl,h,q⟩
theorem at_app {a:Addr} {xs:List V} {y:V} (h:H a=some (.lst xs)) (hz:xs.length<sizeLine) (q:Q .non (upd H a (.lst (xs++[y])))):rMet K .append (.ref a) [y] H Q:=⟨a,xs,y,rfl,rfl,h,hz,q⟩
theorem tyL {a:Addr} {xs:List V} {m:Mf} (h:H a=some (.lst xs)) (hm:metTy m="list"):tyV K (metTy m) (.ref a) H:=.inl ⟨hm,xs,SqL.of h⟩
theorem at_cat {a b:Addr} {xs zs:List V} (h:H a=some (.lst xs)) (h2:H b=some (.lst zs)) (hz:xs.length+zs.length<=sizeLine) (q:∀p,H p=none->Q (.ref p) (upd H p (.lst (xs++zs)))):rBin K .Add (.ref a) (.ref b) H Q:=.inl ⟨a,b,xs,zs,rfl,rfl,h,h2,hz,q⟩
theorem same_new {H:Hp} {p:Addr} (h:H p=none) (o:HO):Same H (upd H p o):=fun b u q=>by rw[upd_ne (ne_of_none q h)];exact q
theorem lt_of_get {α:Type} {l:List α} {i:Nat} {c:α} (hc:l[i]?=some c):i<l.length:=by
 rcases Nat.lt_or_ge i l.length with h|h
 .exact h
 .rw[List.getElem?_eq_none_iff.mpr h]at hc;cases hc
theorem tE_dnt:tE C .dnt σ H Q=(∀p,H p=none->Q (.ref p) (upd H p (.dT []))):=rfl
noncomputable def kDx2 (x:V) (Q:VK):VK:=fun y H=>∃a v,x=.ref a/\DGet H a y (some v)/\Q v H
noncomputable def kDx1 (C:Rc) (σ:L2.St) (b:Ce) (Q:VK):VK:=fun x H=>tE C b σ H (kDx2 x Q)
theorem tE_dix {a b:Ce}:tE C (.dix a b) σ H Q=tE C a σ H (kDx1 C σ b Q):=rfl
theorem kDx1_at {b:Ce} {x:V}:kDx1 C σ b Q x H=tE C b σ H (kDx2 x Q):=rfl
end
end R3
namespace R3
open PySem PySem.Spec PyProof.Rows L2 PySem.Builtin PySem.Builtin.Str
section
variable {K:W.Frag} {H:Hp} {Q:VK}
end
section
variable {C:Rc} {K:W.Frag} {σ:L2.St} {H:Hp} {Q:VK} {D:Ends} {Qb:Bool->Hp->Prop} {i j:Int}
noncomputable def kR3c (R:It->Hp->Prop) (x y:V):VK:=fun z H1=>∃i j c:Int,x=.int i/\y=.int j/\z=.int c/\(-(2 ^ 60)<=i/\i<2 ^ 60/\-(2 ^ 60)<=j/\j<2 ^ 60/\(0<c/\c<2 ^ 29\/c=-1))/\R (Itc i c (rStep i j c)) H1
noncomputable def kR3b (C:Rc) (σ:L2.St) (e:Ce) (R:It->Hp->Prop) (x:V):VK:=fun y H1=>tE C e σ H1 (kR3c R x y)
noncomputable def kR3a (C:Rc) (σ:L2.St) (e e':Ce) (R:It->Hp->Prop):VK:=fun x H1=>tE C e σ H1 (kR3b C σ e' R x)
theorem i_range3' {a b c:Ce} {R:It->Hp->Prop}:tI C (.range3 a b c) σ H R=tE C a σ H (kR3a C σ b c R):=by
 show(tE C a σ H fun x H1=>tE C b σ H1 fun y H2=>tE C c σ H2 fun z H3=>∃i j c:Int,[x,y,z]=[.int i,.int j,.int c]/\(-(2 ^ 60)<=i/\i<2 ^ 60/\-(2 ^ 60)<=j/\j<2 ^ 60/\(0<c/\c<2 ^ 29\/c=-1))/\R (Itc i c (rStep i j c)) H3)=_
 congr 1
 funext x H1
 unfold kR3a
 congr 1
 funext y H2
 unfold kR3b
 congr 1
 funext z H3
 unfold kR3c
 simp only[List.cons.injEq,and_true,and_assoc]
theorem kR3a_at {e e':Ce} {R:It->Hp->Prop} {x:V}:kR3a C σ e e' R x H=tE C e σ H (kR3b C σ e' R x):=rfl
theorem kR3b_at {e:Ce} {R:It->Hp->Prop} {x y:V}:kR3b C σ e R x y H=tE C e σ H (kR3c R x y):=rfl
theorem at_r3d {R:It->Hp->Prop} {i j:Int} (h0:-(2 ^ 60)<=i) (h1:i<2 ^ 60) (h2:-(2 ^ 60)<=j) (h3:j<2 ^ 60) (q:R (Itc i (-1) (i-j).toNat) H):kR3c R (.int i) (.int j) (.int (-1)) H:=⟨i,j,-1,rfl,rfl,rfl,⟨h0,h1,h2,h3,.inr rfl⟩,q⟩
theorem for_c {lo c:Int} {n:Nat} {t:Ct} {b:Css} (Pv:Nat->L2.St->Hp->Prop) (h0:Pv 0 σ H)
  (hs:∀i σ H,i<n->Pv i σ H->tG C t (.int (lo+i*c)) σ H (tSs C b { D with nx:=Pv (i+1),ct:=Pv (i+1),bk:=D.nx })) (hd:∀σ H,Pv n σ H->D.nx σ H):kFor C t b D σ (Itc lo c n) H:=by
 refine⟨fun i m σ H=>m=n-i/\i<=n/\Pv i σ H,⟨n,by simp,Nat.zero_le _,h0⟩,?_⟩
 rintro i m σ H ⟨rfl,hi,p⟩
 by_cases hlt:i<n
 .refine .inr ⟨hlt,Pv (i+1),fun σ' H' p'=>⟨n-(i+1),by omega,rfl,hlt,p'⟩,fun x H' y=>?_⟩
  obtain⟨e,rfl⟩:=y
  subst e
  exact hs i σ _ hlt p
 .have e:i=n:=by omega
  subst e
  exact .inl ⟨Nat.le_refl _,hd σ H p⟩
def kIn2 (C:Rc) (elt:Ce) (ws:List Nat) (t2:Ct) (q2:Cqo) (xs:List V) (P:List V->Hp->Prop) (σ:L2.St) (J:It) (H1:Hp):Prop:=tClause ws (tG C t2) (tQo C q2) (tEmit (tE C elt)) J σ xs H1 P
noncomputable def kCT2 (C:Rc) (elt:Ce) (ws:List Nat) (t2:Ct) (it2:Ci) (q2:Cqo) (xs:List V) (P:List V->Hp->Prop) (σ:L2.St):Bool->Hp->Prop:=fun ok H=>if ok=true then tI C it2 σ H (kIn2 C elt ws t2 q2 xs P σ)else P xs H
noncomputable def kCG2 (C:Rc) (elt:Ce) (q:Cqo) (ws:List Nat) (t2:Ct) (it2:Ci) (q2:Cqo) (xs:List V) (P:List V->Hp->Prop):L2.St->Hp->Prop:=fun σ H=>tQo C q σ H (kCT2 C elt ws t2 it2 q2 xs P σ)
theorem kCG2_n {elt:Ce} {ws:List Nat} {t2:Ct} {it2:Ci} {q2:Cqo} {xs:List V} {P:List V->Hp->Prop}:kCG2 C elt .none ws t2 it2 q2 xs P σ H=tI C it2 σ H (kIn2 C elt ws t2 q2 xs P σ):=rfl
theorem kCG2_q {elt:Ce} {q:Cq} {ws:List Nat} {t2:Ct} {it2:Ci} {q2:Cqo} {xs:List V} {P:List V->Hp->Prop}:kCG2 C elt (.some q) ws t2 it2 q2 xs P σ H=tQ C q σ H (kCT2 C elt ws t2 it2 q2 xs P σ):=rfl
theorem kCT2_t {elt:Ce} {ws:List Nat} {t2:Ct} {it2:Ci} {q2:Cqo} {xs:List V} {P:List V->Hp->Prop}:kCT2 C elt ws t2 it2 q2 xs P σ true H=tI C it2 σ H (kIn2 C elt ws t2 q2 xs P σ):=rfl
theorem kCT2_f {elt:Ce} {ws:List Nat} {t2:Ct} {it2:Ci} {q2:Cqo} {xs:List V} {P:List V->Hp->Prop}:kCT2 C elt ws t2 it2 q2 xs P σ false H=P xs H:=rfl
def kComp2 (C:Rc) (elt:Ce) (own:List Nat) (t:Ct) (q:Cqo) (ws:List Nat) (t2:Ct) (it2:Ci) (q2:Cqo) (σ:L2.St) (Q:VK) (J:It) (H1:Hp):Prop:=tClause own (tG C t) (tQo C q) (tNest (tI C it2) (tClause ws (tG C t2) (tQo C q2) (tEmit (tE C elt)))) J σ [] H1 (kNew Q)
theorem tE_comp2 {elt:Ce} {own:List Nat} {t:Ct} {it:Ci} {q:Cqo} {ws:List Nat} {t2:Ct} {it2:Ci} {q2:Cqo}:tE C (.comp elt own t it q (.cons ws t2 it2 q2 .nil)) σ H Q=tI C it σ H (kComp2 C elt own t q ws t2 it2 q2 σ Q):=rfl
end
section
variable {C:Rc} {σ:L2.St} {H:Hp} {Q:VK} {D:Ends}
structure ClsG (C:Rc) (r:Str) (Cr:Addr) (L:List Str):Prop where
 own:C.cl r=some Cr
 e:∃Ce,C.cl "RunError"=some Ce/\W.exmOne C.K (.ref Cr) (.ref Ce)=some true
 ex:W.excIn C.K Cr bmV "ValueError.__new__"=true
 x:XCls C.K Cr
 kv:W.kitOne C.K (.ref Cr) (.type "ValueError")=some true
 k:∀c∈L,∃Cc,C.cl c=some Cc/\W.kitOne C.K (.ref Cr) (.ref Cc)=some (decide (c=r))
end
noncomputable def fsOf (l:List (Str×Sp)) (y:Str):Option Sp:=l.lookup y
theorem lookup_here {x:Str} {s:Sp} {l:List (Str×Sp)}:fsOf ((x,s) :: l) x=some s:=by unfold fsOf;simp
theorem lookup_skip {x y:Str} {s:Sp} {l:List (Str×Sp)} (h:(y == x)=false):fsOf ((x,s) :: l) y=fsOf l y:=by
 unfold fsOf
 rw[List.lookup_cons,h]
theorem lookup_mem {y:Str} {s:Sp}:∀{l:List (Str×Sp)},fsOf l y=some s->(y,s)∈l
 | [],h=>by cases h
 |(x,t) :: l,h=>by
  unfold fsOf at h
  rw[List.lookup_cons]at h
  cases e:y == x with
  |true=>
   rw[e]at h
   cases h
   rw[eq_of_beq e]
   exact List.mem_cons_self ..
  |false=>
   rw[e]at h
   exact List.mem_cons_of_mem _ (lookup_mem h)
theorem hfs_of {P:Program} {w:World} {K:W.Frag} {mg:Str->Option Value} {base:Heap} {k:Nat} {l:List (Str×Sp)} (h:∀p∈l,∃f' fd' ps',FnOk P w K mg base CX0 k f' fd' ps' p.2/\mg p.1=some (.ref f')/\W.keepIn K (.ref f')=true/\Binds K fd' ps' []):
  ∀y sp',fsOf l y=some sp'->∃f' fd' ps',FnOk P w K mg base CX0 k f' fd' ps' sp'/\mg y=some (.ref f')/\W.keepIn K (.ref f')=true/\Binds K fd' ps' []:=fun y sp' e=>h (y,sp') (lookup_mem e)
theorem code_ok0 {P:Program} {w:World} {K:W.Frag} {mg:Str->Option Value} {base:Heap} {x qual:Str} {st:Stmt} {f:Addr} {fd:FuncData} {ps:List Str} {k:Nat} {sp:Sp} (F:Fun K x qual st f fd) (C:Rc) (S:FnScope C.N ps (defScope st)) (hK:C.K=K) (code:Css) (hm:mSs C.N C.B (defScope st) code (defBody st)=true)
  (len:∀vs H Q E,sp vs H Q E->vs.length=ps.length)
  (hfs:∀y sp',C.fs y=some sp'->∃f' fd' ps',FnOk P w K mg base CX0 k f' fd' ps' sp'/\mg y=some (.ref f')/\W.keepIn K (.ref f')=true/\Binds K fd' ps' []) (hB:∀y∈C.B,mg y=none) (hmk:mg "~"=none/\mg "^"=none/\mg "%"=none) (nt:tld C.B=false) (nh:hat C.B=false) (hxk:C.xk=fun _=>E0) (hcl:C.cl=fun _=>none)
  (hbody:∀vs H Q E,sp vs H Q E->tSs C code { nx:=fun _ H'=>Q .non H',rt:=Q } (start C.N vs) H):FnOk P w K mg base CX0 (k+1) f fd ps sp:=
 code_ok F C S hK code hm len ⟨fun y sp' e=>by
  obtain⟨f',fd',ps',h1,h2⟩:=hfs y sp' e
  exact⟨f',fd',ps',.inl h1,h2⟩,hB,hmk,(fun c Ca e=>by rw[hcl]at e;cases e),nt,nh⟩ hxk hbody
theorem mC {α:Type} {P:α->Prop} {a:α} {l:List α} (h:P a/\∀x∈l,P x):∀x∈a :: l,P x:=List.forall_mem_cons.mpr h
theorem mN {α:Type} {P:α->Prop}:∀x∈([]:List α),P x:=fun y hy=>absurd hy List.not_mem_nil
theorem len1 {α:Type} {P:List α->Prop} (h:∀x0,P [x0]):∀us:List α,us.length=1->P us
 | [x0],_=>h x0
theorem len2 {α:Type} {P:List α->Prop} (h:∀x0 x1,P [x0,x1]):∀us:List α,us.length=2->P us
 | [x0,x1],_=>h x0 x1
theorem len4 {α:Type} {P:List α->Prop} (h:∀x0 x1 x2 x3,P [x0,x1,x2,x3]):∀us:List α,us.length=4->P us
 | [x0,x1,x2,x3],_=>h x0 x1 x2 x3
noncomputable def All2 {α β:Type} (R:α->β->Prop):List α->List β->Prop
 | [],[]=>True
 |a :: as,b :: bs=>R a b/\All2 R as bs
 |_,_=>False
section
variable {α β:Type} {R S:α->β->Prop}
theorem All2.mono (h:∀a b,R a b->S a b):∀{as:List α} {bs:List β},All2 R as bs->All2 S as bs
 | [],[],_=>trivial
 |_ :: _,_ :: _,q=>⟨h _ _ q.1,All2.mono h q.2⟩
 | [],_ :: _,q=>q.elim
 |_ :: _,[],q=>q.elim
theorem All2.len:∀{as:List α} {bs:List β},All2 R as bs->as.length=bs.length
 | [],[],_=>rfl
 |_ :: _,_ :: _,q=>by simp[All2.len q.2]
 | [],_ :: _,q=>q.elim
 |_ :: _,[],q=>q.elim
theorem All2.app:∀{as cs:List α} {bs ds:List β},All2 R as bs->All2 R cs ds->All2 R (as++cs) (bs++ds)
 | [],_,[],_,_,q=>q
 |_ :: _,_,_ :: _,_,p,q=>⟨p.1,All2.app p.2 q⟩
 | [],_,_ :: _,_,p,_=>p.elim
 |_ :: _,_,[],_,p,_=>p.elim
theorem All2.snoc {a:α} {b:β} {as:List α} {bs:List β} (h:All2 R as bs) (r:R a b):All2 R (as++[a]) (bs++[b]):=h.app ⟨r,trivial⟩
theorem All2.getL:∀{as:List α} {bs:List β} {i:Nat} {a:α},All2 R as bs->as[i]?=some a->∃b,bs[i]?=some b/\R a b
 | [],[],_,_,_,e=>by cases e
 |_ :: _,b :: _,0,_,q,e=>by cases e;exact⟨b,rfl,q.1⟩
 |_ :: as,_ :: bs,i+1,a,q,e=>by
  obtain⟨b,h1,h2⟩:=All2.getL (i:=i) (a:=a) q.2 (by simpa using e)
  exact⟨b,by simpa using h1,h2⟩
 | [],_ :: _,_,_,q,_=>q.elim
 |_ :: _,[],_,_,q,_=>q.elim
end
section
variable {C:Rc} {σ:L2.St} {H:Hp} {Q:VK} {D:Ends} {α:Type}
noncomputable def kInX2 (neg:Bool) (y:V) (Q:VK):VK:=fun x H2=>(∃a o,x=.ref a/\DGet H2 a y o/\Q (.bl (if neg then !o.isSome else o.isSome)) H2)\/rInO neg y x H2 Q
noncomputable def kInX1 (C:Rc) (σ:L2.St) (neg:Bool) (b:Ce) (Q:VK):VK:=fun y H1=>tE C b σ H1 (kInX2 neg y Q)
theorem tE_din {neg:Bool} {a b:Ce}:tE C (.din neg a b) σ H Q=tE C a σ H (kInX1 C σ neg b Q):=rfl
theorem tQ_din {neg:Bool} {a b:Ce} {Qb:Bool->Hp->Prop}:tQ C (.din neg a b) σ H Qb=tE C a σ H (kInX1 C σ neg b (kT Qb)):=rfl
theorem kInX1_at {neg:Bool} {b:Ce} {y:V}:kInX1 C σ neg b Q y H=tE C b σ H (kInX2 neg y Q):=rfl
theorem at_inD {neg:Bool} {y:V} {p:Addr} {o:Option V} (h:DGet H p y o) (q:Q (.bl (if neg then !o.isSome else o.isSome)) H):kInX2 neg y Q (.ref p) H:=.inl ⟨p,o,rfl,h,q⟩
end
section
variable {C:Rc} {σ:L2.St} {H:Hp} {Q:VK} {Qb:Bool->Hp->Prop}
noncomputable def kW1 (C:Rc) (σ:L2.St) (k:Zf) (b:Ce) (Q:VK):VK:=fun x H=>tE C b σ H fun y H'=>rZf k x y H' Q
noncomputable def kW2 (k:Zf) (x:V) (Q:VK):VK:=fun y H=>rZf k x y H Q
theorem kW1_at {k:Zf} {b:Ce} {x:V}:kW1 C σ k b Q x H=tE C b σ H (kW2 k x Q):=rfl
theorem at_lenDT {K:W.Frag} {a:Addr} {kvs:List (List Key×V)} (h:H a=some (.dT kvs)) (q:Q (.int kvs.length) H):rBlt K .lenD [.ref a] H Q:=.inr ⟨a,kvs,rfl,h,q⟩
section
variable {D:Ends}
noncomputable def kAg3 (x y z:V) (sub:Bool) (D:Ends) (σ:L2.St):VK:=fun w H4=>ipI (fun i j=>if sub then i-j else i+j) z w H4 fun u H5=>rSetL x y u H5 fun H6=>D.nx σ H6
noncomputable def kAg2 (C:Rc) (e:Ce) (sub:Bool) (x:V) (D:Ends) (σ:L2.St):VK:=fun y H2=>rIxL C.K x y H2 fun z H3=>tE C e σ H3 (kAg3 x y z sub D σ)
noncomputable def kAg1 (C:Rc) (i:Ce) (sub:Bool) (e:Ce) (D:Ends) (σ:L2.St):VK:=fun x H1=>tE C i σ H1 (kAg2 C e sub x D σ)
theorem kAg1_at {i e:Ce} {sub:Bool} {x:V}:kAg1 C i sub e D σ x H=tE C i σ H (kAg2 C e sub x D σ):=rfl
noncomputable def kDp3 (x v:V) (D:Ends) (σ:L2.St):VK:=fun y H3=>∃a H4,x=.ref a/\DPut H3 a y v H4/\D.nx σ H4
noncomputable def kDp2 (C:Rc) (i:Ce) (v:V) (D:Ends) (σ:L2.St):VK:=fun x H2=>tE C i σ H2 (kDp3 x v D σ)
noncomputable def kDp1 (C:Rc) (o i:Ce) (D:Ends) (σ:L2.St):VK:=fun v H1=>tE C o σ H1 (kDp2 C i v D σ)
theorem s_dput {o i e:Ce}:tS C (.dput o i e) D σ H=tE C e σ H (kDp1 C o i D σ):=rfl
theorem kDp1_at {o i:Ce} {v:V}:kDp1 C o i D σ v H=tE C o σ H (kDp2 C i v D σ):=rfl
theorem kDp2_at {i:Ce} {v x:V}:kDp2 C i v D σ x H=tE C i σ H (kDp3 x v D σ):=rfl
end
end
end R3
section
open PySem PySem.Spec PyProof.Rows L2 R3
set_option hygiene false in
local macro_rules | `(tactic| walk_at "st") => `(tactic| simp only [tE_var, tE_int, tE_bl, tE_non, tE_str, tE_ty, tE_bin, kB1_at, kB2_at, tE_cmp, kC1_at, kC2_at, tE_idx, kI1_at, kI2_at, tE_neg, kNeg_int, kT_bl, tQ_cmp, tQ_not, kNotQ_at, tQ_and, tQ_or, kAndQ_t, kAndQ_f, kOrQ_t, kOrQ_f, i_range3', kR3a_at, kR3b_at, kCG2_n, kCG2_q, kCT2_t, kCT2_f, tE_comp2, b_add, b_sub, b_mul, b_muls, b_mod, b_div, b_pow, c_lt, c_gt, c_ge, c_eq, c_eqs, c_eqb, c_neb, tE_dix, kDx1_at, c_is, ix_ref, ss_nil, ss_cons, seq_nx, seq_rt, seq_bk, seq_ct, s_ret, s_expr, kDrop_at, s_set, kSet_at, s_sub, kSub1_at, kSub2_at, kSub3_at, s_if, kIf_t, kIf_f, kV_some, kA1_at, kA2_at, a_nil, a_cons, tE_tup, tE_lst, kTup_at, kLst_at, kCall_at, tE_blt, kBlt_at, tE_met, kMet1_at, kMet2_at, tE_ife, kIfe_t, kIfe_f, tE_not, kNotV_bl, tE_and, tE_or, kAndV_t, tQ_val, kTru_bl, tE_cut, kCut1_at, kCut2_at, kCut3_at, o_none, o_some, kPart_int, sl_ref, kPar1_at, kPar2_at, bl_abs, bl_int_int, bl_int_bl, s_for, i_val, i_range1', kR2a_at, i_zip, kZ1_at, i_enum, g_name, tE_comp, kCG_n, kCG_q, kCT_t, kCT_f, kPush_at, clr, List.foldl_cons, List.foldl_nil, L2.start, List.map_cons, List.map_nil, List.length_cons, List.length_nil, List.cons_append, List.nil_append, List.replicate, Nat.reduceSub, Nat.reduceAdd, List.set_cons_zero, List.set_cons_succ, List.getElem?_cons_zero, List.getElem?_cons_succ, reduceCtorEq, decide_true, decide_false, eq_self, Bool.not_true, Bool.not_false, bne_self_eq_false, BEq.rfl])
namespace LW
open PySem PySem.Spec PyProof.Rows L2 R3
noncomputable def c_cell_at:Css:=(.cons (.ite (.cmp .Lt (.var 1) (.blt .len (.cons (.var 0) .nil))) (.cons (.ret (.idx (.var 0) (.var 1)))
  .nil) .nil)
  (.cons (.ret (.int 0))
  .nil))
noncomputable def c_box:Css:=(.cons (.asg (.name 2) (.call "_law_cell_at" (.cons (.var 0) (.cons (.var 1) .nil))))
  (.cons (.ret (.lst (.cons (.bin .Mult (.blt .abs (.cons (.var 2) .nil)) (.blt .int (.cons (.cmp .GtE (.blt .abs (.cons (.var 2) .nil)) (.bin .Pow (.int 10) (.int 18))) .nil))) (.cons (.bin .Add (.bin .Add (.bin .Mod (.var 2) (.int 2305843009213693951)) (.bin .Mult (.int 39373) (.var 1))) (.int 17)) (.cons (.int 0) .nil)))))
  .nil))
noncomputable def c_take:Css:=(.cons (.ite (.cmp .Gt (.idx (.var 0) (.int 0)) (.int 0)) (.cons (.asg (.name 2) (.bin .Mod (.idx (.var 0) (.int 0)) (.var 1)))
  (.cons (.asg (.sub (.var 0) (.int 0)) (.bin .FloorDiv (.idx (.var 0) (.int 0)) (.var 1)))
  (.cons (.ret (.var 2))
  .nil))) .nil)
  (.cons (.asg (.sub (.var 0) (.int 2)) (.bin .Add (.idx (.var 0) (.int 2)) (.int 1)))
  (.cons (.asg (.name 3) (.bin .Mod (.bin .Mult (.bin .Add (.idx (.var 0) (.int 1)) (.bin .Mult (.int 48271) (.idx (.var 0) (.int 2)))) (.bin .Add (.int 39373) (.idx (.var 0) (.int 2)))) (.int 2147483647)))
  (.cons (.asg (.name 4) (.bin .Mod (.bin .Mult (.bin .Add (.var 3) (.idx (.var 0) (.int 2))) (.bin .Add (.bin .Mod (.var 3) (.int 40009)) (.int 7))) (.int 2147483629)))
  (.cons (.ret (.bin .Mod (.bin .FloorDiv (.bin .Mod (.bin .Add (.bin .Mult (.var 4) (.int 48271)) (.var 3)) (.int 2147483587)) (.int 64)) (.var 1)))
  .nil)))))
noncomputable def c_same:Css:=(.cons (.ite (.val (.blt .isinstance (.cons (.var 1) (.cons (.tup (.cons (.ty "list") (.cons (.ty "tuple") .nil))) .nil)))) (.cons (.ite (.or (.cmp .NotEq (.blt .isinstance (.cons (.var 0) (.cons (.ty "list") .nil))) (.blt .isinstance (.cons (.var 1) (.cons (.ty "list") .nil)))) (.cmp .NotEq (.blt .isinstance (.cons (.var 0) (.cons (.ty "tuple") .nil))) (.blt .isinstance (.cons (.var 1) (.cons (.ty "tuple") .nil))))) (.cons (.ret (.bl false))
  .nil) .nil)
  (.cons (.ret (.and (.cmp .Eq (.blt .len (.cons (.var 0) .nil)) (.blt .len (.cons (.var 1) .nil))) (.blt .all (.cons (.comp (.call "_law_same" (.cons (.var 2) (.cons (.var 3) .nil))) [2,3] (.tup (.cons (.name 2) (.cons (.name 3) .nil))) (.zip (.var 0) (.var 1)) .none .nil) .nil))))
  .nil)) .nil)
  (.cons (.ite (.or (.cmp .Is (.var 1) .non) (.val (.blt .isinstance (.cons (.var 1) (.cons (.ty "str") .nil))))) (.cons (.ret (.and (.cmp .Eq (.var 0) (.var 1)) (.cmp .Eq (.blt .isinstance (.cons (.var 0) (.cons (.ty "str") .nil))) (.blt .isinstance (.cons (.var 1) (.cons (.ty "str") .nil))))))
  .nil) .nil)
  (.cons (.ite (.val (.blt .isinstance (.cons (.var 1) (.cons (.ty "bool") .nil)))) (.cons (.ret (.and (.blt .isinstance (.cons (.var 0) (.cons (.ty "bool") .nil))) (.cmp .Eq (.var 0) (.var 1))))
  .nil) .nil)
  (.cons (.ret (.and (.blt .isinstance (.cons (.var 0) (.cons (.ty "int") .nil))) (.and (.not (.blt .isinstance (.cons (.var 0) (.cons (.ty "bool") .nil)))) (.cmp .Eq (.var 0) (.var 1)))))
  .nil))))
def spCell (K:W.Frag):Sp:=fun vs H Q _=>∃(a:Addr) (ns:List Int) (k:Int),vs=[.ref a,.int k]/\SqL K H a (ns.map V.int)/\0<=k/\∀c:Int,Q (.int c) H
theorem atI_ints {ns:List Int} {k:Int} (h0:0<=k) (h1:k<ns.length):∃c:Int,atI (ns.map V.int) k=some (.int c):=by
 obtain⟨j,rfl⟩:=Int.eq_ofNat_of_zero_le h0
 have hk:j<ns.length:=by omega
 exact⟨ns[j],atI_nat (by rw[List.getElem?_map,List.getElem?_eq_getElem hk];rfl)⟩
theorem body_cell {C:Rc} (hN:C.N.length=2):∀vs H Q E,spCell C.K vs H Q E->tSs C c_cell_at { nx:=fun _ H'=>Q .non H',rt:=Q } (L2.start C.N vs) H:=by
 intro vs H Q E h
 obtain⟨a,ns,k,rfl,hs,hk,q⟩:=h
 rw[start_eq hN]
 unfold c_cell_at
 (try walk_at "st")
 refine at_lenL hs ?_
 rw[List.length_map]
 (try walk_at "st")
 refine by_dec (fun c=>?_) fun _=>?_
 .obtain⟨v,hv⟩:=atI_ints hk c
  (try walk_at "st")
  exact at_ixL hs hv (q v)
 .
  (try walk_at "st")
  exact q 0
def spBox0 (K:W.Frag):Sp:=fun vs H Q _=>∃(a:Addr) (ns:List Int) (k:Int),vs=[.ref a,.int k]/\SqL K H a (ns.map V.int)/\0<=k/\k<=1000/\∀(p:Addr) (x y:Int),H p=none->0<=x->0<=y->y<2 ^ 62->Q (.ref p) (upd H p (BoxL x y 0))
theorem body_box {C:Rc} (hN:C.N.length=3) (hf:C.fs "_law_cell_at"=some (spCell C.K)):∀vs H Q E,spBox0 C.K vs H Q E->tSs C c_box { nx:=fun _ H'=>Q .non H',rt:=Q } (L2.start C.N vs) H:=by
 intro vs H Q E h
 obtain⟨a,ns,k,rfl,hs,hk,hk2,q⟩:=h
 rw[start_eq hN]
 unfold c_box
 (try walk_at "st")
 refine call_e hf ?_
 (try walk_at "st")
 refine⟨a,ns,k,rfl,hs,hk,fun c=>?_⟩
 (try walk_at "st")
 have hm0:0<=c % 2305843009213693951:=Int.emod_nonneg _ (by decide)
 have hm1:c % 2305843009213693951<2305843009213693951:=Int.emod_lt_of_pos _ (by decide)
 refine⟨⟨by decide,by decide,by decide⟩,?_,by decide,.inl ⟨by decide,by decide⟩,by decide,fun p hp=>q p _ _ hp ?_ ?_ ?_⟩
 .refine .inr (.inl ⟨?_,?_⟩)<;>split<;>split<;>decide
 .split<;>split<;>omega
 .omega
 .omega
section
variable {K:W.Frag} {H:Hp} {b:Addr} {x y z:Int} {Q:VK}
theorem ix0 (h:H b=some (BoxL x y z)) (q:Q (.int x) H):rIxL K (.ref b) (.int 0) H Q\/rIxT K (.ref b) (.int 0) H Q:=.inl ⟨b,_,0,_,rfl,rfl,SqL.of h,rfl,q⟩
theorem ix1 (h:H b=some (BoxL x y z)) (q:Q (.int y) H):rIxL K (.ref b) (.int 1) H Q\/rIxT K (.ref b) (.int 1) H Q:=.inl ⟨b,_,1,_,rfl,rfl,SqL.of h,rfl,q⟩
theorem ix2 (h:H b=some (BoxL x y z)) (q:Q (.int z) H):rIxL K (.ref b) (.int 2) H Q\/rIxT K (.ref b) (.int 2) H Q:=.inl ⟨b,_,2,_,rfl,rfl,SqL.of h,rfl,q⟩
theorem st0 {u:Int} {Q:Hp->Prop} (h:H b=some (BoxL x y z)) (q:Q (upd H b (BoxL u y z))):rSetL (.ref b) (.int 0) (.int u) H Q:=⟨b,_,0,0,rfl,rfl,h,rfl,q⟩
theorem st2 {u:Int} {Q:Hp->Prop} (h:H b=some (BoxL x y z)) (q:Q (upd H b (BoxL x y u))):rSetL (.ref b) (.int 2) (.int u) H Q:=⟨b,_,2,2,rfl,rfl,h,rfl,q⟩
end
def spTake0:Sp:=fun vs H Q _=>∃(b:Addr) (x y z m:Int),vs=[.ref b,.int m]/\H b=some (BoxL x y z)/\0<=x/\0<=y/\y<2 ^ 62/\0<=z/\z<=2 ^ 40/\0<m/\m<4611686018427387904/\
 ∀(r x' z':Int),0<=r->r<m->0<=x'->0<=z'->z'<=z+1->Q (.int r) (upd H b (BoxL x' y z'))
theorem body_take {C:Rc} (hN:C.N.length=5):∀vs H Q E,spTake0 vs H Q E->tSs C c_take { nx:=fun _ H'=>Q .non H',rt:=Q } (L2.start C.N vs) H:=by
 intro vs H Q E h
 obtain⟨b,x,y,z,m,rfl,hb,hx,hy,hy2,hz,hz2,hm,hm2,q⟩:=h
 rw[start_eq hN]
 unfold c_take
 walk_at "st"
 refine ix0 hb ?_
 walk_at "st"
 refine by_dec (fun c=>?_) fun _=>?_
 .walk_at "st"
  refine ix0 hb ?_
  walk_at "st"
  refine⟨hm,?_⟩
  refine ix0 hb ?_
  walk_at "st"
  refine⟨⟨hm,.inr (Nat.lt_of_lt_of_le ((Nat.log2_lt (by omega)).mpr (show m.natAbs<2 ^ 62 by omega)) (by decide))⟩,st0 hb ?_⟩
  walk_at "st"
  exact q _ _ _ (Int.emod_nonneg _ (by omega)) (Int.emod_lt_of_pos _ hm) (Int.ediv_nonneg hx (by omega)) hz (by omega)
 .walk_at "st"
  refine ix2 hb ?_
  walk_at "st"
  refine st2 hb ?_
  have hb':upd H b (BoxL x y (z+1)) b=some (BoxL x y (z+1)):=upd_same
  walk_at "st"
  refine ix1 hb' ?_
  walk_at "st"
  refine ix2 hb' ?_
  walk_at "st"
  refine⟨.inl ⟨by decide,by decide⟩,?_⟩
  refine ix2 hb' ?_
  walk_at "st"
  refine⟨.inr (.inl ⟨by omega,by omega⟩),by decide,?_⟩
  refine ix2 hb' ?_
  walk_at "st"
  generalize (y+48271*(z+1))*(39373+(z+1)) % 2147483647=once
  have ho0:0<=once % 40009:=Int.emod_nonneg _ (by decide)
  have ho1:once % 40009<40009:=Int.emod_lt_of_pos _ (by decide)
  refine⟨by decide,.inr (.inl ⟨by omega,by omega⟩),by decide,.inr (.inl ⟨by decide,by decide⟩),by decide,⟨by decide,by decide⟩,hm,?_⟩
  exact q _ _ _ (Int.emod_nonneg _ (by omega)) (Int.emod_lt_of_pos _ hm) hx (by omega) (by omega)
def spTake:Sp:=fun vs H Q _=>∃(b:Addr) (n:Nat) (m:Int),vs=[.ref b,.int m]/\H b=some (BoxO b n)/\n<=2 ^ 40/\0<m/\m<4611686018427387904/\∀(r:Int) (H':Hp),0<=r->r<m->Go 1 H H'->Q (.int r) H'
theorem take_fn {P:Program} {w:World} {K:W.Frag} {mg:Str->Option Value} {base:Heap} {k:Nat} {f:Addr} {fd:FuncData} {ps:List Str} (hp:ps.length=2) (F:FnOk P w K mg base CX0 k f fd ps spTake0):FnOk P w K mg base CX0 k f fd ps spTake:=by
 refine open_fn (shut_fn (sp':=fun vs H Q E=>spTake0 vs H (Shut Q) E) F fun _ _ _ _ h=>h) (fun vs H Q E h=>?_) fun vs H Q E h=>?_
 .obtain⟨b,n,m,rfl,hb,hn,hm,hm2,q⟩:=h
  refine⟨b,n,hb,fun x y z hx hy hy2 hz hzn=>⟨b,x,y,z,m,rfl,upd_same,hx,hy,hy2,hz,by omega,hm,hm2,fun r x' z' h1 h2 h3 h4 h5=>?_⟩⟩
  refine⟨b,x',y,z',n+1,upd_same,h3,hy,hy2,h4,by omega,?_⟩
  refine q r _ h1 h2 ?_
  rw[upd_upd]
  exact Go.draw hb (Nat.le_refl _) _
 .obtain⟨b,n,m,rfl,_⟩:=h
  rw[hp]
  rfl
def spBox (K:W.Frag):Sp:=fun vs H Q _=>∃(a:Addr) (ns:List Int) (k:Int),vs=[.ref a,.int k]/\SqL K H a (ns.map V.int)/\0<=k/\k<=1000/\∀(p:Addr),H p=none->Q (.ref p) (upd H p (BoxO p 0))
theorem box_fn {P:Program} {w:World} {K:W.Frag} {mg:Str->Option Value} {base:Heap} {k:Nat} {f:Addr} {fd:FuncData} {ps:List Str} (F:FnOk P w K mg base CX0 k f fd ps (spBox0 K)):FnOk P w K mg base CX0 k f fd ps (spBox K):=by
 refine shut_fn F fun vs H Q E h=>?_
 obtain⟨a,ns,k,rfl,hs,h0,h1,q⟩:=h
 refine⟨a,ns,k,rfl,hs,h0,h1,fun p x y hp hx hy hy2=>⟨p,x,y,0,0,upd_same,hx,hy,hy2,by omega,by omega,?_⟩⟩
 rw[upd_upd]
 exact q p hp
theorem _root_.R3.Go.boxed {c n:Nat} {H H':Hp} {b:Addr} (g:Go c H H') (h:H b=some (BoxO b n)) (hn:n+c<=2 ^ 40):∃m,H' b=some (BoxO b m)/\m<=n+c/\m<=2 ^ 40:=by
 obtain⟨m,hm,e⟩:=g.box b n h
 exact⟨m,e,hm,by omega⟩
noncomputable def Sc:V->Bool
 | .non=>true
 | .bl _=>true
 | .int _=>true
 | .str _=>true
 |_=>false
noncomputable def Eqv (H:Hp):Nat->V->V->Prop
 |0,v,w=>v=w/\Sc v=true
 |n+1,v,w=>(v=w/\Sc v=true)\/∃a b xs ys,v=.ref a/\w=.ref b/\((H a=some (.lst xs)/\H b=some (.lst ys))\/(H a=some (.tup xs)/\H b=some (.tup ys)))/\xs.length<=sizeLine/\xs.length=ys.length/\∀(i:Nat) x y,xs[i]?=some x->ys[i]?=some y->Eqv H n x y
theorem Eqv.mono {H H':Hp} (s:Same H H'):∀{n:Nat} {v w:V},Eqv H n v w->Eqv H' n v w
 |0,_,_,h=>h
 |n+1,v,w,h=>by
  rcases h with h|⟨a,b,xs,ys,rfl,rfl,hab,hz,hl,he⟩
  .exact .inl h
  .refine .inr ⟨a,b,xs,ys,rfl,rfl,?_,hz,hl,fun i x y h1 h2=>Eqv.mono s (he i x y h1 h2)⟩
   rcases hab with⟨h1,h2⟩|⟨h1,h2⟩
   .exact .inl ⟨s _ _ h1,s _ _ h2⟩
   .exact .inr ⟨s _ _ h1,s _ _ h2⟩
theorem Eqv.int {H:Hp} {n:Nat} {i:Int}:Eqv H n (.int i) (.int i):=by
 cases n
 .exact⟨rfl,rfl⟩
 .exact .inl ⟨rfl,rfl⟩
theorem Eqv.non {H:Hp} {n:Nat}:Eqv H n .non .non:=by
 cases n
 .exact⟨rfl,rfl⟩
 .exact .inl ⟨rfl,rfl⟩
def spSame (n:Nat):Sp:=fun vs H Q _=>∃v w,vs=[v,w]/\Eqv H n v w/\∀H',Same H H'->Q (.bl true) H'
section
variable {K:W.Frag} {H:Hp} {Q:VK}
theorem isi1 {x:V} {T c:String} {k:Bool} (h:tyName H x=some T) (hk:isT T c=k) (hT:T∈tyKnown) (hc:c∈["bool","int","str","list","tuple","dict"]) (q:Q (.bl k) H):rBlt K .isinstance [x,.ty c] H Q:=at_isi h hT hc (by rw[hk];exact q)
theorem isi2 {x:V} {T c d:String} {p:Addr} {k:Bool} (h:tyName H x=some T) (hp:H p=some (.tup [.ty c,.ty d])) (hk:(isT T c || isT T d)=k) (hT:T∈tyKnown) (hc:c∈["bool","int","str","list","tuple","dict"]) (hd:d∈["bool","int","str","list","tuple","dict"]) (q:Q (.bl k) H):rBlt K .isinstance [x,.ref p] H Q:=at_isi2 h hT hp hc hd (by rw[hk];exact q)
theorem eq_self_at {x:V} (h:scal x x=true) (q:Q (.bl true) H):rCmp K .Eq x x H Q:=by
 rw[c_eqV h,decide_eq_true rfl]
 exact q
end
theorem body_same {C:Rc} {n:Nat} (hN:C.N.length=4) (hS:∀m,n=m+1->C.fs "_law_same"=some (spSame m)):∀vs H Q E,spSame n vs H Q E->tSs C c_same { nx:=fun _ H'=>Q .non H',rt:=Q } (L2.start C.N vs) H:=by
 intro vs H Q E h
 obtain⟨v,w,rfl,he,q⟩:=h
 rw[start_eq hN]
 unfold c_same
 have hcase:(v=w/\Sc v=true)\/∃m a b xs ys,n=m+1/\v=.ref a/\w=.ref b/\((H a=some (.lst xs)/\H b=some (.lst ys))\/(H a=some (.tup xs)/\H b=some (.tup ys)))/\xs.length<=sizeLine/\xs.length=ys.length/\∀(i:Nat) x y,xs[i]?=some x->ys[i]?=some y->Eqv H m x y:=by
  cases n with
  |zero=>exact .inl he
  |succ m=>
   rcases he with h|⟨a,b,xs,ys,h⟩
   .exact .inl h
   .exact .inr ⟨m,a,b,xs,ys,rfl,h⟩
 walk_at "st"
 refine⟨by decide,fun p hp=>?_⟩
 have sp:=same_new hp (.tup [.ty "list",.ty "tuple"])
 have hpp:upd H p (.tup [.ty "list",.ty "tuple"]) p=some (.tup [.ty "list",.ty "tuple"]):=upd_same
 generalize upd H p (.tup [.ty "list",.ty "tuple"])=H1 at sp hpp ⊢
 rcases hcase with⟨rfl,hsc⟩|⟨m,a,b,xs,ys,rfl,rfl,rfl,hab,hz,hl,hel⟩
 .cases v with
  |byt _=>cases hsc
  |flt _=>cases hsc
  |ref _=>cases hsc
  |ty _=>cases hsc
  |non=>
   refine isi2 (T:="NoneType") rfl hpp (k:=false) rfl (by decide) (by decide) (by decide) ?_
   walk_at "st"
   refine eq_self_at rfl ?_
   walk_at "st"
   refine isi1 (T:="NoneType") rfl (k:=false) rfl (by decide) (by decide) ?_
   walk_at "st"
   refine isi1 (T:="NoneType") rfl (k:=false) rfl (by decide) (by decide) ?_
   walk_at "st"
   exact q H1 sp
  |bl c=>
   refine isi2 (T:="bool") rfl hpp (k:=false) rfl (by decide) (by decide) (by decide) ?_
   walk_at "st"
   refine isi1 (T:="bool") rfl (k:=false) rfl (by decide) (by decide) ?_
   walk_at "st"
   refine isi1 (T:="bool") rfl (k:=true) rfl (by decide) (by decide) ?_
   walk_at "st"
   refine isi1 (T:="bool") rfl (k:=true) rfl (by decide) (by decide) ?_
   walk_at "st"
   exact q H1 sp
  |int i=>
   refine isi2 (T:="int") rfl hpp (k:=false) rfl (by decide) (by decide) (by decide) ?_
   walk_at "st"
   refine isi1 (T:="int") rfl (k:=false) rfl (by decide) (by decide) ?_
   walk_at "st"
   refine isi1 (T:="int") rfl (k:=false) rfl (by decide) (by decide) ?_
   walk_at "st"
   refine isi1 (T:="int") rfl (k:=true) rfl (by decide) (by decide) ?_
   walk_at "st"
   refine isi1 (T:="int") rfl (k:=false) rfl (by decide) (by decide) ?_
   walk_at "st"
   exact q H1 sp
  |str x=>
   refine isi2 (T:="str") rfl hpp (k:=false) rfl (by decide) (by decide) (by decide) ?_
   walk_at "st"
   refine isi1 (T:="str") rfl (k:=true) rfl (by decide) (by decide) ?_
   walk_at "st"
   refine isi1 (T:="str") rfl (k:=true) rfl (by decide) (by decide) ?_
   walk_at "st"
   refine isi1 (T:="str") rfl (k:=true) rfl (by decide) (by decide) ?_
   walk_at "st"
   exact q H1 sp
 .have fin:∀(J:Bool),(Sq J C.K H1 a xs/\Sq J C.K H1 b ys)->(∀H',Same H1 H'->Sq J C.K H' a xs/\Sq J C.K H' b ys) ->
    kComp C (.call "_law_same" (.cons (.var 2) (.cons (.var 3) .nil))) [2,3] (.tup (.cons (.name 2) (.cons (.name 3) .nil))) .none [some (.ref a),some (.ref b),none,none] (kA1 C [some (.ref a),some (.ref b),none,none] .nil (kBlt C .all Q)) (Itz J C.K a b) H1:=by
   intro J h0 hk
   refine comp_z hl (fun i zs H'=>zs=List.replicate i (.bl true)/\Same H1 H') ⟨rfl,Same.refl _⟩ (fun i zs H' p=>hk H' p.2) ?_ ?_
   .rintro i zs H' x y p R hx hy hp' ⟨rfl,s⟩ hR
    refine g_tup2 (SqT.of upd_same) ?_
    walk_at "st"
    refine call_e (hS m rfl) ?_
    walk_at "st"
    have s2:=s.trans (same_new hp' (.tup [x,y]))
    refine⟨x,y,rfl,(hel i x y hx hy).mono (sp.trans s2),fun H2 s3=>?_⟩
    walk_at "st"
    have hi:i<xs.length:=by
     rcases Nat.lt_or_ge i xs.length with h|h
     .exact h
     .rw[List.getElem?_eq_none_iff.mpr h]at hx;cases hx
    refine⟨by rw[List.length_replicate];omega,hR _ _ ⟨?_,s2.trans s3⟩⟩
    rw[List.replicate_succ',List.append_cancel_left_eq]
   .rintro zs H' ⟨rfl,s⟩ p hp'
    walk_at "st"
    have e:List.replicate xs.length (V.bl true)=(List.replicate xs.length true).map V.bl:=by simp
    refine at_all (bs:=List.replicate xs.length true) (SqL.of (by rw[<- e];exact upd_same)) ?_
    rw[show(List.replicate xs.length true).all id=true by simp]
    exact q _ ((sp.trans s).trans (same_new hp' _))
  rcases hab with⟨ha,hb⟩|⟨ha,hb⟩
  .have ha1:=sp _ _ ha
   have hb1:=sp _ _ hb
   have ta:tyName H1 (.ref a)=some "list":=by simp only[tyName,ha1]
   have tb:tyName H1 (.ref b)=some "list":=by simp only[tyName,hb1]
   refine isi2 tb hpp (k:=true) rfl (by decide) (by decide) (by decide) ?_
   walk_at "st"
   refine isi1 ta (k:=true) rfl (by decide) (by decide) ?_
   walk_at "st"
   refine isi1 tb (k:=true) rfl (by decide) (by decide) ?_
   walk_at "st"
   refine isi1 ta (k:=false) rfl (by decide) (by decide) ?_
   walk_at "st"
   refine isi1 tb (k:=false) rfl (by decide) (by decide) ?_
   walk_at "st"
   refine at_lenL (SqL.of ha1) ?_
   walk_at "st"
   refine at_lenL (SqL.of hb1) ?_
   rw[hl]
   walk_at "st"
   exact at_zipL (SqL.of ha1) (SqL.of hb1) (fin false ⟨SqL.of ha1,SqL.of hb1⟩ fun H' s=>⟨SqL.of (s _ _ ha1),SqL.of (s _ _ hb1)⟩)
  .have ha1:=sp _ _ ha
   have hb1:=sp _ _ hb
   have ta:tyName H1 (.ref a)=some "tuple":=by simp only[tyName,ha1]
   have tb:tyName H1 (.ref b)=some "tuple":=by simp only[tyName,hb1]
   refine isi2 tb hpp (k:=true) rfl (by decide) (by decide) (by decide) ?_
   walk_at "st"
   refine isi1 ta (k:=false) rfl (by decide) (by decide) ?_
   walk_at "st"
   refine isi1 tb (k:=false) rfl (by decide) (by decide) ?_
   walk_at "st"
   refine isi1 ta (k:=true) rfl (by decide) (by decide) ?_
   walk_at "st"
   refine isi1 tb (k:=true) rfl (by decide) (by decide) ?_
   walk_at "st"
   refine at_lenT (SqT.of ha1) ?_
   walk_at "st"
   refine at_lenT (SqT.of hb1) ?_
   rw[hl]
   walk_at "st"
   exact at_zipT (SqT.of ha1) (SqT.of hb1) (fin true ⟨SqT.of ha1,SqT.of hb1⟩ fun H' s=>⟨SqT.of (s _ _ ha1),SqT.of (s _ _ hb1)⟩)
end LW
namespace LW
open PySem PySem.Spec PyProof.Rows L2 R3
noncomputable def c_many:Css:=(.cons (.ite (.cmp .Eq (.call "_law_take" (.cons (.var 0) (.cons (.int 8) .nil))) (.int 0)) (.cons (.ret (.bin .Add (.int 7) (.call "_law_take" (.cons (.var 0) (.cons (.bin .Sub (.var 3) (.int 6)) .nil)))))
  .nil) .nil)
  (.cons (.ret (.bin .Add (.var 1) (.call "_law_take" (.cons (.var 0) (.cons (.bin .Add (.bin .Sub (.var 2) (.var 1)) (.int 1)) .nil)))))
  .nil))
noncomputable def c_machine:Css:=(.cons (.asg (.name 2) (.bin .Add (.int 2) (.call "_law_take" (.cons (.var 0) (.cons (.int 4) .nil)))))
  (.cons (.asg (.name 3) (.lst .nil))
  (.cons (.for_ (.name 4) (.range1 (.var 1)) (.cons (.asg (.name 5) (.lst .nil))
  (.cons (.for_ (.name 6) (.range1 (.int 2)) (.cons (.asg (.name 7) (.call "_law_take" (.cons (.var 0) (.cons (.var 1) .nil))))
  (.cons (.expr (.met .append (.var 5) (.cons (.idx (.lst (.cons (.var 7) (.cons .non .nil))) (.blt .int (.cons (.cmp .Eq (.call "_law_take" (.cons (.var 0) (.cons (.var 2) .nil))) (.int 0)) .nil))) .nil)))
  .nil)))
  (.cons (.expr (.met .append (.var 3) (.cons (.blt .tuple (.cons (.var 5) .nil)) .nil)))
  .nil))))
  (.cons (.ret (.blt .tuple (.cons (.var 3) .nil)))
  .nil))))
noncomputable def c_ring_machine:Css:=(.cons (.asg (.name 2) (.lst .nil))
  (.cons (.for_ (.name 3) (.range1 (.var 1)) (.cons (.expr (.met .insert (.var 2) (.cons (.call "_law_take" (.cons (.var 0) (.cons (.bin .Add (.var 3) (.int 1)) .nil))) (.cons (.var 3) .nil))))
  .nil))
  (.cons (.asg (.name 4) (.bin .Mult (.lst (.cons .non .nil)) (.var 1)))
  (.cons (.for_ (.tup (.cons (.name 5) (.cons (.name 6) .nil))) (.enum (.var 2)) (.cons (.asg (.name 7) (.idx (.bin .Add (.var 2) (.cut (.var 2) .none (.some (.int 1)))) (.bin .Add (.var 5) (.int 1))))
  (.cons (.asg (.name 8) (.idx (.lst (.cons (.call "_law_take" (.cons (.var 0) (.cons (.var 1) .nil))) (.cons .non .nil))) (.blt .int (.cons (.cmp .Eq (.call "_law_take" (.cons (.var 0) (.cons (.int 3) .nil))) (.int 0)) .nil))))
  (.cons (.asg (.sub (.var 4) (.var 6)) (.idx (.lst (.cons (.tup (.cons (.var 7) (.cons (.var 8) .nil))) (.cons (.tup (.cons (.var 8) (.cons (.var 7) .nil))) .nil))) (.call "_law_take" (.cons (.var 0) (.cons (.int 2) .nil)))))
  .nil))))
  (.cons (.ret (.blt .tuple (.cons (.var 4) .nil)))
  .nil)))))
noncomputable def c_copied:Css:=(.cons (.asg (.name 2) (.lst .nil))
  (.cons (.for_ (.name 3) (.range1 (.blt .len (.cons (.var 1) .nil))) (.cons (.for_ (.name 4) (.range1 (.bin .Add (.int 1) (.call "_law_take" (.cons (.var 0) (.cons (.int 3) .nil))))) (.cons (.expr (.met .insert (.var 2) (.cons (.call "_law_take" (.cons (.var 0) (.cons (.bin .Add (.blt .len (.cons (.var 2) .nil)) (.int 1)) .nil))) (.cons (.var 3) .nil))))
  .nil))
  .nil))
  (.cons (.asg (.name 5) (.lst .nil))
  (.cons (.for_ (.name 3) (.val (.var 2)) (.cons (.asg (.name 6) (.lst .nil))
  (.cons (.for_ (.name 7) (.val (.idx (.var 1) (.var 3))) (.cons (.asg (.name 8) (.comp (.var 9) [9,10] (.tup (.cons (.name 9) (.cons (.name 10) .nil))) (.enum (.var 2)) (.some (.cmp .Eq (.var 10) (.var 7))) .nil))
  (.cons (.expr (.met .append (.var 6) (.cons (.ife (.cmp .NotEq (.var 8) (.lst .nil)) (.idx (.var 8) (.call "_law_take" (.cons (.var 0) (.cons (.blt .len (.cons (.var 8) .nil)) .nil)))) .non) .nil)))
  .nil)))
  (.cons (.expr (.met .append (.var 5) (.cons (.blt .tuple (.cons (.var 6) .nil)) .nil)))
  .nil))))
  (.cons (.ret (.tup (.cons (.blt .tuple (.cons (.var 5) .nil)) (.cons (.var 2) .nil))))
  .nil)))))
noncomputable def c_line:Css:=(.cons (.asg (.name 2) (.call "_law_take" (.cons (.var 0) (.cons (.int 2) .nil))))
  (.cons (.asg (.name 3) (.idx (.lst (.cons .non (.cons (.call "_law_take" (.cons (.var 0) (.cons (.var 1) .nil))) .nil))) (.call "_law_take" (.cons (.var 0) (.cons (.int 2) .nil)))))
  (.cons (.asg (.name 4) (.bin .Add (.blt .list (.cons (.blt .range (.cons (.int 1) (.cons (.var 1) .nil))) .nil)) (.lst (.cons (.var 3) .nil))))
  (.cons (.ret (.blt .tuple (.cons (.comp (.idx (.lst (.cons (.tup (.cons (.var 5) (.cons .non .nil))) (.cons (.tup (.cons .non (.cons (.var 5) .nil))) .nil))) (.var 2)) [5] (.name 5) (.val (.var 4)) .none .nil) .nil)))
  .nil))))
noncomputable def c_any:Css:=(.cons (.asg (.name 1) (.call "_law_take" (.cons (.var 0) (.cons (.int 6) .nil))))
  (.cons (.ite (.cmp .Eq (.var 1) (.int 0)) (.cons (.ret (.call "_law_line" (.cons (.var 0) (.cons (.call "_law_many" (.cons (.var 0) (.cons (.int 2) (.cons (.int 6) (.cons (.int 60) .nil))))) .nil))))
  .nil) .nil)
  (.cons (.ite (.cmp .Eq (.var 1) (.int 1)) (.cons (.ret (.idx (.call "_law_copied" (.cons (.var 0) (.cons (.call "_law_machine" (.cons (.var 0) (.cons (.call "_law_many" (.cons (.var 0) (.cons (.int 1) (.cons (.int 4) (.cons (.int 12) .nil))))) .nil))) .nil))) (.int 0)))
  .nil) .nil)
  (.cons (.ite (.cmp .Lt (.var 1) (.int 4)) (.cons (.ret (.call "_law_ring_machine" (.cons (.var 0) (.cons (.call "_law_many" (.cons (.var 0) (.cons (.int 1) (.cons (.int 6) (.cons (.int 12) .nil))))) .nil))))
  .nil) .nil)
  (.cons (.ret (.call "_law_machine" (.cons (.var 0) (.cons (.call "_law_many" (.cons (.var 0) (.cons (.int 1) (.cons (.int 6) (.cons (.int 12) .nil))))) .nil))))
  .nil)))))
noncomputable abbrev Rm:=Option Nat×Option Nat
noncomputable def oV:Option Nat->V
 |none=>.non
 |some n=>.int n
def Tp (H H':Hp):Prop:=∀a xs,H a=some (.tup xs)->H' a=some (.tup xs)
theorem Tp.refl {H:Hp}:Tp H H:=fun _ _ h=>h
theorem Tp.trans {H H1 H2:Hp} (a:Tp H H1) (b:Tp H1 H2):Tp H H2:=fun c x h=>b c x (a c x h)
theorem _root_.R3.Go.tp {c:Nat} {H H':Hp} (g:Go c H H'):Tp H H':=fun a xs h=>g.tup h
theorem tp_same {H H':Hp} (s:Same H H'):Tp H H':=fun a xs h=>s _ _ h
theorem tp_new {H:Hp} {p:Addr} (h:H p=none) (o:HO):Tp H (upd H p o):=tp_same (same_new h o)
theorem tp_lst {H:Hp} {p:Addr} {xs:List V} (h:H p=some (.lst xs)) (o:HO):Tp H (upd H p o):=fun a ys e=>by
 rw[upd_ne (fun z=>by subst z;rw[h]at e;cases e)]
 exact e
theorem _root_.R3.Go.upd {c:Nat} {H H':Hp} {l:Addr} {o:HO} (g:Go c H H') (h:H l=none):Go c H (L2.upd H' l o):=by
 refine⟨fun a n e=>?_,fun a u e no=>?_,fun a e=>?_⟩
 .obtain⟨m,hm,e1⟩:=g.box a n e
  exact⟨m,hm,by rw[upd_ne (ne_of_none e h)];exact e1⟩
 .rw[upd_ne (ne_of_none e h)]
  exact g.oth a u e no
 .by_cases hl:a=l
  .subst hl
   exact h
  .rw[upd_ne hl]at e
   exact g.free a e
theorem take_at {Q:VK} {m:Int} {H0 H:Hp} {b:Addr} {n0 c:Nat} (hb:H0 b=some (BoxO b n0)) (g:Go c H0 H) (hn:n0+c<=2 ^ 40) (hm:0<m) (hm2:m<4611686018427387904) (q:∀r H',0<=r->r<m->Go 1 H H'->Go (c+1) H0 H'->Q (.int r) H'):spTake [.ref b,.int m] H Q E0:=by
 obtain⟨n,hb1,_,hn1⟩:=g.boxed hb hn
 exact⟨b,n,m,rfl,hb1,hn1,hm,hm2,fun r H' h0 h1 g1=>q r H' h0 h1 g1 (g.trans g1)⟩
def spMany:Sp:=fun vs H Q _=>∃(b:Addr) (n:Nat) (x y z:Int),vs=[.ref b,.int x,.int y,.int z]/\H b=some (BoxO b n)/\n<=2 ^ 39/\0<=x/\x<=y/\y<=1000/\7<=z/\z<=1000/\∀(r:Int) (H':Hp),(x<=r/\r<=y\/7<=r/\r<=z)->Go 2 H H'->Q (.int r) H'
theorem body_many {C:Rc} (hN:C.N.length=4) (hT:C.fs "_law_take"=some spTake):∀vs H Q E,spMany vs H Q E->tSs C c_many { nx:=fun _ H'=>Q .non H',rt:=Q } (L2.start C.N vs) H:=by
 intro vs H Q E h
 obtain⟨b,n,x,y,z,rfl,hb,hn,hx,hxy,hy,hz,hz2,q⟩:=h
 rw[start_eq hN]
 unfold c_many
 walk_at "st"
 refine call_e hT ?_
 walk_at "st"
 refine take_at hb (Go.refl (c:=0)) (by omega) (by decide) (by decide) fun r1 H1 h0 h1 g1 g01=>?_
 walk_at "st"
 refine by_dec (fun hc=>?_) fun hc=>?_
 .walk_at "st"
  refine call_e hT ?_
  walk_at "st"
  refine take_at hb g01 (by omega) (by omega) (by omega) fun r2 H2 h20 h21 g2 g02=>?_
  walk_at "st"
  exact q _ _ (.inr ⟨by omega,by omega⟩) g02
 .walk_at "st"
  refine call_e hT ?_
  walk_at "st"
  refine take_at hb g01 (by omega) (by omega) (by omega) fun r2 H2 h20 h21 g2 g02=>?_
  walk_at "st"
  exact q _ _ (.inl ⟨by omega,by omega⟩) g02
def IsRoom (H:Hp) (v:V) (r:Rm):Prop:=∃p,v=.ref p/\H p=some (.tup [oV r.1,oV r.2])
theorem IsRoom.mono {H H':Hp} {v:V} {r:Rm} (t:Tp H H') (h:IsRoom H v r):IsRoom H' v r:=by
 obtain⟨p,e,h⟩:=h
 exact⟨p,e,t _ _ h⟩
noncomputable def Rooms (H:Hp):List V->List Rm->Prop
 | [],[]=>True
 |v :: vs,r :: rs=>IsRoom H v r/\Rooms H vs rs
 |_,_=>False
theorem Rooms.mono {H H':Hp} (t:Tp H H'):∀{vs:List V} {M:List Rm},Rooms H vs M->Rooms H' vs M
 | [],[],_=>trivial
 |v :: vs,r :: rs,h=>⟨h.1.mono t,Rooms.mono t h.2⟩
 | [],_ :: _,h=>h.elim
 |_ :: _,[],h=>h.elim
theorem Rooms.len {H:Hp}:∀{vs:List V} {M:List Rm},Rooms H vs M->vs.length=M.length
 | [],[],_=>rfl
 |v :: vs,r :: rs,h=>by simp[Rooms.len h.2]
 | [],_ :: _,h=>h.elim
 |_ :: _,[],h=>h.elim
theorem Rooms.snoc {H:Hp} {v:V} {r:Rm} (hr:IsRoom H v r):∀{vs:List V} {M:List Rm},Rooms H vs M->Rooms H (vs++[v]) (M++[r])
 | [],[],_=>⟨hr,trivial⟩
 |v :: vs,r :: rs,h=>⟨h.1,Rooms.snoc hr h.2⟩
 | [],_ :: _,h=>h.elim
 |_ :: _,[],h=>h.elim
theorem Rooms.get {H:Hp}:∀{vs:List V} {M:List Rm} {i:Nat} {r:Rm},Rooms H vs M->M[i]?=some r->∃p,vs[i]?=some (.ref p)/\H p=some (.tup [oV r.1,oV r.2])
 | [],[],i,r,_,e=>by cases e
 |v :: vs,r :: rs,0,r',h,e=>by
  cases e
  obtain⟨p,rfl,hp⟩:=h.1
  exact⟨p,rfl,hp⟩
 |v :: vs,r :: rs,i+1,r',h,e=>Rooms.get (i:=i) h.2 (by simpa using e)
 | [],_ :: _,_,_,h,_=>h.elim
 |_ :: _,[],_,_,h,_=>h.elim
def IsM (H:Hp) (a:Addr) (M:List Rm):Prop:=∃vs,H a=some (.tup vs)/\Rooms H vs M
theorem IsM.mono {H H':Hp} {a:Addr} {M:List Rm} (t:Tp H H') (h:IsM H a M):IsM H' a M:=by
 obtain⟨vs,h1,h2⟩:=h
 exact⟨vs,t _ _ h1,h2.mono t⟩
def OkR (N:Nat) (r:Rm):Prop:=(∀n,r.1=some n->n<N)/\∀n,r.2=some n->n<N
def OkM (M:List Rm):Prop:=∀r∈M,OkR M.length r
def spMach (N0 N1 c:Nat):Sp:=fun vs H Q _=>∃(b:Addr) (n N:Nat),vs=[.ref b,.int N]/\H b=some (BoxO b n)/\n<=2 ^ 39/\N0<=N/\N<=N1/\∀(a:Addr) (M:List Rm) (H':Hp),Go c H H'->IsM H' a M->OkM M->M.length=N->Q (.ref a) H'
theorem body_machine {C:Rc} (hN:C.N.length=8) (hT:C.fs "_law_take"=some spTake):∀vs H Q E,spMach 1 60 400 vs H Q E->tSs C c_machine { nx:=fun _ H'=>Q .non H',rt:=Q } (L2.start C.N vs) H:=by
 intro vs H Q E h
 obtain⟨b,n,N,rfl,hb,hn,hN0,hN1,q⟩:=h
 rw[start_eq hN]
 unfold c_machine
 walk_at "st"
 refine call_e hT ?_
 walk_at "st"
 refine take_at hb (Go.refl (c:=0)) (by omega) (by decide) (by decide) fun r1 H1 h0 h1 g1 g01=>?_
 walk_at "st"
 refine⟨by decide,fun l hl=>?_⟩
 have hl0:=g01.free _ hl
 refine at_r1 (by omega) (by omega) (for_r (fun i σ H'=>(∃x4 x5 x6 x7,σ=[some (.ref b),some (.int N),some (.int (2+r1)),some (.ref l),x4,x5,x6,x7])/\Go (1+4*i) H H'/\∃vs M,H' l=some (.lst vs)/\Rooms H' vs M/\vs.length=i/\∀r∈M,OkR N r) ⟨⟨_,_,_,_,rfl⟩,(g01.upd hl0).mono (by omega),[],[],upd_same,trivial,rfl,fun r hr=>by cases hr⟩ ?_ ?_)
 .rintro i σ H2 hi ⟨⟨x4,x5,x6,x7,rfl⟩,g2,vs,M,hl2,hr2,hlen,hok⟩
  walk_at "st"
  refine⟨by decide,fun d hd=>?_⟩
  have hd0:=g2.free _ hd
  have hdl:l≠d:=ne_of_none hl2 hd
  refine at_r1 (by omega) (by omega) (for_r (fun j σ H'=>(∃x6 x7,σ=[some (.ref b),some (.int N),some (.int (2+r1)),some (.ref l),some (.int (0+i)),some (.ref d),x6,x7])/\Go (1+4*i+2*j) H H'/\Tp H2 H'/\H' l=some (.lst vs)/\∃ds:List (Option Nat),H' d=some (.lst (ds.map oV))/\ds.length=j/\∀m,some m∈ds->m<N) ⟨⟨_,_,rfl⟩,g2.upd hd0,tp_new hd _,by rw[upd_ne hdl];exact hl2,[],upd_same,rfl,fun m hm=>by cases hm⟩ ?_ ?_)
  .rintro j σ H3 hj ⟨⟨x6,x7,rfl⟩,g3,t3,hl3,ds,hd3,hdn,hdo⟩
   walk_at "st"
   refine call_e hT ?_
   walk_at "st"
   refine take_at hb g3 (by omega) (by omega) (by omega) fun r4 H4 h40 h41 g34 g4=>?_
   have hd4:=g34.lst hd3
   walk_at "st"
   refine⟨tyL hd4 rfl,⟨by decide,fun p hp=>?_⟩⟩
   have hp0:=g4.free _ hp
   refine call_e hT ?_
   walk_at "st"
   refine take_at hb (g4.upd hp0) (by omega) (by omega) (by omega) fun r5 H5 h50 h51 g45 g5=>?_
   have hp5:H5 p=some (.lst [.int r4,.non]):=g45.lst upd_same
   have hd5:H5 d=some (.lst (ds.map oV)):=g45.lst (by rw[upd_ne (ne_of_none hd4 hp)];exact hd4)
   have hl5:H5 l=some (.lst vs):=g45.lst (by rw[upd_ne (ne_of_none (g34.lst hl3) hp)];exact g34.lst hl3)
   walk_at "st"
   refine at_two (SqL.of hp5) ?_
   obtain⟨o,eo,hoo⟩:∃o:Option Nat,(if decide (r5=0)=true then V.non else V.int r4)=oV o/\∀m,o=some m->m<N:=by
    split
    .exact⟨none,rfl,fun m hm=>by cases hm⟩
    .exact⟨some r4.toNat,by show _=V.int _;congr 1;omega,fun m hm=>by cases hm;omega⟩
   rw[eo]
   walk_at "st"
   refine at_app hd5 (by rw[List.length_map];exact small1000 (by omega)) ?_
   walk_at "st"
   refine⟨⟨_,_,rfl⟩,(g5.upd hd0).mono (by omega),?_,by rw[upd_ne hdl];exact hl5,ds++[o],by rw[upd_same,List.map_append];rfl,by simp[hdn],fun m hm=>?_⟩
   .exact((t3.trans g34.tp).trans ((tp_new hp _).trans g45.tp)).trans (tp_lst hd5 _)
   .rcases List.mem_append.mp hm with hm|hm
    .exact hdo m hm
    .exact hoo m (List.mem_singleton.mp hm).symm
  .rintro σ H3 ⟨⟨x6,x7,rfl⟩,g3,t3,hl3,ds,hd3,hdn,hdo⟩
   walk_at "st"
   refine⟨tyL hl3 rfl,?_⟩
   refine at_tupL (SqL.of hd3) fun p hp=>?_
   walk_at "st"
   have hpl:upd H3 p (.tup (ds.map oV)) l=some (.lst vs):=by rw[upd_ne (ne_of_none hl3 hp)];exact hl3
   refine at_app hpl (small1000 (by omega)) ?_
   walk_at "st"
   obtain⟨x,y,rfl⟩:∃x y,ds=[x,y]:=by
    match ds,hdn with
    | [x,y],_=>exact⟨x,y,rfl⟩
   have tp1:Tp H2 (upd (upd H3 p (.tup ([x,y].map oV))) l (.lst (vs++[.ref p]))):=(t3.trans (tp_new hp _)).trans (tp_lst hpl _)
   refine⟨⟨_,_,_,_,rfl⟩,((g3.upd (g3.free _ hp)).upd hl0).mono (by omega),vs++[.ref p],M++[(x,y)],upd_same,(hr2.mono tp1).snoc ⟨p,rfl,?_⟩,by simp[hlen],fun r hr=>?_⟩
   .rw[upd_ne (fun z=>by subst z;rw[hl3]at hp;cases hp)]
    exact upd_same
   .rcases List.mem_append.mp hr with hr|hr
    .exact hok r hr
    .have e:r=(x,y):=by simpa using hr
     subst e
     exact⟨fun m hm=>hdo m (by simp[<- hm]),fun m hm=>hdo m (by simp[<- hm])⟩
 .rintro σ H2 ⟨⟨x4,x5,x6,x7,rfl⟩,g2,vs,M,hl2,hr2,hlen,hok⟩
  walk_at "st"
  refine at_tupL (SqL.of hl2) fun p hp=>?_
  have hlM:=hr2.len
  have e:M.length=N:=by omega
  exact q p M _ ((g2.upd (g2.free _ hp)).mono (by omega)) ⟨vs,upd_same,hr2.mono (tp_new hp _)⟩ (fun r hr=>by rw[e];exact hok r hr) e
theorem at_rep {K:W.Frag} {H:Hp} {Q:VK} {a:Addr} {xs:List V} {k:Nat} (h:H a=some (.lst xs)) (hk:k<=1000) (hz:xs.length*k<=sizeLine) (q:∀p,H p=none->Q (.ref p) (upd H p (.lst (List.replicate k xs).flatten))):rBin K .Mult (.ref a) (.int k) H Q:=by
 refine⟨a,k,xs,rfl,rfl,h,by omega,by omega,by simpa using hz,fun p hp=>?_⟩
 rw[Int.toNat_natCast]
 exact q p hp
theorem at_setL {H:Hp} {R:Hp->Prop} {a:Addr} {xs:List V} {k:Nat} {v:V} (h:H a=some (.lst xs)) (hk:k<xs.length) (q:R (upd H a (.lst (xs.set k v)))):rSetL (.ref a) (.int k) v H R:=by
 refine⟨a,xs,k,k,rfl,rfl,h,?_,q⟩
 unfold ixN
 rw[if_pos (by omega),if_pos (by omega)]
 simp
noncomputable def nV (n:Nat):V:=.int n
theorem rooms_of {H:Hp} {P:Rm->Prop}:∀{vs:List V},(∀m,m<vs.length->∃r v,P r/\vs[m]?=some v/\IsRoom H v r)->∃M,Rooms H vs M/\∀r∈M,P r
 | [],_=>⟨[],trivial,fun r hr=>by cases hr⟩
 |v :: vs,h=>by
  obtain⟨r,v',ho,e,hr⟩:=h 0 (by simp)
  cases e
  obtain⟨M,h1,h2⟩:=rooms_of (vs:=vs) fun m hm=>by
   obtain⟨r,v,h1,h2,h3⟩:=h (m+1) (by simpa using hm)
   exact⟨r,v,h1,by simpa using h2,h3⟩
  exact⟨r :: M,⟨hr,h1⟩,fun x hx=>by
   rcases List.mem_cons.mp hx with rfl|hx
   .exact ho
   .exact h2 x hx⟩
def OkD (N:Nat) (r:Rm):Prop:=OkR N r/\(r.1=none->r.2≠none)
def spRing:Sp:=fun vs H Q _=>∃(b:Addr) (n N:Nat),vs=[.ref b,.int N]/\H b=some (BoxO b n)/\n<=2 ^ 39/\1<=N/\N<=60/\∀(a:Addr) (M:List Rm) (H':Hp),Go 400 H H'->IsM H' a M->OkM M->M.length=N->(∀r∈M,r.1=none->r.2≠none)->Q (.ref a) H'
theorem body_ringF {C:Rc} (hN:C.N.length=9) (hT:C.fs "_law_take"=some spTake):∀vs H Q E,spRing vs H Q E->tSs C c_ring_machine { nx:=fun _ H'=>Q .non H',rt:=Q } (L2.start C.N vs) H:=by
 intro vs H Q E h
 obtain⟨b,n,N,rfl,hb,hn,hN0,hN1,q⟩:=h
 rw[start_eq hN]
 unfold c_ring_machine
 walk_at "st"
 refine⟨by decide,fun l hl=>?_⟩
 refine at_r1 (by omega) (by omega) (for_r (fun i σ H'=>(∃x3 x4 x5 x6 x7 x8,σ=[some (.ref b),some (.int N),some (.ref l),x3,x4,x5,x6,x7,x8])/\Go i H H'/\∃os:List Nat,H' l=some (.lst (os.map nV))/\os.length=i/\(∀m∈os,m<N)/\∀m,m<i->m∈os) ⟨⟨_,_,_,_,_,_,rfl⟩,(Go.refl (c:=0)).upd hl,[],upd_same,rfl,(fun m hm=>by cases hm),fun m hm=>by omega⟩ ?_ ?_)
 .rintro i σ H1 hi ⟨⟨x3,x4,x5,x6,x7,x8,rfl⟩,g1,os,hl1,hlen,hlt,hall⟩
  walk_at "st"
  refine⟨tyL hl1 rfl,call_e hT ?_⟩
  walk_at "st"
  refine take_at hb g1 (by omega) (by omega) (by omega) fun r2 H2 h20 h21 g12 g2=>?_
  have hl2:=g12.lst hl1
  walk_at "st"
  obtain⟨j,rfl⟩:=Int.eq_ofNat_of_zero_le h20
  refine at_ins hl2 (by rw[List.length_map];exact small1000 (by omega)) (by rw[List.length_map];omega) ?_
  walk_at "st"
  refine⟨⟨_,_,_,_,_,_,rfl⟩,g2.upd hl,os.take j++i :: os.drop j,?_,?_,?_,?_⟩
  .rw[upd_same,List.map_append,List.map_cons,List.map_take,List.map_drop]
   simp[nV]
  .simp;omega
  .intro m hm
   rcases List.mem_append.mp hm with hm|hm
   .exact hlt m (List.mem_of_mem_take hm)
   .rcases List.mem_cons.mp hm with rfl|hm
    .omega
    .exact hlt m (List.mem_of_mem_drop hm)
  .intro m hm
   by_cases e:m=i
   .subst e;simp
   .have:=hall m (by omega)
    rw[<- List.take_append_drop j os]at this
    rcases List.mem_append.mp this with h|h
    .exact List.mem_append.mpr (.inl h)
    .exact List.mem_append.mpr (.inr (List.mem_cons_of_mem _ h))
 rintro σ H1 ⟨⟨x3,x4,x5,x6,x7,x8,rfl⟩,g1,os,hl1,hlen,hlt,hall⟩
 rw[Int.toNat_natCast]at g1 hlen hall
 walk_at "st"
 refine⟨by decide,fun p hp=>?_⟩
 have hpl:l≠p:=ne_of_none hl1 hp
 refine at_rep upd_same (by omega) (Nat.le_of_lt (small1000 (by simp;omega))) fun w hw=>?_
 have gw:=(g1.upd (o:=.lst [.non]) (g1.free _ hp)).upd (o:=.lst (List.replicate N [V.non]).flatten) ((g1.upd (o:=.lst [.non]) (g1.free _ hp)).free _ hw)
 have hlw:upd (upd H1 p (.lst [.non])) w (.lst (List.replicate N [V.non]).flatten) l=some (.lst (os.map nV)):=same_new hw _ _ _ (same_new hp _ _ _ hl1)
 have hww:upd (upd H1 p (.lst [.non])) w (.lst (List.replicate N [V.non]).flatten) w=some (.lst (List.replicate N V.non)):=by
  rw[upd_same];simp
 have hw0:H w=none:=(g1.upd (o:=.lst [.non]) (g1.free _ hp)).free _ hw
 have hwl:l≠w:=ne_of_none (same_new hp (.lst [.non]) _ _ hl1) hw
 generalize upd (upd H1 p (.lst [.non])) w (.lst (List.replicate N [V.non]).flatten)=H2 at gw hlw hww
 walk_at "st"
 refine at_enL (SqL.of hlw) (for_e (xs:=os.map nV) (fun t σ H'=>(∃x3 x5 x6 x7 x8,σ=[some (.ref b),some (.int N),some (.ref l),x3,some (.ref w),x5,x6,x7,x8])/\Go (N+3*t) H H'/\H' l=some (.lst (os.map nV))/\∃ws,H' w=some (.lst ws)/\ws.length=N/\∀m∈os.take t,∃r v,OkD N r/\ws[m]?=some v/\IsRoom H' v r) ⟨⟨_,_,_,_,_,rfl⟩,gw.mono (by omega),hlw,_,hww,by simp,fun m hm=>by cases hm⟩ (fun t σ H' _ pv=>SqL.of pv.2.2.1) ?_ ?_)
 .rintro t x σ H3 e hx he ⟨⟨x3,x5,x6,x7,x8,rfl⟩,g3,hl3,ws,hw3,hwn,hws⟩
  rw[List.getElem?_map]at hx
  cases eo:os[t]? with
  |none=>rw[eo]at hx;cases hx
  |some room=>
   rw[eo]at hx
   cases hx
   have ht:=lt_of_get eo
   refine g_tup2 (SqT.of upd_same) ?_
   have s4:=same_new he (.tup [.int t,nV room])
   have g4:=g3.upd (o:=.tup [.int t,nV room]) (g3.free _ he)
   generalize upd H3 e (.tup [.int t,nV room])=H4 at s4 g4
   have hl4:=s4 _ _ hl3
   walk_at "st"
   refine at_cutL (SqL.of hl4) fun c hc=>?_
   rw[show(1:Int)=((1:Nat):Int) from rfl,cut_to]
   have s5:=same_new hc (.lst ((os.map nV).take 1))
   have g5:=g4.upd (o:=.lst ((os.map nV).take 1)) (g4.free _ hc)
   have hc5:upd H4 c (.lst ((os.map nV).take 1)) c=some (.lst ((os.map nV).take 1)):=upd_same
   generalize upd H4 c (.lst ((os.map nV).take 1))=H5 at s5 g5 hc5
   walk_at "st"
   refine at_cat (s5 _ _ hl4) hc5 (Nat.le_of_lt (small1000 (by simp;omega))) fun d hd=>?_
   have s6:=same_new hd (.lst (os.map nV++(os.map nV).take 1))
   have g6:=g5.upd (o:=.lst (os.map nV++(os.map nV).take 1)) (g5.free _ hd)
   have hd6:upd H5 d (.lst (os.map nV++(os.map nV).take 1)) d=some (.lst ((os++os.take 1).map nV)):=by rw[upd_same,List.map_append,List.map_take]
   generalize upd H5 d (.lst (os.map nV++(os.map nV).take 1))=H6 at s6 g6 hd6
   obtain⟨on,eon,hon⟩:∃on,(os++os.take 1)[t+1]?=some on/\on<N:=by
    have hl:t+1<(os++os.take 1).length:=by simp;omega
    refine⟨_,List.getElem?_eq_getElem hl,?_⟩
    rcases List.mem_append.mp (List.getElem_mem hl)with h|h
    .exact hlt _ h
    .exact hlt _ (List.mem_of_mem_take h)
   walk_at "st"
   refine at_ixL (SqL.of hd6) (v:=nV on) (atI_nat (j:=t+1) (by rw[List.getElem?_map,eon];rfl)) ?_
   walk_at "st"
   refine call_e hT ?_
   walk_at "st"
   refine take_at hb g6 (by omega) (by omega) (by omega) fun r7 H7 h70 h71 g67 g7=>?_
   walk_at "st"
   refine⟨by decide,fun f hf=>?_⟩
   refine call_e hT ?_
   walk_at "st"
   refine take_at hb (g7.upd (o:=.lst [.int r7,.non]) (g7.free _ hf)) (by omega) (by omega) (by omega) fun r8 H8 h80 h81 g78 g8=>?_
   have hf8:H8 f=some (.lst [.int r7,.non]):=g78.lst upd_same
   have keep8:∀a xs,H3 a=some (.lst xs)->H8 a=some (.lst xs):=fun a xs h=>g78.lst (same_new hf _ _ _ (g67.lst (s6 _ _ (s5 _ _ (s4 _ _ h)))))
   have tp8:Tp H3 H8:=(((tp_same s4).trans (tp_same s5)).trans (tp_same s6)).trans (g67.tp.trans ((tp_new hf _).trans g78.tp))
   walk_at "st"
   refine at_two (SqL.of hf8) ?_
   obtain⟨o,eo2,hoo⟩:∃o:Option Nat,(if decide (r8=0)=true then V.non else V.int r7)=oV o/\∀m,o=some m->m<N:=by
    split
    .exact⟨none,rfl,fun m hm=>by cases hm⟩
    .exact⟨some r7.toNat,by show _=V.int _;congr 1;omega,fun m hm=>by cases hm;omega⟩
   rw[eo2]
   walk_at "st"
   refine⟨by decide,fun p1 hp1=>?_⟩
   have s9:=same_new hp1 (.tup [nV on,oV o])
   have g9:=g8.upd (o:=.tup [nV on,oV o]) (g8.free _ hp1)
   have h9:upd H8 p1 (.tup [nV on,oV o]) p1=some (.tup [nV on,oV o]):=upd_same
   generalize upd H8 p1 (.tup [nV on,oV o])=H9 at s9 g9 h9
   refine⟨by decide,fun p2 hp2=>?_⟩
   have s10:=same_new hp2 (.tup [oV o,nV on])
   have g10:=g9.upd (o:=.tup [oV o,nV on]) (g9.free _ hp2)
   have h10:upd H9 p2 (.tup [oV o,nV on]) p2=some (.tup [oV o,nV on]):=upd_same
   generalize upd H9 p2 (.tup [oV o,nV on])=H10 at s10 g10 h10
   refine⟨by decide,fun p3 hp3=>?_⟩
   have s11:=same_new hp3 (.lst [.ref p1,.ref p2])
   have g11:=g10.upd (o:=.lst [.ref p1,.ref p2]) (g10.free _ hp3)
   have h11:upd H10 p3 (.lst [.ref p1,.ref p2]) p3=some (.lst [.ref p1,.ref p2]):=upd_same
   generalize upd H10 p3 (.lst [.ref p1,.ref p2])=H11 at s11 g11 h11
   refine call_e hT ?_
   walk_at "st"
   refine take_at hb g11 (by omega) (by omega) (by omega) fun r12 H12 h120 h121 g1112 g12=>?_
   have tpx:Tp H3 H12:=(((tp8.trans (tp_same s9)).trans (tp_same s10)).trans (tp_same s11)).trans g1112.tp
   have hl12:H12 l=some (.lst (os.map nV)):=g1112.lst (s11 _ _ (s10 _ _ (s9 _ _ (keep8 _ _ hl3))))
   have hw12:H12 w=some (.lst ws):=g1112.lst (s11 _ _ (s10 _ _ (s9 _ _ (keep8 _ _ hw3))))
   have h1:H12 p1=some (.tup [nV on,oV o]):=g1112.tup (s11 _ _ (s10 _ _ h9))
   have h2:H12 p2=some (.tup [oV o,nV on]):=g1112.tup (s11 _ _ h10)
   walk_at "st"
   have hroom:room<N:=hlt room (List.mem_of_getElem? eo)
   have fin:∀(pz:Addr) (rz:Rm),OkD N rz->H12 pz=some (.tup [oV rz.1,oV rz.2])->rSetL (.ref w) (nV room) (.ref pz) H12 (fun H'=>(∃x3' x5 x6 x7 x8,[some (V.ref b),some (V.int N),some (V.ref l),x3,some (V.ref w),some (V.int t),some (nV room),some (nV on),some (oV o)]=[some (.ref b),some (.int N),some (.ref l),x3',some (.ref w),x5,x6,x7,x8])/\Go (N+3*(t+1)) H H'/\H' l=some (.lst (os.map nV))/\∃ws,H' w=some (.lst ws)/\ws.length=N/\∀m∈os.take (t+1),∃r v,OkD N r/\ws[m]?=some v/\IsRoom H' v r):=by
    intro pz rz hrz hpz
    refine at_setL hw12 (by omega) ⟨⟨_,_,_,_,_,rfl⟩,(g12.upd hw0).mono (by omega),by rw[upd_ne hwl];exact hl12,_,upd_same,by rw[List.length_set];exact hwn,fun m hm=>?_⟩
    by_cases em:m=room
    .subst em
     exact⟨rz,.ref pz,hrz,by rw[List.getElem?_set_self (by omega)],pz,rfl,tp_lst hw12 _ _ _ hpz⟩
    .rw[List.take_succ,eo]at hm
     rcases List.mem_append.mp hm with hm|hm
     .obtain⟨r,v,q1,q2,q3⟩:=hws m hm
      exact⟨r,v,q1,by rw[List.getElem?_set_ne (Ne.symm em)];exact q2,q3.mono (tpx.trans (tp_lst hw12 _))⟩
     .exact absurd (by simpa using hm) em
   have h121':r12=0\/r12=1:=by omega
   rcases h121' with rfl|rfl
   .refine at_ixL (SqL.of (g1112.lst h11)) (v:=.ref p1) rfl ?_
    walk_at "st"
    exact fin p1 (some on,o) ⟨⟨fun m hm=>by cases hm;exact hon,hoo⟩,fun z=>by cases z⟩ h1
   .refine at_ixL (SqL.of (g1112.lst h11)) (v:=.ref p2) rfl ?_
    walk_at "st"
    exact fin p2 (o,some on) ⟨⟨hoo,fun m hm=>by cases hm;exact hon⟩,fun _ z=>by cases z⟩ h2
 .rintro σ H3 ⟨⟨x3,x5,x6,x7,x8,rfl⟩,g3,hl3,ws,hw3,hwn,hws⟩
  walk_at "st"
  refine at_tupL (SqL.of hw3) fun p hp=>?_
  rw[List.length_map,<- List.length_map (f:=nV),List.length_map,List.take_length]at hws
  rw[List.length_map]at g3
  obtain⟨M,hM,hO⟩:=rooms_of (P:=OkD N) (vs:=ws) (H:=H3) fun m hm=>hws m (hall m (by omega))
  have e:M.length=N:=by rw[<- hM.len];exact hwn
  exact q p M _ ((g3.upd (g3.free _ hp)).mono (by omega)) ⟨ws,upd_same,hM.mono (tp_new hp _)⟩ (fun r hr=>by rw[e];exact(hO r hr).1) e fun r hr=>(hO r hr).2
theorem body_ring {C:Rc} (hN:C.N.length=9) (hT:C.fs "_law_take"=some spTake):∀vs H Q E,spMach 1 60 400 vs H Q E->tSs C c_ring_machine { nx:=fun _ H'=>Q .non H',rt:=Q } (L2.start C.N vs) H:=fun vs H Q E ⟨b,n,N,h1,h2,h3,h4,h5,q⟩=>body_ringF hN hT vs H Q E ⟨b,n,N,h1,h2,h3,h4,h5,fun a M H' g i o l _=>q a M H' g i o l⟩
def spCopied:Sp:=fun vs H Q _=>∃(b a:Addr) (n:Nat) (M:List Rm),vs=[.ref b,.ref a]/\H b=some (BoxO b n)/\n<=2 ^ 39/\IsM H a M/\OkM M/\1<=M.length/\M.length<=20/\
 ∀(p a' l:Addr) (M':List Rm) (ms:List Nat) (H':Hp),Go 500 H H'->H' p=some (.tup [.ref a',.ref l])->H' l=some (.lst (ms.map nV))->ms.length=M'.length->(∀m∈ms,m<M.length)->IsM H' a' M'->OkM M'->1<=M'.length->M'.length<=60->Q (.ref p) H'
theorem body_copied {C:Rc} (hN:C.N.length=11) (hT:C.fs "_law_take"=some spTake):∀vs H Q E,spCopied vs H Q E->tSs C c_copied { nx:=fun _ H'=>Q .non H',rt:=Q } (L2.start C.N vs) H:=by
 intro vs H Q E h
 obtain⟨b,a,n,M,rfl,hb,hn,⟨rv,ha,hrv⟩,hM,hM1,hM2,q⟩:=h
 have hrl:=hrv.len
 rw[start_eq hN]
 unfold c_copied
 walk_at "st"
 refine⟨by decide,fun l hl=>?_⟩
 have hal:a≠l:=ne_of_none ha hl
 refine at_lenT (SqT.of (by rw[upd_ne hal];exact ha)) ?_
 rw[hrl]
 refine at_r1 (by omega) (by omega) (for_r (fun i σ H'=>(∃x3 x4 x5 x6 x7 x8 x9 x10,σ=[some (.ref b),some (.ref a),some (.ref l),x3,x4,x5,x6,x7,x8,x9,x10])/\Go (4*i) H H'/\∃ms:List Nat,H' l=some (.lst (ms.map nV))/\i<=ms.length/\ms.length<=3*i/\(∀m∈ms,m<M.length)) ⟨⟨_,_,_,_,_,_,_,_,rfl⟩,(Go.refl (c:=0)).upd hl,[],upd_same,by simp,by simp,fun m hm=>by cases hm⟩ ?_ ?_)
 .rintro i σ H1 hi ⟨⟨x3,x4,x5,x6,x7,x8,x9,x10,rfl⟩,g1,ms,hl1,hm1,hm2,hm3⟩
  walk_at "st"
  refine call_e hT ?_
  walk_at "st"
  refine take_at hb g1 (by omega) (by omega) (by omega) fun r2 H2 h20 h21 g12 g2=>?_
  have hl2:=g12.lst hl1
  walk_at "st"
  refine at_r1 (by omega) (by omega) (for_r (fun j σ H'=>(∃x4,σ=[some (.ref b),some (.ref a),some (.ref l),some (.int (0+i)),x4,x5,x6,x7,x8,x9,x10])/\Go (4*i+1+j) H H'/\∃ms':List Nat,H' l=some (.lst (ms'.map nV))/\ms'.length=ms.length+j/\(∀m∈ms',m<M.length)) ⟨⟨_,rfl⟩,g2,ms,hl2,rfl,hm3⟩ ?_ ?_)
  .rintro j σ H3 hj ⟨⟨x4,rfl⟩,g3,ms',hl3,hml,hmm⟩
   walk_at "st"
   refine⟨tyL hl3 rfl,call_e hT ?_⟩
   walk_at "st"
   refine at_lenL (SqL.of hl3) ?_
   rw[List.length_map]
   walk_at "st"
   refine take_at hb g3 (by omega) (by omega) (by omega) fun r4 H4 h40 h41 g34 g4=>?_
   obtain⟨k,rfl⟩:=Int.eq_ofNat_of_zero_le h40
   walk_at "st"
   refine at_ins (g34.lst hl3) (by rw[List.length_map];exact small1000 (by omega)) (by rw[List.length_map];omega) ?_
   walk_at "st"
   refine⟨⟨_,rfl⟩,(g4.upd hl).mono (by omega),ms'.take k++i :: ms'.drop k,?_,by simp;omega,fun m hm=>?_⟩
   .rw[upd_same,List.map_append,List.map_cons,List.map_take,List.map_drop]
    simp[nV]
   .rcases List.mem_append.mp hm with hm|hm
    .exact hmm m (List.mem_of_mem_take hm)
    .rcases List.mem_cons.mp hm with rfl|hm
     .omega
     .exact hmm m (List.mem_of_mem_drop hm)
  .rintro σ H3 ⟨⟨x4,rfl⟩,g3,ms',hl3,hml,hmm⟩
   walk_at "st"
   exact⟨⟨_,_,_,_,_,_,_,_,rfl⟩,g3.mono (by omega),ms',hl3,by omega,by omega,hmm⟩
 rintro σ H1 ⟨⟨x3,x4,x5,x6,x7,x8,x9,x10,rfl⟩,g1,ms,hl1,hm1,hm2,hm3⟩
 rw[Int.toNat_natCast]at g1 hm1 hm2
 have hml:ms.length<=60:=by omega
 walk_at "st"
 refine⟨by decide,fun w hw=>?_⟩
 have hw0:=g1.free _ hw
 have hlw:l≠w:=ne_of_none hl1 hw
 refine at_iv_lst (SqL.of (xs:=ms.map nV) (by rw[upd_ne hlw];exact hl1)) (for_l (xs:=ms.map nV) (fun i σ H'=>(∃x3 x4 x6 x7 x8 x9 x10,σ=[some (.ref b),some (.ref a),some (.ref l),x3,x4,some (.ref w),x6,x7,x8,x9,x10])/\Go (80+2*i) H H'/\H' l=some (.lst (ms.map nV))/\∃vs R,H' w=some (.lst vs)/\Rooms H' vs R/\vs.length=i/\∀r∈R,OkR ms.length r) ⟨⟨_,_,_,_,_,_,_,rfl⟩,(g1.upd hw0).mono (by omega),by rw[upd_ne hlw];exact hl1,[],[],upd_same,trivial,rfl,fun r hr=>by cases hr⟩ (fun i σ H' _ pv=>SqL.of pv.2.2.1) ?_ ?_)
 .rintro i x σ H2 hx ⟨⟨x3,x4,x6,x7,x8,x9,x10,rfl⟩,g2,hl2,vs,R,hw2,hR,hlen,hok⟩
  rw[List.getElem?_map]at hx
  cases em:ms[i]? with
  |none=>rw[em]at hx;cases hx
  |some m=>
   rw[em]at hx
   cases hx
   have hi:=lt_of_get em
   have hmM:m<M.length:=hm3 m (List.mem_of_getElem? em)
   obtain⟨pr,hpr,hprt⟩:=hrv.get (List.getElem?_eq_getElem hmM)
   walk_at "st"
   refine⟨by decide,fun d hd=>?_⟩
   have hd0:=g2.free _ hd
   have gd:=g2.upd (o:=.lst []) hd0
   have sd:=same_new hd (.lst [])
   have hdd:upd H2 d (.lst []) d=some (.lst []):=upd_same
   have hdl:l≠d:=ne_of_none hl2 hd
   have hdw:w≠d:=ne_of_none hw2 hd
   generalize upd H2 d (.lst [])=H3 at gd sd hdd
   have ha3:H3 a=some (.tup rv):=gd.tup ha
   refine at_ixT (SqT.of ha3) (v:=.ref pr) (atI_nat hpr) ?_
   have hp3:H3 pr=some (.tup [oV M[m].1,oV M[m].2]):=gd.tup hprt
   refine at_iv_tup (SqT.of hp3) (for_t (xs:=[oV M[m].1,oV M[m].2]) (fun j σ H'=>(∃x7 x8 x9 x10,σ=[some (.ref b),some (.ref a),some (.ref l),some (nV m),x4,some (.ref w),some (.ref d),x7,x8,x9,x10])/\Go (80+2*i+j) H H'/\Tp H2 H'/\H' l=some (.lst (ms.map nV))/\H' w=some (.lst vs)/\∃ds:List (Option Nat),H' d=some (.lst (ds.map oV))/\ds.length=j/\∀k,some k∈ds->k<ms.length) ⟨⟨_,_,_,_,rfl⟩,gd,tp_same sd,sd _ _ hl2,sd _ _ hw2,[],hdd,rfl,fun k hk=>by cases hk⟩ (fun j σ H' _ pv=>SqT.of (pv.2.1.tup hprt)) ?_ ?_)
   .rintro j x σ H4 hx ⟨⟨x7,x8,x9,x10,rfl⟩,g4,t4,hl4,hw4,ds,hd4,hdn,hdo⟩
    obtain⟨o,rfl⟩:∃o,x=oV o:=by
     match j,hx with
     |0,hx=>cases hx;exact⟨_,rfl⟩
     |1,hx=>cases hx;exact⟨_,rfl⟩
    have hj:j<2:=lt_of_get hx
    walk_at "st"
    refine at_enL (SqL.of hl4) (comp_e (vs:=ms.map nV) (fun i xs H'=>(∃ks:List Nat,xs=ks.map nV/\(∀k∈ks,k<i)/\ks.length<=i)/\Same H4 H') ⟨⟨[],rfl,(fun k hk=>by cases hk),by simp⟩,Same.refl _⟩ (fun i xs H' pv=>SqL.of (pv.2 _ _ hl4)) ?_ ?_)
    .rintro i2 xs H5 x p R2 hx2 hp ⟨⟨ks,rfl,hk1,hk2⟩,s5⟩ hR2
     rw[List.getElem?_map]at hx2
     cases em2:ms[i2]? with
     |none=>rw[em2]at hx2;cases hx2
     |some m2=>
      rw[em2]at hx2
      cases hx2
      have hi2:=lt_of_get em2
      refine g_tup2 (SqT.of upd_same) ?_
      walk_at "st"
      have sc:scal (nV m2) (oV o)=true:=by cases o<;>rfl
      rw[c_eqV sc]
      walk_at "st"
      refine by_dec (fun hc=>?_) fun hc=>?_
      .walk_at "st"
       refine⟨by rw[List.length_map];exact small1000 (by omega),hR2 _ _ ⟨⟨ks++[i2],by rw[List.map_append];rfl,fun k hk=>?_,by simp;omega⟩,s5.trans (same_new hp _)⟩⟩
       rcases List.mem_append.mp hk with hk|hk
       .have:=hk1 k hk;omega
       .have e:k=i2:=by simpa using hk
        omega
      .walk_at "st"
       exact hR2 _ _ ⟨⟨ks,rfl,fun k hk=>by have:=hk1 k hk;omega,by omega⟩,s5.trans (same_new hp _)⟩
    rintro xs H5 ⟨⟨ks,rfl,hk1,hk2⟩,s5⟩ e he
    rw[List.length_map]at hk1 hk2
    have s6:=s5.trans (same_new he (.lst (ks.map nV)))
    have g6:=(g4.trans (Go.of_same (c:=0) s6))
    have he6:upd H5 e (.lst (ks.map nV)) e=some (.lst (ks.map nV)):=upd_same
    generalize upd H5 e (.lst (ks.map nV))=H6 at s6 g6 he6
    walk_at "st"
    refine⟨tyL (s6 _ _ hd4) rfl,⟨by decide,fun f hf=>?_⟩⟩
    have s7:=same_new hf (.lst [])
    have hf7:upd H6 f (.lst []) f=some (.lst []):=upd_same
    generalize upd H6 f (.lst [])=H7 at s7 hf7
    have g7:Go (80+2*i+j) H H7:=(g6.trans (Go.of_same (c:=0) s7)).mono (by omega)
    refine at_neL (SqL.of (s7 _ _ he6)) (SqL.of hf7) leq_nil ?_
    have fin:∀(o':Option Nat) (H8:Hp) (Qk:VK),(∀k,o'=some k->k<ms.length)->Go (80+2*i+(j+1)) H H8->Tp H7 H8->(∀x xs,H7 x=some (.lst xs)->H8 x=some (.lst xs))->
      (∀H',Go (80+2*i+(j+1)) H H'->Tp H2 H'->H' l=some (.lst (ms.map nV))->H' w=some (.lst vs)->(∃ds:List (Option Nat),H' d=some (.lst (ds.map oV))/\ds.length=j+1/\∀k,some k∈ds->k<ms.length)->Qk .non H')->rMet C.K .append (.ref d) [oV o'] H8 Qk:=by
     intro o' H8 Qk ho g8 t8 k8 hq
     have hd8:=k8 _ _ (s7 _ _ (s6 _ _ hd4))
     refine at_app hd8 (by rw[List.length_map];exact small1000 (by omega)) ?_
     refine hq _ (g8.upd hd0) (((t4.trans (tp_same s6)).trans (tp_same s7)).trans (t8.trans (tp_lst hd8 _))) (by rw[upd_ne hdl];exact k8 _ _ (s7 _ _ (s6 _ _ hl4))) (by rw[upd_ne hdw];exact k8 _ _ (s7 _ _ (s6 _ _ hw4))) ⟨ds++[o'],by rw[upd_same,List.map_append];rfl,by simp[hdn],fun k hk=>?_⟩
     rcases List.mem_append.mp hk with hk|hk
     .exact hdo k hk
     .exact ho k (List.mem_singleton.mp hk).symm
    cases ks with
    |nil=>
     walk_at "st"
     exact fin none H7 _ (fun k hk=>by cases hk) (g7.mono (by omega)) Tp.refl (fun _ _ h=>h) fun H' q1 q2 q3 q4 q5=>⟨⟨_,_,_,_,rfl⟩,q1,q2,q3,q4,q5⟩
    |cons k0 kr=>
     rw[show(!decide (List.map nV (k0 :: kr)=[]))=true by simp]
     walk_at "st"
     refine call_e hT ?_
     walk_at "st"
     refine at_lenL (SqL.of (s7 _ _ he6)) ?_
     walk_at "st"
     have hz:(nV k0 :: List.map nV kr).length=(k0 :: kr).length:=by simp
     refine take_at hb g7 (by omega) (by simp) (by simp at hk2 ⊢;omega) fun r8 H8 h80 h81 g78 g8=>?_
     walk_at "st"
     obtain⟨v,ev,ei⟩:=atI_lt (xs:=List.map nV (k0 :: kr)) h80 (by simpa using h81)
     rw[List.getElem?_map]at ev
     cases ek:(k0 :: kr)[r8.toNat]? with
     |none=>rw[ek]at ev;cases ev
     |some k=>
      rw[ek]at ev
      cases ev
      refine at_ixL (SqL.of (g78.lst (s7 _ _ he6))) ei ?_
      walk_at "st"
      exact fin (some k) H8 _ (fun k' hk'=>by cases hk';have:=hk1 k (List.mem_of_getElem? ek);omega) g8 g78.tp (fun _ _ h=>g78.lst h) fun H' q1 q2 q3 q4 q5=>⟨⟨_,_,_,_,rfl⟩,q1,q2,q3,q4,q5⟩
   .rintro σ H4 ⟨⟨x7,x8,x9,x10,rfl⟩,g4,t4,hl4,hw4,ds,hd4,hdn,hdo⟩
    walk_at "st"
    refine⟨tyL hw4 rfl,at_tupL (SqL.of hd4) fun p hp=>?_⟩
    walk_at "st"
    have hpw:upd H4 p (.tup (ds.map oV)) w=some (.lst vs):=by rw[upd_ne (ne_of_none hw4 hp)];exact hw4
    refine at_app hpw (small1000 (by omega)) ?_
    walk_at "st"
    obtain⟨x,y,rfl⟩:∃x y,ds=[x,y]:=by
     match ds,hdn with
     | [x,y],_=>exact⟨x,y,rfl⟩
    have tp1:Tp H2 (upd (upd H4 p (.tup ([x,y].map oV))) w (.lst (vs++[.ref p]))):=(t4.trans (tp_new hp _)).trans (tp_lst hpw _)
    refine⟨⟨_,_,_,_,_,_,_,rfl⟩,((g4.upd (g4.free _ hp)).upd hw0).mono (by simp;omega),?_,vs++[.ref p],R++[(x,y)],upd_same,(hR.mono tp1).snoc ⟨p,rfl,?_⟩,by simp[hlen],fun r hr=>?_⟩
    .rw[upd_ne hlw,upd_ne (ne_of_none hl4 hp)]
     exact hl4
    .rw[upd_ne (fun z=>by subst z;rw[hw4]at hp;cases hp)]
     exact upd_same
    .rcases List.mem_append.mp hr with hr|hr
     .exact hok r hr
     .have e:r=(x,y):=by simpa using hr
      subst e
      exact⟨fun k hk=>hdo k (by simp[<- hk]),fun k hk=>hdo k (by simp[<- hk])⟩
 .rintro σ H2 ⟨⟨x3,x4,x6,x7,x8,x9,x10,rfl⟩,g2,hl2,vs,R,hw2,hR,hlen,hok⟩
  rw[List.length_map]at g2 hlen
  walk_at "st"
  refine at_tupL (SqL.of hw2) fun p hp=>?_
  walk_at "st"
  refine⟨by decide,fun p2 hp2=>?_⟩
  have hRl:=hR.len
  have e:R.length=ms.length:=by omega
  have sA:=same_new hp (.tup vs)
  have sB:=same_new hp2 (.tup [.ref p,.ref l])
  refine q p2 p l R ms _ (((g2.upd (g2.free _ hp)).upd ((g2.upd (o:=.tup vs) (g2.free _ hp)).free _ hp2)).mono (by omega)) upd_same (sB _ _ (sA _ _ hl2)) e.symm hm3 ⟨vs,sB _ _ upd_same,hR.mono ((tp_same sA).trans (tp_same sB))⟩ (fun r hr=>by rw[e];exact hok r hr) (by omega) (by omega)
theorem rgs_get {i:Int} {n k:Nat} (h:k<n):(rgs i n)[k]?=some (.int (i+k)):=by
 unfold rgs
 rw[List.getElem?_map,List.getElem?_range h]
 rfl
theorem rgs_len {i:Int} {n:Nat}:(rgs i n).length=n:=by unfold rgs;simp
theorem body_line {C:Rc} (hN:C.N.length=6) (hT:C.fs "_law_take"=some spTake):∀vs H Q E,spMach 1 60 400 vs H Q E->tSs C c_line { nx:=fun _ H'=>Q .non H',rt:=Q } (L2.start C.N vs) H:=by
 intro vs H Q E h
 obtain⟨b,n,N,rfl,hb,hn,hN0,hN1,q⟩:=h
 rw[start_eq hN]
 unfold c_line
 walk_at "st"
 refine call_e hT ?_
 walk_at "st"
 refine take_at hb (Go.refl (c:=0)) (by omega) (by decide) (by decide) fun bit H1 hb0 hb1 g1 g01=>?_
 walk_at "st"
 refine call_e hT ?_
 walk_at "st"
 refine take_at hb g01 (by omega) (by omega) (by omega) fun r2 H2 h20 h21 g12 g2=>?_
 walk_at "st"
 refine⟨by decide,fun p hp=>?_⟩
 refine call_e hT ?_
 walk_at "st"
 refine take_at hb (g2.upd (o:=.lst [.non,.int r2]) (g2.free _ hp)) (by omega) (by omega) (by omega) fun r3 H3 h30 h31 g23 g3=>?_
 have hp3:H3 p=some (.lst [.non,.int r2]):=g23.lst upd_same
 obtain⟨o,eo,hoo⟩:∃o:Option Nat,atI [V.non,V.int r2] r3=some (oV o)/\∀m,o=some m->m<N:=by
  have:r3=0\/r3=1:=by omega
  rcases this with rfl|rfl
  .exact⟨none,rfl,fun m hm=>by cases hm⟩
  .refine⟨some r2.toNat,?_,fun m hm=>by cases hm;omega⟩
   show some (V.int r2)=some (V.int _)
   congr 2
   omega
 walk_at "st"
 refine at_ixL (SqL.of hp3) eo ?_
 walk_at "st"
 refine at_range2 fun rg hrg=>?_
 walk_at "st"
 refine at_listR upd_same (by omega) (by omega) (by omega) (by omega) (Nat.le_of_lt (small1000 (by omega))) fun u hu=>?_
 rw[show((N:Int)-1).toNat=N-1 by omega]
 have g4:=(g3.upd (o:=.rng 1 N) (g3.free _ hrg)).upd (o:=.lst (rgs 1 (N-1))) ((g3.upd (o:=.rng 1 N) (g3.free _ hrg)).free _ hu)
 have hu4:upd (upd H3 rg (.rng 1 N)) u (.lst (rgs 1 (N-1))) u=some (.lst (rgs 1 (N-1))):=upd_same
 generalize upd (upd H3 rg (.rng 1 N)) u (.lst (rgs 1 (N-1)))=H4 at g4 hu4
 walk_at "st"
 refine⟨by decide,fun u2 hu2=>?_⟩
 have g5:=g4.upd (o:=.lst [oV o]) (g4.free _ hu2)
 have hu5:=same_new hu2 (.lst [oV o]) _ _ hu4
 have hv5:upd H4 u2 (.lst [oV o]) u2=some (.lst [oV o]):=upd_same
 generalize upd H4 u2 (.lst [oV o])=H5 at g5 hu5 hv5
 refine at_cat hu5 hv5 (Nat.le_of_lt (small1000 (by rw[rgs_len];simp;omega))) fun e he=>?_
 have g6:=g5.upd (o:=.lst (rgs 1 (N-1)++[oV o])) (g5.free _ he)
 have he6:upd H5 e (.lst (rgs 1 (N-1)++[oV o])) e=some (.lst (rgs 1 (N-1)++[oV o])):=upd_same
 generalize upd H5 e (.lst (rgs 1 (N-1)++[oV o]))=H6 at g6 he6
 have hall:∀(i:Nat) x,(rgs 1 (N-1)++[oV o])[i]?=some x->∃o',x=oV o'/\∀m,o'=some m->m<N:=by
  intro i x hx
  rcases Nat.lt_or_ge i (N-1)with h|h
  .rw[List.getElem?_append_left (by rw[rgs_len];exact h),rgs_get h]at hx
   cases hx
   exact⟨some (1+i),by show _=V.int _;congr 1,fun m hm=>by cases hm;omega⟩
  .rw[List.getElem?_append_right (by rw[rgs_len];exact h),rgs_len]at hx
   have e0:i-(N-1)=0:=by
    have:=lt_of_get hx
    simp at this
    omega
   rw[e0]at hx
   cases hx
   exact⟨o,rfl,hoo⟩
 have hel:(rgs 1 (N-1)++[oV o]).length=N:=by rw[List.length_append,rgs_len];simp;omega
 walk_at "st"
 refine at_iv_lst (SqL.of he6) (comp_l (vs:=rgs 1 (N-1)++[oV o]) (fun i xs H'=>Same H6 H'/\∃M,Rooms H' xs M/\xs.length=i/\∀r∈M,OkR N r) ⟨Same.refl _,[],trivial,rfl,fun r hr=>by cases hr⟩ (fun i xs H' pv=>SqL.of (pv.1 _ _ he6)) ?_ ?_)
 .rintro i xs H7 x R hx ⟨s7,M,hM,hl,hO⟩ hR
  obtain⟨o',rfl,ho'⟩:=hall i x hx
  have hi:=lt_of_get hx
  walk_at "st"
  refine⟨by decide,fun p1 hp1=>?_⟩
  have s8:=same_new hp1 (.tup [oV o',.non])
  have h8:upd H7 p1 (.tup [oV o',.non]) p1=some (.tup [oV o',.non]):=upd_same
  generalize upd H7 p1 (.tup [oV o',.non])=H8 at s8 h8
  refine⟨by decide,fun p2 hp2=>?_⟩
  have s9:=same_new hp2 (.tup [.non,oV o'])
  have h9:upd H8 p2 (.tup [.non,oV o']) p2=some (.tup [.non,oV o']):=upd_same
  generalize upd H8 p2 (.tup [.non,oV o'])=H9 at s9 h9
  refine⟨by decide,fun p3 hp3=>?_⟩
  have s10:=same_new hp3 (.lst [.ref p1,.ref p2])
  have h10:upd H9 p3 (.lst [.ref p1,.ref p2]) p3=some (.lst [.ref p1,.ref p2]):=upd_same
  generalize upd H9 p3 (.lst [.ref p1,.ref p2])=H10 at s10 h10
  have tp:=((tp_same s8).trans (tp_same s9)).trans (tp_same s10)
  have hbit:bit=0\/bit=1:=by omega
  rcases hbit with rfl|rfl
  .refine at_ixL (SqL.of h10) (v:=.ref p1) rfl ?_
   walk_at "st"
   exact⟨small1000 (by omega),hR _ _ ⟨((s7.trans s8).trans s9).trans s10,M++[(o',none)],(hM.mono tp).snoc (r:=(o',none)) ⟨p1,rfl,s10 _ _ (s9 _ _ h8)⟩,by simp[hl],fun r hr=>by
    rcases List.mem_append.mp hr with hr|hr
    .exact hO r hr
    .have e:r=(o',none):=by simpa using hr
     subst e
     exact⟨ho',fun m hm=>by cases hm⟩⟩⟩
  .refine at_ixL (SqL.of h10) (v:=.ref p2) rfl ?_
   walk_at "st"
   exact⟨small1000 (by omega),hR _ _ ⟨((s7.trans s8).trans s9).trans s10,M++[(none,o')],(hM.mono tp).snoc (r:=(none,o')) ⟨p2,rfl,s10 _ _ h9⟩,by simp[hl],fun r hr=>by
    rcases List.mem_append.mp hr with hr|hr
    .exact hO r hr
    .have e:r=(none,o'):=by simpa using hr
     subst e
     exact⟨(fun m hm=>by cases hm),ho'⟩⟩⟩
 .rintro xs H7 ⟨s7,M,hM,hl,hO⟩ f hf
  walk_at "st"
  have s8:=same_new hf (.lst xs)
  have h8:upd H7 f (.lst xs) f=some (.lst xs):=upd_same
  generalize upd H7 f (.lst xs)=H8 at s8 h8
  refine at_tupL (SqL.of h8) fun t ht=>?_
  have s9:=same_new ht (.tup xs)
  have e:M.length=N:=by rw[<- hM.len,hl,hel]
  refine q t M _ ((g6.trans (Go.of_same (c:=0) ((s7.trans s8).trans s9))).mono (by omega)) ⟨xs,upd_same,hM.mono ((tp_same s8).trans (tp_same s9))⟩ (fun r hr=>by rw[e];exact hO r hr) e
def spAny:Sp:=fun vs H Q _=>∃(b:Addr) (n:Nat),vs=[.ref b]/\H b=some (BoxO b n)/\n<=2 ^ 38/\∀(a:Addr) (M:List Rm) (H':Hp),Go 1000 H H'->IsM H' a M->OkM M->1<=M.length->M.length<=60->Q (.ref a) H'
theorem body_any {C:Rc} (hN:C.N.length=2) (hT:C.fs "_law_take"=some spTake) (hMy:C.fs "_law_many"=some spMany) (hL:C.fs "_law_line"=some (spMach 1 60 400)) (hCp:C.fs "_law_copied"=some spCopied) (hMa:C.fs "_law_machine"=some (spMach 1 60 400)) (hRi:C.fs "_law_ring_machine"=some (spMach 1 60 400)):
  ∀vs H Q E,spAny vs H Q E->tSs C c_any { nx:=fun _ H'=>Q .non H',rt:=Q } (L2.start C.N vs) H:=by
 intro vs H Q E h
 obtain⟨b,n,rfl,hb,hn,q⟩:=h
 rw[start_eq hN]
 unfold c_any
 walk_at "st"
 refine call_e hT ?_
 walk_at "st"
 refine take_at hb (Go.refl (c:=0)) (by omega) (by decide) (by decide) fun way H1 hb0 hb1 g1 g01=>?_
 obtain⟨n1,hn1,hn1',_⟩:=g01.boxed hb (by omega)
 walk_at "st"
 refine by_dec (fun hc=>?_) fun hc=>?_
 .walk_at "st"
  refine call_e hL ?_
  walk_at "st"
  refine call_e hMy ?_
  walk_at "st"
  refine⟨b,n1,2,6,60,rfl,hn1,by omega,by omega,by omega,by omega,by omega,by omega,fun r H2 hr g2=>?_⟩
  obtain⟨n2,hn2,hn2',_⟩:=g2.boxed hn1 (by omega)
  obtain⟨N,rfl⟩:=Int.eq_ofNat_of_zero_le (show 0<=r by omega)
  walk_at "st"
  exact⟨b,n2,N,rfl,hn2,by omega,by omega,by omega,fun a M H3 g3 h1 h2 h3=>q a M H3 ((g01.trans g2).trans g3 |>.mono (by omega)) h1 h2 (by omega) (by omega)⟩
 walk_at "st"
 refine by_dec (fun hc=>?_) fun hc=>?_
 .walk_at "st"
  refine call_e hCp ?_
  walk_at "st"
  refine call_e hMa ?_
  walk_at "st"
  refine call_e hMy ?_
  walk_at "st"
  refine⟨b,n1,1,4,12,rfl,hn1,by omega,by omega,by omega,by omega,by omega,by omega,fun r H2 hr g2=>?_⟩
  obtain⟨n2,hn2,hn2',_⟩:=g2.boxed hn1 (by omega)
  obtain⟨N,rfl⟩:=Int.eq_ofNat_of_zero_le (show 0<=r by omega)
  walk_at "st"
  refine⟨b,n2,N,rfl,hn2,by omega,by omega,by omega,fun a M H3 g3 h1 h2 h3=>?_⟩
  obtain⟨n3,hn3,hn3',_⟩:=g3.boxed hn2 (by omega)
  walk_at "st"
  refine⟨b,a,n3,M,rfl,hn3,by omega,h1,h2,by omega,by omega,fun p a' l M' ms H4 g4 hp hl hlen hms hM' hO' hM1 hM2=>?_⟩
  walk_at "st"
  refine at_ixT (SqT.of hp) (v:=.ref a') rfl ?_
  exact q a' M' H4 ((((g01.trans g2).trans g3).trans g4).mono (by omega)) hM' hO' hM1 hM2
 walk_at "st"
 refine by_dec (fun hc=>?_) fun hc=>?_
 .walk_at "st"
  refine call_e hRi ?_
  walk_at "st"
  refine call_e hMy ?_
  walk_at "st"
  refine⟨b,n1,1,6,12,rfl,hn1,by omega,by omega,by omega,by omega,by omega,by omega,fun r H2 hr g2=>?_⟩
  obtain⟨n2,hn2,hn2',_⟩:=g2.boxed hn1 (by omega)
  obtain⟨N,rfl⟩:=Int.eq_ofNat_of_zero_le (show 0<=r by omega)
  walk_at "st"
  exact⟨b,n2,N,rfl,hn2,by omega,by omega,by omega,fun a M H3 g3 h1 h2 h3=>q a M H3 ((g01.trans g2).trans g3 |>.mono (by omega)) h1 h2 (by omega) (by omega)⟩
 .walk_at "st"
  refine call_e hMa ?_
  walk_at "st"
  refine call_e hMy ?_
  walk_at "st"
  refine⟨b,n1,1,6,12,rfl,hn1,by omega,by omega,by omega,by omega,by omega,by omega,fun r H2 hr g2=>?_⟩
  obtain⟨n2,hn2,hn2',_⟩:=g2.boxed hn1 (by omega)
  obtain⟨N,rfl⟩:=Int.eq_ofNat_of_zero_le (show 0<=r by omega)
  walk_at "st"
  exact⟨b,n2,N,rfl,hn2,by omega,by omega,by omega,fun a M H3 g3 h1 h2 h3=>q a M H3 ((g01.trans g2).trans g3 |>.mono (by omega)) h1 h2 (by omega) (by omega)⟩
end LW
namespace LW
open PySem PySem.Spec PyProof.Rows L2 R3
theorem same_updF {H H':Hp} {a:Addr} {o:HO} (s:Same H H') (h:H a=none):Same H (upd H' a o):=fun b u q=>by
 rw[upd_ne (ne_of_none q h)]
 exact s b u q
noncomputable def ow (f:Nat->Nat):Option Nat->Nat
 |none=>0
 |some m=>f m
end LW
namespace K15
open PySem PySem.Spec PyProof.Rows L2 R3 LW
set_option hygiene false in
local macro_rules | `(tactic| walk_at "su") => `(tactic| simp only [tE_dnt, kW1_at, s_dput, kDp1_at, kDp2_at, kAg1_at, tE_din, tQ_din, kInX1_at, tE_var, tE_int, tE_bl, tE_non, tE_str, tE_ty, tE_bin, kB1_at, kB2_at, tE_cmp, kC1_at, kC2_at, tE_idx, kI1_at, kI2_at, tE_neg, kNeg_int, kT_bl, tQ_cmp, tQ_not, kNotQ_at, tQ_and, tQ_or, kAndQ_t, kAndQ_f, kOrQ_t, kOrQ_f, i_range3', kR3a_at, kR3b_at, kCG2_n, kCG2_q, kCT2_t, kCT2_f, tE_comp2, b_add, b_sub, b_mul, b_muls, b_mod, b_div, b_pow, c_lt, c_gt, c_ge, c_eq, c_eqs, c_eqb, c_neb, tE_dix, kDx1_at, c_is, ix_ref, ss_nil, ss_cons, seq_nx, seq_rt, seq_bk, seq_ct, s_ret, s_expr, kDrop_at, s_set, kSet_at, s_sub, kSub1_at, kSub2_at, kSub3_at, s_if, kIf_t, kIf_f, kV_some, kA1_at, kA2_at, a_nil, a_cons, tE_tup, tE_lst, kTup_at, kLst_at, kCall_at, tE_blt, kBlt_at, tE_met, kMet1_at, kMet2_at, tE_ife, kIfe_t, kIfe_f, tE_not, kNotV_bl, tE_and, tE_or, kAndV_t, tQ_val, kTru_bl, tE_cut, kCut1_at, kCut2_at, kCut3_at, o_none, o_some, kPart_int, sl_ref, kPar1_at, kPar2_at, bl_abs, bl_int_int, bl_int_bl, s_for, i_val, i_range1', kR2a_at, i_zip, kZ1_at, i_enum, g_name, tE_comp, kCG_n, kCG_q, kCT_t, kCT_f, kPush_at, clr, List.foldl_cons, List.foldl_nil, L2.start, List.map_cons, List.map_nil, List.length_cons, List.length_nil, List.cons_append, List.nil_append, List.replicate, Nat.reduceSub, Nat.reduceAdd, List.set_cons_zero, List.set_cons_succ, List.getElem?_cons_zero, List.getElem?_cons_succ, reduceCtorEq, decide_true, decide_false, eq_self, Bool.not_true, Bool.not_false, bne_self_eq_false, BEq.rfl])
noncomputable def n_p_numbered:List Str:=["signs","numbers","sign"]
noncomputable def b_p_numbered:List Str:=["len"]
noncomputable def c_p_numbered:Css:=(.cons (.asg (.name 1) .dnt)
  (.cons (.for_ (.name 2) (.val (.var 0)) (.cons (.ite (.din true (.var 2) (.var 1)) (.cons (.dput (.var 1) (.var 2) (.blt .lenD (.cons (.var 1) .nil)))
  .nil) .nil)
  .nil))
  (.cons (.ret (.comp (.dix (.var 1) (.var 2)) [2] (.name 2) (.val (.var 0)) .none .nil))
  .nil)))
noncomputable def n_p_refined:List Str:=["machine","numbers","led","lead","room","number","zero","one"]
noncomputable def b_p_refined:List Str:=["zip"]
noncomputable def c_p_refined:Css:=(.cons (.asg (.name 2) (.comp (.comp (.ife (.cmp .Is (.var 3) .non) .non (.idx (.var 1) (.var 3))) [3] (.name 3) (.val (.var 4)) .none .nil) [4] (.name 4) (.val (.var 0)) .none .nil))
  (.cons (.ret (.call "numbered" (.cons (.comp (.tup (.cons (.var 5) (.cons (.var 6) (.cons (.var 7) .nil)))) [5,6,7] (.tup (.cons (.name 5) (.cons (.tup (.cons (.name 6) (.cons (.name 7) .nil))) .nil))) (.zip (.var 1) (.var 2)) .none .nil) .nil)))
  .nil))
noncomputable def n_p_kind_numbers:List Str:=["machine","numbers","room","finer"]
noncomputable def b_p_kind_numbers:List Str:=[]
noncomputable def c_p_kind_numbers:Css:=(.cons (.asg (.name 1) (.comp (.int 0) [2] (.name 2) (.val (.var 0)) .none .nil))
  (.cons (.asg (.name 3) (.call "refined" (.cons (.var 0) (.cons (.var 1) .nil))))
  (.cons (.whl (.cmp .NotEq (.var 3) (.var 1)) (.cons (.asg (.name 1) (.var 3))
  (.cons (.asg (.name 3) (.call "refined" (.cons (.var 0) (.cons (.var 1) .nil))))
  .nil)))
  (.cons (.ret (.var 1))
  .nil))))
noncomputable def n_p_kinds:List Str:=["machine","told","room","kind"]
noncomputable def b_p_kinds:List Str:=["enumerate","len"]
noncomputable def c_p_kinds:Css:=(.cons (.asg (.name 1) (.lst .nil))
  (.cons (.for_ (.tup (.cons (.name 2) (.cons (.name 3) .nil))) (.enum (.call "kind_numbers" (.cons (.var 0) .nil))) (.cons (.ite (.cmp .Eq (.var 3) (.blt .len (.cons (.var 1) .nil))) (.cons (.expr (.met .append (.var 1) (.cons (.lst .nil) .nil)))
  .nil) .nil)
  (.cons (.expr (.met .append (.idx (.var 1) (.var 3)) (.cons (.var 2) .nil)))
  .nil)))
  (.cons (.ret (.var 1))
  .nil)))
noncomputable def n_p_lessened:List Str:=["machine","numbers","firsts","rooms","less","lead","room"]
noncomputable def b_p_lessened:List Str:=["tuple"]
noncomputable def c_p_lessened:Css:=(.cons (.asg (.name 1) (.call "kind_numbers" (.cons (.var 0) .nil)))
  (.cons (.asg (.name 2) (.comp (.idx (.var 0) (.idx (.var 3) (.int 0))) [3] (.name 3) (.val (.call "kinds" (.cons (.var 0) .nil))) .none .nil))
  (.cons (.asg (.name 4) (.comp (.blt .tuple (.cons (.comp (.ife (.cmp .Is (.var 5) .non) .non (.idx (.var 1) (.var 5))) [5] (.name 5) (.val (.var 6)) .none .nil) .nil)) [6] (.name 6) (.val (.var 2)) .none .nil))
  (.cons (.ret (.tup (.cons (.blt .tuple (.cons (.var 4) .nil)) (.cons (.var 1) .nil))))
  .nil))))
noncomputable def n_cell_at:List Str:=["_law_script","_law_k"]
noncomputable def b_cell_at:List Str:=["len"]
noncomputable def n_box:List Str:=["_law_script","_law_k","_law_cell"]
noncomputable def b_box:List Str:=["abs","int"]
noncomputable def n_take:List Str:=["_law_box_here","_law_many_here","_law_found","_law_once","_law_twice"]
noncomputable def b_take:List Str:=[]
noncomputable def n_many:List Str:=["_law_box_here","_law_least","_law_few","_law_most"]
noncomputable def b_many:List Str:=[]
noncomputable def n_machine:List Str:=["_law_box_here","_law_many_here","_law_often","_law_rooms","_law_k","_law_doors","_law_bit","_law_to"]
noncomputable def b_machine:List Str:=["int","range","tuple"]
noncomputable def n_ring_machine:List Str:=["_law_box_here","_law_many_here","_law_order","_law_k","_law_rooms","_law_at","_law_room","_law_on","_law_other"]
noncomputable def b_ring_machine:List Str:=["enumerate","int","range","tuple"]
noncomputable def n_copied:List Str:=["_law_box_here","_law_machine_here","_law_mixed","_law_room","_law_turn","_law_rooms","_law_ends","_law_end","_law_some","_law_k","_law_one"]
noncomputable def b_copied:List Str:=["enumerate","len","range","tuple"]
noncomputable def n_line:List Str:=["_law_box_here","_law_many_here","_law_bit","_law_last","_law_ends","_law_end"]
noncomputable def b_line:List Str:=["list","range","tuple"]
noncomputable def n_any:List Str:=["_law_box_here","_law_way"]
noncomputable def b_any:List Str:=[]
noncomputable def n_same:List Str:=["_law_found","_law_due_here","_law_one","_law_other"]
noncomputable def b_same:List Str:=["all","bool","int","isinstance","len","list","str","tuple","zip"]
noncomputable def n_table:List Str:=["_law_machine_here","_law_many_here","_law_alike","_law_b","_law_a","_law_changed","_law_end","_law_beside"]
noncomputable def b_table:List Str:=["len","range","zip"]
noncomputable def c_table:Css:=(.cons (.asg (.name 1) (.blt .len (.cons (.var 0) .nil)))
  (.cons (.asg (.name 2) (.comp (.comp (.cmp .Eq (.cmp .Is (.idx (.idx (.var 0) (.var 4)) (.int 0)) .non) (.cmp .Is (.idx (.idx (.var 0) (.var 3)) (.int 0)) .non)) [3] (.name 3) (.range1 (.var 1)) .none .nil) [4] (.name 4) (.range1 (.var 1)) .none .nil))
  (.cons (.asg (.name 5) (.bl true))
  (.cons (.whl (.val (.var 5)) (.cons (.asg (.name 5) (.bl false))
  (.cons (.for_ (.name 4) (.range3 (.bin .Sub (.var 1) (.int 1)) (.neg (.int 1)) (.neg (.int 1))) (.cons (.for_ (.name 3) (.range1 (.var 1)) (.cons (.ite (.val (.idx (.idx (.var 2) (.var 4)) (.var 3))) (.cons (.for_ (.tup (.cons (.name 6) (.cons (.name 7) .nil))) (.zip (.idx (.var 0) (.var 4)) (.idx (.var 0) (.var 3))) (.cons (.ite (.and (.cmp .NotEq (.var 6) (.var 7)) (.or (.cmp .Is (.var 6) .non) (.or (.cmp .Is (.var 7) .non) (.not (.val (.idx (.idx (.var 2) (.var 6)) (.var 7))))))) (.cons (.asg (.sub (.idx (.var 2) (.var 4)) (.var 3)) (.bl false))
  (.cons (.asg (.name 5) (.bl true))
  .nil)) .nil)
  .nil))
  .nil) .nil)
  .nil))
  .nil))
  .nil)))
  (.cons (.ret (.var 2))
  .nil)))))
noncomputable def n_due:List Str:=["_law_machine_here","_law_alike","_law_found","_law_a","_law_some","_law_b"]
noncomputable def b_due:List Str:=["len","range"]
noncomputable def c_due:Css:=(.cons (.asg (.name 1) (.call "_law_table" (.cons (.var 0) .nil)))
  (.cons (.asg (.name 2) (.lst .nil))
  (.cons (.for_ (.name 3) (.range1 (.blt .len (.cons (.var 0) .nil))) (.cons (.asg (.name 4) (.comp (.var 5) [5] (.name 5) (.range1 (.blt .len (.cons (.var 0) .nil))) (.some (.val (.idx (.idx (.var 1) (.var 3)) (.var 5)))) .nil))
  (.cons (.ite (.cmp .Eq (.idx (.var 4) (.int 0)) (.var 3)) (.cons (.expr (.met .append (.var 2) (.cons (.var 4) .nil)))
  .nil) .nil)
  .nil)))
  (.cons (.ret (.var 2))
  .nil))))
noncomputable def n_right:List Str:=["_law_machine_here","_law_due_here","_law_numbers","_law_some","_law_a","_law_less","_law_end","_law_found"]
noncomputable def b_right:List Str:=["len","list","range","tuple"]
noncomputable def c_right:Css:=(.cons (.asg (.name 1) (.call "_law_due" (.cons (.var 0) .nil)))
  (.cons (.asg (.name 2) (.comp (.met .indexL (.comp (.cmp .In (.var 4) (.var 3)) [3] (.name 3) (.val (.var 1)) .none .nil) (.cons (.bl true) .nil)) [4] (.name 4) (.range1 (.blt .len (.cons (.var 0) .nil))) .none .nil))
  (.cons (.asg (.name 5) (.lst .nil))
  (.cons (.for_ (.name 3) (.val (.var 1)) (.cons (.expr (.met .append (.var 5) (.cons (.blt .tuple (.cons (.comp (.ife (.cmp .Is (.var 6) .non) .non (.idx (.var 2) (.var 6))) [6] (.name 6) (.val (.idx (.var 0) (.idx (.var 3) (.int 0)))) .none .nil) .nil)) .nil)))
  .nil))
  (.cons (.asg (.name 7) (.call "kinds" (.cons (.var 0) .nil)))
  (.cons (.ite (.or (.not (.val (.call "_law_same" (.cons (.var 7) (.cons (.var 1) .nil))))) (.not (.val (.call "_law_same" (.cons (.call "lessened" (.cons (.var 0) .nil)) (.cons (.tup (.cons (.blt .tuple (.cons (.var 5) .nil)) (.cons (.var 2) .nil))) .nil)))))) (.cons (.ret (.bl false))
  .nil) .nil)
  (.cons (.expr (.met .append (.var 7) (.cons (.lst (.cons (.int 0) .nil)) .nil)))
  (.cons (.expr (.met .append (.idx (.var 7) (.int 0)) (.cons (.int 0) .nil)))
  (.cons (.expr (.met .clear (.idx (.call "lessened" (.cons (.var 0) .nil)) (.int 1)) .nil))
  (.cons (.ite (.or (.not (.val (.call "_law_same" (.cons (.call "kinds" (.cons (.var 0) .nil)) (.cons (.var 1) .nil))))) (.not (.val (.call "_law_same" (.cons (.call "lessened" (.cons (.var 0) .nil)) (.cons (.tup (.cons (.blt .tuple (.cons (.var 5) .nil)) (.cons (.var 2) .nil))) .nil)))))) (.cons (.ret (.bl false))
  .nil) .nil)
  (.cons (.ret (.call "_law_same" (.cons (.call "lessened" (.cons (.blt .tuple (.cons (.var 5) .nil)) .nil)) (.cons (.tup (.cons (.blt .tuple (.cons (.var 5) .nil)) (.cons (.blt .list (.cons (.blt .range (.cons (.blt .len (.cons (.var 1) .nil)) .nil)) .nil)) .nil))) .nil))))
  .nil)))))))))))
noncomputable def n_law:List Str:=["_law_script","_law_k"]
noncomputable def b_law:List Str:=["range"]
noncomputable def c_law:Css:=(.cons (.ite (.or (.cmp .NotEq (.call "kinds" (.cons (.tup .nil) .nil)) (.lst .nil)) (.not (.val (.call "_law_same" (.cons (.call "lessened" (.cons (.tup .nil) .nil)) (.cons (.tup (.cons (.tup .nil) (.cons (.lst .nil) .nil))) .nil)))))) (.cons (.ret (.bl false))
  .nil) .nil)
  (.cons (.for_ (.name 1) (.range1 (.int 7)) (.cons (.ite (.not (.val (.call "_law_right" (.cons (.call "_law_any" (.cons (.call "_law_box" (.cons (.var 0) (.cons (.var 1) .nil))) .nil)) .nil)))) (.cons (.ret (.bl false))
  .nil) .nil)
  .nil))
  (.cons (.ret (.bl true))
  .nil)))
noncomputable def cn (c:List Nat) (i:Nat):Nat:=c.getD i 0
theorem cn_get {c:List Nat} {i:Nat} (h:i<c.length):c[i]?=some (cn c i):=by
 unfold cn
 rw[List.getD_eq_getElem?_getD,List.getElem?_eq_getElem h];rfl
theorem cn_ext {c d:List Nat} (hl:c.length=d.length) (h:∀i,i<c.length->cn c i=cn d i):c=d:=by
 refine List.ext_getElem? fun i=>?_
 by_cases hi:i<c.length
 .rw[cn_get hi,cn_get (hl ▸ hi),h i hi]
 .rw[List.getElem?_eq_none (by omega),List.getElem?_eq_none (by omega)]
noncomputable def dr (M:List Rm) (a:Nat):Rm:=M.getD a (none,none)
theorem dr_get {M:List Rm} {i:Nat} (h:i<M.length):M[i]?=some (dr M i):=by
 unfold dr
 rw[List.getD_eq_getElem?_getD,List.getElem?_eq_getElem h];rfl
theorem dr_ok {M:List Rm} (hO:OkM M) {i:Nat} (h:i<M.length):OkR M.length (dr M i):=hO _ (List.mem_of_getElem? (dr_get h))
noncomputable def okD (R:Nat->Nat->Prop):Option Nat->Option Nat->Prop
 |none,none=>True
 |some e,some f=>R e f
 |_,_=>False
theorem okD.mono {R S:Nat->Nat->Prop} (h:∀a b,R a b->S a b):∀{o p:Option Nat},okD R o p->okD S o p
 |none,none,_=>trivial
 |some _,some _,k=>h _ _ k
 |none,some _,k=>k.elim
 |some _,none,k=>k.elim
def Lk (M:List Rm) (R:Nat->Nat->Prop):Prop:=∀a b,R a b->a<M.length/\b<M.length/\okD R (dr M a).1 (dr M b).1/\okD R (dr M a).2 (dr M b).2
def Bs (M:List Rm) (a b:Nat):Prop:=∃R,Lk M R/\R a b
theorem bs_lk (M:List Rm):Lk M (Bs M):=fun a b ⟨R,h,r⟩=>let⟨h1,h2,h3,h4⟩:=h a b r;⟨h1,h2,h3.mono fun x y k=>⟨R,h,k⟩,h4.mono fun x y k=>⟨R,h,k⟩⟩
noncomputable def ap (c:List Nat) (o:Option Nat):Option Nat:=o.map (cn c)
noncomputable abbrev Sgn:=Nat×Option Nat×Option Nat
noncomputable def sg (M:List Rm) (c:List Nat) (i:Nat):Sgn:=(cn c i,ap c (dr M i).1,ap c (dr M i).2)
theorem ap_ok {c:List Nat} {R:Nat->Nat->Prop} (h:∀a b,R a b->cn c a=cn c b):∀{o p:Option Nat},okD R o p->ap c o=ap c p
 |none,none,_=>rfl
 |some e,some f,k=>by unfold ap;rw[Option.map_some,Option.map_some,h _ _ k]
 |none,some _,k=>k.elim
 |some _,none,k=>k.elim
theorem ok_ap {c:List Nat} {R:Nat->Nat->Prop}:∀{o p:Option Nat},(∀a b,o=some a->p=some b->cn c a=cn c b->R a b)->ap c o=ap c p->okD R o p
 |none,none,_,_=>trivial
 |some e,some f,h,k=>h _ _ rfl rfl (by simpa[ap]using k)
 |none,some _,_,k=>by simp[ap]at k
 |some _,none,_,k=>by simp[ap]at k
theorem sg_keep {M:List Rm} {c:List Nat} (h:∀a b,Bs M a b->cn c a=cn c b) {a b:Nat} (k:Bs M a b):sg M c a=sg M c b:=by
 obtain⟨h1,h2,h3,h4⟩:=bs_lk M a b k
 unfold sg
 rw[h a b k,ap_ok h h3,ap_ok h h4]
theorem sg_fix {M:List Rm} (hO:OkM M) {c:List Nat} (h:∀i j,i<M.length->j<M.length->cn c i=cn c j->sg M c i=sg M c j) {i j:Nat} (hi:i<M.length) (hj:j<M.length) (e:cn c i=cn c j):Bs M i j:=by
 refine⟨fun i j=>i<M.length/\j<M.length/\cn c i=cn c j,fun a b ⟨ha,hb,hab⟩=>⟨ha,hb,?_⟩,hi,hj,e⟩
 have k:=h a b ha hb hab
 unfold sg at k
 simp only[Prod.mk.injEq]at k
 obtain⟨_,k1,k2⟩:=k
 have oa:=dr_ok hO ha
 have ob:=dr_ok hO hb
 exact⟨ok_ap (fun x y hx hy hc=>⟨oa.1 x hx,ob.1 y hy,hc⟩) k1,ok_ap (fun x y hx hy hc=>⟨oa.2 x hx,ob.2 y hy,hc⟩) k2⟩
def Cn (c:List Nat):Prop:=∀i,i<c.length->∀k,k<cn c i->∃j,j<i/\cn c j=k
theorem cn_uniq {c d:List Nat} (hc:Cn c) (hd:Cn d) (hl:c.length=d.length) (h:∀i j,i<c.length->j<c.length->(cn c i=cn c j↔cn d i=cn d j)):c=d:=by
 refine cn_ext hl fun i=>?_
 induction i using Nat.strongRecOn with
 |_ i ih=>
  intro hi
  rcases Nat.lt_trichotomy (cn c i) (cn d i)with k|k|k
  .obtain⟨j,hj,e⟩:=hd i (hl ▸ hi) _ k
   have e2:=ih j hj (by omega)
   have:=(h i j hi (by omega)).mp (by omega)
   omega
  .exact k
  .obtain⟨j,hj,e⟩:=hc i hi _ k
   have e2:=ih j hj (by omega)
   have:=(h i j hi (by omega)).mpr (by omega)
   omega
section
variable {α:Type} [DecidableEq α]
noncomputable def dd:List α->List α->List α
 |ks,[]=>ks
 |ks,s :: r=>dd (if s∈ks then ks else ks++[s]) r
theorem dd_append:∀(l r ks:List α),dd ks (l++r)=dd (dd ks l) r
 | [],_,_=>rfl
 |s :: l,r,ks=>by rw[List.cons_append];exact dd_append l r _
theorem dd_pre:∀(l ks:List α),∃more,dd ks l=ks++more
 | [],ks=>⟨[],by simp[dd]⟩
 |s :: l,ks=>by
  obtain⟨m,e⟩:=dd_pre l (if s∈ks then ks else ks++[s])
  unfold dd
  rw[e]
  split
  .exact⟨m,rfl⟩
  .exact⟨[s]++m,by simp⟩
theorem dd_mem:∀(l ks:List α) (x:α),x∈dd ks l↔x∈ks\/x∈l
 | [],ks,x=>by simp[dd]
 |s :: l,ks,x=>by
  unfold dd
  rw[dd_mem l]
  split
  .constructor
   .rintro(h|h)
    .exact .inl h
    .exact .inr (List.mem_cons_of_mem _ h)
   .rintro(h|h)
    .exact .inl h
    .rcases List.mem_cons.mp h with rfl|h
     .exact .inl ‹_›
     .exact .inr h
  .simp only[List.mem_append,List.mem_cons,List.not_mem_nil,false_or,or_false,or_assoc]
theorem dd_nodup:∀(l ks:List α),ks.Nodup->(dd ks l).Nodup
 | [],ks,h=>h
 |s :: l,ks,h=>by
  unfold dd
  refine dd_nodup l _ ?_
  split
  .exact h
  .rw[List.nodup_append]
   exact⟨h,by simp,fun a ha b hb=>by simp at hb;subst hb;rintro rfl;contradiction⟩
noncomputable def ix (l:List α) (s:α):Nat:=l.idxOf s
theorem ix_app {l r:List α} {s:α}:ix (l++r) s=if s∈l then ix l s else l.length+ix r s:=by unfold ix;rw[List.idxOf_append];split<;>omega
theorem ix_one {s:α}:ix [s] s=0:=by simp[ix]
theorem dd_snoc {S:List α} {s:α}:dd [] (S++[s])=if s∈dd [] S then dd [] S else dd [] S++[s]:=by rw[dd_append];simp only[dd]
noncomputable def nmb (S:List α):List Nat:=S.map fun s=>ix (dd [] S) s
theorem nmb_get {S:List α} {i:Nat} {s:α} (h:S[i]?=some s):(nmb S)[i]?=some (ix (dd [] S) s):=by unfold nmb;rw[List.getElem?_map,h];rfl
theorem nmb_len {S:List α}:(nmb S).length=S.length:=by unfold nmb;rw[List.length_map]
theorem nmb_at {S:List α} {i:Nat} {s:α} (h:S[i]?=some s):cn (nmb S) i=(dd [] S).idxOf s:=by
 unfold cn nmb
 rw[List.getD_eq_getElem?_getD,List.getElem?_map,h];rfl
theorem idx_inj {l:List α} {x y:α} (hx:x∈l) (h:l.idxOf x=l.idxOf y):x=y:=by
 have h1:=List.idxOf_lt_length_of_mem hx
 have e1:l[l.idxOf x]'h1=x:=List.getElem_idxOf h1
 have e2:l[l.idxOf y]'(h ▸ h1)=y:=List.getElem_idxOf (h ▸ h1)
 rw[<- e1,<- e2]
 congr 1
theorem nmb_ker {S:List α} {i j:Nat} {s t:α} (hi:S[i]?=some s) (hj:S[j]?=some t):cn (nmb S) i=cn (nmb S) j↔s=t:=by
 rw[nmb_at hi,nmb_at hj]
 constructor
 .exact idx_inj ((dd_mem S [] s).mpr (.inr (List.mem_of_getElem? hi)))
 .rintro rfl;rfl
theorem nmb_cn (S:List α):Cn (nmb S):=by
 intro i hi k hk
 rw[nmb_len]at hi
 have hg:S[i]?=some S[i]:=List.getElem?_eq_getElem hi
 rw[nmb_at hg]at hk
 have e:S=S.take i++S[i] :: S.drop (i+1):=by simp
 have e1:dd [] S=dd (dd [] (S.take i)) (S[i] :: S.drop (i+1)):=by rw[<- dd_append,<- e]
 have hnd:=dd_nodup S [] List.nodup_nil
 obtain⟨m,e2⟩:=dd_pre (S.drop (i+1)) (if S[i]∈dd [] (S.take i)then dd [] (S.take i)else dd [] (S.take i)++[S[i]])
 have e3:dd [] S=(if S[i]∈dd [] (S.take i)then dd [] (S.take i)else dd [] (S.take i)++[S[i]])++m:=by rw[e1];exact e2
 have hle:(dd [] S).idxOf S[i]<=(dd [] (S.take i)).length:=by
  rw[e3]
  split
  .rename_i hm
   rw[List.idxOf_append,if_pos hm]
   exact Nat.le_of_lt (List.idxOf_lt_length_of_mem hm)
  .rename_i hm
   rw[List.append_assoc,List.idxOf_append,if_neg hm]
   simp
 have hk1:k<(dd [] (S.take i)).length:=by omega
 have hx:(dd [] (S.take i))[k]∈S.take i:=by
  rcases(dd_mem (S.take i) [] _).mp (List.getElem_mem hk1)with h|h
  .exact absurd h List.not_mem_nil
  .exact h
 obtain⟨j,hj,ej⟩:=List.getElem_of_mem hx
 have hj2:j<i:=by rw[List.length_take]at hj;omega
 have hgj:S[j]?=some (dd [] (S.take i))[k]:=by
  rw[<- ej,List.getElem_take];exact List.getElem?_eq_getElem _
 refine⟨j,hj2,?_⟩
 rw[nmb_at hgj]
 have hk2:k<(dd [] S).length:=by
  have:=List.idxOf_le_length (l:=dd [] S) (a:=S[i]);omega
 have e4:(dd [] (S.take i))[k]=(dd [] S)[k]:=by
  have:(dd [] S)[k]?=(dd [] (S.take i))[k]?:=by
   rw[e3]
   split
   .rw[List.getElem?_append_left hk1]
   .rw[List.append_assoc,List.getElem?_append_left hk1]
  rw[List.getElem?_eq_getElem hk1,List.getElem?_eq_getElem hk2]at this
  exact(Option.some.inj this).symm
 rw[e4]
 exact List.Nodup.idxOf_getElem hnd k hk2
end
def KN (M:List Rm) (c:List Nat):Prop:=c.length=M.length/\Cn c/\∀i j,i<M.length->j<M.length->(cn c i=cn c j↔Bs M i j)
theorem KN.uniq {M:List Rm} {c d:List Nat} (h:KN M c) (k:KN M d):c=d:=
 cn_uniq h.2.1 k.2.1 (h.1.trans k.1.symm) fun i j hi hj=>(h.2.2 i j (h.1 ▸ hi) (h.1 ▸ hj)).trans (k.2.2 i j (h.1 ▸ hi) (h.1 ▸ hj)).symm
noncomputable def rf (M:List Rm) (c:List Nat):List Nat:=nmb ((List.range M.length).map (sg M c))
theorem rf_len {M:List Rm} {c:List Nat}:(rf M c).length=M.length:=by unfold rf;rw[nmb_len];simp
theorem rf_ker {M:List Rm} {c:List Nat} {i j:Nat} (hi:i<M.length) (hj:j<M.length):cn (rf M c) i=cn (rf M c) j↔sg M c i=sg M c j:=
 nmb_ker (by rw[List.getElem?_map,List.getElem?_range hi];rfl) (by rw[List.getElem?_map,List.getElem?_range hj];rfl)
theorem rf_cn {M:List Rm} {c:List Nat}:Cn (rf M c):=nmb_cn _
theorem kn_of {M:List Rm} (hO:OkM M) {c:List Nat} (hl:c.length=M.length) (hc:Cn c) (hb:∀a b,Bs M a b->cn c a=cn c b) (h:rf M c=c):KN M c:=by
 refine⟨hl,hc,fun i j hi hj=>⟨fun e=>sg_fix hO (fun i j hi hj e=>?_) hi hj e,hb i j⟩⟩
 rw[<- rf_ker hi hj,h]
 exact e
noncomputable def prs (n:Nat):List (Nat×Nat):=(List.range n).flatMap fun a=>(List.range n).map fun b=>(a,b)
theorem mem_prs {n a b:Nat}:(a,b)∈prs n↔a<n/\b<n:=by
 unfold prs
 simp
noncomputable def pc (n:Nat) (P:Nat->Nat->Bool):Nat:=(prs n).countP fun p=>P p.1 p.2
theorem count_lt {α:Type} {p q:α->Bool}:∀{l:List α},(∀x∈l,q x=true->p x=true)->(∃x∈l,p x=true/\q x=false)->l.countP q<l.countP p
 | [],_,h=>by obtain⟨x,hx,_⟩:=h;exact absurd hx List.not_mem_nil
 |y :: l,h,k=>by
  have hle:l.countP q<=l.countP p:=List.countP_mono_left fun x hx=>h x (List.mem_cons_of_mem _ hx)
  have hy:=h y (List.mem_cons_self ..)
  rw[List.countP_cons,List.countP_cons]
  obtain⟨x,hx,h1,h2⟩:=k
  rcases List.mem_cons.mp hx with rfl|hx
  .rw[h1,h2];simp;omega
  .have:=count_lt (fun x hx=>h x (List.mem_cons_of_mem _ hx)) ⟨x,hx,h1,h2⟩
   cases hq:q y
   .cases p y<;>simp<;>omega
   .rw[hy hq];simp;omega
theorem pc_lt {n:Nat} {P R:Nat->Nat->Bool} (h:∀a b,a<n->b<n->R a b=true->P a b=true) {a b:Nat} (ha:a<n) (hb:b<n) (h1:P a b=true) (h2:R a b=false):pc n R<pc n P:=
 count_lt (fun x hx k=>h x.1 x.2 (mem_prs.mp hx).1 (mem_prs.mp hx).2 k) ⟨(a,b),mem_prs.mpr ⟨ha,hb⟩,h1,h2⟩
noncomputable def kq (c:List Nat) (a b:Nat):Bool:=decide (cn c a=cn c b)
theorem rf_less {M:List Rm} {c:List Nat} (hl:c.length=M.length) (hc:Cn c) (h:rf M c≠c):pc M.length (kq (rf M c))<pc M.length (kq c):=by
 have hfin:∀a b,a<M.length->b<M.length->kq (rf M c) a b=true->kq c a b=true:=by
  intro a b ha hb k
  have:=(rf_ker ha hb).mp (of_decide_eq_true k)
  exact decide_eq_true (congrArg Prod.fst this)
 by_cases hx:∃a b,a<M.length/\b<M.length/\kq c a b=true/\kq (rf M c) a b=false
 .obtain⟨a,b,ha,hb,h1,h2⟩:=hx
  exact pc_lt hfin ha hb h1 h2
 .refine absurd (cn_uniq rf_cn hc (rf_len.trans hl.symm) fun i j hi hj=>?_) h
  rw[rf_len]at hi hj
  constructor
  .exact fun e=>of_decide_eq_true (hfin i j hi hj (decide_eq_true e))
  .intro e
   by_cases hq:kq (rf M c) i j=true
   .exact of_decide_eq_true hq
   .exact absurd ⟨i,j,hi,hj,decide_eq_true e,by simpa using hq⟩ hx
theorem okD_refl {R:Nat->Nat->Prop} {o:Option Nat} (h:∀e,o=some e->R e e):okD R o o:=by
 cases o with
 |none=>trivial
 |some e=>exact h e rfl
theorem bs_refl {M:List Rm} (hO:OkM M) {a:Nat} (ha:a<M.length):Bs M a a:=by
 refine⟨fun a b=>a=b/\a<M.length,?_,rfl,ha⟩
 rintro a b ⟨rfl,h⟩
 have o:=dr_ok hO h
 exact⟨h,h,okD_refl fun e he=>⟨rfl,o.1 e he⟩,okD_refl fun e he=>⟨rfl,o.2 e he⟩⟩
noncomputable def c0 (n:Nat):List Nat:=List.replicate n 0
theorem cn_c0 {n i:Nat}:cn (c0 n) i=0:=by
 unfold cn c0
 rw[List.getD_eq_getElem?_getD,List.getElem?_replicate]
 split<;>rfl
theorem cn_c0' {n:Nat}:Cn (c0 n):=fun i _ k hk=>by rw[cn_c0]at hk;omega
def Fn (M:List Rm) (c:List Nat):Prop:=c.length=M.length/\Cn c/\∀a b,Bs M a b->cn c a=cn c b
theorem fn_c0 {M:List Rm}:Fn M (c0 M.length):=⟨by simp[c0],cn_c0',fun a b _=>by rw[cn_c0,cn_c0]⟩
theorem fn_rf {M:List Rm} {c:List Nat} (h:Fn M c):Fn M (rf M c):=⟨rf_len,rf_cn,fun a b k=>(rf_ker (bs_lk M a b k).1 (bs_lk M a b k).2.1).mpr (sg_keep h.2.2 k)⟩
theorem kn_ex {M:List Rm} (hO:OkM M):∃c,KN M c:=by
 have go:∀(m:Nat) (c:List Nat),Fn M c->pc M.length (kq c)=m->∃c,KN M c:=by
  intro m
  induction m using Nat.strongRecOn with
  |_ m ih=>
   intro c hf hm
   by_cases h:rf M c=c
   .exact⟨c,kn_of hO hf.1 hf.2.1 hf.2.2 h⟩
   .exact ih _ (hm ▸ rf_less hf.1 hf.2.1 h) _ (fn_rf hf) rfl
 exact go _ _ fn_c0 rfl
noncomputable def cx (T:Nat->Nat->Bool) (o p:Option Nat):Bool:=decide (o≠p)&&(o.isNone || (p.isNone || !T (o.getD 0) (p.getD 0)))
theorem cx_keep {M:List Rm} {T:Nat->Nat->Bool} (h:∀a b,Bs M a b->T a b=true):∀{o p:Option Nat},okD (Bs M) o p->cx T o p=false
 |none,none,_=>by simp[cx]
 |some e,some f,k=>by simp[cx,h _ _ k]
 |none,some _,k=>k.elim
 |some _,none,k=>k.elim
theorem cx_ok {T:Nat->Nat->Bool} {R:Nat->Nat->Prop}:∀{o p:Option Nat},(∀e,o=some e->R e e)->(∀e f,o=some e->p=some f->T e f=true->R e f)->cx T o p=false->okD R o p
 |none,none,_,_,_=>trivial
 |some e,some f,h1,h2,k=>by
  by_cases he:e=f
  .subst he;exact h1 e rfl
  .refine h2 e f rfl rfl ?_
   simpa[cx,he]using k
 |none,some _,_,_,k=>by simp[cx]at k
 |some _,none,_,_,k=>by simp[cx]at k
theorem tab_fin {M:List Rm} (hO:OkM M) {T:Nat->Nat->Bool} (hb:∀a b,Bs M a b->T a b=true) (h:∀a b,a<M.length->b<M.length->T a b=true->cx T (dr M a).1 (dr M b).1=false/\cx T (dr M a).2 (dr M b).2=false) {a b:Nat} (ha:a<M.length) (hbl:b<M.length):T a b=true↔Bs M a b:=by
 refine⟨fun t=>⟨fun a b=>a<M.length/\b<M.length/\T a b=true,?_,ha,hbl,t⟩,hb a b⟩
 rintro x y ⟨hx,hy,ht⟩
 have ox:=dr_ok hO hx
 have oy:=dr_ok hO hy
 obtain⟨k1,k2⟩:=h x y hx hy ht
 refine⟨hx,hy,cx_ok (fun e he=>⟨ox.1 e he,ox.1 e he,hb _ _ (bs_refl hO (ox.1 e he))⟩) (fun e f he hf t=>⟨ox.1 e he,oy.1 f hf,t⟩) k1,cx_ok (fun e he=>⟨ox.2 e he,ox.2 e he,hb _ _ (bs_refl hO (ox.2 e he))⟩) (fun e f he hf t=>⟨ox.2 e he,oy.2 f hf,t⟩) k2⟩
noncomputable def kt (c:List Nat):Nat->Nat
 |0=>0
 |a+1=>max (kt c a) (cn c a+1)
theorem kt_is {c:List Nat} (hc:Cn c):∀{a:Nat},a<=c.length->∀k,k<kt c a↔∃j,j<a/\cn c j=k
 |0,_,k=>by simp[kt]
 |a+1,ha,k=>by
  have ih:=kt_is hc (a:=a) (by omega) k
  show k<max (kt c a) (cn c a+1)↔_
  constructor
  .intro h
   by_cases h1:k<kt c a
   .obtain⟨j,hj,e⟩:=ih.mp h1;exact⟨j,by omega,e⟩
   .rcases Nat.lt_or_ge k (cn c a)with h2|h2
    .obtain⟨j,hj,e⟩:=hc a (by omega) k h2;exact⟨j,by omega,e⟩
    .exact⟨a,by omega,by omega⟩
  .rintro⟨j,hj,e⟩
   by_cases h1:j=a
   .subst h1;omega
   .have:=ih.mpr ⟨j,by omega,e⟩;omega
theorem kt_ge {c:List Nat} (hc:Cn c) {a:Nat} (ha:a<c.length):cn c a<=kt c a:=by
 rcases Nat.lt_or_ge (kt c a) (cn c a)with h|h
 .have:=(kt_is hc (by omega) (kt c a)).mpr (hc a ha _ h);omega
 .exact h
theorem kt_le {c:List Nat} (hc:Cn c):∀{a:Nat},a<=c.length->kt c a<=a
 |0,_=>Nat.le_refl _
 |a+1,ha=>by
  have h1:=kt_le hc (a:=a) (by omega)
  have h2:=kt_ge hc (a:=a) (by omega)
  show max _ _<=_
  omega
theorem kt_new {c:List Nat} {a:Nat} (h:cn c a=kt c a):kt c (a+1)=kt c a+1:=by show max _ _=_;omega
theorem kt_old {c:List Nat} {a:Nat} (h:cn c a<kt c a):kt c (a+1)=kt c a:=by show max _ _=_;omega
theorem kt_lt {c:List Nat}:∀{n a:Nat},a<n->cn c a<kt c n
 |n+1,a,h=>by
  show _<max _ _
  by_cases e:a=n
  .subst e;omega
  .have:=kt_lt (c:=c) (n:=n) (a:=a) (by omega);omega
noncomputable def cl (c:List Nat) (n k:Nat):List Nat:=(List.range n).filter fun j=>decide (cn c j=k)
theorem mem_cl {c:List Nat} {n k j:Nat}:j∈cl c n k↔j<n/\cn c j=k:=by unfold cl;simp
theorem cl_succ {c:List Nat} {n k:Nat}:cl c (n+1) k=cl c n k++if cn c n=k then[n]else[]:=by
 unfold cl
 rw[List.range_succ,List.filter_append]
 congr 1
 by_cases h:cn c n=k<;>simp[h]
theorem cl_len {c:List Nat} {n k:Nat}:(cl c n k).length<=n:=by
 have:=List.length_filter_le (fun j=>decide (cn c j=k)) (List.range n)
 rw[List.length_range]at this
 exact this
theorem cl_nil {c:List Nat} (hc:Cn c) {a:Nat} (ha:a<=c.length) {k:Nat} (h:kt c a<=k):cl c a k=[]:=by
 refine List.eq_nil_iff_forall_not_mem.mpr fun j hj=>?_
 obtain⟨h1,h2⟩:=mem_cl.mp hj
 have:=(kt_is hc ha k).mpr ⟨j,h1,h2⟩
 omega
noncomputable def rp (c:List Nat) (n k:Nat):Nat:=(cl c n k).headD 0
theorem rp_is {c:List Nat} {n j:Nat} (hj:j<n):rp c n (cn c j)<n/\cn c (rp c n (cn c j))=cn c j/\(cl c n (cn c j))[0]?=some (rp c n (cn c j)):=by
 have hm:j∈cl c n (cn c j):=mem_cl.mpr ⟨hj,rfl⟩
 unfold rp
 cases e:cl c n (cn c j)with
 |nil=>rw[e]at hm;exact absurd hm List.not_mem_nil
 |cons x r=>
  have:x∈cl c n (cn c j):=by rw[e];exact List.mem_cons_self ..
  obtain⟨h1,h2⟩:=mem_cl.mp this
  exact⟨h1,h2,rfl⟩
theorem cl_rise {c:List Nat}:∀{n k:Nat},(cl c n k).Pairwise (· < ·):=fun {n k}=>List.Pairwise.filter _ List.pairwise_lt_range
theorem rp_least {c:List Nat} {n j i:Nat} (hj:j<n) (hi:i<n) (e:cn c i=cn c j):rp c n (cn c j)<=i:=by
 have hm:i∈cl c n (cn c j):=mem_cl.mpr ⟨hi,e⟩
 have hp:=cl_rise (c:=c) (n:=n) (k:=cn c j)
 unfold rp
 cases e:cl c n (cn c j)with
 |nil=>exact Nat.zero_le _
 |cons x r=>
  rw[e]at hm hp
  rcases List.mem_cons.mp hm with rfl|h
  .exact Nat.le_refl _
  .exact Nat.le_of_lt ((List.pairwise_cons.mp hp).1 i h)
theorem rp_new {c:List Nat} (hc:Cn c) {n a:Nat} (hn:n=c.length) (ha:a<n):rp c n (cn c a)=a↔cn c a=kt c a:=by
 have h1:=kt_ge hc (a:=a) (by omega)
 obtain⟨r1,r2,_⟩:=rp_is (c:=c) ha
 constructor
 .intro e
  rcases Nat.lt_or_ge (cn c a) (kt c a)with h|h
  .obtain⟨j,hj,ej⟩:=(kt_is hc (by omega) _).mp h
   have:=rp_least (c:=c) ha (i:=j) (by omega) ej
   omega
  .omega
 .intro e
  have h2:=rp_least (c:=c) ha ha rfl
  rcases Nat.lt_or_ge (rp c n (cn c a)) a with h|h
  .have:=(kt_is hc (by omega) (cn c a)).mpr ⟨_,h,r2⟩;omega
  .omega
noncomputable def kinds (c:List Nat):List (List Nat):=(List.range (kt c c.length)).map (cl c c.length)
noncomputable def lr (M:List Rm) (c:List Nat) (r:Nat):Rm:=(ap c (dr M r).1,ap c (dr M r).2)
noncomputable def ls (M:List Rm) (c:List Nat):List Rm:=(List.range (kt c M.length)).map fun k=>lr M c (rp c M.length k)
theorem ls_len {M:List Rm} {c:List Nat}:(ls M c).length=kt c M.length:=by unfold ls;simp
theorem dr_ls {M:List Rm} {c:List Nat} {k:Nat} (h:k<kt c M.length):dr (ls M c) k=lr M c (rp c M.length k):=by
 have:(ls M c)[k]?=some (lr M c (rp c M.length k)):=by unfold ls;rw[List.getElem?_map,List.getElem?_range h];rfl
 unfold dr
 rw[List.getD_eq_getElem?_getD,this];rfl
theorem ls_ok {M:List Rm} (hO:OkM M) {c:List Nat} (hc:Cn c) (hl:c.length=M.length):OkM (ls M c):=by
 intro r hr
 rw[ls_len]
 obtain⟨k,hk,rfl⟩:=List.mem_map.mp hr
 rw[List.mem_range]at hk
 obtain⟨j,hj,rfl⟩:=(kt_is hc (by omega) k).mp hk
 have o:=dr_ok hO (rp_is (c:=c) hj).1
 constructor
 .intro n hn
  show n<_
  obtain⟨e,he,rfl⟩:=Option.map_eq_some_iff.mp hn
  exact kt_lt (o.1 e he)
 .intro n hn
  obtain⟨e,he,rfl⟩:=Option.map_eq_some_iff.mp hn
  exact kt_lt (o.2 e he)
theorem cn_range {K i:Nat} (h:i<K):cn (List.range K) i=i:=by
 unfold cn
 rw[List.getD_eq_getElem?_getD,List.getElem?_range h];rfl
theorem ls_bs {M:List Rm} (hO:OkM M) {c:List Nat} (h:KN M c) {i j:Nat} (hi:i<M.length) (hj:j<M.length) (k:Bs (ls M c) (cn c i) (cn c j)):Bs M i j:=by
 obtain⟨hl,hc,hk⟩:=h
 refine⟨fun a b=>(a<M.length/\b<M.length)/\Bs (ls M c) (cn c a) (cn c b),?_,⟨hi,hj⟩,k⟩
 rintro a b ⟨⟨ha,hb⟩,kab⟩
 obtain⟨h1,h2,h3,h4⟩:=bs_lk _ _ _ kab
 have hbs:∀x y,Bs M x y->cn c x=cn c y:=fun x y z=>(hk x y (bs_lk M x y z).1 (bs_lk M x y z).2.1).mpr z
 have ra:=rp_is (c:=c) ha
 have rb:=rp_is (c:=c) hb
 obtain⟨_,_,a3,a4⟩:=bs_lk M _ _ ((hk a _ ha ra.1).mp ra.2.1.symm)
 obtain⟨_,_,b3,b4⟩:=bs_lk M _ _ ((hk b _ hb rb.1).mp rb.2.1.symm)
 rw[dr_ls (kt_lt ha),dr_ls (kt_lt hb)]at h3 h4
 have h3':okD (Bs (ls M c)) (ap c (dr M a).1) (ap c (dr M b).1):=by rw[ap_ok hbs a3,ap_ok hbs b3];exact h3
 have h4':okD (Bs (ls M c)) (ap c (dr M a).2) (ap c (dr M b).2):=by rw[ap_ok hbs a4,ap_ok hbs b4];exact h4
 have oa:=dr_ok hO ha
 have ob:=dr_ok hO hb
 refine⟨ha,hb,?_,?_⟩
 .revert h3'
  cases e1:(dr M a).1<;>cases e2:(dr M b).1<;>intro h
  .trivial
  .exact h
  .exact h
  .exact⟨⟨oa.1 _ e1,ob.1 _ e2⟩,h⟩
 .revert h4'
  cases e1:(dr M a).2<;>cases e2:(dr M b).2<;>intro h
  .trivial
  .exact h
  .exact h
  .exact⟨⟨oa.2 _ e1,ob.2 _ e2⟩,h⟩
theorem ls_kn {M:List Rm} (hO:OkM M) {c:List Nat} (h:KN M c):KN (ls M c) (List.range (ls M c).length):=by
 obtain⟨hl,hc,hk⟩:=id h
 refine⟨by simp,fun i hi k hk=>?_,fun i j hi hj=>?_⟩
 .rw[List.length_range]at hi
  rw[cn_range hi]at hk
  exact⟨k,hk,cn_range (by omega)⟩
 .rw[cn_range hi,cn_range hj]
  constructor
  .rintro rfl;exact bs_refl (ls_ok hO hc hl) hi
  .intro b
   rw[ls_len]at hi hj
   obtain⟨x,hx,rfl⟩:=(kt_is hc (by omega) i).mp hi
   obtain⟨y,hy,rfl⟩:=(kt_is hc (by omega) j).mp hj
   exact(hk x y hx hy).mpr (ls_bs hO h hx hy b)
theorem kt_range {K:Nat}:∀{a:Nat},a<=K->kt (List.range K) a=a
 |0,_=>rfl
 |a+1,h=>by
  have:=kt_range (K:=K) (a:=a) (by omega)
  show max _ _=_
  rw[this,cn_range (by omega)];omega
theorem ls_self {M:List Rm} (hO:OkM M):ls M (List.range M.length)=M:=by
 refine List.ext_getElem? fun i=>?_
 unfold ls
 rw[List.getElem?_map,kt_range (Nat.le_refl _)]
 by_cases hi:i<M.length
 .rw[List.getElem?_range hi,dr_get hi]
  have e:rp (List.range M.length) M.length i=i:=by
   have h1:=cn_range hi
   have h2:=rp_is (c:=List.range M.length) hi
   rw[h1]at h2
   have:=cn_range h2.1
   omega
  have o:=dr_ok hO hi
  have ap_id:∀p:Option Nat,(∀n,p=some n->n<M.length)->ap (List.range M.length) p=p:=by
   intro p hp
   cases p with
   |none=>rfl
   |some n=>show some _=some _;rw[cn_range (hp n rfl)]
  show some (lr M _ (rp _ _ i))=_
  rw[e]
  unfold lr
  rw[ap_id _ o.1,ap_id _ o.2]
 .rw[List.getElem?_eq_none (l:=List.range M.length) (by simp;omega),List.getElem?_eq_none (l:=M) (by omega)];rfl
theorem for_z {C:Rc} {σ:L2.St} {H:Hp} {D:Ends} {k j:Bool} {a b:Addr} {xs ys:List V} {t:Ct} {bd:Css} (hw:xs.length=ys.length) (Pv:Nat->L2.St->Hp->Prop) (h0:Pv 0 σ H) (hl:∀i σ H,i<=xs.length->Pv i σ H->Sq k C.K H a xs/\Sq j C.K H b ys)
  (hs:∀i x y σ H p,xs[i]?=some x->ys[i]?=some y->H p=none->Pv i σ H->tG C t (.ref p) σ (upd H p (.tup [x,y])) (tSs C bd { D with nx:=Pv (i+1),ct:=Pv (i+1),bk:=D.nx })) (hd:∀σ H,Pv xs.length σ H->D.nx σ H):kFor C t bd D σ (Itz2 k j C.K a b) H:=by
 refine⟨fun i m σ H=>m=xs.length-i/\i<=xs.length/\Pv i σ H,⟨xs.length,by simp,Nat.zero_le _,h0⟩,?_⟩
 rintro i m σ H ⟨rfl,hi,p⟩
 obtain⟨q1,q2⟩:=hl i σ H hi p
 by_cases hlt:i<xs.length
 .refine .inr ⟨⟨xs,ys,xs[i],ys[i]'(hw ▸ hlt),q1,q2,List.getElem?_eq_getElem _,List.getElem?_eq_getElem _⟩,Pv (i+1),fun σ' H' p'=>⟨xs.length-(i+1),by omega,rfl,hlt,p'⟩,fun x H' y=>?_⟩
  obtain⟨ad,u,v,rfl,hn,y1,y2,rfl⟩:=y
  exact hs i u v σ H ad (y1 xs q1) (y2 ys q2) hn p
 .have e:i=xs.length:=by omega
  subst e
  exact .inl ⟨⟨xs,ys,q1,q2,.inl (Nat.le_refl _)⟩,hd σ H p⟩
def SgV (H:Hp) (v:V) (s:Sgn):Prop:=∃p,v=.ref p/\H p=some (.tup [.int s.1,oV s.2.1,oV s.2.2])
theorem SgV.mono {H H':Hp} (t:Same H H') {v:V} {s:Sgn} (h:SgV H v s):SgV H' v s:=let⟨p,e,q⟩:=h;⟨p,e,t _ _ q⟩
noncomputable def ko:Option Nat->Key
 |none=>.non
 |some n=>.inl (n:Int)
theorem ko_inj:∀{o p:Option Nat},ko o=ko p->o=p
 |none,none,_=>rfl
 |some a,some b,h=>by
  injection h with h
  have:a=b:=by omega
  rw[this]
 |none,some _,h=>by cases h
 |some _,none,h=>by cases h
noncomputable def ky (s:Sgn):List Key:=[.inl (s.1:Int),ko s.2.1,ko s.2.2]
theorem ky_inj {s t:Sgn} (h:ky s=ky t):s=t:=by
 unfold ky at h
 obtain⟨h1,h⟩:=List.cons.inj h
 obtain⟨h2,h⟩:=List.cons.inj h
 obtain⟨h3,h⟩:=List.cons.inj h
 injection h1 with h1
 have e1:s.1=t.1:=by omega
 exact Prod.ext e1 (Prod.ext (ko_inj h2) (ko_inj h3))
theorem kV_ko {o:Option Nat}:L2.kV (ko o)=oV o:=by cases o<;>rfl
theorem ky_vals {s:Sgn}:(ky s).map L2.kV=[.int s.1,oV s.2.1,oV s.2.2]:=by
 show[_,L2.kV (ko _),L2.kV (ko _)]=_
 rw[kV_ko,kV_ko];rfl
def DS (kv:List (List Key×V)) (ks:List Sgn):Prop:=kv.length=ks.length/\∀s,valV kv (ky s)=if s∈ks then some (.int (ix ks s:Nat))else none
theorem ds_nil:DS [] []:=⟨rfl,fun s=>by simp[valV]⟩
theorem DS.put {kv:List (List Key×V)} {ks:List Sgn} (h:DS kv ks) {s:Sgn} (hs:s∉ks):DS (putK kv (ky s) (.int (kv.length:Nat))) (ks++[s]):=by
 have hn:valV kv (ky s)=none:=by rw[h.2,if_neg hs]
 refine⟨by rw[putK_new _ hn];simp[h.1],fun t=>?_⟩
 rw[valV_put]
 by_cases e:t=s
 .subst e
  rw[if_pos rfl,if_pos (by simp),ix_app,if_neg hs,ix_one,h.1]
  rfl
 .rw[if_neg (fun z=>e (ky_inj z)),h.2]
  by_cases hm:t∈ks
  .rw[if_pos hm,if_pos (by simp[hm]),ix_app,if_pos hm]
  .rw[if_neg hm,if_neg (by simp[hm,e])]
theorem dd_len (S:List Sgn):∀ks,(dd ks S).length<=ks.length+S.length:=by
 induction S with
 |nil=>intro ks;exact Nat.le_refl _
 |cons s r ih=>
  intro ks
  have:=ih (if s∈ks then ks else ks++[s])
  unfold dd
  split at this
  .rw[if_pos ‹_›];simp;omega
  .rw[if_neg ‹_›];simp at this ⊢;omega
def spNumb:Sp:=fun vs H Q _=>∃(A:Addr) (xs:List V) (S:List Sgn),vs=[.ref A]/\H A=some (.lst xs)/\All2 (SgV H) xs S/\S.length<=100/\
 ∀(l:Addr) (H':Hp),H l=none->Same H H'->H' l=some (.lst ((nmb S).map nV))->Q (.ref l) H'
theorem body_numb {C:Rc} (hN:C.N.length=3):∀vs H Q E,spNumb vs H Q E->tSs C c_p_numbered { nx:=fun _ H'=>Q .non H',rt:=Q } (L2.start C.N vs) H:=by
 intro vs H Q E h
 obtain⟨A,xs,S,rfl,hA,hxs,hS,q⟩:=h
 rw[start_eq hN]
 unfold c_p_numbered
 have hl:=hxs.len
 (try walk_at "su")
 intro d hd
 have s1:=same_new hd (.dT [])
 have hd1:upd H d (.dT []) d=some (.dT []):=upd_same
 generalize upd H d (.dT [])=H1 at s1 hd1 ⊢
 (try walk_at "su")
 refine at_iv_lst (SqL.of (s1 _ _ hA)) (for_l (fun i σ H'=>(∃x2,σ=[some (.ref A),some (.ref d),x2])/\Same H H'/\∃kv,H' d=some (.dT kv)/\DS kv (dd [] (S.take i))) ⟨⟨_,rfl⟩,s1,[],hd1,ds_nil⟩ (fun i σ H' _ pv=>SqL.of (pv.2.1 _ _ hA)) ?_ ?_)
 .rintro i v σ H2 hv ⟨⟨x2,rfl⟩,s2,kv,hd2,hds⟩
  obtain⟨s,hs,p,rfl,hp⟩:=hxs.getL hv
  have hp2:=s2 _ _ hp
  have ht:S.take (i+1)=S.take i++[s]:=by rw[List.take_succ,hs];rfl
  have hb:H2 p=some (.tup ((ky s).map L2.kV)):=by rw[ky_vals];exact hp2
  (try walk_at "su")
  refine at_inD (DGet.t hd2 hb) ?_
  rw[hds.2,if_pos rfl]
  by_cases hm:s∈dd [] (S.take i)
  .rw[if_pos hm]
   show kT _ (.bl false) H2
   (try walk_at "su")
   refine⟨⟨_,rfl⟩,s2,kv,hd2,?_⟩
   rw[ht,dd_snoc,if_pos hm]
   exact hds
  .rw[if_neg hm]
   show kT _ (.bl true) H2
   (try walk_at "su")
   refine at_lenDT hd2 ?_
   (try walk_at "su")
   have hlen:=dd_len (S.take i) []
   have hlt:=List.length_take_le i S
   have hk1:=hds.1
   refine⟨d,_,rfl,DPut.t hd2 hb (small1000 (by simp at hlen;omega)),?_⟩
   (try walk_at "su")
   refine⟨⟨_,rfl⟩,same_updF s2 hd,_,upd_same,?_⟩
   rw[ht,dd_snoc,if_neg hm]
   exact hds.put hm
 .rintro σ H2 ⟨⟨x2,rfl⟩,s2,kv,hd2,hds⟩
  rw[hl,List.take_length]at hds
  (try walk_at "su")
  refine at_iv_lst (SqL.of (s2 _ _ hA)) (comp_l (vs:=xs) (fun i ys H'=>i<=xs.length/\H'=H2/\ys=((nmb S).take i).map nV) ⟨Nat.zero_le _,rfl,rfl⟩ (fun i ys H' pv=>by rw[pv.2.1];exact SqL.of (s2 _ _ hA)) ?_ ?_)
  .rintro i ys H' v R hv ⟨hi,rfl,rfl⟩ hR
   obtain⟨s,hs,p,rfl,hp⟩:=hxs.getL hv
   have hb:H' p=some (.tup ((ky s).map L2.kV)):=by rw[ky_vals];exact s2 _ _ hp
   have hil:=lt_of_get hv
   have hmem:s∈dd [] S:=(dd_mem S [] s).mpr (.inr (List.mem_of_getElem? hs))
   (try walk_at "su")
   refine⟨d,.int (ix (dd [] S) s:Nat),rfl,?_,?_⟩
   .have:=DGet.t hd2 hb
    rw[hds.2,if_pos hmem]at this
    exact this
   .
    (try walk_at "su")
    refine⟨small1000 (by rw[List.length_map,List.length_take,nmb_len];omega),hR _ _ ⟨hil,rfl,?_⟩⟩
    rw[List.take_succ,nmb_get hs,List.map_append]
    rfl
  .rintro ys H' ⟨_,rfl,rfl⟩ l hl2
   (try walk_at "su")
   refine q l _ (s2.free hl2) (s2.trans (same_new hl2 _)) ?_
   rw[upd_same,List.take_of_length_le (by rw[nmb_len];omega)]
def LdV (H:Hp) (v:V) (r:Rm):Prop:=∃p,v=.ref p/\H p=some (.lst [oV r.1,oV r.2])
theorem LdV.mono {H H':Hp} (t:Same H H') {v:V} {r:Rm} (h:LdV H v r):LdV H' v r:=let⟨p,e,q⟩:=h;⟨p,e,t _ _ q⟩
noncomputable def ups (α:Type) (f:Nat->α) (n:Nat):List α:=(List.range n).map f
theorem ups_succ {α:Type} {f:Nat->α} {n:Nat}:ups α f (n+1)=ups α f n++[f n]:=by unfold ups;rw[List.range_succ,List.map_append];rfl
theorem ups_len {α:Type} {f:Nat->α} {n:Nat}:(ups α f n).length=n:=by unfold ups;simp
theorem ups_get {α:Type} {f:Nat->α} {n i:Nat} (h:i<n):(ups α f n)[i]?=some (f i):=by unfold ups;rw[List.getElem?_map,List.getElem?_range h];rfl
theorem room_of {H:Hp} {a:Addr} {M:List Rm} (h:IsM H a M):∃vs,H a=some (.tup vs)/\vs.length=M.length/\∀i v,vs[i]?=some v->∃p,v=.ref p/\H p=some (.tup [oV (dr M i).1,oV (dr M i).2]):=by
 obtain⟨vs,ha,hv⟩:=h
 refine⟨vs,ha,hv.len,fun i v hi=>?_⟩
 have hlt:=lt_of_get hi
 rw[hv.len]at hlt
 obtain⟨p,hp,hpt⟩:=hv.get (dr_get hlt)
 rw[hi]at hp
 cases hp
 exact⟨p,rfl,hpt⟩
theorem nV_map_inj {c d:List Nat} (h:c.map nV=d.map nV):c=d:=by
 refine(List.map_inj_right fun x y e=>?_).mp h
 have:(x:Int)=y:=by injection e
 omega
theorem leq_nV {a b:List Nat}:LEq (a.map nV) (b.map nV):=by
 intro i x y h1 h2
 rw[List.getElem?_map]at h1 h2
 obtain⟨n,_,rfl⟩:=Option.map_eq_some_iff.mp h1
 obtain⟨m,_,rfl⟩:=Option.map_eq_some_iff.mp h2
 exact .inl ⟨rfl,fun b e=>by cases e⟩
def spRef:Sp:=fun vs H Q _=>∃(a L:Addr) (M:List Rm) (c:List Nat),vs=[.ref a,.ref L]/\IsM H a M/\OkM M/\M.length<=60/\H L=some (.lst (c.map nV))/\c.length=M.length/\
 ∀(l:Addr) (H':Hp),H l=none->Same H H'->H' l=some (.lst ((rf M c).map nV))->Q (.ref l) H'
theorem body_ref {C:Rc} (hN:C.N.length=8) (hF:C.fs "numbered"=some spNumb):∀vs H Q E,spRef vs H Q E->tSs C c_p_refined { nx:=fun _ H'=>Q .non H',rt:=Q } (L2.start C.N vs) H:=by
 intro vs H Q E h
 obtain⟨a,L,M,c,rfl,hM,hO,hM1,hL,hc,q⟩:=h
 rw[start_eq hN]
 unfold c_p_refined
 obtain⟨ms,hma,hml,hmr⟩:=room_of hM
 (try walk_at "su")
 refine at_iv_tup (SqT.of hma) (comp_t (vs:=ms) (fun i xs H'=>i<=ms.length/\Same H H'/\All2 (LdV H') xs (ups Rm (lr M c) i)) ⟨Nat.zero_le _,Same.refl _,trivial⟩ (fun i xs H' pv=>SqT.of (pv.2.1 _ _ hma)) ?_ ?_)
 .rintro i xs H1 v R hv ⟨_,s1,hA⟩ hR
  have hi:=lt_of_get hv
  have hi2:i<M.length:=by omega
  obtain⟨p,rfl,hp⟩:=hmr i v hv
  have o:=dr_ok hO hi2
  (try walk_at "su")
  refine at_iv_tup (SqT.of (s1 _ _ hp)) (comp_t (vs:=[oV (dr M i).1,oV (dr M i).2]) (fun j ys H'=>j<=2/\H'=H1/\ys=([oV (lr M c i).1,oV (lr M c i).2]).take j) ⟨Nat.zero_le _,rfl,rfl⟩ (fun j ys H' pv=>by rw[pv.2.1];exact SqT.of (s1 _ _ hp)) ?_ ?_)
  .rintro j ys H' v R2 hv2 ⟨hj,rfl,rfl⟩ hR2
   obtain⟨w,rfl,hw,hj2,ht⟩:∃w,v=oV w/\(∀e,w=some e->e<M.length)/\j<2/\([oV (lr M c i).1,oV (lr M c i).2]).take j++[oV (ap c w)]=([oV (lr M c i).1,oV (lr M c i).2]).take (j+1):=by
    match j,hv2 with
    |0,hv2=>cases hv2;exact⟨_,rfl,o.1,by omega,rfl⟩
    |1,hv2=>cases hv2;exact⟨_,rfl,o.2,by omega,rfl⟩
    |j+2,hv2=>cases hv2
   have hyl:(([oV (lr M c i).1,oV (lr M c i).2]:List V).take j).length<sizeLine:=Nat.lt_of_le_of_lt (List.length_take_le' ..) (by show 2<sizeLine;decide)
   cases w with
   |none=>
    (try walk_at "su")
    exact⟨hyl,hR2 _ _ ⟨by omega,rfl,ht⟩⟩
   |some e=>
    (try walk_at "su")
    show kIfe C _ _ _ _ false H'
    (try walk_at "su")
    refine at_ixL (SqL.of (s1 _ _ hL)) (v:=nV (cn c e)) (atI_nat ?_) ?_
    .rw[List.getElem?_map,cn_get (by rw[hc];exact hw e rfl)];rfl
    (try walk_at "su")
    exact⟨hyl,hR2 _ _ ⟨by omega,rfl,ht⟩⟩
  .rintro ys H' ⟨_,rfl,rfl⟩ p5 hp5
   (try walk_at "su")
   refine⟨small1000 (by have:=hA.len;rw[ups_len]at this;omega),hR _ _ ⟨hi,s1.trans (same_new hp5 _),?_⟩⟩
   rw[ups_succ]
   refine All2.snoc (hA.mono fun v w h=>LdV.mono (same_new hp5 _) h) ⟨p5,rfl,?_⟩
   rw[upd_same]
   rfl
 .rintro xs H1 ⟨_,s1,hA⟩ D hD
  have n2:=same_new hD (.lst xs)
  have s2:=s1.trans n2
  have hD2:upd H1 D (.lst xs) D=some (.lst xs):=upd_same
  have hA2:=hA.mono fun v w h=>LdV.mono n2 h
  generalize upd H1 D (.lst xs)=H2 at s2 hD2 hA2 ⊢
  rw[hml]at hA2
  have hxl:=hA2.len
  rw[ups_len]at hxl
  have hL2:=s2 _ _ hL
  (try walk_at "su")
  refine call_e hF ?_
  (try walk_at "su")
  refine at_zipL (SqL.of hL2) (SqL.of hD2) (comp_z (k:=false) (j:=false) (vs:=c.map nV) (ws:=xs) (by rw[List.length_map];omega) (fun i ys H'=>i<=M.length/\Same H2 H'/\All2 (SgV H') ys (ups Sgn (sg M c) i)) ⟨Nat.zero_le _,Same.refl _,trivial⟩ (fun i ys H' pv=>⟨SqL.of (pv.2.1 _ _ hL2),SqL.of (pv.2.1 _ _ hD2)⟩) ?_ ?_)
  .rintro i ys H3 x y p R hx hy hp ⟨_,s3,hA3⟩ hR
   have hi:=lt_of_get hy
   obtain⟨r,hr,e,rfl,he⟩:=hA2.getL hy
   rw[ups_get (by omega)]at hr
   cases hr
   rw[List.getElem?_map,cn_get (by omega)]at hx
   cases hx
   have n4:=same_new hp (.tup [nV (cn c i),.ref e])
   refine g_tupN (SqT.of upd_same) (g_lst2 (SqL.of (n4 _ _ (s3 _ _ he))) ?_)
   (try walk_at "su")
   refine⟨by show 3<=sizeLine;decide,fun p5 hp5=>?_⟩
   have n5:=same_new hp5 (.tup [nV (cn c i),oV (lr M c i).1,oV (lr M c i).2])
   (try walk_at "su")
   refine⟨small1000 (by have:=hA3.len;rw[ups_len]at this;omega),hR _ _ ⟨by omega,s3.trans (n4.trans n5),?_⟩⟩
   rw[ups_succ]
   exact All2.snoc (hA3.mono fun v w h=>SgV.mono (n4.trans n5) h) ⟨p5,rfl,upd_same⟩
  .rintro ys H3 ⟨_,s3,hA3⟩ A hA4
   rw[List.length_map,hc]at hA3
   have n4:=same_new hA4 (.lst ys)
   (try walk_at "su")
   refine⟨A,ys,ups Sgn (sg M c) M.length,rfl,upd_same,hA3.mono fun v w h=>SgV.mono n4 h,by rw[ups_len];omega,fun l H5 hl s5 hl5=>?_⟩
   have s25:=s3.trans n4
   (try walk_at "su")
   exact q l H5 (s2.free (s25.free hl)) (s2.trans (s25.trans s5)) hl5
def spKn:Sp:=fun vs H Q _=>∃(a:Addr) (M:List Rm),vs=[.ref a]/\IsM H a M/\OkM M/\M.length<=60/\
 ∀(l:Addr) (c:List Nat) (H':Hp),H l=none->Same H H'->KN M c->H' l=some (.lst (c.map nV))->Q (.ref l) H'
theorem body_kn {C:Rc} (hN:C.N.length=4) (hF:C.fs "refined"=some spRef):∀vs H Q E,spKn vs H Q E->tSs C c_p_kind_numbers { nx:=fun _ H'=>Q .non H',rt:=Q } (L2.start C.N vs) H:=by
 intro vs H Q E h
 obtain⟨a,M,rfl,hM,hO,hM1,q⟩:=h
 rw[start_eq hN]
 unfold c_p_kind_numbers
 obtain⟨ms,hma,hml,hmr⟩:=room_of hM
 (try walk_at "su")
 refine at_iv_tup (SqT.of hma) (comp_t (vs:=ms) (fun i xs H'=>i<=ms.length/\H'=H/\xs=(c0 i).map nV) ⟨Nat.zero_le _,rfl,rfl⟩ (fun i xs H' pv=>by rw[pv.2.1];exact SqT.of hma) ?_ ?_)
 .rintro i xs H1 v R hv ⟨_,rfl,rfl⟩ hR
  have hi:=lt_of_get hv
  (try walk_at "su")
  refine⟨small1000 (by simp[c0];omega),hR _ _ ⟨hi,rfl,?_⟩⟩
  unfold c0
  rw[List.replicate_succ',List.map_append]
  rfl
 .rintro xs H1 ⟨_,rfl,rfl⟩ L hL
  rw[hml]
  have n2:=same_new hL (.lst ((c0 M.length).map nV))
  have hL2:upd H1 L (.lst ((c0 M.length).map nV)) L=some (.lst ((c0 M.length).map nV)):=upd_same
  generalize upd H1 L (.lst ((c0 M.length).map nV))=H2 at n2 hL2 ⊢
  (try walk_at "su")
  refine call_e hF ?_
  (try walk_at "su")
  refine⟨a,L,M,c0 M.length,rfl,hM.mono (tp_same n2),hO,hM1,hL2,by simp[c0],fun l H3 hl s3 hl3=>?_⟩
  (try walk_at "su")
  refine whl_by (fun m σ H'=>∃ln lf c x2,σ=[some (.ref a),some (.ref ln),x2,some (.ref lf)]/\Same H1 H'/\H1 ln=none/\H1 lf=none/\H' ln=some (.lst (c.map nV))/\H' lf=some (.lst ((rf M c).map nV))/\Fn M c/\m=pc M.length (kq c)) _ ⟨L,l,c0 M.length,_,rfl,n2.trans s3,hL,n2.free hl,s3 _ _ hL2,hl3,fn_c0,rfl⟩ ?_
  rintro m σ H4 ⟨ln,lf,c,x2,rfl,s4,hln,hlf,h1,h2,hfn,rfl⟩
  (try walk_at "su")
  refine at_neL (SqL.of h2) (SqL.of h1) (fun _=>leq_nV) ?_
  by_cases he:rf M c=c
  .rw[decide_eq_true (by rw[he])]
   (try walk_at "su")
   refine kWhl_f ?_
   (try walk_at "su")
   exact q ln c H4 hln s4 (kn_of hO hfn.1 hfn.2.1 hfn.2.2 he) h1
  .rw[decide_eq_false (fun z=>he (nV_map_inj z))]
   (try walk_at "su")
   refine kWhl_t ?_
   (try walk_at "su")
   refine call_e hF ?_
   (try walk_at "su")
   refine⟨a,lf,M,rf M c,rfl,hM.mono (tp_same s4),hO,hM1,h2,rf_len,fun l5 H5 hl5 s5 hl5'=>?_⟩
   (try walk_at "su")
   exact⟨_,rf_less hfn.1 hfn.2.1 he,lf,l5,rf M c,_,rfl,s4.trans s5,hlf,s4.free hl5,s5 _ _ h2,hl5',fn_rf hfn,rfl⟩
def KI (H2 H':Hp) (vs:List V) (K:Nat) (F:Nat->List V):Prop:=vs.length=K/\vs.Nodup/\∀k,k<K->∃e,vs[k]?=some (.ref e)/\H2 e=none/\H' e=some (.lst (F k))
theorem KI.keep {H2 H' H'':Hp} {vs:List V} {K:Nat} {F:Nat->List V} (k:KI H2 H' vs K F) (h:∀e o,H2 e=none->H' e=some (.lst o)->H'' e=some (.lst o)):KI H2 H'' vs K F:=
 ⟨k.1,k.2.1,fun i hi=>let⟨e,h1,h2,h3⟩:=k.2.2 i hi;⟨e,h1,h2,h _ _ h2 h3⟩⟩
theorem KI.congr {H2 H':Hp} {vs:List V} {K:Nat} {F G:Nat->List V} (k:KI H2 H' vs K F) (h:∀i,i<K->F i=G i):KI H2 H' vs K G:=
 ⟨k.1,k.2.1,fun i hi=>let⟨e,h1,h2,h3⟩:=k.2.2 i hi;⟨e,h1,h2,by rw[<- h i hi];exact h3⟩⟩
theorem KI.set {H2 H':Hp} {vs:List V} {K:Nat} {F:Nat->List V} (k:KI H2 H' vs K F) {j:Nat} (hj:j<K) {e:Addr} (he:vs[j]?=some (.ref e)) (r:List V):KI H2 (upd H' e (.lst r)) vs K (fun x=>if x=j then r else F x):=by
 refine⟨k.1,k.2.1,fun i hi=>?_⟩
 obtain⟨e',h1,h2,h3⟩:=k.2.2 i hi
 by_cases hij:i=j
 .subst hij
  rw[h1]at he
  injection he with he
  injection he with he
  refine⟨e',h1,h2,?_⟩
  rw[<- he,upd_same]
  show _=some (HO.lst (if i=i then r else F i))
  rw[if_pos rfl]
 .refine⟨e',h1,h2,?_⟩
  have hne:e'≠e:=by
   intro z
   rw[z]at h1
   exact hij ((List.getElem?_inj (by rw[k.1];exact hi) k.2.1).mp (h1.trans he.symm))
  show upd H' e (.lst r) e'=some (.lst (if i=j then r else F i))
  rw[upd_ne hne,if_neg hij]
  exact h3
theorem KI.push {H2 H':Hp} {vs:List V} {K:Nat} {F:Nat->List V} (k:KI H2 H' vs K F) {e:Addr} (h2:H2 e=none) (he:H' e=some (.lst (F K))) (hn:V.ref e∉vs):KI H2 H' (vs++[.ref e]) (K+1) F:=by
 refine⟨by simp[k.1],?_,fun i hi=>?_⟩
 .rw[List.nodup_append]
  exact⟨k.2.1,by simp,fun a ha b hb=>by simp at hb;subst hb;rintro rfl;exact hn ha⟩
 .by_cases hiK:i<K
  .obtain⟨e',h1,h3,h4⟩:=k.2.2 i hiK
   exact⟨e',by rw[List.getElem?_append_left (by rw[k.1];exact hiK)];exact h1,h3,h4⟩
  .have:i=K:=by omega
   subst this
   exact⟨e,by rw[<- k.1];simp,h2,he⟩
theorem KI.fresh {H2 H':Hp} {vs:List V} {K:Nat} {F:Nat->List V} (k:KI H2 H' vs K F) {e:Addr} (h:H' e=none):V.ref e∉vs:=by
 intro m
 obtain⟨i,hi,ei⟩:=List.getElem_of_mem m
 obtain⟨e',h1,_,h3⟩:=k.2.2 i (by rw[<- k.1];exact hi)
 rw[List.getElem?_eq_getElem hi,ei]at h1
 cases h1
 rw[h]at h3
 cases h3
def Sb (T:Addr) (H H':Hp):Prop:=∀x o,x≠T->H x=some o->H' x=some o
theorem Sb.same {T:Addr} {H H' H'':Hp} (h:Sb T H H') (s:Same H' H''):Sb T H H'':=fun x o n e=>s _ _ (h x o n e)
theorem Sb.upd {T:Addr} {H H':Hp} (h:Sb T H H') {a:Addr} {o:HO} (ha:a=T\/H a=none):Sb T H (upd H' a o):=fun x u n e=>by
 rw[upd_ne (fun z=>by subst z;rcases ha with ha|ha;exact n ha;rw[ha]at e;cases e)]
 exact h x u n e
def KL (H0 H:Hp) (l:Addr) (L:List (List Nat)):Prop:=∃vs,H l=some (.lst vs)/\H0 l=none/\KI H0 H vs L.length (fun k=>(L.getD k []).map nV)/\V.ref l∉vs
theorem kinds_len {c:List Nat}:(kinds c).length=kt c c.length:=by unfold kinds;simp
theorem kinds_getD {c:List Nat} {k:Nat} (h:k<kt c c.length):(kinds c).getD k []=cl c c.length k:=by
 unfold kinds
 rw[List.getD_eq_getElem?_getD,List.getElem?_map,List.getElem?_range h];rfl
def spKi:Sp:=fun vs H Q _=>∃(a:Addr) (M:List Rm),vs=[.ref a]/\IsM H a M/\OkM M/\M.length<=60/\
 ∀(l:Addr) (c:List Nat) (H':Hp),KN M c->Same H H'->KL H H' l (kinds c)->Q (.ref l) H'
theorem body_ki {C:Rc} (hN:C.N.length=4) (hF:C.fs "kind_numbers"=some spKn):∀vs H Q E,spKi vs H Q E->tSs C c_p_kinds { nx:=fun _ H'=>Q .non H',rt:=Q } (L2.start C.N vs) H:=by
 intro vs H Q E h
 obtain⟨a,M,rfl,hM,hO,hM1,q⟩:=h
 rw[start_eq hN]
 unfold c_p_kinds
 (try walk_at "su")
 refine⟨by show 0<=sizeLine;decide,fun T hT=>?_⟩
 have n1:=same_new hT (.lst [])
 have hT1:upd H T (.lst []) T=some (.lst []):=upd_same
 generalize upd H T (.lst [])=H1 at n1 hT1 ⊢
 (try walk_at "su")
 refine call_e hF ?_
 (try walk_at "su")
 refine⟨a,M,rfl,hM.mono (tp_same n1),hO,hM1,fun L c H2 hL s2 hkn hL2=>?_⟩
 obtain⟨hl,hc,_⟩:=id hkn
 have hT2:=s2 _ _ hT1
 have hLT:L≠T:=fun z=>by subst z;rw[hL]at hT1;cases hT1
 have nT:∀e,H2 e=none->e≠T:=fun e he z=>by subst z;rw[he]at hT2;cases hT2
 (try walk_at "su")
 refine at_enL (SqL.of hL2) (for_e (xs:=c.map nV) (fun i σ H'=>i<=c.length/\(∃x2 x3,σ=[some (.ref a),some (.ref T),x2,x3])/\Sb T H2 H'/\∃vs,H' T=some (.lst vs)/\KI H2 H' vs (kt c i) (fun k=>(cl c i k).map nV)) ⟨Nat.zero_le _,⟨_,_,rfl⟩,fun x o n e=>e,[],hT2,rfl,List.nodup_nil,fun k hk=>absurd hk (Nat.not_lt_zero _)⟩ (fun i σ H' _ pv=>SqL.of (pv.2.2.1 _ _ hLT hL2)) ?_ ?_)
 .rintro i x σ H3 p hx hp ⟨_,⟨x2,x3,rfl⟩,sb3,us,hT3,hki⟩
  have hi:=lt_of_get hx
  rw[List.length_map]at hi
  rw[List.getElem?_map,cn_get hi]at hx
  cases hx
  have n4:=same_new hp (.tup [.int i,nV (cn c i)])
  have hp4:upd H3 p (.tup [.int i,nV (cn c i)]) p=some (.tup [.int i,nV (cn c i)]):=upd_same
  have hT4:=n4 _ _ hT3
  have sb4:=sb3.same n4
  have hki4:=hki.keep (H'':=upd H3 p (.tup [.int i,nV (cn c i)])) fun e o _ h=>n4 _ _ h
  generalize upd H3 p (.tup [.int i,nV (cn c i)])=H4 at n4 hp4 hT4 sb4 hki4 ⊢
  have hge:=kt_ge hc hi
  have hle:=kt_le hc (a:=i) (by omega)
  have hcl:=cl_len (c:=c) (n:=i) (k:=cn c i)
  refine g_tup2 (SqT.of hp4) ?_
  (try walk_at "su")
  refine at_lenL (SqL.of hT4) ?_
  (try walk_at "su")
  have hlen:=hki.1
  show rCmp C.K .Eq (.int ((cn c i:Nat):Int)) _ H4 _
  rw[c_eq]
  have fin:∀(H5:Hp) (us5:List V) (K:Nat),Sb T H2 H5->H5 T=some (.lst us5)->KI H2 H5 us5 K (fun k=>(cl c i k).map nV)->K=kt c (i+1)->∀e,us5[cn c i]?=some (.ref e)->H2 e=none->H5 e=some (.lst ((cl c i (cn c i)).map nV))->
    (i+1<=c.length/\(∃y2 y3,[some (V.ref a),some (.ref T),some (.int i),some (nV (cn c i))]=[some (V.ref a),some (.ref T),y2,y3])/\Sb T H2 (upd H5 e (.lst ((cl c i (cn c i)).map nV++[.int i])))/\∃vs,upd H5 e (.lst ((cl c i (cn c i)).map nV++[.int i])) T=some (.lst vs)/\KI H2 (upd H5 e (.lst ((cl c i (cn c i)).map nV++[.int i]))) vs (kt c (i+1)) (fun k=>(cl c (i+1) k).map nV)):=by
   intro H5 us5 K sb5 hT5 hki5 hK e he h2e h5e
   refine⟨hi,⟨_,_,rfl⟩,sb5.upd (.inr h2e),us5,by rw[upd_ne (Ne.symm (nT e h2e))];exact hT5,?_⟩
   rw[<- hK]
   refine(hki5.set (j:=cn c i) (by rw[hK];exact kt_lt (Nat.lt_succ_self i)) he ((cl c i (cn c i)).map nV++[.int i])).congr fun k hk=>?_
   rw[cl_succ,List.map_append]
   by_cases hki:k=cn c i
   .rw[if_pos hki,if_pos hki.symm,hki];rfl
   .rw[if_neg hki,if_neg (Ne.symm hki)];simp
  by_cases hnew:cn c i=kt c i
  .rw[decide_eq_true (show((cn c i:Nat):Int)=(us.length:Nat) by omega)]
   (try walk_at "su")
   refine⟨tyL hT4 rfl,by show 0<=sizeLine;decide,fun e he=>?_⟩
   have n5:=same_new he (.lst [])
   have he5:upd H4 e (.lst []) e=some (.lst []):=upd_same
   have h2e:H2 e=none:=by
    cases h:H2 e with
    |none=>rfl
    |some o=>rw[sb4 e o (fun z=>by subst z;rw[hT4]at he;cases he) h]at he;cases he
   have hT5:=n5 _ _ hT4
   have sb5:=sb4.same n5
   have hki5:=hki4.keep (H'':=upd H4 e (.lst [])) fun x o _ h=>n5 _ _ h
   have hne:=hki4.fresh he
   generalize upd H4 e (.lst [])=H5 at n5 he5 hT5 sb5 hki5 ⊢
   (try walk_at "su")
   refine at_app hT5 (small1000 (by omega)) ?_
   have hT6:upd H5 T (.lst (us++[.ref e])) T=some (.lst (us++[.ref e])):=upd_same
   have sb6:=sb5.upd (a:=T) (o:=.lst (us++[.ref e])) (.inl rfl)
   have he6:upd H5 T (.lst (us++[.ref e])) e=some (.lst []):=by rw[upd_ne (nT e h2e)];exact he5
   have hcl0:cl c i (kt c i)=[]:=cl_nil hc (by omega) (Nat.le_refl _)
   have hki6:KI H2 (upd H5 T (.lst (us++[.ref e]))) (us++[.ref e]) (kt c i+1) (fun k=>(cl c i k).map nV):=(hki5.keep fun x o h2 h=>by rw[upd_ne (nT x h2)];exact h).push h2e (by rw[he6,hcl0];rfl) hne
   generalize upd H5 T (.lst (us++[.ref e]))=H6 at hT6 sb6 he6 hki6 ⊢
   (try walk_at "su")
   have hget:(us++[V.ref e])[cn c i]?=some (.ref e):=by rw[hnew,<- hlen];simp
   refine at_ixL (SqL.of hT6) (v:=.ref e) (atI_nat hget) ?_
   (try walk_at "su")
   have he7:H6 e=some (.lst ((cl c i (cn c i)).map nV)):=by rw[hnew,hcl0];exact he6
   refine⟨tyL he7 rfl,?_⟩
   (try walk_at "su")
   refine at_app he7 (small1000 (by rw[List.length_map];omega)) ?_
   (try walk_at "su")
   exact fin H6 _ _ sb6 hT6 hki6 (kt_new hnew).symm e hget h2e he7
  .rw[decide_eq_false (show ¬((cn c i:Nat):Int)=(us.length:Nat) by omega)]
   (try walk_at "su")
   have hlt:cn c i<kt c i:=by omega
   obtain⟨e,hget,h2e,he⟩:=hki4.2.2 _ hlt
   refine at_ixL (SqL.of hT4) (v:=.ref e) (atI_nat hget) ?_
   (try walk_at "su")
   refine⟨tyL he rfl,?_⟩
   (try walk_at "su")
   refine at_app he (small1000 (by rw[List.length_map];omega)) ?_
   (try walk_at "su")
   exact fin H4 _ _ sb4 hT4 hki4 (kt_old hlt).symm e hget h2e he
 .rintro σ H3 ⟨_,⟨x2,x3,rfl⟩,sb3,us,hT3,hki⟩
  rw[List.length_map]at hki
  (try walk_at "su")
  have s03:Same H H3:=fun x o h=>sb3 x o (fun z=>by subst z;rw[hT]at h;cases h) (s2 _ _ (n1 _ _ h))
  refine q T c H3 hkn s03 ⟨us,hT3,hT,?_,fun m=>?_⟩
  .rw[kinds_len]
   have:KI H H3 us (kt c c.length) (fun k=>(cl c c.length k).map nV):=⟨hki.1,hki.2.1,fun k hk=>let⟨e,h1,h2,h3⟩:=hki.2.2 k hk;⟨e,h1,n1.free (s2.free h2),h3⟩⟩
   exact this.congr fun k hk=>by rw[kinds_getD hk]
  .obtain⟨j,hj,ej⟩:=List.getElem_of_mem m
   obtain⟨e,h1,h2,_⟩:=hki.2.2 j (by rw[<- hki.1];exact hj)
   rw[List.getElem?_eq_getElem hj,ej]at h1
   cases h1
   exact nT _ h2 rfl
theorem rp_first {c:List Nat} (hc:Cn c) {k:Nat} (hk:k<kt c c.length):rp c c.length k<c.length/\(cl c c.length k)[0]?=some (rp c c.length k):=by
 obtain⟨j,hj,rfl⟩:=(kt_is hc (Nat.le_refl _) k).mp hk
 have:=rp_is (c:=c) hj
 exact⟨this.1,this.2.2⟩
def spLs:Sp:=fun vs H Q _=>∃(a:Addr) (M:List Rm),vs=[.ref a]/\IsM H a M/\OkM M/\M.length<=60/\
 ∀(p m l:Addr) (c:List Nat) (H':Hp),KN M c->Same H H'->H l=none->H' p=some (.tup [.ref m,.ref l])->IsM H' m (ls M c)->H' l=some (.lst (c.map nV))->Q (.ref p) H'
theorem body_ls {C:Rc} (hN:C.N.length=7) (hF:C.fs "kind_numbers"=some spKn) (hG:C.fs "kinds"=some spKi):∀vs H Q E,spLs vs H Q E->tSs C c_p_lessened { nx:=fun _ H'=>Q .non H',rt:=Q } (L2.start C.N vs) H:=by
 intro vs H Q E h
 obtain⟨a,M,rfl,hM,hO,hM1,q⟩:=h
 rw[start_eq hN]
 unfold c_p_lessened
 obtain⟨ms,hma,hml,hmr⟩:=room_of hM
 (try walk_at "su")
 refine call_e hF ?_
 (try walk_at "su")
 refine⟨a,M,rfl,hM,hO,hM1,fun L c H1 hL s1 hkn hL1=>?_⟩
 obtain⟨hl,hc,_⟩:=id hkn
 (try walk_at "su")
 refine call_e hG ?_
 (try walk_at "su")
 refine⟨a,M,rfl,hM.mono (tp_same s1),hO,hM1,fun T c' H2 hkn' s2 hkl=>?_⟩
 have:=hkn'.uniq hkn
 subst this
 obtain⟨us,hT,_,hki,_⟩:=hkl
 rw[kinds_len]at hki
 have s02:=s1.trans s2
 (try walk_at "su")
 refine at_iv_lst (SqL.of hT) (comp_l (vs:=us) (fun i xs H'=>i<=us.length/\H'=H2/\xs=ups V (fun k=>ms.getD (rp c' c'.length k) .non) i) ⟨Nat.zero_le _,rfl,rfl⟩ (fun i xs H' pv=>by rw[pv.2.1];exact SqL.of hT) ?_ ?_)
 .rintro i xs H' v R hv ⟨_,rfl,rfl⟩ hR
  have hi:=lt_of_get hv
  have hik:i<kt c' c'.length:=by rw[<- hki.1];exact hi
  obtain⟨e,he,_,hel⟩:=hki.2.2 i hik
  rw[hv]at he
  cases he
  obtain⟨r1,r2⟩:=rp_first hc hik
  have hle:=kt_le hc (Nat.le_refl c'.length)
  have hg:ms[rp c' c'.length i]?=some (ms.getD (rp c' c'.length i) .non):=by
   rw[List.getD_eq_getElem?_getD,List.getElem?_eq_getElem (by rw[hml,<- hl];exact r1)];rfl
  have hel:H' e=some (.lst ((cl c' c'.length i).map nV)):=by rw[<- kinds_getD hik];exact hel
  (try walk_at "su")
  refine at_ixL (SqL.of hel) (v:=nV (rp c' c'.length i)) (atI_nat (j:=0) (by rw[List.getElem?_map,r2];rfl)) ?_
  (try walk_at "su")
  refine at_ixT (SqT.of (s02 _ _ hma)) (v:=ms.getD (rp c' c'.length i) .non) (atI_nat (j:=rp c' c'.length i) hg) ?_
  (try walk_at "su")
  refine⟨small1000 (by rw[ups_len];omega),hR _ _ ⟨hi,rfl,?_⟩⟩
  rw[ups_succ]
 .rintro xs H' ⟨_,rfl,rfl⟩ F hF3
  rw[hki.1]
  have n3:=same_new hF3 (.lst (ups V (fun k=>ms.getD (rp c' c'.length k) .non) (kt c' c'.length)))
  have hF4:upd H' F (.lst (ups V (fun k=>ms.getD (rp c' c'.length k) .non) (kt c' c'.length))) F=some (.lst (ups V (fun k=>ms.getD (rp c' c'.length k) .non) (kt c' c'.length))):=upd_same
  have s03:=s02.trans n3
  have hL3:=n3 _ _ (s2 _ _ hL1)
  generalize upd H' F (.lst (ups V (fun k=>ms.getD (rp c' c'.length k) .non) (kt c' c'.length)))=H3 at n3 hF4 s03 hL3 ⊢
  have hle:=kt_le hc (Nat.le_refl c'.length)
  (try walk_at "su")
  refine at_iv_lst (SqL.of hF4) (comp_l (vs:=ups V (fun k=>ms.getD (rp c' c'.length k) .non) (kt c' c'.length)) (fun i xs H'=>i<=kt c' c'.length/\Same H3 H'/\Rooms H' xs (ups Rm (fun k=>lr M c' (rp c' M.length k)) i)) ⟨Nat.zero_le _,Same.refl _,trivial⟩ (fun i xs H' pv=>SqL.of (pv.2.1 _ _ hF4)) ?_ ?_)
  .rintro i xs H4 v R hv ⟨_,s4,hA⟩ hR
   have hi:=lt_of_get hv
   rw[ups_len]at hi
   rw[ups_get hi]at hv
   obtain⟨r1,r2⟩:=rp_first hc hi
   have hrM:rp c' c'.length i<M.length:=by rw[<- hl];exact r1
   have hg:ms[rp c' c'.length i]?=some v:=by
    rw[<- hv,List.getD_eq_getElem?_getD,List.getElem?_eq_getElem (by rw[hml];exact hrM)];rfl
   obtain⟨p,rfl,hp⟩:=hmr _ v hg
   have s04:=s03.trans s4
   have hp4:=s04 _ _ hp
   have o:=dr_ok hO hrM
   generalize hr:rp c' c'.length i=r at *
   (try walk_at "su")
   refine at_iv_tup (SqT.of hp4) (comp_t (vs:=[oV (dr M r).1,oV (dr M r).2]) (fun j ys H'=>j<=2/\H'=H4/\ys=([oV (lr M c' r).1,oV (lr M c' r).2]).take j) ⟨Nat.zero_le _,rfl,rfl⟩ (fun j ys H' pv=>by rw[pv.2.1];exact SqT.of hp4) ?_ ?_)
   .rintro j ys H' v R2 hv2 ⟨hj,rfl,rfl⟩ hR2
    obtain⟨w,rfl,hw,hj2,ht⟩:∃w,v=oV w/\(∀e,w=some e->e<M.length)/\j<2/\([oV (lr M c' r).1,oV (lr M c' r).2]).take j++[oV (ap c' w)]=([oV (lr M c' r).1,oV (lr M c' r).2]).take (j+1):=by
     match j,hv2 with
     |0,hv2=>cases hv2;exact⟨_,rfl,o.1,by omega,rfl⟩
     |1,hv2=>cases hv2;exact⟨_,rfl,o.2,by omega,rfl⟩
     |j+2,hv2=>cases hv2
    have hyl:(([oV (lr M c' r).1,oV (lr M c' r).2]:List V).take j).length<sizeLine:=Nat.lt_of_le_of_lt (List.length_take_le' ..) (by show 2<sizeLine;decide)
    cases w with
    |none=>
     (try walk_at "su")
     exact⟨hyl,hR2 _ _ ⟨by omega,rfl,ht⟩⟩
    |some e=>
     (try walk_at "su")
     show kIfe C _ _ _ _ false H'
     (try walk_at "su")
     refine at_ixL (SqL.of (s4 _ _ hL3)) (v:=nV (cn c' e)) (atI_nat ?_) ?_
     .rw[List.getElem?_map,cn_get (by rw[hl];exact hw e rfl)];rfl
     (try walk_at "su")
     exact⟨hyl,hR2 _ _ ⟨by omega,rfl,ht⟩⟩
   .rintro ys H' ⟨_,rfl,rfl⟩ p5 hp5
    have n5:=same_new hp5 (.lst [oV (lr M c' r).1,oV (lr M c' r).2])
    (try walk_at "su")
    refine at_tupL (xs:=[oV (lr M c' r).1,oV (lr M c' r).2]) (SqL.of upd_same) fun p7 hp7=>?_
    have n7:=same_new hp7 (.tup [oV (lr M c' r).1,oV (lr M c' r).2])
    (try walk_at "su")
    refine⟨small1000 (by have:=hA.len;rw[ups_len]at this;omega),hR _ _ ⟨hi,s4.trans (n5.trans n7),?_⟩⟩
    rw[ups_succ]
    refine Rooms.snoc ⟨p7,rfl,?_⟩ (hA.mono (tp_same (n5.trans n7)))
    rw[upd_same,<- hl,hr]
  .rintro xs H4 ⟨_,s4,hA⟩ D hD
   rw[ups_len]at hA
   have n5:=same_new hD (.lst xs)
   have hD5:upd H4 D (.lst xs) D=some (.lst xs):=upd_same
   have hA5:=hA.mono (tp_same n5)
   have hL5:=n5 _ _ (s4 _ _ hL3)
   have s05:=s03.trans (s4.trans n5)
   generalize upd H4 D (.lst xs)=H5 at n5 hD5 hA5 hL5 s05 ⊢
   (try walk_at "su")
   refine at_tupL (SqL.of hD5) fun m hm=>?_
   have n6:=same_new hm (.tup xs)
   have hm6:upd H5 m (.tup xs) m=some (.tup xs):=upd_same
   have hA6:=hA5.mono (tp_same n6)
   have hL6:=n6 _ _ hL5
   have s06:=s05.trans n6
   generalize upd H5 m (.tup xs)=H6 at n6 hm6 hA6 hL6 s06 ⊢
   (try walk_at "su")
   refine⟨by show 2<=sizeLine;decide,fun p hp=>?_⟩
   have n7:=same_new hp (.tup [.ref m,.ref L])
   (try walk_at "su")
   refine q p m L c' _ hkn (s06.trans n7) hL upd_same ⟨xs,n7 _ _ hm6,?_⟩ (n7 _ _ hL6)
   have e:ls M c'=ups Rm (fun k=>lr M c' (rp c' M.length k)) (kt c' c'.length):=by unfold ls ups;rw[hl]
   rw[e]
   exact hA6.mono (tp_same n7)
noncomputable def ds:Nat->Rm->Option Nat
 |0,r=>r.1
 |_+1,r=>r.2
noncomputable def rw' (n:Nat) (T:Nat->Nat->Bool) (x:Nat):List V:=ups V (fun y=>V.bl (T x y)) n
noncomputable def off (T:Nat->Nat->Bool) (x y:Nat):Nat->Nat->Bool:=fun u v=>if u=x/\v=y then false else T u v
theorem rw_off {n:Nat} {T:Nat->Nat->Bool} {x y u:Nat}:rw' n (off T x y) u=if u=x then(rw' n T x).set y (.bl false)else rw' n T u:=by
 unfold rw'
 refine List.ext_getElem? fun i=>?_
 by_cases hi:i<n
 .rw[ups_get hi]
  by_cases hu:u=x
  .subst hu
   rw[if_pos rfl,List.getElem?_set]
   by_cases hy:y=i
   .subst hy;rw[if_pos rfl,if_pos (by rw[ups_len];exact hi)];simp[off]
   .rw[if_neg hy,ups_get hi];simp[off,Ne.symm hy]
  .rw[if_neg hu,ups_get hi];simp[off,hu]
 .rw[List.getElem?_eq_none (by rw[ups_len];omega),List.getElem?_eq_none]
  split
  .rw[List.length_set,ups_len];omega
  .rw[ups_len];omega
def TS (M:List Rm) (H:Hp) (d:Addr) (vs:List V) (T:Nat->Nat->Bool) (P:Nat->Nat->Nat->Prop) (T':Nat->Nat->Bool) (ch:Bool) (H':Hp):Prop:=
 Same H H'/\H' d=some (.lst vs)/\KI H H' vs M.length (rw' M.length T')/\(∀a b,Bs M a b->T' a b=true)/\(∀a b,a<M.length->b<M.length->T' a b=true->T a b=true)/\
 (ch=true->pc M.length T'<pc M.length T)/\(ch=false->T'=T/\∀x y s,P x y s->x<M.length->y<M.length->T x y=true->cx T (ds s (dr M x)) (ds s (dr M y))=false)
theorem TS.weak {M:List Rm} {H:Hp} {d:Addr} {vs:List V} {T T':Nat->Nat->Bool} {P R:Nat->Nat->Nat->Prop} {ch:Bool} {H':Hp} (h:TS M H d vs T P T' ch H') (k:ch=false->∀x y s,R x y s->x<M.length->y<M.length->T x y=true->P x y s\/cx T (ds s (dr M x)) (ds s (dr M y))=false):TS M H d vs T R T' ch H':=by
 obtain⟨h1,h2,h3,h4,h5,h6,h7⟩:=h
 refine⟨h1,h2,h3,h4,h5,h6,fun e=>⟨(h7 e).1,fun x y s r hx hy t=>?_⟩⟩
 rcases k e x y s r hx hy t with p|p
 .exact(h7 e).2 x y s p hx hy t
 .exact p
theorem TS.same {M:List Rm} {H:Hp} {d:Addr} {vs:List V} {T T':Nat->Nat->Bool} {P:Nat->Nat->Nat->Prop} {ch:Bool} {H' H'':Hp} (h:TS M H d vs T P T' ch H') (s:Same H' H''):TS M H d vs T P T' ch H'':=by
 obtain⟨h1,h2,h3,h4⟩:=h
 exact⟨h1.trans s,s _ _ h2,h3.keep fun e o _ h=>s _ _ h,h4⟩
theorem TS.cross {M:List Rm} {H:Hp} {d:Addr} {vs:List V} {T T':Nat->Nat->Bool} {P R:Nat->Nat->Nat->Prop} {ch:Bool} {H':Hp} (h:TS M H d vs T P T' ch H') (hdv:V.ref d∉vs) {x y s:Nat} (hx:x<M.length) (hy:y<M.length) (ht:T x y=true) (hc:cx T' (ds s (dr M x)) (ds s (dr M y))=true) {e:Addr} (he:vs[x]?=some (.ref e)):
  TS M H d vs T R (off T' x y) true (upd H' e (.lst ((rw' M.length T' x).set y (.bl false)))):=by
 obtain⟨h1,h2,h3,h4,h5,_,_⟩:=h
 have hne:e≠d:=by rintro rfl;exact hdv (List.mem_of_getElem? he)
 have hHe:H e=none:=by
  obtain⟨e',k1,k2,_⟩:=h3.2.2 x hx
  rw[he]at k1;cases k1;exact k2
 have hnb:¬Bs M x y:=by
  intro b
  obtain⟨_,_,b1,b2⟩:=bs_lk M x y b
  cases s with
  |zero=>rw[show ds 0 (dr M x)=(dr M x).1 from rfl,show ds 0 (dr M y)=(dr M y).1 from rfl,cx_keep h4 b1]at hc;cases hc
  |succ s=>rw[show ds (s+1) (dr M x)=(dr M x).2 from rfl,show ds (s+1) (dr M y)=(dr M y).2 from rfl,cx_keep h4 b2]at hc;cases hc
 have hoff:∀a b,off T' x y a b=true->T' a b=true:=by
  intro a b k
  unfold off at k
  split at k
  .cases k
  .exact k
 refine⟨same_updF h1 hHe,by rw[upd_ne (Ne.symm hne)];exact h2,?_,fun a b k=>?_,fun a b ha hb k=>h5 a b ha hb (hoff a b k),fun _=>?_,fun z=>by cases z⟩
 .refine(h3.set hx he _).congr fun u hu=>?_
  rw[rw_off]
 .unfold off
  split
  .rename_i hh
   obtain⟨rfl,rfl⟩:=hh
   exact absurd k hnb
  .exact h4 a b k
 .exact pc_lt (fun a b ha hb k=>h5 a b ha hb (hoff a b k)) hx hy ht (by simp[off])
theorem oV_none {o:Option Nat}:decide (oV o=.non)=o.isNone:=by cases o<;>rfl
theorem oV_ne {o p:Option Nat}:(!decide (oV o=oV p))=decide (o≠p):=by
 cases o with
 |none=>
  cases p with
  |none=>rfl
  |some b=>rfl
 |some a=>
  cases p with
  |none=>rfl
  |some b=>
   have e:(oV (some a)=oV (some b))↔a=b:=by
    constructor
    .intro h
     have:(a:Int)=b:=by injection h
     omega
    .rintro rfl;rfl
   simp[e]
theorem oV_scal {o p:Option Nat}:scal (oV o) (oV p)=true:=by cases o<;>cases p<;>rfl
theorem ixN_of' {n j:Nat} (h:j<n):ixN n (j:Int)=some j:=by
 unfold ixN
 rw[if_pos (by omega),if_pos (by omega)]
 simp
noncomputable def t0 (M:List Rm) (x y:Nat):Bool:=(dr M x).1.isNone == (dr M y).1.isNone
theorem t0_bs {M:List Rm} {x y:Nat} (h:Bs M x y):t0 M x y=true:=by
 obtain⟨_,_,h3,_⟩:=bs_lk M x y h
 unfold t0
 revert h3
 cases(dr M x).1<;>cases(dr M y).1<;>intro h<;>first|rfl|exact h.elim
def TB (H0 H:Hp) (d:Addr) (n:Nat) (T:Nat->Nat->Bool):Prop:=∃vs,H d=some (.lst vs)/\H0 d=none/\KI H0 H vs n (rw' n T)
def spTab:Sp:=fun vs H Q _=>∃(a:Addr) (M:List Rm),vs=[.ref a]/\IsM H a M/\OkM M/\M.length<=60/\
 ∀(d:Addr) (T:Nat->Nat->Bool) (H':Hp),(∀x y,x<M.length->y<M.length->(T x y=true↔Bs M x y))->Same H H'->TB H H' d M.length T->Q (.ref d) H'
theorem body_tab {C:Rc} (hN:C.N.length=8):∀vs H Q E,spTab vs H Q E->tSs C c_table { nx:=fun _ H'=>Q .non H',rt:=Q } (L2.start C.N vs) H:=by
 intro vs H Q E h
 obtain⟨a,M,rfl,hM,hO,hM1,q⟩:=h
 rw[start_eq hN]
 unfold c_table
 obtain⟨ms,hma,hml,hmr⟩:=room_of hM
 have room:∀x,x<M.length->∃p,ms[x]?=some (.ref p)/\H p=some (.tup [oV (dr M x).1,oV (dr M x).2]):=fun x hx=>by
  have hg:ms[x]?=some (ms[x]'(by omega)):=List.getElem?_eq_getElem _
  obtain⟨p,e,hp⟩:=hmr x _ hg
  exact⟨p,by rw[hg,e],hp⟩
 (try walk_at "su")
 refine at_lenT (SqT.of hma) ?_
 rw[hml]
 (try walk_at "su")
 refine at_r1 (by omega) (by omega) (comp_r (fun i xs H'=>i<=M.length/\Same H H'/\KI H H' xs i (rw' M.length (t0 M))) ⟨Nat.zero_le _,Same.refl _,rfl,List.nodup_nil,fun k hk=>absurd hk (Nat.not_lt_zero _)⟩ ?_ ?_)
 .rintro i xs H1 R hi ⟨_,s1,hki⟩ hR
  have hi:i<M.length:=by simpa using hi
  obtain⟨p,hp,hpt⟩:=room i hi
  rw[show(0:Int)+(i:Int)=(i:Int) by omega]
  (try walk_at "su")
  refine at_r1 (by omega) (by omega) (comp_r (fun j ys H'=>j<=M.length/\H'=H1/\ys=ups V (fun y=>V.bl (t0 M i y)) j) ⟨Nat.zero_le _,rfl,rfl⟩ ?_ ?_)
  .rintro j ys H' R2 hj ⟨_,rfl,rfl⟩ hR2
   have hj:j<M.length:=by simpa using hj
   obtain⟨p2,hp2,hpt2⟩:=room j hj
   rw[show(0:Int)+(j:Int)=(j:Int) by omega]
   (try walk_at "su")
   refine at_ixT (SqT.of (s1 _ _ hma)) (v:=.ref p) (atI_nat hp) ?_
   (try walk_at "su")
   refine at_ixT (SqT.of (s1 _ _ hpt)) (v:=oV (dr M i).1) rfl ?_
   (try walk_at "su")
   refine at_ixT (SqT.of (s1 _ _ hma)) (v:=.ref p2) (atI_nat hp2) ?_
   (try walk_at "su")
   refine at_ixT (SqT.of (s1 _ _ hpt2)) (v:=oV (dr M j).1) rfl ?_
   (try walk_at "su")
   refine⟨small1000 (by rw[ups_len];omega),hR2 _ _ ⟨hj,rfl,?_⟩⟩
   rw[ups_succ,oV_none,oV_none]
   rfl
  .rintro ys H' ⟨_,rfl,rfl⟩ e he
   rw[show(Int.toNat (M.length:Int))=M.length by omega]
   have n2:=same_new he (.lst (rw' M.length (t0 M) i))
   (try walk_at "su")
   refine⟨small1000 (by have:=hki.1;omega),hR _ _ ⟨hi,s1.trans n2,?_⟩⟩
   exact(hki.keep fun x o _ h=>n2 _ _ h).push (s1.free he) upd_same (hki.fresh he)
 .rintro xs H1 ⟨_,s1,hki⟩ d hd
  rw[show(Int.toNat (M.length:Int))=M.length by omega]at hki
  have n2:=same_new hd (.lst xs)
  have hd2:upd H1 d (.lst xs) d=some (.lst xs):=upd_same
  have hki2:=hki.keep (H'':=upd H1 d (.lst xs)) fun x o _ h=>n2 _ _ h
  have hdv:=hki.fresh hd
  have hdH:=s1.free hd
  have s2:=s1.trans n2
  generalize upd H1 d (.lst xs)=H2 at n2 hd2 hki2 s2 ⊢
  (try walk_at "su")
  refine whl_by (fun m σ H'=>∃(T:Nat->Nat->Bool) (ch:Bool) (x3 x4 x6 x7:Option V),σ=[some (.ref a),some (.int M.length),some (.ref d),x3,x4,some (.bl ch),x6,x7]/\TS M H d xs T (fun _ _ _=>False) T false H'/\(ch=false->∀x y s,x<M.length->y<M.length->T x y=true->cx T (ds s (dr M x)) (ds s (dr M y))=false)/\m=pc M.length T+(if ch then 1 else 0)) _ ⟨t0 M,true,_,_,_,_,rfl,⟨s2,hd2,hki2,fun a b h=>t0_bs h,fun _ _ _ _ h=>h,(fun z=>by cases z),fun _=>⟨rfl,fun _ _ _ z=>z.elim⟩⟩,(fun z=>by cases z),rfl⟩ ?_
  rintro m σ H3 ⟨T,ch,x3,x4,x6,x7,rfl,hts,hfix,rfl⟩
  (try walk_at "su")
  cases ch with
  |false=>
   (try walk_at "su")
   refine kWhl_f ?_
   (try walk_at "su")
   refine q d T H3 (fun x y hx hy=>tab_fin hO hts.2.2.2.1 (fun x y hx hy t=>⟨hfix rfl x y 0 hx hy t,hfix rfl x y 1 hx hy t⟩) hx hy) hts.1 ⟨xs,hts.2.1,hdH,hts.2.2.1⟩
  |true=>
   (try walk_at "su")
   refine kWhl_t ?_
   (try walk_at "su")
   refine at_r3d (by omega) (by omega) (by omega) (by omega) ?_
   rw[show((M.length:Int)-1 - -1).toNat=M.length by omega]
   refine for_c (n:=M.length) (fun t σ H'=>t<=M.length/\∃(T':Nat->Nat->Bool) (ch:Bool) (x3 x4 x6 x7:Option V),σ=[some (.ref a),some (.int M.length),some (.ref d),x3,x4,some (.bl ch),x6,x7]/\TS M H d xs T (fun x _ _=>M.length-t<=x) T' ch H') ⟨Nat.zero_le _,T,false,_,_,_,_,rfl,hts.weak fun _ x y s r hx _ _=>by omega⟩ ?_ ?_
   .rintro t σ H4 ht ⟨_,T',ch',y3,y4,y6,y7,rfl,hts4⟩
    have hxl:M.length-1-t<M.length:=by omega
    rw[show(M.length:Int)-1+(t:Int) * -1=((M.length-1-t:Nat):Int) by omega]
    have hxd:M.length-(t+1)=M.length-1-t:=by omega
    have hxd2:M.length-t=M.length-1-t+1:=by omega
    generalize M.length-1-t=x at hxl hxd hxd2 ⊢
    rw[hxd2]at hts4
    obtain⟨px,hpx,hpxt⟩:=room x hxl
    (try walk_at "su")
    refine at_r1 (by omega) (by omega) (for_r (fun u σ H'=>u<=M.length/\∃(T2:Nat->Nat->Bool) (c2:Bool) (z3 z6 z7:Option V),σ=[some (.ref a),some (.int M.length),some (.ref d),z3,some (.int x),some (.bl c2),z6,z7]/\TS M H d xs T (fun x' y' _=>x+1<=x'\/x'=x/\y'<u) T2 c2 H') ⟨Nat.zero_le _,T',ch',_,_,_,rfl,hts4.weak fun _ x' y' s r hx _ _=>.inl (by omega)⟩ ?_ ?_)
    .rintro u σ H5 hu ⟨_,T2,c2,z3,z6,z7,rfl,ht5⟩
     have hu:u<M.length:=by simpa using hu
     rw[show(0:Int)+(u:Int)=(u:Int) by omega]
     obtain⟨pu,hpu,hput⟩:=room u hu
     obtain⟨e,he,_,hel⟩:=ht5.2.2.1.2.2 x hxl
     have s5:=ht5.1
     (try walk_at "su")
     refine at_ixL (SqL.of ht5.2.1) (v:=.ref e) (atI_nat he) ?_
     (try walk_at "su")
     refine at_ixL (SqL.of hel) (v:=.bl (T2 x u)) (atI_nat (ups_get hu)) ?_
     (try walk_at "su")
     cases hT2:T2 x u with
     |false=>
      (try walk_at "su")
      refine⟨hu,T2,c2,_,_,_,rfl,ht5.weak fun ce x' y' s' r hx' hy' tt=>?_⟩
      have eT:=(ht5.2.2.2.2.2.2 ce).1
      rcases r with r|⟨rfl,r⟩
      .exact .inl (.inl r)
      .by_cases hyu:y'=u
       .subst hyu
        rw[<- eT,hT2]at tt
        cases tt
       .exact .inl (.inr ⟨rfl,by omega⟩)
     |true=>
      have htT:T x u=true:=ht5.2.2.2.2.1 x u hxl hu hT2
      (try walk_at "su")
      refine at_ixT (SqT.of (s5 _ _ hma)) (v:=.ref px) (atI_nat hpx) ?_
      (try walk_at "su")
      refine at_ixT (SqT.of (s5 _ _ hma)) (v:=.ref pu) (atI_nat hpu) ?_
      (try walk_at "su")
      refine at_zipT (SqT.of (s5 _ _ hpxt)) (SqT.of (s5 _ _ hput)) (for_z (k:=true) (j:=true) (xs:=[oV (dr M x).1,oV (dr M x).2]) (ys:=[oV (dr M u).1,oV (dr M u).2]) rfl (fun s σ H'=>s<=2/\∃(T3:Nat->Nat->Bool) (c3:Bool) (w6 w7:Option V),σ=[some (.ref a),some (.int M.length),some (.ref d),some (.int u),some (.int x),some (.bl c3),w6,w7]/\TS M H d xs T (fun x' y' s'=>(x+1<=x'\/x'=x/\y'<u)\/x'=x/\y'=u/\s'<s) T3 c3 H') ⟨Nat.zero_le _,T2,c2,_,_,rfl,ht5.weak fun _ x' y' s' r _ _ _=>.inl (by rcases r with r|⟨_,_,r⟩;exact r;omega)⟩ (fun i σ H' _ pv=>by
       obtain⟨_,T3,c3,w6,w7,_,h⟩:=pv
       exact⟨SqT.of (h.1 _ _ hpxt),SqT.of (h.1 _ _ hput)⟩) ?_ ?_)
      .rintro s v w σ H6 p hv hw hp ⟨_,T3,c3,w6,w7,rfl,ht6⟩
       have hs:s<2:=lt_of_get hv
       have ev:v=oV (ds s (dr M x)):=by
        match s,hv with
        |0,hv=>cases hv;rfl
        |1,hv=>cases hv;rfl
        |s+2,hv=>cases hv
       have ew:w=oV (ds s (dr M u)):=by
        match s,hw with
        |0,hw=>cases hw;rfl
        |1,hw=>cases hw;rfl
        |s+2,hw=>cases hw
       subst ev ew
       have ox:∀n,ds s (dr M x)=some n->n<M.length:=by
        have o:=dr_ok hO hxl
        cases s with
        |zero=>exact o.1
        |succ s=>exact o.2
       have ou:∀n,ds s (dr M u)=some n->n<M.length:=by
        have o:=dr_ok hO hu
        cases s with
        |zero=>exact o.1
        |succ s=>exact o.2
       have n7:=same_new hp (.tup [oV (ds s (dr M x)),oV (ds s (dr M u))])
       have ht7:=ht6.same n7
       have hp7:upd H6 p (.tup [oV (ds s (dr M x)),oV (ds s (dr M u))]) p=some (.tup [oV (ds s (dr M x)),oV (ds s (dr M u))]):=upd_same
       generalize upd H6 p (.tup [oV (ds s (dr M x)),oV (ds s (dr M u))])=H7 at n7 ht7 hp7 ⊢
       have row7:∀y,y<M.length->∃e,xs[y]?=some (.ref e)/\H7 e=some (.lst (rw' M.length T3 y)):=fun y hy=>let⟨e,h1,_,h3⟩:=ht7.2.2.1.2.2 y hy;⟨e,h1,h3⟩
       refine g_tup2 (SqT.of hp7) ?_
       (try walk_at "su")
       generalize hK:kIf C _ _ _ _=K0
       have main:K0 (cx T3 (ds s (dr M x)) (ds s (dr M u))) H7:=by
        rw[<- hK]
        cases hcx:cx T3 (ds s (dr M x)) (ds s (dr M u))with
        |false=>
         (try walk_at "su")
         refine⟨hs,T3,c3,_,_,rfl,ht7.weak fun ce x' y' s' r _ _ _=>?_⟩
         have eT:=(ht7.2.2.2.2.2.2 ce).1
         rcases r with r|⟨rfl,rfl,r⟩
         .exact .inl (.inl r)
         .by_cases hss:s'=s
          .subst hss
           rw[eT]at hcx
           exact .inr hcx
          .exact .inl (.inr ⟨rfl,rfl,by omega⟩)
        |true=>
         obtain⟨e7,he7,hel7⟩:=row7 x hxl
         (try walk_at "su")
         refine at_ixL (SqL.of ht7.2.1) (v:=.ref e7) (atI_nat he7) ?_
         (try walk_at "su")
         refine⟨e7,_,(u:Int),u,rfl,rfl,hel7,ixN_of' (by unfold rw';rw[ups_len];exact hu),?_⟩
         (try walk_at "su")
         exact⟨hs,off T3 x u,true,_,_,rfl,ht7.cross hdv hxl hu htT hcx he7⟩
       rw[c_neV oV_scal,oV_ne]
       by_cases hne:ds s (dr M x)=ds s (dr M u)
       .rw[decide_eq_false (fun z=>z hne)]
        (try walk_at "su")
        have e0:cx T3 (ds s (dr M x)) (ds s (dr M u))=false:=by unfold cx;rw[decide_eq_false (fun z=>z hne)];rfl
        rw[<- e0]
        exact main
       .rw[decide_eq_true hne]
        have e0:cx T3 (ds s (dr M x)) (ds s (dr M u))=((ds s (dr M x)).isNone || ((ds s (dr M u)).isNone || !T3 ((ds s (dr M x)).getD 0) ((ds s (dr M u)).getD 0))):=by unfold cx;rw[decide_eq_true hne,Bool.true_and]
        rw[e0]at main
        cases h1:ds s (dr M x)with
        |none=>
         rw[h1]at main
         (try walk_at "su")
         exact main
        |some e1=>
         cases h2:ds s (dr M u)with
         |none=>
          rw[h1,h2]at main
          (try walk_at "su")
          show kOrQ C _ _ _ false H7
          (try walk_at "su")
          exact main
         |some e2=>
          rw[h1,h2]at main
          obtain⟨e3,he3,hel3⟩:=row7 e1 (ox e1 h1)
          (try walk_at "su")
          show kOrQ C _ _ _ false H7
          (try walk_at "su")
          show kOrQ C _ _ _ false H7
          (try walk_at "su")
          refine at_ixL (SqL.of ht7.2.1) (v:=.ref e3) (atI_nat he3) ?_
          (try walk_at "su")
          refine at_ixL (SqL.of hel3) (v:=.bl (T3 e1 e2)) (atI_nat (ups_get (ou e2 h2))) ?_
          (try walk_at "su")
          exact main
      .rintro σ H6 ⟨_,T3,c3,w6,w7,rfl,ht6⟩
       (try walk_at "su")
       refine⟨hu,T3,c3,_,_,_,rfl,ht6.weak fun ce x' y' s' r hx' hy' tt=>?_⟩
       rcases r with r|⟨rfl,r⟩
       .exact .inl (.inl (.inl r))
       .by_cases hyu:y'=u
        .subst hyu
         match s' with
         |0=>exact .inl (.inr ⟨rfl,rfl,(by show 0<2;decide)⟩)
         |1=>exact .inl (.inr ⟨rfl,rfl,(by show 1<2;decide)⟩)
         |s'+2=>exact .inr ((ht6.2.2.2.2.2.2 ce).2 x' y' 1 (.inr ⟨rfl,rfl,(by show 1<2;decide)⟩) hx' hy' tt)
        .exact .inl (.inl (.inr ⟨rfl,by omega⟩))
    .rintro σ H5 ⟨_,T2,c2,z3,z6,z7,rfl,ht5⟩
     rw[show(Int.toNat (M.length:Int))=M.length by omega]at ht5
     (try walk_at "su")
     refine⟨ht,T2,c2,_,_,_,_,rfl,ht5.weak fun _ x' y' s' r hx' hy' _=>.inl ?_⟩
     by_cases hxx:x'=x
     .exact .inr ⟨hxx,hy'⟩
     .exact .inl (by omega)
   .rintro σ H4 ⟨_,T',ch',y3,y4,y6,y7,rfl,ht4⟩
    (try walk_at "su")
    obtain⟨k1,k2,k3,k4,k5,k6,k7⟩:=ht4
    refine⟨pc M.length T'+(if ch' then 1 else 0),?_,T',ch',_,_,_,_,rfl,⟨k1,k2,k3,k4,fun _ _ _ _ h=>h,(fun z=>by cases z),fun _=>⟨rfl,fun _ _ _ z=>z.elim⟩⟩,fun ce x y s hx hy t=>?_,rfl⟩
    .cases ch' with
     |true=>have:=k6 rfl;simp;omega
     |false=>rw[(k7 rfl).1];simp
    .have k8:=k7 ce
     rw[k8.1]at t ⊢
     exact k8.2 x y s (by omega) hx hy t
def spDue:Sp:=fun vs H Q _=>∃(a:Addr) (M:List Rm),vs=[.ref a]/\IsM H a M/\OkM M/\M.length<=60/\
 ∀(l:Addr) (c:List Nat) (H':Hp),KN M c->Same H H'->KL H H' l (kinds c)->Q (.ref l) H'
theorem body_due {C:Rc} (hN:C.N.length=6) (hF:C.fs "_law_table"=some spTab):∀vs H Q E,spDue vs H Q E->tSs C c_due { nx:=fun _ H'=>Q .non H',rt:=Q } (L2.start C.N vs) H:=by
 intro vs H Q E h
 obtain⟨a,M,rfl,hM,hO,hM1,q⟩:=h
 rw[start_eq hN]
 unfold c_due
 obtain⟨ms,hma,hml,hmr⟩:=room_of hM
 obtain⟨c,hkn⟩:=kn_ex hO
 obtain⟨hl,hc,hker⟩:=id hkn
 (try walk_at "su")
 refine call_e hF ?_
 (try walk_at "su")
 refine⟨a,M,rfl,hM,hO,hM1,fun d T H1 hT s1 htb=>?_⟩
 obtain⟨xs,hd1,hdH,hki1⟩:=htb
 have hTc:∀x y,x<M.length->y<M.length->T x y=decide (cn c x=cn c y):=fun x y hx hy=>by
  have e:=(hT x y hx hy).trans (hker x y hx hy).symm
  by_cases hh:cn c x=cn c y
  .rw[decide_eq_true hh];exact e.mpr hh
  .rw[decide_eq_false hh]
   cases hh2:T x y
   .rfl
   .exact absurd (e.mp hh2) hh
 (try walk_at "su")
 refine⟨by show 0<=sizeLine;decide,fun F hF2=>?_⟩
 have n2:=same_new hF2 (.lst [])
 have hF3:upd H1 F (.lst []) F=some (.lst []):=upd_same
 have hFH:=s1.free hF2
 have s2:=s1.trans n2
 have hd2:=n2 _ _ hd1
 have hki2:=hki1.keep (H'':=upd H1 F (.lst [])) fun x o _ h=>n2 _ _ h
 generalize upd H1 F (.lst [])=H2 at n2 hF3 s2 hd2 hki2 ⊢
 have hdF:d≠F:=fun z=>by subst z;rw[hd1]at hF2;cases hF2
 have rowF:∀e o,H1 e=some o->e≠F:=fun e o h z=>by subst z;rw[h]at hF2;cases hF2
 have nF:∀e,H2 e=none->e≠F:=fun e he z=>by subst z;rw[he]at hF3;cases hF3
 have haF:∀x o,H x=some o->x≠F:=fun x o h z=>by subst z;rw[h]at hFH;cases hFH
 (try walk_at "su")
 refine at_lenT (SqT.of (s2 _ _ hma)) ?_
 rw[hml]
 (try walk_at "su")
 refine at_r1 (by omega) (by omega) (for_r (fun i σ H'=>i<=M.length/\(∃x3 x4 x5,σ=[some (.ref a),some (.ref d),some (.ref F),x3,x4,x5])/\Sb F H2 H'/\∃vs,H' F=some (.lst vs)/\KI H2 H' vs (kt c i) (fun k=>(cl c M.length k).map nV)) ⟨Nat.zero_le _,⟨_,_,_,rfl⟩,fun x o n e=>e,[],hF3,rfl,List.nodup_nil,fun k hk=>absurd hk (Nat.not_lt_zero _)⟩ ?_ ?_)
 .rintro i σ H3 hi ⟨_,⟨x3,x4,x5,rfl⟩,sb3,us,hF4,hki⟩
  have hi:i<M.length:=by simpa using hi
  rw[show(0:Int)+(i:Int)=(i:Int) by omega]
  obtain⟨e,he,_,hel⟩:=hki1.2.2 i hi
  have hel3:=sb3 _ _ (rowF e _ hel) (n2 _ _ hel)
  have hd3:=sb3 _ _ hdF hd2
  have hma3:=sb3 _ _ (haF _ _ hma) (s2 _ _ hma)
  have hge:=kt_ge hc (a:=i) (by omega)
  have hle:=kt_le hc (a:=i) (by omega)
  (try walk_at "su")
  refine at_lenT (SqT.of hma3) ?_
  rw[hml]
  (try walk_at "su")
  refine at_r1 (by omega) (by omega) (comp_r (fun j ys H'=>j<=M.length/\H'=H3/\ys=(cl c j (cn c i)).map nV) ⟨Nat.zero_le _,rfl,rfl⟩ ?_ ?_)
  .rintro j ys H' R2 hj ⟨_,rfl,rfl⟩ hR2
   have hj:j<M.length:=by simpa using hj
   rw[show(0:Int)+(j:Int)=(j:Int) by omega]
   have hcl:=cl_len (c:=c) (n:=j) (k:=cn c i)
   (try walk_at "su")
   refine at_ixL (SqL.of hd3) (v:=.ref e) (atI_nat he) ?_
   (try walk_at "su")
   refine at_ixL (SqL.of hel3) (v:=.bl (T i j)) (atI_nat (ups_get hj)) ?_
   rw[hTc i j hi hj]
   by_cases hh:cn c i=cn c j
   .rw[decide_eq_true hh]
    (try walk_at "su")
    refine⟨small1000 (by rw[List.length_map];omega),hR2 _ _ ⟨hj,rfl,?_⟩⟩
    rw[cl_succ,if_pos hh.symm,List.map_append]
    rfl
   .rw[decide_eq_false hh]
    (try walk_at "su")
    refine hR2 _ _ ⟨hj,rfl,?_⟩
    rw[cl_succ,if_neg (Ne.symm hh),List.append_nil]
  .rintro ys H' ⟨_,rfl,rfl⟩ g hg
   rw[show(Int.toNat (M.length:Int))=M.length by omega]
   have n5:=same_new hg (.lst ((cl c M.length (cn c i)).map nV))
   have hg5:upd H' g (.lst ((cl c M.length (cn c i)).map nV)) g=some (.lst ((cl c M.length (cn c i)).map nV)):=upd_same
   have hgF:g≠F:=fun z=>by subst z;rw[hF4]at hg;cases hg
   have h2g:H2 g=none:=by
    cases h:H2 g with
    |none=>rfl
    |some o=>rw[sb3 g o hgF h]at hg;cases hg
   have hF5:=n5 _ _ hF4
   have sb5:=sb3.same n5
   have hki5:=hki.keep (H'':=upd H' g (.lst ((cl c M.length (cn c i)).map nV))) fun x o _ h=>n5 _ _ h
   have hgn:=hki.fresh hg
   generalize upd H' g (.lst ((cl c M.length (cn c i)).map nV))=H5 at n5 hg5 hF5 sb5 hki5 ⊢
   obtain⟨r1,r2,r3⟩:=rp_is (c:=c) hi
   have hlen:=hki.1
   (try walk_at "su")
   refine at_ixL (SqL.of hg5) (v:=nV (rp c M.length (cn c i))) (atI_nat (j:=0) (by rw[List.getElem?_map,r3];rfl)) ?_
   (try walk_at "su")
   show rCmp C.K .Eq (.int ((rp c M.length (cn c i):Nat):Int)) _ H5 _
   rw[c_eq]
   by_cases hnew:cn c i=kt c i
   .have hr:rp c M.length (cn c i)=i:=(rp_new hc hl.symm hi).mpr hnew
    rw[decide_eq_true (show((rp c M.length (cn c i):Nat):Int)=(i:Int) by omega)]
    (try walk_at "su")
    refine⟨tyL hF5 rfl,?_⟩
    (try walk_at "su")
    refine at_app hF5 (small1000 (by omega)) ?_
    (try walk_at "su")
    refine⟨hi,⟨_,_,_,rfl⟩,sb5.upd (.inl rfl),_,upd_same,?_⟩
    rw[kt_new hnew]
    refine(hki5.keep fun x o h2 h=>by rw[upd_ne (nF x h2)];exact h).push h2g ?_ hgn
    rw[upd_ne hgF,hg5,hnew]
   .have hr:rp c M.length (cn c i)≠i:=fun z=>hnew ((rp_new hc hl.symm hi).mp z)
    rw[decide_eq_false (show ¬((rp c M.length (cn c i):Nat):Int)=(i:Int) by omega)]
    (try walk_at "su")
    refine⟨hi,⟨_,_,_,rfl⟩,sb5,us,hF5,?_⟩
    rw[kt_old (by omega)]
    exact hki5
 .rintro σ H3 ⟨_,⟨x3,x4,x5,rfl⟩,sb3,us,hF4,hki⟩
  rw[show(Int.toNat (M.length:Int))=M.length by omega]at hki
  (try walk_at "su")
  have s03:Same H H3:=fun x o h=>sb3 x o (haF x o h) (s2 _ _ h)
  refine q F c H3 hkn s03 ⟨us,hF4,hFH,?_,fun m=>?_⟩
  .rw[kinds_len,hl]
   have:KI H H3 us (kt c M.length) (fun k=>(cl c M.length k).map nV):=⟨hki.1,hki.2.1,fun k hk=>let⟨e,h1,h2,h3⟩:=hki.2.2 k hk;⟨e,h1,s2.free h2,h3⟩⟩
   exact this.congr fun k hk=>by rw[kinds_getD (by rw[hl];exact hk),hl]
  .obtain⟨j,hj,ej⟩:=List.getElem_of_mem m
   obtain⟨e,h1,h2,_⟩:=hki.2.2 j (by rw[<- hki.1];exact hj)
   rw[List.getElem?_eq_getElem hj,ej]at h1
   cases h1
   exact nF _ h2 rfl
theorem eqV_nV {x y:Nat}:eqV (nV x) (nV y)=decide (x=y):=by
 unfold nV
 show((x:Int) == (y:Int))=_
 by_cases h:x=y
 .subst h;simp
 .rw[decide_eq_false h,beq_eq_false_iff_ne]
  omega
theorem inV_nV {x:Nat}:∀{bs:List Nat},inV (nV x) (bs.map nV)=decide (x∈bs)
 | []=>rfl
 |b :: bs=>by
  have ih:=inV_nV (x:=x) (bs:=bs)
  unfold inV at ih ⊢
  rw[List.map_cons,List.any_cons,ih,eqV_nV]
  by_cases h:b=x
  .subst h;simp
  .have h':¬x=b:=fun z=>h z.symm
   simp[h,h']
theorem flat_nV {bs:List Nat}:(bs.map nV).all flatV=true:=by
 rw[List.all_eq_true]
 intro v hv
 obtain⟨n,_,rfl⟩:=List.mem_map.mp hv
 rfl
theorem at_idxB {K:W.Frag} {H:Hp} {Q:VK} {p:Addr} {bs:List Bool} {b:Bool} {j:Nat} (h:SqL K H p (bs.map V.bl)) (hj:bs[j]?=some b) (hf:∀k,k<j->bs[k]?≠some b) (q:Q (.int j) H):rMet K .indexL (.ref p) [.bl b] H Q:=by
 refine⟨p,bs.map V.bl,.bl b,j,rfl,rfl,h,fun z hz=>?_,?_,?_,q⟩
 .obtain⟨c,_,rfl⟩:=List.mem_map.mp hz
  exact⟨rfl,fun _ z=>by cases z⟩
 .rw[List.getElem?_map,hj];rfl
 .intro k hk z
  rw[List.getElem?_map]at z
  cases e:bs[k]? with
  |none=>rw[e]at z;cases z
  |some c=>rw[e]at z;cases z;exact hf k hk e
def DL (H:Hp) (D:Addr) (L:List (List Nat)):Prop:=∃vs,H D=some (.lst vs)/\vs.length=L.length/\∀k v,vs[k]?=some v->∃e,v=.ref e/\H e=some (.lst ((L.getD k []).map nV))
theorem DL.mono {H H':Hp} (s:Same H H') {D:Addr} {L:List (List Nat)} (h:DL H D L):DL H' D L:=by
 obtain⟨vs,h1,h2,h3⟩:=h
 exact⟨vs,s _ _ h1,h2,fun k v hv=>let⟨e,q1,q2⟩:=h3 k v hv;⟨e,q1,s _ _ q2⟩⟩
theorem KL.dl {H0 H:Hp} {D:Addr} {L:List (List Nat)} (h:KL H0 H D L):DL H D L:=by
 obtain⟨vs,h1,_,h3,_⟩:=h
 refine⟨vs,h1,h3.1,fun k v hv=>?_⟩
 have hk:=lt_of_get hv
 rw[h3.1]at hk
 obtain⟨e,k1,_,k3⟩:=h3.2.2 k hk
 rw[hv]at k1
 exact⟨e,Option.some.inj k1,k3⟩
theorem eqv_nums {H:Hp} {n:Nat} {a b:Addr} {ns:List Nat} (hn:ns.length<=100) (h1:H a=some (.lst (ns.map nV))) (h2:H b=some (.lst (ns.map nV))):Eqv H (n+1) (.ref a) (.ref b):=by
 refine .inr ⟨a,b,_,_,rfl,rfl,.inl ⟨h1,h2⟩,Nat.le_of_lt (small1000 (by rw[List.length_map];omega)),rfl,fun i x y hx hy=>?_⟩
 rw[hx]at hy
 cases hy
 rw[List.getElem?_map]at hx
 obtain⟨m,_,rfl⟩:=Option.map_eq_some_iff.mp hx
 exact Eqv.int
theorem eqv_dl {H:Hp} {a b:Addr} {L:List (List Nat)} (hL:L.length<=100) (hE:∀k,(L.getD k []).length<=100) (h1:DL H a L) (h2:DL H b L):Eqv H 3 (.ref a) (.ref b):=by
 obtain⟨vs,v1,v2,v3⟩:=h1
 obtain⟨ws,w1,w2,w3⟩:=h2
 refine .inr ⟨a,b,vs,ws,rfl,rfl,.inl ⟨v1,w1⟩,Nat.le_of_lt (small1000 (by omega)),by omega,fun i x y hx hy=>?_⟩
 obtain⟨e,rfl,he⟩:=v3 i x hx
 obtain⟨f,rfl,hf⟩:=w3 i y hy
 exact eqv_nums (hE i) he hf
theorem eqv_oV {H:Hp} {n:Nat} {o:Option Nat}:Eqv H n (oV o) (oV o):=by
 cases o with
 |none=>exact Eqv.non
 |some m=>exact Eqv.int
theorem eqv_m {H:Hp} {a b:Addr} {N:List Rm} (hN:N.length<=100) (h1:IsM H a N) (h2:IsM H b N):Eqv H 2 (.ref a) (.ref b):=by
 obtain⟨vs,v1,v2,v3⟩:=room_of h1
 obtain⟨ws,w1,w2,w3⟩:=room_of h2
 refine .inr ⟨a,b,vs,ws,rfl,rfl,.inr ⟨v1,w1⟩,Nat.le_of_lt (small1000 (by omega)),by omega,fun i x y hx hy=>?_⟩
 obtain⟨e,rfl,he⟩:=v3 i x hx
 obtain⟨f,rfl,hf⟩:=w3 i y hy
 refine .inr ⟨e,f,_,_,rfl,rfl,.inr ⟨he,hf⟩,(by show 2<=sizeLine;decide),rfl,fun j x y hx hy=>?_⟩
 rw[hx]at hy
 cases hy
 match j,hx with
 |0,hx=>cases hx;exact eqv_oV
 |1,hx=>cases hx;exact eqv_oV
 |j+2,hx=>cases hx
theorem eqv_pair {H:Hp} {p p' m m' l l':Addr} {N:List Rm} {c:List Nat} (hN:N.length<=100) (hc:c.length<=100) (h1:H p=some (.tup [.ref m,.ref l])) (h2:H p'=some (.tup [.ref m',.ref l'])) (hm:IsM H m N) (hm':IsM H m' N) (hl:H l=some (.lst (c.map nV))) (hl':H l'=some (.lst (c.map nV))):Eqv H 3 (.ref p) (.ref p'):=by
 refine .inr ⟨p,p',_,_,rfl,rfl,.inr ⟨h1,h2⟩,(by show 2<=sizeLine;decide),rfl,fun j x y hx hy=>?_⟩
 match j,hx,hy with
 |0,hx,hy=>cases hx;cases hy;exact eqv_m hN hm hm'
 |1,hx,hy=>cases hx;cases hy;exact eqv_nums hc hl hl'
 |j+2,hx,_=>cases hx
theorem kinds_each {c:List Nat} (hc:c.length<=100) (k:Nat):((kinds c).getD k []).length<=100:=by
 unfold kinds
 rw[List.getD_eq_getElem?_getD,List.getElem?_map]
 cases h:(List.range (kt c c.length))[k]? with
 |none=>exact Nat.zero_le _
 |some i=>exact Nat.le_trans cl_len hc
def spRight:Sp:=fun vs H Q _=>∃(a:Addr) (M:List Rm),vs=[.ref a]/\IsM H a M/\OkM M/\1<=M.length/\M.length<=60/\∀H',Same H H'->Q (.bl true) H'
structure FsRight (C:Rc):Prop where
 due:C.fs "_law_due"=some spDue
 same:C.fs "_law_same"=some (spSame 3)
 ki:C.fs "kinds"=some spKi
 ls:C.fs "lessened"=some spLs
def RC (M:List Rm) (c:List Nat) (a D N W:Addr) (ws:List V) (H:Hp):Prop:=IsM H a M/\DL H D (kinds c)/\H N=some (.lst (c.map nV))/\H W=some (.lst ws)/\Rooms H ws (ls M c)
theorem RC.mono {M:List Rm} {c:List Nat} {a D N W:Addr} {ws:List V} {H H':Hp} (s:Same H H') (h:RC M c a D N W ws H):RC M c a D N W ws H':=
 ⟨h.1.mono (tp_same s),h.2.1.mono s,s _ _ h.2.2.1,s _ _ h.2.2.2.1,h.2.2.2.2.mono (tp_same s)⟩
theorem less_same {C:Rc} (F:FsRight C) {M:List Rm} {c:List Nat} {a D N W:Addr} {ws:List V} {H:Hp} {Q:VK} {x3 x4 x6 x7:Option V} (hkn:KN M c) (hO:OkM M) (hM1:M.length<=60) (h:RC M c a D N W ws H) (q:∀H',Same H H'->Q (.bl true) H'):
  tE C (.call "_law_same" (.cons (.call "lessened" (.cons (.var 0) .nil)) (.cons (.tup (.cons (.blt .tuple (.cons (.var 5) .nil)) (.cons (.var 2) .nil))) .nil))) [some (.ref a),some (.ref D),some (.ref N),x3,x4,some (.ref W),x6,x7] H Q:=by
 obtain⟨h1,h2,h3,h4,h5⟩:=h
 have hle:=kt_le hkn.2.1 (a:=M.length) (by rw[hkn.1];omega)
 have hl:=hkn.1
 have hLs:(ls M c).length<=60:=by rw[ls_len];omega
 refine call_e F.same ?_
 (try walk_at "su")
 refine call_e F.ls ?_
 (try walk_at "su")
 refine⟨a,M,rfl,h1,hO,hM1,fun p m l c' H1 hkn' s1 hlH hp hm hl'=>?_⟩
 have ec:=hkn.uniq hkn'
 subst ec
 (try walk_at "su")
 refine at_tupL (SqL.of (s1 _ _ h4)) fun m2 hm2=>?_
 have n2:=same_new hm2 (.tup ws)
 have hm3:upd H1 m2 (.tup ws) m2=some (.tup ws):=upd_same
 generalize upd H1 m2 (.tup ws)=H2 at n2 hm3 ⊢
 (try walk_at "su")
 refine⟨by show 2<=sizeLine;decide,fun p2 hp2=>?_⟩
 have n3:=same_new hp2 (.tup [.ref m2,.ref N])
 have s13:=n2.trans n3
 have s03:=s1.trans s13
 (try walk_at "su")
 refine⟨_,_,rfl,eqv_pair (N:=ls M c) (c:=c) (by omega) (by omega) (s13 _ _ hp) upd_same (hm.mono (tp_same s13)) ⟨ws,n3 _ _ hm3,h5.mono (tp_same s03)⟩ (s13 _ _ hl') (s03 _ _ h3),fun H' s'=>?_⟩
 (try walk_at "su")
 exact q _ (s03.trans s')
theorem body_right {C:Rc} (hN:C.N.length=8) (F:FsRight C):∀vs H Q E,spRight vs H Q E->tSs C c_right { nx:=fun _ H'=>Q .non H',rt:=Q } (L2.start C.N vs) H:=by
 intro vs H Q E h
 obtain⟨a,M,rfl,hM,hO,hM0,hM1,q⟩:=h
 rw[start_eq hN]
 unfold c_right
 obtain⟨ms,hma,hml,hmr⟩:=room_of hM
 (try walk_at "su")
 refine call_e F.due ?_
 (try walk_at "su")
 refine⟨a,M,rfl,hM,hO,hM1,fun D c H1 hkn s1 hkl=>?_⟩
 obtain⟨hl,hc,hker⟩:=id hkn
 have hdl:=hkl.dl
 obtain⟨ds',hD1,hDl,hDe⟩:=id hdl
 have hdl1:=hdl
 rw[kinds_len,hl]at hDl
 have hle:=kt_le hc (a:=M.length) (by omega)
 have hel:∀k v,ds'[k]?=some v->∃e,v=.ref e/\H1 e=some (.lst ((cl c M.length k).map nV)):=fun k v hv=>by
  obtain⟨e,h1,h2⟩:=hDe k v hv
  have hk:=lt_of_get hv
  rw[kinds_getD (by rw[hl];omega),hl]at h2
  exact⟨e,h1,h2⟩
 (try walk_at "su")
 refine at_lenT (SqT.of (s1 _ _ hma)) ?_
 rw[hml]
 (try walk_at "su")
 refine at_r1 (by omega) (by omega) (comp_r (fun i xs H'=>i<=M.length/\Same H1 H'/\xs=(c.take i).map nV) ⟨Nat.zero_le _,Same.refl _,rfl⟩ ?_ ?_)
 .rintro i xs H2 R hi ⟨_,s2,rfl⟩ hR
  have hi:i<M.length:=by simpa using hi
  rw[show(0:Int)+(i:Int)=(i:Int) by omega]
  (try walk_at "su")
  refine at_iv_lst (SqL.of (s2 _ _ hD1)) (comp_l (vs:=ds') (fun j ys H'=>j<=ds'.length/\H'=H2/\ys=ups V (fun k=>V.bl (decide (cn c i=k))) j) ⟨Nat.zero_le _,rfl,rfl⟩ (fun j ys H' pv=>by rw[pv.2.1];exact SqL.of (s2 _ _ hD1)) ?_ ?_)
  .rintro j ys H' v R2 hv ⟨_,rfl,rfl⟩ hR2
   have hj:=lt_of_get hv
   obtain⟨e,rfl,he⟩:=hel j v hv
   (try walk_at "su")
   refine⟨e,_,rfl,.inl (SqL.of (s2 _ _ he)),rfl,flat_nV,?_⟩
   (try walk_at "su")
   refine⟨small1000 (by rw[ups_len];omega),hR2 _ _ ⟨hj,rfl,?_⟩⟩
   rw[ups_succ]
   have e1:inV (.int (i:Int)) ((cl c M.length j).map nV)=decide (cn c i=j):=by
    have:=inV_nV (x:=i) (bs:=cl c M.length j)
    rw[show(V.int (i:Int))=nV i from rfl,this]
    by_cases hh:cn c i=j
    .rw[decide_eq_true hh,decide_eq_true (mem_cl.mpr ⟨hi,hh⟩)]
    .rw[decide_eq_false hh,decide_eq_false (fun z=>hh (mem_cl.mp z).2)]
   rw[e1]
   rfl
  .rintro ys H' ⟨_,rfl,rfl⟩ g hg
   have n3:=same_new hg (.lst (ups V (fun k=>V.bl (decide (cn c i=k))) ds'.length))
   (try walk_at "su")
   refine⟨tyL upd_same rfl,?_⟩
   (try walk_at "su")
   have hbs:ups V (fun k=>V.bl (decide (cn c i=k))) ds'.length=(ups Bool (fun k=>decide (cn c i=k)) ds'.length).map V.bl:=by unfold ups;rw[List.map_map];rfl
   have hck:cn c i<ds'.length:=by rw[hDl];exact kt_lt hi
   refine at_idxB (bs:=ups Bool (fun k=>decide (cn c i=k)) ds'.length) (j:=cn c i) (by rw[<- hbs];exact SqL.of upd_same) (by rw[ups_get hck];simp) (fun k hk z=>by rw[ups_get (by omega)]at z;simp at z;omega) ?_
   (try walk_at "su")
   refine⟨small1000 (by rw[List.length_map,List.length_take];omega),hR _ _ ⟨hi,s2.trans n3,?_⟩⟩
   rw[List.take_succ,cn_get (by omega),List.map_append]
   rfl
 .rintro xs H2 ⟨_,s2,rfl⟩ N hN2
  rw[show(Int.toNat (M.length:Int))=M.length by omega,<- hl,List.take_length]
  have n3:=same_new hN2 (.lst (c.map nV))
  have hN3:upd H2 N (.lst (c.map nV)) N=some (.lst (c.map nV)):=upd_same
  have s13:=s2.trans n3
  generalize upd H2 N (.lst (c.map nV))=H3 at n3 hN3 s13 ⊢
  have s03:=s1.trans s13
  (try walk_at "su")
  refine⟨by show 0<=sizeLine;decide,fun W hW=>?_⟩
  have n4:=same_new hW (.lst [])
  have hW4:upd H3 W (.lst []) W=some (.lst []):=upd_same
  generalize upd H3 W (.lst [])=H4 at n4 hW4 ⊢
  have nW:∀x o,H3 x=some o->x≠W:=fun x o h z=>by subst z;rw[h]at hW;cases hW
  (try walk_at "su")
  refine at_iv_lst (SqL.of (n4 _ _ (s13 _ _ hD1))) (for_l (xs:=ds') (fun i σ H'=>(∃x3 x4 x6,σ=[some (.ref a),some (.ref D),some (.ref N),x3,x4,some (.ref W),x6,none])/\Sb W H4 H'/\∃xs,H' W=some (.lst xs)/\Rooms H' xs (ups Rm (fun k=>lr M c (rp c M.length k)) i)) ⟨⟨_,_,_,rfl⟩,fun x o n e=>e,[],hW4,trivial⟩ (fun i σ H' _ pv=>SqL.of (pv.2.1 _ _ (nW _ _ (s13 _ _ hD1)) (n4 _ _ (s13 _ _ hD1)))) ?_ ?_)
  .rintro i v σ H5 hv ⟨⟨x3,x4,x6,rfl⟩,sb5,xs,hW5,hA⟩
   have hi:=lt_of_get hv
   obtain⟨e,rfl,he⟩:=hel i v hv
   have up5:∀x o,H3 x=some o->H5 x=some o:=fun x o h=>sb5 x o (nW x o h) (n4 _ _ h)
   have he5:=up5 _ _ (s13 _ _ he)
   obtain⟨r1,r2⟩:=rp_first hc (k:=i) (by rw[hl];omega)
   rw[hl]at r1 r2
   have hxl:=hA.len
   rw[ups_len]at hxl
   generalize hr:rp c M.length i=r at r1 r2
   have hg:ms[r]?=some (ms[r]'(by omega)):=List.getElem?_eq_getElem _
   obtain⟨p,ep,hp⟩:=hmr r _ hg
   rw[ep]at hg
   have hp5:=up5 _ _ (s03 _ _ hp)
   have o:=dr_ok hO r1
   (try walk_at "su")
   refine⟨tyL hW5 rfl,?_⟩
   (try walk_at "su")
   refine at_ixL (SqL.of he5) (v:=nV r) (atI_nat (j:=0) (by rw[List.getElem?_map,r2];rfl)) ?_
   (try walk_at "su")
   refine at_ixT (SqT.of (up5 _ _ (s03 _ _ hma))) (v:=.ref p) (atI_nat (j:=r) hg) ?_
   (try walk_at "su")
   refine at_iv_tup (SqT.of hp5) (comp_t (vs:=[oV (dr M r).1,oV (dr M r).2]) (fun j ys H'=>j<=2/\H'=H5/\ys=([oV (lr M c r).1,oV (lr M c r).2]).take j) ⟨Nat.zero_le _,rfl,rfl⟩ (fun j ys H' pv=>by rw[pv.2.1];exact SqT.of hp5) ?_ ?_)
   .rintro j ys H' v R2 hv2 ⟨hj,rfl,rfl⟩ hR2
    obtain⟨w,rfl,hw,hj2,ht⟩:∃w,v=oV w/\(∀e,w=some e->e<M.length)/\j<2/\([oV (lr M c r).1,oV (lr M c r).2]).take j++[oV (ap c w)]=([oV (lr M c r).1,oV (lr M c r).2]).take (j+1):=by
     match j,hv2 with
     |0,hv2=>cases hv2;exact⟨_,rfl,o.1,by omega,rfl⟩
     |1,hv2=>cases hv2;exact⟨_,rfl,o.2,by omega,rfl⟩
     |j+2,hv2=>cases hv2
    have hyl:(([oV (lr M c r).1,oV (lr M c r).2]:List V).take j).length<sizeLine:=Nat.lt_of_le_of_lt (List.length_take_le' ..) (by show 2<sizeLine;decide)
    cases w with
    |none=>
     (try walk_at "su")
     exact⟨hyl,hR2 _ _ ⟨by omega,rfl,ht⟩⟩
    |some e2=>
     (try walk_at "su")
     show kIfe C _ _ _ _ false H'
     (try walk_at "su")
     refine at_ixL (SqL.of (up5 _ _ hN3)) (v:=nV (cn c e2)) (atI_nat ?_) ?_
     .rw[List.getElem?_map,cn_get (by rw[hl];exact hw e2 rfl)];rfl
     (try walk_at "su")
     exact⟨hyl,hR2 _ _ ⟨by omega,rfl,ht⟩⟩
   .rintro ys H' ⟨_,rfl,rfl⟩ p6 hp6
    have n6:=same_new hp6 (.lst [oV (lr M c r).1,oV (lr M c r).2])
    (try walk_at "su")
    refine at_tupL (xs:=[oV (lr M c r).1,oV (lr M c r).2]) (SqL.of upd_same) fun p7 hp7=>?_
    have n7:=same_new hp7 (.tup [oV (lr M c r).1,oV (lr M c r).2])
    have n67:=n6.trans n7
    have hp8:upd (upd H' p6 (.lst [oV (lr M c r).1,oV (lr M c r).2])) p7 (.tup [oV (lr M c r).1,oV (lr M c r).2]) p7=some (.tup [oV (lr M c r).1,oV (lr M c r).2]):=upd_same
    have hW8:=n67 _ _ hW5
    (try walk_at "su")
    refine at_app (xs:=xs) hW8 (small1000 (by omega)) ?_
    (try walk_at "su")
    refine⟨⟨_,_,_,rfl⟩,(sb5.same n67).upd (.inl rfl),_,upd_same,?_⟩
    rw[ups_succ]
    have tp:Tp H' (upd (upd (upd H' p6 (.lst [oV (lr M c r).1,oV (lr M c r).2])) p7 (.tup [oV (lr M c r).1,oV (lr M c r).2])) W (.lst (xs++[.ref p7]))):=(tp_same n67).trans (tp_lst hW8 _)
    refine Rooms.snoc ⟨p7,rfl,?_⟩ (hA.mono tp)
    rw[hr]
    exact tp_lst hW8 _ _ _ hp8
  .rintro σ H5 ⟨⟨x3,x4,x6,rfl⟩,sb5,ws,hW5,hA⟩
   rw[hDl]at hA
   have els:ls M c=ups Rm (fun k=>lr M c (rp c M.length k)) (kt c M.length):=rfl
   rw[<- els]at hA
   have up5:Same H3 H5:=fun x o h=>sb5 x o (nW x o h) (n4 _ _ h)
   have s05:=s03.trans up5
   have hM5:=hM.mono (tp_same s05)
   have hD5:=hdl1.mono (s13.trans up5)
   have hN5:=up5 _ _ hN3
   have hLs:(ls M c).length<=60:=by rw[ls_len];omega
   have hkE:=kinds_each (c:=c) (by omega)
   have hkL:(kinds c).length<=100:=by rw[kinds_len,hl];omega
   have rc5:RC M c a D N W ws H5:=⟨hM5,hD5,hN5,hW5,hA⟩
   clear sb5 up5 hA hW4 n4 nW hW hM5 hD5 hN5 hW5
   (try walk_at "su")
   refine call_e F.ki ?_
   (try walk_at "su")
   refine⟨a,M,rfl,rc5.1,hO,hM1,fun T c' H6 hkn' s6 hkl6=>?_⟩
   have ec:=hkn.uniq hkn'
   subst ec
   have rc6:=rc5.mono s6
   (try walk_at "su")
   refine call_e F.same ?_
   (try walk_at "su")
   refine⟨_,_,rfl,eqv_dl hkL hkE hkl6.dl rc6.2.1,fun H7 s7=>?_⟩
   have rc7:=rc6.mono s7
   (try walk_at "su")
   refine less_same F hkn hO hM1 rc7 fun H8 s8=>?_
   (try walk_at "su")
   obtain⟨fs,hT6,hT0,hki6,hTn⟩:=hkl6
   have s68:=s7.trans s8
   have s58:=s6.trans s68
   have hT8:=s68 _ _ hT6
   have hk0:0<(kinds c).length:=by rw[kinds_len,hl];exact Nat.lt_of_le_of_lt (Nat.zero_le _) (kt_lt (c:=c) (a:=0) (by omega))
   obtain⟨e0,he0,h5e,h6e⟩:=hki6.2.2 0 hk0
   have hfl:=hki6.1
   have heT:e0≠T:=fun z=>by subst z;exact hTn (List.mem_of_getElem? he0)
   refine⟨tyL hT8 rfl,by show 1<=sizeLine;decide,fun z hz=>?_⟩
   have n9:=same_new hz (.lst [.int 0])
   have hT9:=n9 _ _ hT8
   have he9:=n9 _ _ (s68 _ _ h6e)
   have s59:=s58.trans n9
   generalize upd H8 z (.lst [.int 0])=H9 at n9 hT9 he9 s59 ⊢
   (try walk_at "su")
   refine at_app hT9 (small1000 (by omega)) ?_
   have s5a:Same H5 (upd H9 T (.lst (fs++[.ref z]))):=same_updF s59 hT0
   have hTa:upd H9 T (.lst (fs++[.ref z])) T=some (.lst (fs++[.ref z])):=upd_same
   have hea:upd H9 T (.lst (fs++[.ref z])) e0=some (.lst (((kinds c).getD 0 []).map nV)):=by rw[upd_ne heT];exact he9
   generalize upd H9 T (.lst (fs++[.ref z]))=Ha at s5a hTa hea ⊢
   (try walk_at "su")
   refine at_ixL (SqL.of hTa) (v:=.ref e0) (atI_nat (j:=0) (by rw[List.getElem?_append_left (by omega)];exact he0)) ?_
   (try walk_at "su")
   refine⟨tyL hea rfl,?_⟩
   (try walk_at "su")
   refine at_app hea (small1000 (by rw[List.length_map];have:=hkE 0;omega)) ?_
   have s5b:Same H5 (upd Ha e0 (.lst (((kinds c).getD 0 []).map nV++[.int 0]))):=same_updF s5a h5e
   generalize upd Ha e0 (.lst (((kinds c).getD 0 []).map nV++[.int 0]))=Hb at s5b ⊢
   (try walk_at "su")
   refine call_e F.ls ?_
   (try walk_at "su")
   refine⟨a,M,rfl,(rc5.mono s5b).1,hO,hM1,fun p m l c' Hc hkn' sc hlb hp hm hl'=>?_⟩
   (try walk_at "su")
   refine at_ixT (SqT.of hp) (v:=.ref l) rfl ?_
   (try walk_at "su")
   refine⟨tyL hl' rfl,?_⟩
   (try walk_at "su")
   refine⟨l,_,rfl,rfl,hl',?_⟩
   have s5d:Same H5 (upd Hc l (.lst [])):=same_updF (s5b.trans sc) (s5b.free hlb)
   generalize upd Hc l (.lst [])=Hd at s5d ⊢
   clear hkn' hp hm hl' sc
   have rcd:=rc5.mono s5d
   (try walk_at "su")
   refine call_e F.same ?_
   (try walk_at "su")
   refine call_e F.ki ?_
   (try walk_at "su")
   refine⟨a,M,rfl,rcd.1,hO,hM1,fun T2 c2 He hkn2 se hkle=>?_⟩
   have ec:=hkn.uniq hkn2
   subst ec
   have rce:=rcd.mono se
   (try walk_at "su")
   refine⟨_,_,rfl,eqv_dl hkL hkE hkle.dl rce.2.1,fun Hf sf=>?_⟩
   have rcf:=rce.mono sf
   (try walk_at "su")
   refine less_same F hkn hO hM1 rcf fun Hg sg=>?_
   have rcg:=rcf.mono sg
   (try walk_at "su")
   refine call_e F.same ?_
   (try walk_at "su")
   refine call_e F.ls ?_
   (try walk_at "su")
   obtain⟨_,hDg,_,hWg,hAg⟩:=rcg
   refine at_tupL (SqL.of hWg) fun m0 hm0=>?_
   have nh:=same_new hm0 (.tup ws)
   (try walk_at "su")
   refine⟨m0,ls M c,rfl,⟨ws,upd_same,hAg.mono (tp_same nh)⟩,ls_ok hO hc hl,hLs,fun p m l c3 Hi hkn3 si hli hp hm hl3=>?_⟩
   have e3:=(ls_kn hO hkn).uniq hkn3
   subst e3
   rw[ls_self (ls_ok hO hc hl)]at hm
   have sgi:=nh.trans si
   have hWi:=sgi _ _ hWg
   (try walk_at "su")
   refine at_tupL (SqL.of hWi) fun m2 hm2=>?_
   have nj:=same_new hm2 (.tup ws)
   have hm2j:upd Hi m2 (.tup ws) m2=some (.tup ws):=upd_same
   generalize upd Hi m2 (.tup ws)=Hj at nj hm2j ⊢
   have sgj:=sgi.trans nj
   obtain⟨dv,hDv,hDvl,_⟩:=hDg.mono sgj
   (try walk_at "su")
   refine at_lenL (SqL.of hDv) ?_
   rw[hDvl,kinds_len,hl,<- ls_len (M:=M) (c:=c)]
   (try walk_at "su")
   refine⟨0,((ls M c).length:Nat),.inr ⟨rfl,rfl⟩,fun r hr=>?_⟩
   have nk:=same_new hr (.rng 0 ((ls M c).length:Nat))
   (try walk_at "su")
   refine at_listR upd_same (by omega) (by omega) (by omega) (by omega) (Nat.le_of_lt (small1000 (by omega))) fun y hy=>?_
   have er:rgs 0 ((((ls M c).length:Nat):Int)-0).toNat=(List.range (ls M c).length).map nV:=by
    rw[show((((ls M c).length:Nat):Int)-0).toNat=(ls M c).length by omega]
    unfold rgs nV
    simp
   rw[er]
   have nl:=same_new hy (.lst ((List.range (ls M c).length).map nV))
   have hyl:upd (upd Hj r (.rng 0 ((ls M c).length:Nat))) y (.lst ((List.range (ls M c).length).map nV)) y=some (.lst ((List.range (ls M c).length).map nV)):=upd_same
   have sjl:=nk.trans nl
   generalize upd (upd Hj r (.rng 0 ((ls M c).length:Nat))) y (.lst ((List.range (ls M c).length).map nV))=Hl at sjl hyl ⊢
   (try walk_at "su")
   refine⟨by show 2<=sizeLine;decide,fun p2 hp2=>?_⟩
   have nm:=same_new hp2 (.tup [.ref m2,.ref y])
   have sil:=nj.trans (sjl.trans nm)
   (try walk_at "su")
   refine⟨_,_,rfl,eqv_pair (N:=ls M c) (c:=List.range (ls M c).length) (by omega) (by rw[List.length_range];omega) (sil _ _ hp) upd_same (hm.mono (tp_same sil)) ⟨ws,nm _ _ (sjl _ _ hm2j),hAg.mono (tp_same (sgj.trans (sjl.trans nm)))⟩ (sil _ _ hl3) (nm _ _ hyl),fun Hz sz=>?_⟩
   (try walk_at "su")
   exact q Hz (s05.trans (s5d.trans (se.trans (sf.trans (sg.trans (sgi.trans (sil.trans sz)))))))
def spLaw (K:W.Frag):Sp:=fun vs H Q _=>∃(a:Addr) (ns:List Int),vs=[.ref a]/\SqL K H a (ns.map V.int)/\ns.length<=63/\∀H',Q (.bl true) H'
structure FsLaw (C:Rc):Prop where
 box:C.fs "_law_box"=some (spBox C.K)
 any:C.fs "_law_any"=some spAny
 same:C.fs "_law_same"=some (spSame 3)
 ki:C.fs "kinds"=some spKi
 ls:C.fs "lessened"=some spLs
 right:C.fs "_law_right"=some spRight
theorem kn_nil {c:List Nat} (h:KN [] c):c=[]:=List.length_eq_zero_iff.mp h.1
theorem body_law {C:Rc} (hN:C.N.length=2) (F:FsLaw C):∀vs H Q E,spLaw C.K vs H Q E->tSs C c_law { nx:=fun _ H'=>Q .non H',rt:=Q } (L2.start C.N vs) H:=by
 intro vs H Q E h
 obtain⟨a,ns,rfl,hs,h63,q⟩:=h
 rw[start_eq hN]
 unfold c_law
 have hO:OkM []:=fun r hr=>absurd hr List.not_mem_nil
 (try walk_at "su")
 refine call_e F.ki ?_
 (try walk_at "su")
 refine⟨by show 0<=sizeLine;decide,fun p hp=>?_⟩
 have n1:=same_new hp (.tup [])
 have hp1:upd H p (.tup []) p=some (.tup []):=upd_same
 generalize upd H p (.tup [])=H1 at n1 hp1 ⊢
 (try walk_at "su")
 refine⟨p,[],rfl,⟨[],hp1,trivial⟩,hO,Nat.zero_le _,fun T c H2 hkn s2 hkl=>?_⟩
 have ec:=kn_nil hkn
 subst ec
 obtain⟨vs,hT,hTl,_⟩:=hkl.dl
 have hvs:vs=[]:=List.length_eq_zero_iff.mp hTl
 subst hvs
 (try walk_at "su")
 refine⟨by show 0<=sizeLine;decide,fun e he=>?_⟩
 have n3:=same_new he (.lst [])
 (try walk_at "su")
 refine at_neL (SqL.of (n3 _ _ hT)) (SqL.of upd_same) leq_nil ?_
 have s3:=n1.trans (s2.trans n3)
 generalize upd H2 e (.lst [])=H3 at n3 s3 ⊢
 rw[decide_eq_true rfl]
 (try walk_at "su")
 refine call_e F.same ?_
 (try walk_at "su")
 refine call_e F.ls ?_
 (try walk_at "su")
 refine⟨by show 0<=sizeLine;decide,fun p4 hp4=>?_⟩
 have n4:=same_new hp4 (.tup [])
 have hp5:upd H3 p4 (.tup []) p4=some (.tup []):=upd_same
 generalize upd H3 p4 (.tup [])=H4 at n4 hp5 ⊢
 (try walk_at "su")
 refine⟨p4,[],rfl,⟨[],hp5,trivial⟩,hO,Nat.zero_le _,fun p5 m l c H5 hkn5 s5 hlH hp6 hm hl5=>?_⟩
 have ec:=kn_nil hkn5
 subst ec
 (try walk_at "su")
 refine⟨by show 0<=sizeLine;decide,fun m2 hm2=>?_⟩
 have n6:=same_new hm2 (.tup [])
 have hm6:upd H5 m2 (.tup []) m2=some (.tup []):=upd_same
 generalize upd H5 m2 (.tup [])=H6 at n6 hm6 ⊢
 (try walk_at "su")
 refine⟨by show 0<=sizeLine;decide,fun l2 hl2=>?_⟩
 have n7:=same_new hl2 (.lst [])
 have hl7:upd H6 l2 (.lst []) l2=some (.lst []):=upd_same
 generalize upd H6 l2 (.lst [])=H7 at n7 hl7 ⊢
 (try walk_at "su")
 refine⟨by show 2<=sizeLine;decide,fun p8 hp8=>?_⟩
 have n8:=same_new hp8 (.tup [.ref m2,.ref l2])
 have s58:=n6.trans (n7.trans n8)
 (try walk_at "su")
 refine⟨_,_,rfl,eqv_pair (N:=[]) (c:=[]) (by decide) (by decide) (s58 _ _ hp6) upd_same (hm.mono (tp_same s58)) ⟨[],n8 _ _ (n7 _ _ hm6),trivial⟩ (s58 _ _ hl5) (n8 _ _ hl7),fun H9 s9=>?_⟩
 have s09:Same H H9:=s3.trans (n4.trans (s5.trans (s58.trans s9)))
 (try walk_at "su")
 refine at_r1 (by omega) (by omega) (for_r (fun i σ H'=>(∃x1,σ=[some (.ref a),x1])/\SqL C.K H' a (ns.map V.int)) ⟨⟨_,rfl⟩,s09.seq hs⟩ ?_ ?_)
 .rintro i σ H0 hi ⟨⟨x1,rfl⟩,hs0⟩
  have hi:i<7:=hi
  (try walk_at "su")
  refine call_e F.right ?_
  (try walk_at "su")
  refine call_e F.any ?_
  (try walk_at "su")
  refine call_e F.box ?_
  (try walk_at "su")
  refine⟨a,ns,_,rfl,hs0,by omega,by omega,fun b hb=>?_⟩
  have hs1:=(same_new hb (BoxO b 0)).seq hs0
  have hb1:upd H0 b (BoxO b 0) b=some (BoxO b 0):=upd_same
  generalize upd H0 b (BoxO b 0)=H1 at hs1 hb1 ⊢
  (try walk_at "su")
  refine⟨b,0,rfl,hb1,by decide,fun m M H2 g2 hM2 hO hM1 hM60=>?_⟩
  have hs2:=g2.seq hs1
  (try walk_at "su")
  refine⟨m,M,rfl,hM2,hO,hM1,hM60,fun H3 s3=>?_⟩
  have hs3:=s3.seq hs2
  (try walk_at "su")
  exact⟨⟨_,rfl⟩,hs3⟩
 .rintro σ H0 ⟨⟨x1,rfl⟩,hs0⟩
  (try walk_at "su")
  exact q _
end K15
namespace K15
open PySem PySem.Spec PyProof.Rows L2 R3 LW 
noncomputable def top (i:Nat):Stmt:=PySem.Challenge.pw_runbound_k15_kinds_and_lessened.main.body.getD i (.Pass ⟨0,0,0,0⟩)
theorem m_numb:mSs n_p_numbered b_p_numbered (defScope (top 1)) c_p_numbered (defBody (top 1))=true:=by decide +kernel
theorem sc_numb:FnScope n_p_numbered ["signs"] (defScope (top 1)):=⟨rfl,rfl,rfl,by decide +kernel,rfl,by decide +kernel,by decide +kernel⟩
theorem m_ref:mSs n_p_refined b_p_refined (defScope (top 2)) c_p_refined (defBody (top 2))=true:=by decide +kernel
theorem sc_ref:FnScope n_p_refined ["machine","numbers"] (defScope (top 2)):=⟨rfl,rfl,rfl,by decide +kernel,rfl,by decide +kernel,by decide +kernel⟩
theorem m_kn:mSs n_p_kind_numbers b_p_kind_numbers (defScope (top 3)) c_p_kind_numbers (defBody (top 3))=true:=by decide +kernel
theorem sc_kn:FnScope n_p_kind_numbers ["machine"] (defScope (top 3)):=⟨rfl,rfl,rfl,by decide +kernel,rfl,by decide +kernel,by decide +kernel⟩
theorem m_ki:mSs n_p_kinds b_p_kinds (defScope (top 4)) c_p_kinds (defBody (top 4))=true:=by decide +kernel
theorem sc_ki:FnScope n_p_kinds ["machine"] (defScope (top 4)):=⟨rfl,rfl,rfl,by decide +kernel,rfl,by decide +kernel,by decide +kernel⟩
theorem m_ls:mSs n_p_lessened b_p_lessened (defScope (top 5)) c_p_lessened (defBody (top 5))=true:=by decide +kernel
theorem sc_ls:FnScope n_p_lessened ["machine"] (defScope (top 5)):=⟨rfl,rfl,rfl,by decide +kernel,rfl,by decide +kernel,by decide +kernel⟩
theorem m_cell:mSs n_cell_at b_cell_at (defScope (top 7)) c_cell_at (defBody (top 7))=true:=by decide +kernel
theorem sc_cell:FnScope n_cell_at ["_law_script","_law_k"] (defScope (top 7)):=⟨rfl,rfl,rfl,by decide +kernel,rfl,by decide +kernel,by decide +kernel⟩
theorem m_box:mSs n_box b_box (defScope (top 8)) c_box (defBody (top 8))=true:=by decide +kernel
theorem sc_box:FnScope n_box ["_law_script","_law_k"] (defScope (top 8)):=⟨rfl,rfl,rfl,by decide +kernel,rfl,by decide +kernel,by decide +kernel⟩
theorem m_take:mSs n_take b_take (defScope (top 9)) c_take (defBody (top 9))=true:=by decide +kernel
theorem sc_take:FnScope n_take ["_law_box_here","_law_many_here"] (defScope (top 9)):=⟨rfl,rfl,rfl,by decide +kernel,rfl,by decide +kernel,by decide +kernel⟩
theorem m_many:mSs n_many b_many (defScope (top 10)) c_many (defBody (top 10))=true:=by decide +kernel
theorem sc_many:FnScope n_many ["_law_box_here","_law_least","_law_few","_law_most"] (defScope (top 10)):=⟨rfl,rfl,rfl,by decide +kernel,rfl,by decide +kernel,by decide +kernel⟩
theorem m_machine:mSs n_machine b_machine (defScope (top 11)) c_machine (defBody (top 11))=true:=by decide +kernel
theorem sc_machine:FnScope n_machine ["_law_box_here","_law_many_here"] (defScope (top 11)):=⟨rfl,rfl,rfl,by decide +kernel,rfl,by decide +kernel,by decide +kernel⟩
theorem m_ring:mSs n_ring_machine b_ring_machine (defScope (top 12)) c_ring_machine (defBody (top 12))=true:=by decide +kernel
theorem sc_ring:FnScope n_ring_machine ["_law_box_here","_law_many_here"] (defScope (top 12)):=⟨rfl,rfl,rfl,by decide +kernel,rfl,by decide +kernel,by decide +kernel⟩
theorem m_copied:mSs n_copied b_copied (defScope (top 13)) c_copied (defBody (top 13))=true:=by decide +kernel
theorem sc_copied:FnScope n_copied ["_law_box_here","_law_machine_here"] (defScope (top 13)):=⟨rfl,rfl,rfl,by decide +kernel,rfl,by decide +kernel,by decide +kernel⟩
theorem m_line:mSs n_line b_line (defScope (top 14)) c_line (defBody (top 14))=true:=by decide +kernel
theorem sc_line:FnScope n_line ["_law_box_here","_law_many_here"] (defScope (top 14)):=⟨rfl,rfl,rfl,by decide +kernel,rfl,by decide +kernel,by decide +kernel⟩
theorem m_any:mSs n_any b_any (defScope (top 15)) c_any (defBody (top 15))=true:=by decide +kernel
theorem sc_any:FnScope n_any ["_law_box_here"] (defScope (top 15)):=⟨rfl,rfl,rfl,by decide +kernel,rfl,by decide +kernel,by decide +kernel⟩
theorem m_same:mSs n_same b_same (defScope (top 16)) c_same (defBody (top 16))=true:=by decide +kernel
theorem sc_same:FnScope n_same ["_law_found","_law_due_here"] (defScope (top 16)):=⟨rfl,rfl,rfl,by decide +kernel,rfl,by decide +kernel,by decide +kernel⟩
theorem m_tab:mSs n_table b_table (defScope (top 17)) c_table (defBody (top 17))=true:=by decide +kernel
theorem sc_tab:FnScope n_table ["_law_machine_here"] (defScope (top 17)):=⟨rfl,rfl,rfl,by decide +kernel,rfl,by decide +kernel,by decide +kernel⟩
theorem m_due:mSs n_due b_due (defScope (top 18)) c_due (defBody (top 18))=true:=by decide +kernel
theorem sc_due:FnScope n_due ["_law_machine_here"] (defScope (top 18)):=⟨rfl,rfl,rfl,by decide +kernel,rfl,by decide +kernel,by decide +kernel⟩
theorem m_right:mSs n_right b_right (defScope (top 19)) c_right (defBody (top 19))=true:=by decide +kernel
theorem sc_right:FnScope n_right ["_law_machine_here"] (defScope (top 19)):=⟨rfl,rfl,rfl,by decide +kernel,rfl,by decide +kernel,by decide +kernel⟩
theorem m_law:mSs n_law b_law (defScope (top 20)) c_law (defBody (top 20))=true:=by decide +kernel
theorem sc_law:FnScope n_law ["_law_script"] (defScope (top 20)):=⟨rfl,rfl,rfl,by decide +kernel,rfl,by decide +kernel,by decide +kernel⟩
theorem all_mk {l:W.OpenLaw} {w:World} {K:W.Frag} {h:Heap} {mg:Str->Option Value} {fa:Addr} {f1 f2 f3 f4 f5 f6 f7 f8 f9 f10 f11 f12 f13 f14 f15 f16 f17 f18 f19:Addr} (X:K.In h) (G:h.Ns mainGlobals mg) (hfa:mg "law"=some (.ref fa))
  {od1 an1 od2 an2 od3 an3 od4 an4 od5 an5 od6 an6 od7 an7 od8 an8 od9 an9 od10 an10 od11 an11 od12 an12 od13 an13 od14 an14 od15 an15 od16 an16 od17 an17 od18 an18 od19 an19:Option Addr} {sl1 sl2 sl3 sl4 sl5 sl6 sl7 sl8 sl9 sl10 sl11 sl12 sl13 sl14 sl15 sl16 sl17 sl18 sl19:Array (Option Value)} {oc1 kV1 dc1 pm1 cd1 ct1 oc2 kV2 dc2 pm2 cd2 ct2 oc3 kV3 dc3 pm3 cd3 ct3 oc4 kV4 dc4 pm4 cd4 ct4 oc5 kV5 dc5 pm5 cd5 ct5 oc6 kV6 dc6 pm6 cd6 ct6 oc7 kV7 dc7 pm7 cd7 ct7 oc8 kV8 dc8 pm8 cd8 ct8 oc9 kV9 dc9 pm9 cd9 ct9 oc10 kV10 dc10 pm10 cd10 ct10 oc11 kV11 dc11 pm11 cd11 ct11 oc12 kV12 dc12 pm12 cd12 ct12 oc13 kV13 dc13 pm13 cd13 ct13 oc14 kV14 dc14 pm14 cd14 ct14 oc15 kV15 dc15 pm15 cd15 ct15 oc16 kV16 dc16 pm16 cd16 ct16 oc17 kV17 dc17 pm17 cd17 ct17 oc18 kV18 dc18 pm18 cd18 ct18 oc19 kV19 dc19 pm19 cd19 ct19:Value}
  (a1:W.nsIn K mainGlobals "numbered"=some (some (.ref f1))) (l1:K.lookup f1=some ⟨oc1,od1,.func (W.fnOf "numbered" "numbered" (defArgs (top 1)) (defBody (top 1)) (defScope (top 1)) .none kV1 dc1 pm1 an1 cd1 ct1),sl1⟩) (c1:W.codeIn K cd1 "numbered"=true) (k1:W.keepIn K (.ref f1)=true)
  (a2:W.nsIn K mainGlobals "refined"=some (some (.ref f2))) (l2:K.lookup f2=some ⟨oc2,od2,.func (W.fnOf "refined" "refined" (defArgs (top 2)) (defBody (top 2)) (defScope (top 2)) .none kV2 dc2 pm2 an2 cd2 ct2),sl2⟩) (c2:W.codeIn K cd2 "refined"=true) (k2:W.keepIn K (.ref f2)=true)
  (a3:W.nsIn K mainGlobals "kind_numbers"=some (some (.ref f3))) (l3:K.lookup f3=some ⟨oc3,od3,.func (W.fnOf "kind_numbers" "kind_numbers" (defArgs (top 3)) (defBody (top 3)) (defScope (top 3)) .none kV3 dc3 pm3 an3 cd3 ct3),sl3⟩) (c3:W.codeIn K cd3 "kind_numbers"=true) (k3:W.keepIn K (.ref f3)=true)
  (a4:W.nsIn K mainGlobals "kinds"=some (some (.ref f4))) (l4:K.lookup f4=some ⟨oc4,od4,.func (W.fnOf "kinds" "kinds" (defArgs (top 4)) (defBody (top 4)) (defScope (top 4)) .none kV4 dc4 pm4 an4 cd4 ct4),sl4⟩) (c4:W.codeIn K cd4 "kinds"=true) (k4:W.keepIn K (.ref f4)=true)
  (a5:W.nsIn K mainGlobals "lessened"=some (some (.ref f5))) (l5:K.lookup f5=some ⟨oc5,od5,.func (W.fnOf "lessened" "lessened" (defArgs (top 5)) (defBody (top 5)) (defScope (top 5)) .none kV5 dc5 pm5 an5 cd5 ct5),sl5⟩) (c5:W.codeIn K cd5 "lessened"=true) (k5:W.keepIn K (.ref f5)=true)
  (a6:W.nsIn K mainGlobals "_law_cell_at"=some (some (.ref f6))) (l6:K.lookup f6=some ⟨oc6,od6,.func (W.fnOf "_law_cell_at" "_law_cell_at" (defArgs (top 7)) (defBody (top 7)) (defScope (top 7)) .none kV6 dc6 pm6 an6 cd6 ct6),sl6⟩) (c6:W.codeIn K cd6 "_law_cell_at"=true) (k6:W.keepIn K (.ref f6)=true)
  (a7:W.nsIn K mainGlobals "_law_box"=some (some (.ref f7))) (l7:K.lookup f7=some ⟨oc7,od7,.func (W.fnOf "_law_box" "_law_box" (defArgs (top 8)) (defBody (top 8)) (defScope (top 8)) .none kV7 dc7 pm7 an7 cd7 ct7),sl7⟩) (c7:W.codeIn K cd7 "_law_box"=true) (k7:W.keepIn K (.ref f7)=true)
  (a8:W.nsIn K mainGlobals "_law_take"=some (some (.ref f8))) (l8:K.lookup f8=some ⟨oc8,od8,.func (W.fnOf "_law_take" "_law_take" (defArgs (top 9)) (defBody (top 9)) (defScope (top 9)) .none kV8 dc8 pm8 an8 cd8 ct8),sl8⟩) (c8:W.codeIn K cd8 "_law_take"=true) (k8:W.keepIn K (.ref f8)=true)
  (a9:W.nsIn K mainGlobals "_law_many"=some (some (.ref f9))) (l9:K.lookup f9=some ⟨oc9,od9,.func (W.fnOf "_law_many" "_law_many" (defArgs (top 10)) (defBody (top 10)) (defScope (top 10)) .none kV9 dc9 pm9 an9 cd9 ct9),sl9⟩) (c9:W.codeIn K cd9 "_law_many"=true) (k9:W.keepIn K (.ref f9)=true)
  (a10:W.nsIn K mainGlobals "_law_machine"=some (some (.ref f10))) (l10:K.lookup f10=some ⟨oc10,od10,.func (W.fnOf "_law_machine" "_law_machine" (defArgs (top 11)) (defBody (top 11)) (defScope (top 11)) .none kV10 dc10 pm10 an10 cd10 ct10),sl10⟩) (c10:W.codeIn K cd10 "_law_machine"=true) (k10:W.keepIn K (.ref f10)=true)
  (a11:W.nsIn K mainGlobals "_law_ring_machine"=some (some (.ref f11))) (l11:K.lookup f11=some ⟨oc11,od11,.func (W.fnOf "_law_ring_machine" "_law_ring_machine" (defArgs (top 12)) (defBody (top 12)) (defScope (top 12)) .none kV11 dc11 pm11 an11 cd11 ct11),sl11⟩) (c11:W.codeIn K cd11 "_law_ring_machine"=true) (k11:W.keepIn K (.ref f11)=true)
  (a12:W.nsIn K mainGlobals "_law_copied"=some (some (.ref f12))) (l12:K.lookup f12=some ⟨oc12,od12,.func (W.fnOf "_law_copied" "_law_copied" (defArgs (top 13)) (defBody (top 13)) (defScope (top 13)) .none kV12 dc12 pm12 an12 cd12 ct12),sl12⟩) (c12:W.codeIn K cd12 "_law_copied"=true) (k12:W.keepIn K (.ref f12)=true)
  (a13:W.nsIn K mainGlobals "_law_line"=some (some (.ref f13))) (l13:K.lookup f13=some ⟨oc13,od13,.func (W.fnOf "_law_line" "_law_line" (defArgs (top 14)) (defBody (top 14)) (defScope (top 14)) .none kV13 dc13 pm13 an13 cd13 ct13),sl13⟩) (c13:W.codeIn K cd13 "_law_line"=true) (k13:W.keepIn K (.ref f13)=true)
  (a14:W.nsIn K mainGlobals "_law_any"=some (some (.ref f14))) (l14:K.lookup f14=some ⟨oc14,od14,.func (W.fnOf "_law_any" "_law_any" (defArgs (top 15)) (defBody (top 15)) (defScope (top 15)) .none kV14 dc14 pm14 an14 cd14 ct14),sl14⟩) (c14:W.codeIn K cd14 "_law_any"=true) (k14:W.keepIn K (.ref f14)=true)
  (a15:W.nsIn K mainGlobals "_law_same"=some (some (.ref f15))) (l15:K.lookup f15=some ⟨oc15,od15,.func (W.fnOf "_law_same" "_law_same" (defArgs (top 16)) (defBody (top 16)) (defScope (top 16)) .none kV15 dc15 pm15 an15 cd15 ct15),sl15⟩) (c15:W.codeIn K cd15 "_law_same"=true) (k15:W.keepIn K (.ref f15)=true)
  (a16:W.nsIn K mainGlobals "_law_table"=some (some (.ref f16))) (l16:K.lookup f16=some ⟨oc16,od16,.func (W.fnOf "_law_table" "_law_table" (defArgs (top 17)) (defBody (top 17)) (defScope (top 17)) .none kV16 dc16 pm16 an16 cd16 ct16),sl16⟩) (c16:W.codeIn K cd16 "_law_table"=true) (k16:W.keepIn K (.ref f16)=true)
  (a17:W.nsIn K mainGlobals "_law_due"=some (some (.ref f17))) (l17:K.lookup f17=some ⟨oc17,od17,.func (W.fnOf "_law_due" "_law_due" (defArgs (top 18)) (defBody (top 18)) (defScope (top 18)) .none kV17 dc17 pm17 an17 cd17 ct17),sl17⟩) (c17:W.codeIn K cd17 "_law_due"=true) (k17:W.keepIn K (.ref f17)=true)
  (a18:W.nsIn K mainGlobals "_law_right"=some (some (.ref f18))) (l18:K.lookup f18=some ⟨oc18,od18,.func (W.fnOf "_law_right" "_law_right" (defArgs (top 19)) (defBody (top 19)) (defScope (top 19)) .none kV18 dc18 pm18 an18 cd18 ct18),sl18⟩) (c18:W.codeIn K cd18 "_law_right"=true) (k18:W.keepIn K (.ref f18)=true)
  (a19:W.nsIn K mainGlobals "law"=some (some (.ref f19))) (l19:K.lookup f19=some ⟨oc19,od19,.func (W.fnOf "law" "law" (defArgs (top 20)) (defBody (top 20)) (defScope (top 20)) .none kV19 dc19 pm19 an19 cd19 ct19),sl19⟩) (c19:W.codeIn K cd19 "law"=true) (k19:W.keepIn K (.ref f19)=true)
  (z1:W.nsIn K mainGlobals "~"=some none)
  (z2:W.nsIn K mainGlobals "^"=some none)
  (z3:W.nsIn K mainGlobals "%"=some none)
  (z4:W.nsIn K mainGlobals "len"=some none)
  (z5:W.nsIn K mainGlobals "zip"=some none)
  (z6:W.nsIn K mainGlobals "enumerate"=some none)
  (z7:W.nsIn K mainGlobals "tuple"=some none)
  (z8:W.nsIn K mainGlobals "abs"=some none)
  (z9:W.nsIn K mainGlobals "int"=some none)
  (z10:W.nsIn K mainGlobals "range"=some none)
  (z11:W.nsIn K mainGlobals "list"=some none)
  (z12:W.nsIn K mainGlobals "all"=some none)
  (z13:W.nsIn K mainGlobals "bool"=some none)
  (z14:W.nsIn K mainGlobals "isinstance"=some none)
  (z15:W.nsIn K mainGlobals "str"=some none):
  ∃fd:FuncData,(∀(s:Shared) (v:Value),BindsTo s fd ⟨[v],[]⟩ [("_law_script",v)])/\∀base:Heap,K.In base->base.Ns mainGlobals mg->FnOk l.prog w K mg base CX0 60 fa fd ["_law_script"] (spLaw K):=by
 have e:=hfa.symm.trans (W.mg_of X G a19)
 cases e
 have F1:=fun_mk (st:=top 1) l1 c1 k1
 have b1:=F1.binds (ps:=["signs"]) fun _ _ _ _ _ _ us hl=>len1 (P:=fun us=>bindArgs _ ({ pos:=us }:Args)=pure (List.zip _ us)) (fun _=>rfl) us hl
 have m1:=W.mg_of X G a1
 have F2:=fun_mk (st:=top 2) l2 c2 k2
 have b2:=F2.binds (ps:=["machine","numbers"]) fun _ _ _ _ _ _ us hl=>len2 (P:=fun us=>bindArgs _ ({ pos:=us }:Args)=pure (List.zip _ us)) (fun _ _=>rfl) us hl
 have m2:=W.mg_of X G a2
 have F3:=fun_mk (st:=top 3) l3 c3 k3
 have b3:=F3.binds (ps:=["machine"]) fun _ _ _ _ _ _ us hl=>len1 (P:=fun us=>bindArgs _ ({ pos:=us }:Args)=pure (List.zip _ us)) (fun _=>rfl) us hl
 have m3:=W.mg_of X G a3
 have F4:=fun_mk (st:=top 4) l4 c4 k4
 have b4:=F4.binds (ps:=["machine"]) fun _ _ _ _ _ _ us hl=>len1 (P:=fun us=>bindArgs _ ({ pos:=us }:Args)=pure (List.zip _ us)) (fun _=>rfl) us hl
 have m4:=W.mg_of X G a4
 have F5:=fun_mk (st:=top 5) l5 c5 k5
 have b5:=F5.binds (ps:=["machine"]) fun _ _ _ _ _ _ us hl=>len1 (P:=fun us=>bindArgs _ ({ pos:=us }:Args)=pure (List.zip _ us)) (fun _=>rfl) us hl
 have m5:=W.mg_of X G a5
 have F6:=fun_mk (st:=top 7) l6 c6 k6
 have b6:=F6.binds (ps:=["_law_script","_law_k"]) fun _ _ _ _ _ _ us hl=>len2 (P:=fun us=>bindArgs _ ({ pos:=us }:Args)=pure (List.zip _ us)) (fun _ _=>rfl) us hl
 have m6:=W.mg_of X G a6
 have F7:=fun_mk (st:=top 8) l7 c7 k7
 have b7:=F7.binds (ps:=["_law_script","_law_k"]) fun _ _ _ _ _ _ us hl=>len2 (P:=fun us=>bindArgs _ ({ pos:=us }:Args)=pure (List.zip _ us)) (fun _ _=>rfl) us hl
 have m7:=W.mg_of X G a7
 have F8:=fun_mk (st:=top 9) l8 c8 k8
 have b8:=F8.binds (ps:=["_law_box_here","_law_many_here"]) fun _ _ _ _ _ _ us hl=>len2 (P:=fun us=>bindArgs _ ({ pos:=us }:Args)=pure (List.zip _ us)) (fun _ _=>rfl) us hl
 have m8:=W.mg_of X G a8
 have F9:=fun_mk (st:=top 10) l9 c9 k9
 have b9:=F9.binds (ps:=["_law_box_here","_law_least","_law_few","_law_most"]) fun _ _ _ _ _ _ us hl=>len4 (P:=fun us=>bindArgs _ ({ pos:=us }:Args)=pure (List.zip _ us)) (fun _ _ _ _=>rfl) us hl
 have m9:=W.mg_of X G a9
 have F10:=fun_mk (st:=top 11) l10 c10 k10
 have b10:=F10.binds (ps:=["_law_box_here","_law_many_here"]) fun _ _ _ _ _ _ us hl=>len2 (P:=fun us=>bindArgs _ ({ pos:=us }:Args)=pure (List.zip _ us)) (fun _ _=>rfl) us hl
 have m10:=W.mg_of X G a10
 have F11:=fun_mk (st:=top 12) l11 c11 k11
 have b11:=F11.binds (ps:=["_law_box_here","_law_many_here"]) fun _ _ _ _ _ _ us hl=>len2 (P:=fun us=>bindArgs _ ({ pos:=us }:Args)=pure (List.zip _ us)) (fun _ _=>rfl) us hl
 have m11:=W.mg_of X G a11
 have F12:=fun_mk (st:=top 13) l12 c12 k12
 have b12:=F12.binds (ps:=["_law_box_here","_law_machine_here"]) fun _ _ _ _ _ _ us hl=>len2 (P:=fun us=>bindArgs _ ({ pos:=us }:Args)=pure (List.zip _ us)) (fun _ _=>rfl) us hl
 have m12:=W.mg_of X G a12
 have F13:=fun_mk (st:=top 14) l13 c13 k13
 have b13:=F13.binds (ps:=["_law_box_here","_law_many_here"]) fun _ _ _ _ _ _ us hl=>len2 (P:=fun us=>bindArgs _ ({ pos:=us }:Args)=pure (List.zip _ us)) (fun _ _=>rfl) us hl
 have m13:=W.mg_of X G a13
 have F14:=fun_mk (st:=top 15) l14 c14 k14
 have b14:=F14.binds (ps:=["_law_box_here"]) fun _ _ _ _ _ _ us hl=>len1 (P:=fun us=>bindArgs _ ({ pos:=us }:Args)=pure (List.zip _ us)) (fun _=>rfl) us hl
 have m14:=W.mg_of X G a14
 have F15:=fun_mk (st:=top 16) l15 c15 k15
 have b15:=F15.binds (ps:=["_law_found","_law_due_here"]) fun _ _ _ _ _ _ us hl=>len2 (P:=fun us=>bindArgs _ ({ pos:=us }:Args)=pure (List.zip _ us)) (fun _ _=>rfl) us hl
 have m15:=W.mg_of X G a15
 have F16:=fun_mk (st:=top 17) l16 c16 k16
 have b16:=F16.binds (ps:=["_law_machine_here"]) fun _ _ _ _ _ _ us hl=>len1 (P:=fun us=>bindArgs _ ({ pos:=us }:Args)=pure (List.zip _ us)) (fun _=>rfl) us hl
 have m16:=W.mg_of X G a16
 have F17:=fun_mk (st:=top 18) l17 c17 k17
 have b17:=F17.binds (ps:=["_law_machine_here"]) fun _ _ _ _ _ _ us hl=>len1 (P:=fun us=>bindArgs _ ({ pos:=us }:Args)=pure (List.zip _ us)) (fun _=>rfl) us hl
 have m17:=W.mg_of X G a17
 have F18:=fun_mk (st:=top 19) l18 c18 k18
 have b18:=F18.binds (ps:=["_law_machine_here"]) fun _ _ _ _ _ _ us hl=>len1 (P:=fun us=>bindArgs _ ({ pos:=us }:Args)=pure (List.zip _ us)) (fun _=>rfl) us hl
 have m18:=W.mg_of X G a18
 have F19:=fun_mk (st:=top 20) l19 c19 k19
 have m19:=W.mg_of X G a19
 have n1:=W.mg_none_of X G z1
 have n2:=W.mg_none_of X G z2
 have n3:=W.mg_none_of X G z3
 have n4:=W.mg_none_of X G z4
 have n5:=W.mg_none_of X G z5
 have n6:=W.mg_none_of X G z6
 have n7:=W.mg_none_of X G z7
 have n8:=W.mg_none_of X G z8
 have n9:=W.mg_none_of X G z9
 have n10:=W.mg_none_of X G z10
 have n11:=W.mg_none_of X G z11
 have n12:=W.mg_none_of X G z12
 have n13:=W.mg_none_of X G z13
 have n14:=W.mg_none_of X G z14
 have n15:=W.mg_none_of X G z15
 refine⟨W.fnOf "law" "law" (defArgs (top 20)) (defBody (top 20)) (defScope (top 20)) .none kV19 dc19 pm19 an19 cd19 ct19,fun s v=>.of_eq rfl,fun base _ _=>?_⟩
 have O1:=code_ok0 (P:=l.prog) (w:=w) (mg:=mg) (base:=base) (k:=0) F1 { N:=n_p_numbered,B:=b_p_numbered,K:=K,fs:=fsOf [] } sc_numb rfl c_p_numbered m_numb (sp:=spNumb) (by intro vs H Q E h;repeat (first|(obtain⟨rfl,_⟩:=h;rfl)|(obtain⟨_,h⟩:=h))) (hfs_of mN) (mC ⟨n4,mN⟩) ⟨n1,n2,n3⟩ (show tld b_p_numbered=false by decide +kernel) (show hat b_p_numbered=false by decide +kernel) rfl rfl (body_numb rfl  )
 have O2:=code_ok0 (P:=l.prog) (w:=w) (mg:=mg) (base:=base) (k:=1) F2 { N:=n_p_refined,B:=b_p_refined,K:=K,fs:=fsOf [("numbered",spNumb)] } sc_ref rfl c_p_refined m_ref (sp:=spRef) (by intro vs H Q E h;repeat (first|(obtain⟨rfl,_⟩:=h;rfl)|(obtain⟨_,h⟩:=h))) (hfs_of (mC ⟨⟨_,_,_,(O1).mono (by omega),m1,k1,b1⟩,mN⟩)) (mC ⟨n5,mN⟩) ⟨n1,n2,n3⟩ (show tld b_p_refined=false by decide +kernel) (show hat b_p_refined=false by decide +kernel) rfl rfl (body_ref rfl (show fsOf _ "numbered"=some (spNumb) from lookup_here) )
 have O3:=code_ok0 (P:=l.prog) (w:=w) (mg:=mg) (base:=base) (k:=2) F3 { N:=n_p_kind_numbers,B:=b_p_kind_numbers,K:=K,fs:=fsOf [("refined",spRef)] } sc_kn rfl c_p_kind_numbers m_kn (sp:=spKn) (by intro vs H Q E h;repeat (first|(obtain⟨rfl,_⟩:=h;rfl)|(obtain⟨_,h⟩:=h))) (hfs_of (mC ⟨⟨_,_,_,(O2).mono (by omega),m2,k2,b2⟩,mN⟩)) mN ⟨n1,n2,n3⟩ (show tld b_p_kind_numbers=false by decide +kernel) (show hat b_p_kind_numbers=false by decide +kernel) rfl rfl (body_kn rfl (show fsOf _ "refined"=some (spRef) from lookup_here) )
 have O4:=code_ok0 (P:=l.prog) (w:=w) (mg:=mg) (base:=base) (k:=3) F4 { N:=n_p_kinds,B:=b_p_kinds,K:=K,fs:=fsOf [("kind_numbers",spKn)] } sc_ki rfl c_p_kinds m_ki (sp:=spKi) (by intro vs H Q E h;repeat (first|(obtain⟨rfl,_⟩:=h;rfl)|(obtain⟨_,h⟩:=h))) (hfs_of (mC ⟨⟨_,_,_,(O3).mono (by omega),m3,k3,b3⟩,mN⟩)) (mC ⟨n6,(mC ⟨n4,mN⟩)⟩) ⟨n1,n2,n3⟩ (show tld b_p_kinds=false by decide +kernel) (show hat b_p_kinds=false by decide +kernel) rfl rfl (body_ki rfl (show fsOf _ "kind_numbers"=some (spKn) from lookup_here) )
 have O5:=code_ok0 (P:=l.prog) (w:=w) (mg:=mg) (base:=base) (k:=4) F5 { N:=n_p_lessened,B:=b_p_lessened,K:=K,fs:=fsOf [("kind_numbers",spKn),("kinds",spKi)] } sc_ls rfl c_p_lessened m_ls (sp:=spLs) (by intro vs H Q E h;repeat (first|(obtain⟨rfl,_⟩:=h;rfl)|(obtain⟨_,h⟩:=h))) (hfs_of (mC ⟨⟨_,_,_,(O3).mono (by omega),m3,k3,b3⟩,(mC ⟨⟨_,_,_,(O4).mono (by omega),m4,k4,b4⟩,mN⟩)⟩)) (mC ⟨n7,mN⟩) ⟨n1,n2,n3⟩ (show tld b_p_lessened=false by decide +kernel) (show hat b_p_lessened=false by decide +kernel) rfl rfl (body_ls rfl (show fsOf _ "kind_numbers"=some (spKn) from lookup_here) (show fsOf _ "kinds"=some (spKi) from((lookup_skip (by decide +kernel)).trans lookup_here)) )
 have O6:=code_ok0 (P:=l.prog) (w:=w) (mg:=mg) (base:=base) (k:=0) F6 { N:=n_cell_at,B:=b_cell_at,K:=K,fs:=fsOf [] } sc_cell rfl c_cell_at m_cell (sp:=spCell K) (by intro vs H Q E h;repeat (first|(obtain⟨rfl,_⟩:=h;rfl)|(obtain⟨_,h⟩:=h))) (hfs_of mN) (mC ⟨n4,mN⟩) ⟨n1,n2,n3⟩ (show tld b_cell_at=false by decide +kernel) (show hat b_cell_at=false by decide +kernel) rfl rfl (body_cell (C:={ N:=n_cell_at,B:=b_cell_at,K:=K,fs:=fsOf [] }) rfl  )
 have O7:=box_fn (code_ok0 (P:=l.prog) (w:=w) (mg:=mg) (base:=base) (k:=1) F7 { N:=n_box,B:=b_box,K:=K,fs:=fsOf [("_law_cell_at",spCell K)] } sc_box rfl c_box m_box (sp:=spBox0 K) (by intro vs H Q E h;repeat (first|(obtain⟨rfl,_⟩:=h;rfl)|(obtain⟨_,h⟩:=h))) (hfs_of (mC ⟨⟨_,_,_,(O6).mono (by omega),m6,k6,b6⟩,mN⟩)) (mC ⟨n8,(mC ⟨n9,mN⟩)⟩) ⟨n1,n2,n3⟩ (show tld b_box=false by decide +kernel) (show hat b_box=false by decide +kernel) rfl rfl (body_box (C:={ N:=n_box,B:=b_box,K:=K,fs:=fsOf [("_law_cell_at",spCell K)] }) rfl (show fsOf _ "_law_cell_at"=some (spCell K) from lookup_here) ))
 have O8:=take_fn rfl (code_ok0 (P:=l.prog) (w:=w) (mg:=mg) (base:=base) (k:=0) F8 { N:=n_take,B:=b_take,K:=K,fs:=fsOf [] } sc_take rfl c_take m_take (sp:=spTake0) (by intro vs H Q E h;repeat (first|(obtain⟨rfl,_⟩:=h;rfl)|(obtain⟨_,h⟩:=h))) (hfs_of mN) mN ⟨n1,n2,n3⟩ (show tld b_take=false by decide +kernel) (show hat b_take=false by decide +kernel) rfl rfl (body_take rfl  ))
 have O9:=code_ok0 (P:=l.prog) (w:=w) (mg:=mg) (base:=base) (k:=1) F9 { N:=n_many,B:=b_many,K:=K,fs:=fsOf [("_law_take",spTake)] } sc_many rfl c_many m_many (sp:=spMany) (by intro vs H Q E h;repeat (first|(obtain⟨rfl,_⟩:=h;rfl)|(obtain⟨_,h⟩:=h))) (hfs_of (mC ⟨⟨_,_,_,(O8).mono (by omega),m8,k8,b8⟩,mN⟩)) mN ⟨n1,n2,n3⟩ (show tld b_many=false by decide +kernel) (show hat b_many=false by decide +kernel) rfl rfl (body_many rfl (show fsOf _ "_law_take"=some (spTake) from lookup_here) )
 have O10:=code_ok0 (P:=l.prog) (w:=w) (mg:=mg) (base:=base) (k:=1) F10 { N:=n_machine,B:=b_machine,K:=K,fs:=fsOf [("_law_take",spTake)] } sc_machine rfl c_machine m_machine (sp:=spMach 1 60 400) (by intro vs H Q E h;repeat (first|(obtain⟨rfl,_⟩:=h;rfl)|(obtain⟨_,h⟩:=h))) (hfs_of (mC ⟨⟨_,_,_,(O8).mono (by omega),m8,k8,b8⟩,mN⟩)) (mC ⟨n9,(mC ⟨n10,(mC ⟨n7,mN⟩)⟩)⟩) ⟨n1,n2,n3⟩ (show tld b_machine=false by decide +kernel) (show hat b_machine=false by decide +kernel) rfl rfl (body_machine rfl (show fsOf _ "_law_take"=some (spTake) from lookup_here) )
 have O11:=code_ok0 (P:=l.prog) (w:=w) (mg:=mg) (base:=base) (k:=1) F11 { N:=n_ring_machine,B:=b_ring_machine,K:=K,fs:=fsOf [("_law_take",spTake)] } sc_ring rfl c_ring_machine m_ring (sp:=spMach 1 60 400) (by intro vs H Q E h;repeat (first|(obtain⟨rfl,_⟩:=h;rfl)|(obtain⟨_,h⟩:=h))) (hfs_of (mC ⟨⟨_,_,_,(O8).mono (by omega),m8,k8,b8⟩,mN⟩)) (mC ⟨n6,(mC ⟨n9,(mC ⟨n10,(mC ⟨n7,mN⟩)⟩)⟩)⟩) ⟨n1,n2,n3⟩ (show tld b_ring_machine=false by decide +kernel) (show hat b_ring_machine=false by decide +kernel) rfl rfl (body_ring rfl (show fsOf _ "_law_take"=some (spTake) from lookup_here) )
 have O12:=code_ok0 (P:=l.prog) (w:=w) (mg:=mg) (base:=base) (k:=1) F12 { N:=n_copied,B:=b_copied,K:=K,fs:=fsOf [("_law_take",spTake)] } sc_copied rfl c_copied m_copied (sp:=spCopied) (by intro vs H Q E h;repeat (first|(obtain⟨rfl,_⟩:=h;rfl)|(obtain⟨_,h⟩:=h))) (hfs_of (mC ⟨⟨_,_,_,(O8).mono (by omega),m8,k8,b8⟩,mN⟩)) (mC ⟨n6,(mC ⟨n4,(mC ⟨n10,(mC ⟨n7,mN⟩)⟩)⟩)⟩) ⟨n1,n2,n3⟩ (show tld b_copied=false by decide +kernel) (show hat b_copied=false by decide +kernel) rfl rfl (body_copied rfl (show fsOf _ "_law_take"=some (spTake) from lookup_here) )
 have O13:=code_ok0 (P:=l.prog) (w:=w) (mg:=mg) (base:=base) (k:=1) F13 { N:=n_line,B:=b_line,K:=K,fs:=fsOf [("_law_take",spTake)] } sc_line rfl c_line m_line (sp:=spMach 1 60 400) (by intro vs H Q E h;repeat (first|(obtain⟨rfl,_⟩:=h;rfl)|(obtain⟨_,h⟩:=h))) (hfs_of (mC ⟨⟨_,_,_,(O8).mono (by omega),m8,k8,b8⟩,mN⟩)) (mC ⟨n11,(mC ⟨n10,(mC ⟨n7,mN⟩)⟩)⟩) ⟨n1,n2,n3⟩ (show tld b_line=false by decide +kernel) (show hat b_line=false by decide +kernel) rfl rfl (body_line rfl (show fsOf _ "_law_take"=some (spTake) from lookup_here) )
 have O14:=code_ok0 (P:=l.prog) (w:=w) (mg:=mg) (base:=base) (k:=2) F14 { N:=n_any,B:=b_any,K:=K,fs:=fsOf [("_law_take",spTake),("_law_many",spMany),("_law_line",spMach 1 60 400),("_law_copied",spCopied),("_law_machine",spMach 1 60 400),("_law_ring_machine",spMach 1 60 400)] } sc_any rfl c_any m_any (sp:=spAny) (by intro vs H Q E h;repeat (first|(obtain⟨rfl,_⟩:=h;rfl)|(obtain⟨_,h⟩:=h))) (hfs_of (mC ⟨⟨_,_,_,(O8).mono (by omega),m8,k8,b8⟩,(mC ⟨⟨_,_,_,(O9).mono (by omega),m9,k9,b9⟩,(mC ⟨⟨_,_,_,(O13).mono (by omega),m13,k13,b13⟩,(mC ⟨⟨_,_,_,(O12).mono (by omega),m12,k12,b12⟩,(mC ⟨⟨_,_,_,(O10).mono (by omega),m10,k10,b10⟩,(mC ⟨⟨_,_,_,(O11).mono (by omega),m11,k11,b11⟩,mN⟩)⟩)⟩)⟩)⟩)⟩)) mN ⟨n1,n2,n3⟩ (show tld b_any=false by decide +kernel) (show hat b_any=false by decide +kernel) rfl rfl (body_any rfl (show fsOf _ "_law_take"=some (spTake) from lookup_here) (show fsOf _ "_law_many"=some (spMany) from((lookup_skip (by decide +kernel)).trans lookup_here)) (show fsOf _ "_law_line"=some (spMach 1 60 400) from((lookup_skip (by decide +kernel)).trans ((lookup_skip (by decide +kernel)).trans lookup_here))) (show fsOf _ "_law_copied"=some (spCopied) from((lookup_skip (by decide +kernel)).trans ((lookup_skip (by decide +kernel)).trans ((lookup_skip (by decide +kernel)).trans lookup_here)))) (show fsOf _ "_law_machine"=some (spMach 1 60 400) from((lookup_skip (by decide +kernel)).trans ((lookup_skip (by decide +kernel)).trans ((lookup_skip (by decide +kernel)).trans ((lookup_skip (by decide +kernel)).trans lookup_here))))) (show fsOf _ "_law_ring_machine"=some (spMach 1 60 400) from((lookup_skip (by decide +kernel)).trans ((lookup_skip (by decide +kernel)).trans ((lookup_skip (by decide +kernel)).trans ((lookup_skip (by decide +kernel)).trans ((lookup_skip (by decide +kernel)).trans lookup_here)))))) )
 have O15:∀n,FnOk l.prog w K mg base CX0 (n+0+1) f15 (W.fnOf "_law_same" "_law_same" (defArgs (top 16)) (defBody (top 16)) (defScope (top 16)) .none kV15 dc15 pm15 an15 cd15 ct15) ["_law_found","_law_due_here"] (spSame n):=by
  intro n
  induction n with
  |zero=>exact code_ok0 (P:=l.prog) (w:=w) (mg:=mg) (base:=base) (k:=0+0) F15 { N:=n_same,B:=b_same,K:=K,fs:=fsOf [] } sc_same rfl c_same m_same (by intro vs H Q E h;repeat (first|(obtain⟨rfl,_⟩:=h;rfl)|(obtain⟨_,h⟩:=h))) (hfs_of mN) (mC ⟨n12,(mC ⟨n13,(mC ⟨n9,(mC ⟨n14,(mC ⟨n4,(mC ⟨n11,(mC ⟨n15,(mC ⟨n7,(mC ⟨n5,mN⟩)⟩)⟩)⟩)⟩)⟩)⟩)⟩)⟩) ⟨n1,n2,n3⟩ (show tld b_same=false by decide +kernel) (show hat b_same=false by decide +kernel) rfl rfl (body_same (C:={ N:=n_same,B:=b_same,K:=K,fs:=fsOf [] }) rfl (fun m h=>absurd h (by omega)) )
  |succ m ih=>exact code_ok0 (P:=l.prog) (w:=w) (mg:=mg) (base:=base) (k:=m+0+1) F15 { N:=n_same,B:=b_same,K:=K,fs:=fsOf [("_law_same",spSame m)] } sc_same rfl c_same m_same (by intro vs H Q E h;repeat (first|(obtain⟨rfl,_⟩:=h;rfl)|(obtain⟨_,h⟩:=h))) (hfs_of (mC ⟨⟨_,_,_,(ih).mono (by omega),m15,k15,b15⟩,mN⟩)) (mC ⟨n12,(mC ⟨n13,(mC ⟨n9,(mC ⟨n14,(mC ⟨n4,(mC ⟨n11,(mC ⟨n15,(mC ⟨n7,(mC ⟨n5,mN⟩)⟩)⟩)⟩)⟩)⟩)⟩)⟩)⟩) ⟨n1,n2,n3⟩ (show tld b_same=false by decide +kernel) (show hat b_same=false by decide +kernel) rfl rfl (body_same (C:={ N:=n_same,B:=b_same,K:=K,fs:=fsOf [("_law_same",spSame m)] }) rfl (fun m h=>by cases h;exact(show fsOf _ "_law_same"=some (spSame m) from lookup_here)) )
 have O16:=code_ok0 (P:=l.prog) (w:=w) (mg:=mg) (base:=base) (k:=0) F16 { N:=n_table,B:=b_table,K:=K,fs:=fsOf [] } sc_tab rfl c_table m_tab (sp:=spTab) (by intro vs H Q E h;repeat (first|(obtain⟨rfl,_⟩:=h;rfl)|(obtain⟨_,h⟩:=h))) (hfs_of mN) (mC ⟨n4,(mC ⟨n10,(mC ⟨n5,mN⟩)⟩)⟩) ⟨n1,n2,n3⟩ (show tld b_table=false by decide +kernel) (show hat b_table=false by decide +kernel) rfl rfl (body_tab rfl  )
 have O17:=code_ok0 (P:=l.prog) (w:=w) (mg:=mg) (base:=base) (k:=1) F17 { N:=n_due,B:=b_due,K:=K,fs:=fsOf [("_law_table",spTab)] } sc_due rfl c_due m_due (sp:=spDue) (by intro vs H Q E h;repeat (first|(obtain⟨rfl,_⟩:=h;rfl)|(obtain⟨_,h⟩:=h))) (hfs_of (mC ⟨⟨_,_,_,(O16).mono (by omega),m16,k16,b16⟩,mN⟩)) (mC ⟨n4,(mC ⟨n10,mN⟩)⟩) ⟨n1,n2,n3⟩ (show tld b_due=false by decide +kernel) (show hat b_due=false by decide +kernel) rfl rfl (body_due rfl (show fsOf _ "_law_table"=some (spTab) from lookup_here) )
 have O18:=code_ok0 (P:=l.prog) (w:=w) (mg:=mg) (base:=base) (k:=5) F18 { N:=n_right,B:=b_right,K:=K,fs:=fsOf [("_law_due",spDue),("_law_same",spSame 3),("kinds",spKi),("lessened",spLs)] } sc_right rfl c_right m_right (sp:=spRight) (by intro vs H Q E h;repeat (first|(obtain⟨rfl,_⟩:=h;rfl)|(obtain⟨_,h⟩:=h))) (hfs_of (mC ⟨⟨_,_,_,(O17).mono (by omega),m17,k17,b17⟩,(mC ⟨⟨_,_,_,(O15 3).mono (by omega),m15,k15,b15⟩,(mC ⟨⟨_,_,_,(O4).mono (by omega),m4,k4,b4⟩,(mC ⟨⟨_,_,_,(O5).mono (by omega),m5,k5,b5⟩,mN⟩)⟩)⟩)⟩)) (mC ⟨n4,(mC ⟨n11,(mC ⟨n10,(mC ⟨n7,mN⟩)⟩)⟩)⟩) ⟨n1,n2,n3⟩ (show tld b_right=false by decide +kernel) (show hat b_right=false by decide +kernel) rfl rfl (body_right rfl ⟨(show fsOf _ "_law_due"=some (spDue) from lookup_here),(show fsOf _ "_law_same"=some (spSame 3) from((lookup_skip (by decide +kernel)).trans lookup_here)),(show fsOf _ "kinds"=some (spKi) from((lookup_skip (by decide +kernel)).trans ((lookup_skip (by decide +kernel)).trans lookup_here))),(show fsOf _ "lessened"=some (spLs) from((lookup_skip (by decide +kernel)).trans ((lookup_skip (by decide +kernel)).trans ((lookup_skip (by decide +kernel)).trans lookup_here))))⟩ )
 exact code_ok0 (P:=l.prog) (w:=w) (mg:=mg) (base:=base) (k:=59) F19 { N:=n_law,B:=b_law,K:=K,fs:=fsOf [("_law_box",spBox K),("_law_any",spAny),("_law_same",spSame 3),("kinds",spKi),("lessened",spLs),("_law_right",spRight)] } sc_law rfl c_law m_law (sp:=spLaw K) (by intro vs H Q E h;repeat (first|(obtain⟨rfl,_⟩:=h;rfl)|(obtain⟨_,h⟩:=h))) (hfs_of (mC ⟨⟨_,_,_,(O7).mono (by omega),m7,k7,b7⟩,(mC ⟨⟨_,_,_,(O14).mono (by omega),m14,k14,b14⟩,(mC ⟨⟨_,_,_,(O15 3).mono (by omega),m15,k15,b15⟩,(mC ⟨⟨_,_,_,(O4).mono (by omega),m4,k4,b4⟩,(mC ⟨⟨_,_,_,(O5).mono (by omega),m5,k5,b5⟩,(mC ⟨⟨_,_,_,(O18).mono (by omega),m18,k18,b18⟩,mN⟩)⟩)⟩)⟩)⟩)⟩)) (mC ⟨n10,mN⟩) ⟨n1,n2,n3⟩ (show tld b_law=false by decide +kernel) (show hat b_law=false by decide +kernel) rfl rfl (body_law (C:={ N:=n_law,B:=b_law,K:=K,fs:=fsOf [("_law_box",spBox K),("_law_any",spAny),("_law_same",spSame 3),("kinds",spKi),("lessened",spLs),("_law_right",spRight)] }) rfl ⟨(show fsOf _ "_law_box"=some (spBox K) from lookup_here),(show fsOf _ "_law_any"=some (spAny) from((lookup_skip (by decide +kernel)).trans lookup_here)),(show fsOf _ "_law_same"=some (spSame 3) from((lookup_skip (by decide +kernel)).trans ((lookup_skip (by decide +kernel)).trans lookup_here))),(show fsOf _ "kinds"=some (spKi) from((lookup_skip (by decide +kernel)).trans ((lookup_skip (by decide +kernel)).trans ((lookup_skip (by decide +kernel)).trans lookup_here)))),(show fsOf _ "lessened"=some (spLs) from((lookup_skip (by decide +kernel)).trans ((lookup_skip (by decide +kernel)).trans ((lookup_skip (by decide +kernel)).trans ((lookup_skip (by decide +kernel)).trans lookup_here))))),(show fsOf _ "_law_right"=some (spRight) from((lookup_skip (by decide +kernel)).trans ((lookup_skip (by decide +kernel)).trans ((lookup_skip (by decide +kernel)).trans ((lookup_skip (by decide +kernel)).trans ((lookup_skip (by decide +kernel)).trans lookup_here))))))⟩ )
theorem walk {l:W.OpenLaw} {q:Program} {loose:List Str} {XP:(Str->Option Value)->Heap->Prop} {d:DefRec} {K:Params->W.Frag} {bs:List Addr} {m t:Nat} (hn:l.most=some 63) (hdf:d.params.defaults=[]) (e:∀P,bs=(K P).map (·.1))
  (F:∀(w:World) (mg:Str->Option Value) (fa:Addr) (h:Heap),(K w.params).In h->h.Ns mainGlobals mg->mg d.name=some (.ref fa)->
   ∃fd:FuncData,(∀(s:Shared) (u:Value),BindsTo s fd ⟨[u],[]⟩ [("_law_script",u)])/\∀base:Heap,(K w.params).In base->base.Ns mainGlobals mg->FnOk l.prog w (K w.params) mg base CX0 60 fa fd ["_law_script"] (spLaw (K w.params))):
  W.WalkX q loose XP (W.X.obsZ bs) (W.X.valZ K m t) l.row.toRowW d [] (fun f vs=>PySem.call f vs):=
 fun w s₀ s₁ mg mb G y a o pm cd doc dV kV h1 h2 h3 h4 h5 h6 args vals cs La=>L2.walk_of (YP:=fun w h=>(K w.params).In h) (n:=63) (k:=60) (x:="_law_script") (CX:=fun _=>CX0) (sp:=fun w=>spLaw (K w.params)) hn (by decide) hdf ⟨rfl,by decide,by decide,rfl⟩ (fun _ _ Y=>Y) F (fun _ _ a ns hl _ hS=>⟨a,ns,rfl,hS,hl,fun _=>rfl⟩) (fun _ _ _ _ _ z=>z) w s₀ s₁ mg mb G (W.InK.keeps w _ _ (W.X.z_facts e y).2.1 La.keeps) a o pm cd doc dV kV h1 h2 h3 h4 h5 h6 args vals cs
end K15
end
open PySem PySem.W PyProof.Rows
set_option maxRecDepth 100000 in
set_option maxHeartbeats 0 in
theorem PySem.Challenge.cw_runbound_k15_kinds_and_lessened_holds : PySem.Challenge.rw_runbound_k15_kinds_and_lessened.Holds := by
 w_on; o_law; z_head; (case hw => w_witness2)
 k_fill
 refine K15.walk (l := PySem.Challenge.rw_runbound_k15_kinds_and_lessened) rfl rfl (fun _ => rfl) ?F
 case F =>
  intro w mg fa h KX G hmg
  refine' K15.all_mk KX G hmg ?a1 ?l1 ?c1 ?k1 ?a2 ?l2 ?c2 ?k2 ?a3 ?l3 ?c3 ?k3 ?a4 ?l4 ?c4 ?k4 ?a5 ?l5 ?c5 ?k5 ?a6 ?l6 ?c6 ?k6 ?a7 ?l7 ?c7 ?k7 ?a8 ?l8 ?c8 ?k8 ?a9 ?l9 ?c9 ?k9 ?a10 ?l10 ?c10 ?k10 ?a11 ?l11 ?c11 ?k11 ?a12 ?l12 ?c12 ?k12 ?a13 ?l13 ?c13 ?k13 ?a14 ?l14 ?c14 ?k14 ?a15 ?l15 ?c15 ?k15 ?a16 ?l16 ?c16 ?k16 ?a17 ?l17 ?c17 ?k17 ?a18 ?l18 ?c18 ?k18 ?a19 ?l19 ?c19 ?k19 ?z1 ?z2 ?z3 ?z4 ?z5 ?z6 ?z7 ?z8 ?z9 ?z10 ?z11 ?z12 ?z13 ?z14 ?z15 
  (case a1 => k_is); (case l1 => k_is); (case c1 => k_is); (case k1 => k_is)
  (case a2 => k_is); (case l2 => k_is); (case c2 => k_is); (case k2 => k_is)
  (case a3 => k_is); (case l3 => k_is); (case c3 => k_is); (case k3 => k_is)
  (case a4 => k_is); (case l4 => k_is); (case c4 => k_is); (case k4 => k_is)
  (case a5 => k_is); (case l5 => k_is); (case c5 => k_is); (case k5 => k_is)
  (case a6 => k_is); (case l6 => k_is); (case c6 => k_is); (case k6 => k_is)
  (case a7 => k_is); (case l7 => k_is); (case c7 => k_is); (case k7 => k_is)
  (case a8 => k_is); (case l8 => k_is); (case c8 => k_is); (case k8 => k_is)
  (case a9 => k_is); (case l9 => k_is); (case c9 => k_is); (case k9 => k_is)
  (case a10 => k_is); (case l10 => k_is); (case c10 => k_is); (case k10 => k_is)
  (case a11 => k_is); (case l11 => k_is); (case c11 => k_is); (case k11 => k_is)
  (case a12 => k_is); (case l12 => k_is); (case c12 => k_is); (case k12 => k_is)
  (case a13 => k_is); (case l13 => k_is); (case c13 => k_is); (case k13 => k_is)
  (case a14 => k_is); (case l14 => k_is); (case c14 => k_is); (case k14 => k_is)
  (case a15 => k_is); (case l15 => k_is); (case c15 => k_is); (case k15 => k_is)
  (case a16 => k_is); (case l16 => k_is); (case c16 => k_is); (case k16 => k_is)
  (case a17 => k_is); (case l17 => k_is); (case c17 => k_is); (case k17 => k_is)
  (case a18 => k_is); (case l18 => k_is); (case c18 => k_is); (case k18 => k_is)
  (case a19 => k_is); (case l19 => k_is); (case c19 => k_is); (case k19 => k_is)
  (case z1 => k_is)
  (case z2 => k_is)
  (case z3 => k_is)
  (case z4 => k_is)
  (case z5 => k_is)
  (case z6 => k_is)
  (case z7 => k_is)
  (case z8 => k_is)
  (case z9 => k_is)
  (case z10 => k_is)
  (case z11 => k_is)
  (case z12 => k_is)
  (case z13 => k_is)
  (case z14 => k_is)
  (case z15 => k_is)