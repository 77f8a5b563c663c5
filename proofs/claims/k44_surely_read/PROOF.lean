import PyProof.Rows.All
import Wide.All
import OpenK.AllK
import Wide.FinOn
import Lean
import PyProof.EqAt
import PyProof.EqKinds
import PyProof.TupleCall
import PyProof.Rows.TupAdd
import PyProof.Rows.SortStr
import PyProof.Rows.SortWalk
import PyProof.CollectIter
import PyProof.Rows.Tup
import PyProof.TupleOfSeq
import PyProof.ReprRoads
import PyProof.CallStr
import PyProof.SeqRoads2
import KE.KDictList
import PyProof.SetRoads
import PyProof.Rows.SetFrom
import PyProof.Rows.SortShell
import PySem.Challenge.RW_runbound_k44_surely_read
set_option Elab.async false
set_option compiler.extract_closed false
set_option linter.all false
set_option maxRecDepth 100000
namespace L2
open PySem PySem.Spec PyProof.Rows
section
variable {prog:Program} {w:World} {A:Around} {E:Value->Shared->Prop} {s:Shared}
theorem typeIs_none' (s:Shared):s.TypeIs .none "NoneType":=rfl
theorem hash_none {Q:Int->Shared->Prop} (h:Q 0xFCA86420 { s with toks:=s.toks+1 }):wpAny (model prog w) A (pyHash .none) Q E s:=by
 unfold pyHash
 have hv:[Value.none].any Value.onHeap=false:=rfl
 refine wpAny_bind ?_
 rw[cRoomFor,if_neg (by rw[hv];exact Bool.false_ne_true)];refine wpAny_pure ?_
 refine wpAny_bind (wpAny_specialOf (typeIs_none' s) F.slot_NoneType_hash.lookup ?_)
 show wpAny _ _ (if(some (Value.builtin "NoneType.__hash__") == some Value.none)=true then _ else _) Q E s
 rw[if_neg (by rw[beq_builtin_none];exact Bool.false_ne_true)]
 refine wpAny_bind (wpAny_specialOf (typeIs_none' s) F.slot_NoneType_hash.lookup ?_)
 show wpAny _ _ (callSpecialIfBoundUnlessNone? (.none) "__hash__" _ >>= _) Q E s
 refine wpAny_bind (wpAny_callSpecialIfBoundUnlessNone?_slot (typeIs_none' s) F.slot_NoneType_hash
  (wpAny_call_entry F.slot_NoneType_hash (typeIs_none' s) F.entry_NoneType_hash
   (show wpAny _ _ (do ret (<- mkInt 0xFCA86420)) _ _ s from wpAny_ret_mkInt ?_) (F.args_NoneType_hash_1 _)))
 exact wpAny_pure h
end
inductive Key where
 |inl (i:Int)|inr (x:Str)|non
 deriving DecidableEq
noncomputable def keyIs:Key->Value->Bool
 | .inl k,v=>Value.isInt k v
 | .inr x,v=>Value.isStrOf x v
 | .non,.none=>true
 | .non,_=>false
noncomputable def keyH (w:World):Key->Int
 | .inl k=>hashInt k
 | .inr x=>hashStr w x
 | .non=>0xFCA86420
theorem keyIs_shape:∀{k:Key} {v:Value},keyIs k v=true->(∃i t,k=Key.inl i/\v=Value.int i t)\/(∃x t,k=Key.inr x/\v=Value.str x t)\/(k=Key.non/\v=Value.none)
 | .inl i,v,h=>by
  obtain⟨t,e⟩:=Value.isInt_shape (k:=i) (v:=v) h
  exact .inl ⟨i,t,rfl,e⟩
 | .inr x,v,h=>by
  obtain⟨t,e⟩:=Value.isStrOf_shape (x:=x) (v:=v) h
  exact .inr (.inl ⟨x,t,rfl,e⟩)
 | .non,v,h=>by cases v<;>first|exact .inr (.inr ⟨rfl,rfl⟩)|cases h
theorem keyIs_int (i:Int) (t:Tok):keyIs (.inl i) (.int i t)=true:=by simp[keyIs,Value.isInt]
theorem keyIs_str (x:Str) (t:Tok):keyIs (.inr x) (.str x t)=true:=by simp[keyIs,Value.isStrOf]
theorem key_ll (a b:Int):decide ((Key.inl a:Key)=Key.inl b)=(a == b):=by
 by_cases e:a=b
 .rw[e,decide_eq_true rfl,beq_self_eq_true]
 .rw[decide_eq_false (fun q=>e (Key.inl.inj q)),beq_eq_false_iff_ne.mpr e]
theorem key_rr (a b:Str):decide ((Key.inr a:Key)=Key.inr b)=decide (a=b):=by
 by_cases e:a=b
 .rw[e,decide_eq_true rfl,decide_eq_true rfl]
 .rw[decide_eq_false (fun q=>e (Key.inr.inj q)),decide_eq_false e]
theorem key_no {a b:Key} (h:a≠b):decide (a=b)=false:=decide_eq_false h
noncomputable def mixKind (prog:Program) (w:World):PySem.KeyKind prog w Key where
 is:=keyIs
 hash:=keyH w
 inj:=fun v a b ha hb=>by
  rcases keyIs_shape ha with⟨i,t,rfl,rfl⟩|⟨x,t,rfl,rfl⟩|⟨rfl,rfl⟩<;>rcases keyIs_shape hb with⟨j,u,rfl,e⟩|⟨y,u,rfl,e⟩|⟨rfl,e⟩<;>
   first|rfl|(injection e with e1 _;rw[e1])|exact nomatch e
 byValue:=fun k v h=>by
  rcases keyIs_shape h with⟨i,t,rfl,rfl⟩|⟨x,t,rfl,rfl⟩|⟨rfl,rfl⟩<;>rfl
 pyHash:=fun hv h=>by
  rcases keyIs_shape hv with⟨i,t,rfl,rfl⟩|⟨x,t,rfl,rfl⟩|⟨rfl,rfl⟩
  .exact wpAny_pyHash_int h
  .exact wpAny_pyHash_str h
  .exact hash_none h
 eqBool:=fun {A E s a b u v Q} hu hv h=>by
  rcases keyIs_shape hu with⟨i,t,rfl,rfl⟩|⟨x,t,rfl,rfl⟩|⟨rfl,rfl⟩
  .rcases keyIs_shape hv with⟨j,u,rfl,rfl⟩|⟨y,u,rfl,rfl⟩|⟨rfl,rfl⟩
   .rw[key_ll]at h;exact wpAny_eqBool_int h
   .rw[key_no (a:=Key.inl i) (b:=Key.inr y) (fun q=>nomatch q)]at h;exact SeqAt.EqAt.int_str i t y u _ _ _ _ h
   .rw[key_no (a:=Key.inl i) (b:=Key.non) (fun q=>nomatch q)]at h;exact SeqAt.EqAt.int_none i t _ _ _ _ h
  .rcases keyIs_shape hv with⟨j,u,rfl,rfl⟩|⟨y,u,rfl,rfl⟩|⟨rfl,rfl⟩
   .rw[key_no (a:=Key.inr x) (b:=Key.inl j) (fun q=>nomatch q)]at h;exact SeqAt.EqAt.str_int x t j u _ _ _ _ h
   .rw[key_rr]at h;exact wpAny_eqBool_str h
   .rw[key_no (a:=Key.inr x) (b:=Key.non) (fun q=>nomatch q)]at h;exact SeqAt.EqAt.str_none x t _ _ _ _ h
  .rcases keyIs_shape hv with⟨j,u,rfl,rfl⟩|⟨y,u,rfl,rfl⟩|⟨rfl,rfl⟩
   .rw[key_no (a:=Key.non) (b:=Key.inl j) (fun q=>nomatch q)]at h;exact SeqAt.EqAt.none_int j u _ _ _ _ h
   .rw[key_no (a:=Key.non) (b:=Key.inr y) (fun q=>nomatch q)]at h;exact SeqAt.EqAt.none_str y u _ _ _ _ h
   .rw[decide_eq_true rfl]at h;exact SeqAt.EqAt.same .none _ _ _ _ h
 «strs»:=fun k x t v h=>by
  rcases keyIs_shape h with⟨i,u,rfl,e⟩|⟨y,u,rfl,e⟩|⟨rfl,e⟩
  .exact nomatch e
  .injection e with e1 _
   subst e1
   cases v<;>rfl
  .exact nomatch e
theorem mixKind_int (prog:Program) (w:World) (i:Int) (t:Tok):(mixKind prog w).is (.inl i) (.int i t)=true:=keyIs_int i t
theorem mixKind_str (prog:Program) (w:World) (x:Str) (t:Tok):(mixKind prog w).is (.inr x) (.str x t)=true:=keyIs_str x t
inductive V where
 |non|bl (b:Bool)|int (i:Int)|str (x:Str)|byt (b:Array UInt8)|flt (b:UInt64)|ref (a:Addr)|ty (n:String)
 deriving DecidableEq
noncomputable def RelV:V->Value->Prop
 | .non,u=>u=Value.none
 | .bl b,u=>u=Value.bool b
 | .int i,u=>∃t,u=Value.int i t
 | .str x,u=>∃t,u=Value.str x t
 | .byt b,u=>∃t,u=Value.bytes b t
 | .flt b,u=>∃t,u=Value.float b t
 | .ref a,u=>u=Value.ref a
 | .ty n,u=>u=Value.type n
noncomputable abbrev Vals:List V->List Value->Prop:=Paired RelV
theorem Vals.length {xs:List V} {us:List Value} (r:Vals xs us):xs.length=us.length:=Paired.length r
theorem Vals.get:∀{xs:List V} {us:List Value} {i:Nat} {x:V},Vals xs us->xs[i]?=some x->∃u,us[i]?=some u/\RelV x u
 |_,_,_,_,.nil,e=>by simp at e
 |_,_,0,_,.cons r _,e=>by simp at e;subst e;exact⟨_,rfl,r⟩
 |_,_,i+1,x,.cons _ t,e=>by
  obtain⟨u,h1,h2⟩:=Vals.get (i:=i) (x:=x) t (by simpa using e)
  exact⟨u,by simpa using h1,h2⟩
theorem Vals.set {x:V} {u:Value} (r:RelV x u):∀{xs:List V} {us:List Value} (i:Nat),Vals xs us->Vals (xs.set i x) (us.set i u)
 |_,_,_,.nil=>.nil
 |_,_,0,.cons _ t=>.cons r t
 |_,_,i+1,.cons q t=>.cons q (Vals.set r i t)
theorem Vals.append:∀{xs ys:List V} {us ws:List Value},Vals xs us->Vals ys ws->Vals (xs++ys) (us++ws)
 |_,_,_,_,.nil,s=>s
 |_,_,_,_,.cons r t,s=>.cons r (Vals.append t s)
theorem Vals.take:∀{xs:List V} {us:List Value} (n:Nat),Vals xs us->Vals (xs.take n) (us.take n)
 |_,_,0,_=>.nil
 |_,_,_+1,.nil=>.nil
 |_,_,n+1,.cons r t=>.cons r (Vals.take n t)
theorem Vals.drop:∀{xs:List V} {us:List Value} (n:Nat),Vals xs us->Vals (xs.drop n) (us.drop n)
 |_,_,0,r=>r
 |_,_,_+1,.nil=>.nil
 |_,_,n+1,.cons _ t=>Vals.drop n t
noncomputable def RelO:Option V->Option Value->Prop
 |some v,some u=>RelV v u
 |none,none=>True
 |_,_=>False
noncomputable def KV {κ:Type}:List (κ×V)->List (κ×Value)->Prop:=Paired fun(p:κ×V) (q:κ×Value)=>p.1=q.1/\RelV p.2 q.2
noncomputable def kV:Key->V
 | .inl i=>.int i
 | .inr x=>.str x
 | .non=>.non
inductive HO where
 |lst (xs:List V)
 |tup (xs:List V)
 |dK (kvs:List (Key×V))|dT (kvs:List (List Key×V))
 |set (S:Int->Bool) (n:Nat)
 |ins (C dx:Addr) (fs:List (Str×V))
 |own (x:Addr)
 |xd (fs:List (Str×V))
 |met (f x:Addr)
 |rng (lo hi:Int)
 |frz (o:Obj) (u:HO)
 |tbl (ps:Array Value)
 |ext (φ:Heap->Prop)
noncomputable abbrev Hp:=Addr->Option HO
noncomputable def upd (H:Hp) (a:Addr) (o:HO):Hp:=fun b=>if b=a then some o else H b
theorem upd_same {H:Hp} {a:Addr} {o:HO}:upd H a o a=some o:=by unfold upd;rw[if_pos rfl]
theorem upd_ne {H:Hp} {a b:Addr} {o:HO} (h:b≠a):upd H a o b=H b:=by unfold upd;rw[if_neg h]
theorem upd_upd {H:Hp} {a:Addr} {o u:HO}:upd (upd H a o) a u=upd H a u:=by
 funext b;unfold upd;split<;>rfl
theorem ne_of {H:Hp} {a b:Addr} {o u:HO} (h:H a=some o) (h':H b=some u) (d:o≠u):a≠b:=by
 intro e;subst e;rw[h]at h';exact d (Option.some.inj h')
theorem ne_of_none {H:Hp} {a b:Addr} {o:HO} (h:H a=some o) (h':H b=none):a≠b:=by
 intro e;subst e;rw[h]at h';cases h'
def TupD (h:Heap) (a:Addr) (items:Array Value):Prop:=∃o,h.get? a=some o/\o.cls=.type "tuple"/\(∃n,o.data=.seq items n)/\o.dict=none
theorem TupD.tup {h:Heap} {a:Addr} {items:Array Value} (x:TupD h a items):IsTup h a items:=let⟨o,e,c,⟨n,d⟩,_⟩:=x;⟨o,e,c,n,d⟩
theorem TupD.new (h:Heap) (items:Array Value):TupD (h.push { cls:=.type "tuple",data:=.seq items }) h.objs.size items:=⟨_,Heap.get?_push_size _ rfl,rfl,⟨_,rfl⟩,rfl⟩
section
variable (P:Program) (w:World)
noncomputable def ObjOk (H:Hp) (h:Heap) (a:Addr):HO->Prop
 | .lst xs=>xs.length<=sizeLine/\∃(its:List Value) (n:Nat),Vals xs its/\h.get? a=some { cls:=.type "list",data:=.seq its.toArray n }
 | .tup xs=>xs.length<=sizeLine/\∃its:List Value,Vals xs its/\TupD h a its.toArray
 | .dK kvs=>kvs.length<=sizeLine/\(a == sysModules)=false/\∃vs,KV kvs vs/\h.DictOf (mixKind P w) a vs
 | .dT kvs=>kvs.length<=sizeLine/\(a == sysModules)=false/\∃xs:List (List Key×Addr×Value),
   Paired (fun(p:List Key×V) (q:List Key×Addr×Value)=>p.1=q.1/\H q.2.1=some (.tup (p.1.map kV))/\RelV p.2 q.2.2) kvs xs/\
   ∃o es ep,h.get? a=some o/\o.ExactDict/\o.data=.dict es ep/\es.toList=xs.map (entryOfKey (tupleKind (mixKind P w)))/\(xs.map (·.1)).Nodup
 | .set S n=>h.SetOf (intKind P w) a S n
 | .ins C dx fs=>H dx=some (.own a)/\fs.length<=1000/\dx≠a/\h.get? a=some (W.instObj C dx)/\
   ∃mA,h.Ns1 dx mA/\(∀f,RelO (fs.lookup f) (mA f))/\PySem.Within mA (fs.map (·.1))
 | .own _=>∃o,h.get? a=some o
 | .xd fs=>∃mA,h.Ns1 a mA/\∀f,RelO (fs.lookup f) (mA f)
 | .rng lo hi=>∃t u v,h.get? a=some { cls:=.type "range",data:=.fields #[.int lo t,.int hi u,.int 1 v] }
 | .frz o u=>h.get? a=some o/\ObjOk H h a u
 | .tbl ps=>h.get? a=some { cls:=.none,data:=.fields ps }
 | .met f x=>h.get? a=some (W.methodObj (.ref f) (.ref x))
 | .ext φ=>φ h/\(∃o,h.get? a=some o)/\∀h1 h2:Heap,φ h1->(∀o,h1.get? a=some o->h2.get? a=some o)->φ h2
def HOk (H:Hp) (h:Heap):Prop:=∀a o,H a=some o->ObjOk P w H h a o
end
section
variable {P:Program} {w:World} {H H':Hp} {h h':Heap} {a:Addr} {o:HO}
theorem ObjOk.lt (x:ObjOk P w H h a o):a<h.objs.size:=by
 cases o with
 |lst xs=>obtain⟨_,_,_,_,e⟩:=x;exact Heap.lt_size e
 |tup xs=>obtain⟨_,_,_,p⟩:=x;exact p.tup.lt
 |dK kvs=>obtain⟨_,_,_,_,o,_,_,e,_⟩:=x;exact Heap.lt_size e
 |dT kvs=>obtain⟨_,_,_,_,o,_,_,e,_⟩:=x;exact Heap.lt_size e
 |set S n=>obtain⟨o,_,_,_,e,_⟩:=x;exact Heap.lt_size e
 |ins C dx fs=>obtain⟨_,_,_,e,_⟩:=x;exact Heap.lt_size e
 |own y=>obtain⟨_,e⟩:=x;exact Heap.lt_size e
 |xd fs=>obtain⟨_,⟨_,_,_,e,_⟩,_⟩:=x;exact Heap.lt_size e
 |rng lo hi=>obtain⟨_,_,_,e⟩:=x;exact Heap.lt_size e
 |frz ob u=>obtain⟨e,_⟩:=x;exact Heap.lt_size e
 |tbl ps=>exact Heap.lt_size (show h.get? a=some _ from x)
 |met f y=>exact Heap.lt_size (show h.get? a=some _ from x)
 |ext φ=>obtain⟨_,⟨_,e⟩,_⟩:=x;exact Heap.lt_size e
theorem Paired.mapP {α β:Type} {F G:α->β->Prop}:∀{l₁:List α} {l₂:List β},Paired F l₁ l₂->(∀a b,F a b->G a b)->Paired G l₁ l₂
 |_,_,.nil,_=>.nil
 |_,_,.cons r t,f=>.cons (f _ _ r) (Paired.mapP t f)
theorem ObjOk.stay (x:ObjOk P w H h a o) (k:∀b u,(b=a\/H b=some (.own a))->h.get? b=some u->h'.get? b=some u)
  (ho:∀b,H b=some (.own a)->H' b=some (.own a)) (ht:∀b xs,H b=some (.tup xs)->H' b=some (.tup xs)):ObjOk P w H' h' a o:=by
 induction o with
 |lst xs=>obtain⟨z,its,n,r,e⟩:=x;exact⟨z,its,n,r,k _ _ (.inl rfl) e⟩
 |tup xs=>obtain⟨z,its,r,ob,e,c⟩:=x;exact⟨z,its,r,ob,k _ _ (.inl rfl) e,c⟩
 |dK kvs=>obtain⟨z,y,vs,r,ob,es,ep,e,c⟩:=x;exact⟨z,y,vs,r,ob,es,ep,k _ _ (.inl rfl) e,c⟩
 |dT kvs=>
  obtain⟨z,y,xs,r,ob,es,ep,e,c⟩:=x
  exact⟨z,y,xs,Paired.mapP r fun p q z=>⟨z.1,ht _ _ z.2.1,z.2.2⟩,ob,es,ep,k _ _ (.inl rfl) e,c⟩
 |set S n=>obtain⟨ob,es,ep,t,e,c⟩:=x;exact⟨ob,es,ep,t,k _ _ (.inl rfl) e,c⟩
 |ins C dx fs=>
  obtain⟨d,z,ne,e,mA,⟨od,es,ep,e2,c⟩,r⟩:=x
  exact⟨ho _ d,z,ne,k _ _ (.inl rfl) e,mA,⟨od,es,ep,k _ _ (.inr d) e2,c⟩,r⟩
 |own y=>obtain⟨ob,e⟩:=x;exact⟨ob,k _ _ (.inl rfl) e⟩
 |xd fs=>obtain⟨mA,⟨od,es,ep,e,c⟩,r⟩:=x;exact⟨mA,⟨od,es,ep,k _ _ (.inl rfl) e,c⟩,r⟩
 |rng lo hi=>obtain⟨t,u,v,e⟩:=x;exact⟨t,u,v,k _ _ (.inl rfl) e⟩
 |frz ob u ih=>obtain⟨e,q⟩:=x;exact⟨k _ _ (.inl rfl) e,ih q⟩
 |tbl ps=>
  have e:h.get? a=some { cls:=.none,data:=.fields ps }:=x
  show h'.get? a=some { cls:=.none,data:=.fields ps }
  exact k a _ (.inl rfl) e
 |met f y=>
  have e:h.get? a=some (W.methodObj (.ref f) (.ref y)):=x
  show h'.get? a=some (W.methodObj (.ref f) (.ref y))
  exact k a _ (.inl rfl) e
 |ext φ=>obtain⟨p,⟨o,e⟩,st⟩:=x;exact⟨st _ _ p fun o q=>k _ _ (.inl rfl) q,⟨o,k _ _ (.inl rfl) e⟩,st⟩
theorem HOk.lt (x:HOk P w H h) (e:H a=some o):a<h.objs.size:=(x a o e).lt
theorem HOk.fresh (x:HOk P w H h) (e:h.objs.size<=a):H a=none:=by
 cases q:H a with
 |none=>rfl
 |some u=>exact absurd (Nat.lt_of_lt_of_le (x.lt q) e) (Nat.lt_irrefl _)
theorem HOk.kept (x:HOk P w H h) (k:∀b u,h.get? b=some u->h'.get? b=some u):HOk P w H h':=fun a o e=>
 (x a o e).stay (fun b u _ q=>k b u q) (fun _ q=>q) fun _ _ q=>q
theorem HOk.laid (x:HOk P w H h) (k:∀b u,h.get? b=some u->h'.get? b=some u) (hp:h.objs.size<=a) (new:ObjOk P w (upd H a o) h' a o):HOk P w (upd H a o) h':=fun b u e=>by
 have hn:=x.fresh hp
 by_cases hb:b=a
 .subst hb;rw[upd_same]at e;cases e;exact new
 .rw[upd_ne hb]at e
  exact(x b u e).stay (fun c v _ q=>k c v q) (fun c q=>by rw[upd_ne (ne_of_none q hn)];exact q) fun c xs q=>by rw[upd_ne (ne_of_none q hn)];exact q
end
def Rd (H:Hp) (a:Addr) (u:HO):Prop:=H a=some u\/∃o,H a=some (.frz o u)
theorem Rd.ok {P:Program} {w:World} {H:Hp} {h:Heap} {a:Addr} {u:HO} (r:Rd H a u) (x:HOk P w H h):ObjOk P w H h a u:=by
 rcases r with r|⟨o,r⟩
 .exact x a u r
 .obtain⟨_,q⟩:=x a _ r
  exact q
noncomputable def Mut:Option HO->Prop
 |some (.lst _)=>True
 |some (.dK _)=>True
 |some (.dT _)=>True
 |some (.set _ _)=>True
 |some (.ins _ _ _)=>True
 |some (.ext _)=>True
 |_=>False
section
variable {P:Program} {w:World} {H:Hp} {h h':Heap} {x e:Addr} {o':HO}
theorem HOk.write (ok:HOk P w H h) (mu:Mut (H x)) (he:e=x\/H e=some (.own x)) (k:∀b u,b≠e->h.get? b=some u->h'.get? b=some u) (heo:∃u,h'.get? e=some u)
  (new:ObjOk P w (upd H x o') h' x o'):HOk P w (upd H x o') h':=fun b u q=>by
 have nown:∀c y,H c=some (.own y)->c≠x:=fun c y r z=>by subst z;rw[r]at mu;exact mu
 have ntup:∀c xs,H c=some (.tup xs)->c≠x:=fun c xs r z=>by subst z;rw[r]at mu;exact mu
 by_cases hb:b=x
 .subst hb;rw[upd_same]at q;cases q;exact new
 .rw[upd_ne hb]at q
  by_cases hbe:b=e
  .have q':H b=some (.own x):=by
    rcases he with z|z
    .exact absurd (hbe.trans z) hb
    .rw[hbe];exact z
   rw[q]at q';cases q'
   obtain⟨v,hv⟩:=heo
   exact⟨v,by rw[hbe];exact hv⟩
  .refine(ok b u q).stay (fun c v hc r=>k c v ?_ r) (fun c r=>by rw[upd_ne (nown c b r)];exact r) fun c xs r=>by rw[upd_ne (ntup c xs r)];exact r
   rcases hc with rfl|hc
   .exact hbe
   .rintro rfl
    rcases he with z|z
    .exact nown c b hc z
    .rw[hc]at z;cases z;exact hb rfl
end
structure Un (fs ex:List Addr) (H H':Hp) (h h':Heap):Prop where
 keep:∀b o,h.get? b=some o->H b=none->b∉fs->b∉ex->h'.get? b=some o
 slot:∀b o,h.get? b=some o->H b=none->b∈fs->b∉ex->∃sl,h'.get? b=some { o with slots:=sl }
 free:∀b o,h.get? b=some o->H b=none->b∉ex->H' b=none
 there:∀b o,h.get? b=some o->b∉ex->∃o',h'.get? b=some o'
 tups:∀b xs,H b=some (.tup xs)->H' b=some (.tup xs)
 frzs:∀b o u,H b=some (.frz o u)->H' b=some (.frz o u)
 tbls:∀b ps,H b=some (.tbl ps)->∃more,H' b=some (.tbl (ps++more))
section
variable {fs fs' ex ex':List Addr} {H H1 H2:Hp} {h h1 h2 h':Heap} {a x e:Addr} {o:HO}
theorem Un.any (u:Un fs ex H H1 h h1) {b:Addr} {ob:Obj} (q:h.get? b=some ob) (n:H b=none) (hx:b∉ex):∃sl,h1.get? b=some { ob with slots:=sl }:=by
 by_cases hb:b∈fs
 .exact u.slot b ob q n hb hx
 .exact⟨ob.slots,u.keep b ob q n hb hx⟩
theorem Un.kept (k:∀b u,h.get? b=some u->h'.get? b=some u):Un fs ex H H h h':=
 ⟨fun b ob q _ _ _=>k b ob q,fun b ob q _ _ _=>⟨ob.slots,k b ob q⟩,fun _ _ _ n _=>n,fun b ob q _=>⟨ob,k b ob q⟩,fun _ _ q=>q,fun _ _ _ q=>q,fun _ ps q=>⟨#[],by rw[q];simp⟩⟩
theorem Un.refl:Un fs ex H H h h:=Un.kept fun _ _ q=>q
theorem Un.laid (k:∀b u,h.get? b=some u->h'.get? b=some u) (hp:h.objs.size<=a) (hn:H a=none):Un fs ex H (upd H a o) h h' where
 keep:=fun b u q _ _ _=>k b u q
 slot:=fun b u q _ _ _=>⟨u.slots,k b u q⟩
 free:=fun b u q n _=>by rw[upd_ne (Nat.ne_of_lt (Nat.lt_of_lt_of_le (Heap.lt_size q) hp))];exact n
 there:=fun b u q _=>⟨u,k b u q⟩
 tups:=fun b xs q=>by rw[upd_ne (ne_of_none q hn)];exact q
 frzs:=fun b u xs q=>by rw[upd_ne (ne_of_none q hn)];exact q
 tbls:=fun b ps q=>⟨#[],by rw[upd_ne (ne_of_none q hn),q];simp⟩
theorem Un.write (mu:Mut (H x)) (he:e=x\/H e=some (.own x)) (k:∀b u,b≠e->h.get? b=some u->h'.get? b=some u) (heo:∃u,h'.get? e=some u):Un fs ex H (upd H x o) h h':=by
 have hx:∀b,H b=none->b≠x:=fun b n z=>by subst z;rw[n]at mu;exact mu
 have hb:∀b,H b=none->b≠e:=fun b n z=>by
  subst z
  rcases he with r|r
  .exact hx b n r
  .rw[n]at r;cases r
 have hm:∀b u,H b=some u->¬Mut (some u)->b≠x:=fun b u q nm z=>by subst z;rw[q]at mu;exact nm mu
 refine⟨fun b u q n _ _=>k b u (hb b n) q,fun b u q n _ _=>⟨u.slots,k b u (hb b n) q⟩,fun b u q n _=>by rw[upd_ne (hx b n)];exact n,fun b u q _=>?_,
  fun b xs q=>by rw[upd_ne (hm b _ q fun z=>z)];exact q,fun b u xs q=>by rw[upd_ne (hm b _ q fun z=>z)];exact q,fun b ps q=>⟨#[],by rw[upd_ne (hm b _ q fun z=>z),q];simp⟩⟩
 by_cases hbe:b=e
 .subst hbe;exact heo
 .exact⟨u,k b u hbe q⟩
end
noncomputable def trk (h:Heap) (H:Hp):List Addr:=(List.range h.objs.size).filter fun a=>(H a).isSome
noncomputable def hidT (h:Heap) (H:Hp):Heap:=W.hideAll h (trk h H)
theorem hidT_size (h:Heap) (H:Hp):(hidT h H).objs.size=h.objs.size:=W.hideAll_size _ _
theorem hidT_get {h:Heap} {H:Hp} {b:Addr} {o:Obj} (e:h.get? b=some o) (n:H b=none):(hidT h H).get? b=some o:=
 W.hideAll_get _ e fun hm=>by
  have q:(H b).isSome=true:=(List.mem_filter.mp hm).2
  rw[n]at q;simp at q
theorem of_hidT {h:Heap} {H:Hp} {b:Addr} {o:Obj} (e:(hidT h H).get? b=some o):h.get? b=some o/\H b=none:=by
 have e':h.get? b=some o:=W.of_hideAll (trk h H) e
 refine⟨e',?_⟩
 cases q:H b with
 |none=>rfl
 |some x=>
  have hm:b∈trk h H:=List.mem_filter.mpr ⟨List.mem_range.mpr (Heap.lt_size e'),by simp[q]⟩
  have z:(hidT h H).get? b=none:=W.hideAll_none (trk h H) hm
  rw[z]at e;cases e
noncomputable def allNews (g h:Heap) (L:Addr):List (Addr×Obj):=(List.range h.objs.size).filterMap fun a=>if a=L\/(g.get? a).isSome=true then none else(h.get? a).map fun o=>(a,o)
noncomputable def rest (g h:Heap) (L d:Addr):List (Addr×Obj):=(allNews g h L).filter fun p=>decide (p.1≠d)
structure Mod (K:W.Frag) (mg:Str->Option Value) (base:Heap):Prop where
 kin:K.In base
 glob:base.Ns mainGlobals mg
 blt:∃mb,base.Ns builtinsNs mb/\∀x:Str,x≠"__name__"->mb x=bootBuiltins x
 nolimit:base.NoLimit
structure Cx where
 prog:Program
 w:World
 K:W.Frag
 mg:Str->Option Value
 base:Heap
 A:Around
 N:List Str
 s₀:Shared
 H₀:Hp
 env:Env
 outer:List Env
 stack:List Env
 ex:List Addr
 fn:Str->Bool
 calm:Bool
 pn:List (Addr×Obj)
 xe:Value->Shared->Prop
noncomputable def frs (l:List Env):List Addr:=l.filterMap (·.frame)
noncomputable abbrev Cx.fs (X:Cx):List Addr:=frs X.outer
def Vis (sc:Scope) (x:Str):Prop:=sc.names.lookup x=some .local\/sc.names.lookup x=some .cell\/sc.names.lookup x=some .free
def Loc (sc:Scope) (x:Str):Prop:=sc.names.lookup x=some .local\/sc.names.lookup x=some .cell
def Look (env:Env) (h:Heap) (m:Str->Option Value) (x:Str) (u:Value):Prop:=
 (env.kindOf x=some .local/\m x=some u)\/((env.kindOf x=some .cell\/env.kindOf x=some .free)/\∃c,env.cells.lookup x=some c/\h.IsCell c (some u))
structure Cx.Ok (X:Cx):Prop where
 mod:Mod X.K X.mg X.base
 kind:X.env.scope.kind=.function
 glob:X.env.globals=mainGlobals
 blt:X.env.builtins=builtinsNs
 above:X.s₀.heap.objs.size<=X.env.locals
 inj:∀x y c,X.env.cells.lookup x=some c->X.env.cells.lookup y=some c->x=y
 has:∀x,(X.env.kindOf x=some .cell\/X.env.kindOf x=some .free)->∃c,X.env.cells.lookup x=some c
 cab:∀x c,X.fn x=true->X.env.cells.lookup x=some c->X.s₀.heap.objs.size<=c
 hd:X.calm=true->X.A.handled=none
 frames:X.A.frames=some X.stack
 stk:X.stack=X.outer\/(X.stack=X.env :: X.outer/\X.env.frame=some X.env.locals)
 exf:∀b∈X.ex,b≠X.env.locals/\∀x c,X.env.cells.lookup x=some c->c≠b
 bs:∀b o,X.base.get? b=some o->X.s₀.heap.get? b=some o/\X.H₀ b=none
 bsz:X.base.objs.size<=X.s₀.heap.objs.size
 noex:∀b o,X.base.get? b=some o->b∉X.ex
 exfs:∀b∈X.ex,b∉X.fs
 funs:X.s₀.heap.FunFrames X.base X.outer
 frf:∀b∈X.fs,X.H₀ b=none
structure Inv (X:Cx) (pins:List (Addr×Obj)) (σ:List (Option V)) (H:Hp) (s:Shared):Prop where
 ok:X.Ok
 os:s.os=X.s₀.os
 bare:AllBare s.gens
 base:Un X.fs X.ex X.H₀ H X.s₀.heap s.heap
 loc:∃m,s.heap.Ns X.env.locals m/\∀(i:Nat) (x:Str) (v:V),X.N[i]?=some x->σ[i]?=some (some v)->Vis X.env.scope x->∃u,RelV v u/\Look X.env s.heap m x u
 cell:∀x c,X.env.cells.lookup x=some c->∃v,s.heap.IsCell c v
 free:H X.env.locals=none
 freeC:∀x c,X.env.cells.lookup x=some c->H c=none
 pin:∀p∈X.pn++pins,s.heap.get? p.1=some p.2/\H p.1=none/\p.1≠X.env.locals/\p.1∉X.fs/\∀v,p.2.data≠.cell v
 hok:HOk X.prog X.w H s.heap
 len:σ.length=X.N.length
section
variable {X:Cx} {pins:List (Addr×Obj)} {σ:List (Option V)} {H H':Hp} {s:Shared} {h':Heap}
theorem Cx.Ok.nofr (ok:X.Ok) {b:Addr} {o:Obj} (e:X.base.get? b=some o):b∉X.fs:=fun hb=>by
 have:=(ok.funs.mem hb).1
 rw[e]at this;cases this
theorem Inv.bs (I:Inv X pins σ H s):∀b o,X.base.get? b=some o->s.heap.get? b=some o/\H b=none:=fun b o e=>
 ⟨I.base.keep b o (I.ok.bs b o e).1 (I.ok.bs b o e).2 (I.ok.nofr e) (I.ok.noex b o e),I.base.free b o (I.ok.bs b o e).1 (I.ok.bs b o e).2 (I.ok.noex b o e)⟩
theorem Inv.bk (I:Inv X pins σ H s):∀b o,X.base.get? b=some o->s.heap.get? b=some o:=fun b o e=>(I.bs b o e).1
theorem Inv.mod (I:Inv X pins σ H s):Mod X.K X.mg X.base:=I.ok.mod
theorem Inv.kIn (I:Inv X pins σ H s):X.K.In s.heap:=I.ok.mod.kin.keeps I.bk
theorem Inv.fr (I:Inv X pins σ H s):∃m,Fr X.base X.env.locals s.heap m:=
 let⟨m,hn,_⟩:=I.loc
 ⟨m,hn,I.bk,Nat.le_trans I.ok.bsz I.ok.above⟩
theorem Inv.lt (I:Inv X pins σ H s):X.env.locals<s.heap.objs.size:=let⟨_,hn,_⟩:=I.loc;hn.lt
theorem Inv.sz (I:Inv X pins σ H s):X.s₀.heap.objs.size<=s.heap.objs.size:=Nat.le_trans I.ok.above (Nat.le_of_lt I.lt)
theorem Inv.nofs (I:Inv X pins σ H s) {a:Addr} (h:s.heap.objs.size<=a):a∉X.fs:=fun hb=>by
 obtain⟨_,o,ho,_⟩:=I.ok.funs.mem hb
 exact absurd (Nat.lt_of_lt_of_le (Heap.lt_size ho) (Nat.le_trans I.sz h)) (Nat.lt_irrefl _)
theorem Inv.cne (I:Inv X pins σ H s):∀x c,X.env.cells.lookup x=some c->c≠X.env.locals:=fun x c e z=>by
 obtain⟨v,o,ho,hd⟩:=I.cell x c e
 obtain⟨m,⟨o',es,ep,ho',hd',_⟩,_⟩:=I.loc
 rw[z,ho']at ho;cases ho;rw[hd']at hd;cases hd
theorem Inv.funs (I:Inv X pins σ H s):s.heap.FunFrames X.base X.outer:=by
 have all:∀(l:List Env),(∀b∈frs l,b∈X.fs)->X.s₀.heap.FunFrames X.base l->s.heap.FunFrames X.base l:=by
  intro l
  induction l with
  |nil=>intro _ _;trivial
  |cons env r ih=>
   intro hs hl
   obtain⟨hk,⟨L,o,hf,hn,ho,hd⟩,hr⟩:=hl
   have hL:L∈X.fs:=hs L (by unfold frs;rw[List.filterMap_cons,hf];exact List.mem_cons_self)
   obtain⟨sl,e⟩:=I.base.slot L o ho (I.ok.frf L hL) hL fun z=>I.ok.exfs L z hL
   exact⟨hk,⟨L,_,hf,hn,e,hd⟩,ih (fun b hb=>hs b (by unfold frs;rw[List.filterMap_cons,hf];exact List.mem_cons_of_mem _ hb)) hr⟩
 exact all X.outer (fun _ hb=>hb) I.ok.funs
theorem Inv.stack (I:Inv X pins σ H s):s.heap.FunFrames X.base X.stack:=by
 rcases I.ok.stk with e|⟨e,hf⟩
 .rw[e];exact I.funs
 .rw[e]
  obtain⟨m,hn,_⟩:=I.loc
  refine .cons (by rw[I.ok.kind];decide) hf hn ?_ I.funs
  exact Heap.get?_none_of_le (Nat.le_trans I.ok.bsz I.ok.above)
theorem Inv.stkSub (I:Inv X pins σ H s):∀b∈frs X.stack,b∈X.env.locals :: X.fs:=fun b hb=>by
 rcases I.ok.stk with e|⟨e,hf⟩
 .rw[e]at hb;exact List.mem_cons_of_mem _ hb
 .rw[e]at hb
  unfold frs at hb
  rw[List.filterMap_cons,hf]at hb
  exact hb
theorem Inv.stkFree (I:Inv X pins σ H s):∀b∈frs X.stack,H b=none:=fun b hb=>by
 rcases List.mem_cons.mp (I.stkSub b hb)with e|hb
 .rw[e];exact I.free
 .obtain⟨_,o,ho,_⟩:=I.ok.funs.mem hb
  exact I.base.free b o ho (I.ok.frf b hb) fun z=>I.ok.exfs b z hb
theorem Inv.step {g':Array GenState} {t':Nat} {d':Drawn} {ch:List Addr} (I:Inv X pins σ H s)
  (hch:∀b∈ch,(b∈X.ex\/X.s₀.heap.objs.size<=b)/\b≠X.env.locals/\(∀x c,X.env.cells.lookup x=some c->c≠b)/\∀p∈X.pn++pins,p.1≠b)
  (keep:∀b o,b≠X.env.locals->b∉X.fs->b∉ch->s.heap.get? b=some o->H b=none->h'.get? b=some o)
  (slot:∀b o,b≠X.env.locals->b∈X.fs->b∉ch->s.heap.get? b=some o->H b=none->∃sl,h'.get? b=some { o with slots:=sl }) (free:∀b o,b∉ch->s.heap.get? b=some o->H b=none->H' b=none)
  (there:∀b o,b∉ch->s.heap.get? b=some o->∃o',h'.get? b=some o')
  (tups:∀b xs,H b=some (.tup xs)->H' b=some (.tup xs)) (frzs:∀b o u,H b=some (.frz o u)->H' b=some (.frz o u)) (tbls:∀b ps,H b=some (.tbl ps)->∃more,H' b=some (.tbl (ps++more)))
  (ns:∀m,s.heap.Ns X.env.locals m->h'.Ns X.env.locals m) (hok:HOk X.prog X.w H' h') (hg:AllBare g'):
  Inv X pins σ H' { s with heap:=h',gens:=g',drawn:=d',toks:=t' }:=by
 have neL:∀b o,X.s₀.heap.get? b=some o->b≠X.env.locals:=fun b o e=>Nat.ne_of_lt (Nat.lt_of_lt_of_le (Heap.lt_size e) I.ok.above)
 have neC:∀b o,X.s₀.heap.get? b=some o->b∉X.ex->b∉ch:=fun b o e hx hb=>by
  rcases(hch b hb).1 with z|z
  .exact hx z
  .exact absurd (Nat.lt_of_lt_of_le (Heap.lt_size e) z) (Nat.lt_irrefl _)
 have cellK:∀x c,X.env.cells.lookup x=some c->∀v,s.heap.IsCell c v->h'.IsCell c v:=fun x c e v ⟨o,ho,hd⟩=>by
  have nch:c∉ch:=fun z=>(hch c z).2.2.1 x c e rfl
  by_cases hc:c∈X.fs
  .obtain⟨sl,q⟩:=slot c o (I.cne x c e) hc nch ho (I.freeC x c e)
   exact⟨_,q,hd⟩
  .exact⟨o,keep c o (I.cne x c e) hc nch ho (I.freeC x c e),hd⟩
 refine⟨I.ok,I.os,hg,⟨fun b o e n hb hx=>?_,fun b o e n hb hx=>?_,fun b o e n hx=>?_,fun b o e hx=>?_,fun b xs e=>tups b xs (I.base.tups b xs e),fun b o xs e=>frzs b o xs (I.base.frzs b o xs e),fun b ps e=>?_⟩,?_,fun x c e=>?_,?_,fun x c e=>?_,fun p hp=>?_,hok,I.len⟩
 .exact keep b o (neL b o e) hb (neC b o e hx) (I.base.keep b o e n hb hx) (I.base.free b o e n hx)
 .obtain⟨sl,e1⟩:=I.base.slot b o e n hb hx
  obtain⟨sl',e2⟩:=slot b _ (neL b o e) hb (neC b o e hx) e1 (I.base.free b o e n hx)
  exact⟨sl',e2⟩
 .obtain⟨o',e1⟩:=I.base.there b o e hx
  exact free b o' (neC b o e hx) e1 (I.base.free b o e n hx)
 .obtain⟨o',e1⟩:=I.base.there b o e hx
  exact there b o' (neC b o e hx) e1
 .obtain⟨m1,e1⟩:=I.base.tbls b ps e
  obtain⟨m2,e2⟩:=tbls b _ e1
  exact⟨m1++m2,by rw[e2,Array.append_assoc]⟩
 .obtain⟨m,hn,hl⟩:=I.loc
  refine⟨m,ns m hn,fun i x v e1 e2 e3=>?_⟩
  obtain⟨u,r,l⟩:=hl i x v e1 e2 e3
  refine⟨u,r,?_⟩
  rcases l with l|⟨k,c,e,z⟩
  .exact .inl l
  .exact .inr ⟨k,c,e,cellK x c e _ z⟩
 .obtain⟨v,z⟩:=I.cell x c e
  exact⟨v,cellK x c e v z⟩
 .obtain⟨m,⟨o,_,_,ho,_⟩,_⟩:=I.loc
  exact free _ o (fun z=>(hch _ z).2.1 rfl) ho I.free
 .obtain⟨v,o,ho,hd⟩:=I.cell x c e
  exact free c o (fun z=>(hch c z).2.2.1 x c e rfl) ho (I.freeC x c e)
 .obtain⟨e,n,ne,nf,d⟩:=I.pin p hp
  have nch:p.1∉ch:=fun z=>(hch p.1 z).2.2.2 p hp rfl
  exact⟨keep p.1 p.2 ne nf nch e n,free p.1 p.2 nch e n,ne,nf,d⟩
theorem Inv.un {t':Nat} (I:Inv X pins σ H s) (u:Un X.fs [] H H' s.heap h') (hok:HOk X.prog X.w H' h'):Inv X pins σ H' { s with heap:=h',toks:=t' }:=by
 obtain⟨m,⟨o,es,ep,ho,r⟩,_⟩:=id I.loc
 obtain⟨sl,hL⟩:=u.any ho I.free (by simp)
 exact I.step (g':=s.gens) (d':=s.drawn) (ch:=[]) (fun _ z=>nomatch z) (fun b o _ hb _ e n=>u.keep b o e n hb (by simp)) (fun b o _ hb _ e n=>u.slot b o e n hb (by simp)) (fun b o _ e n=>u.free b o e n (by simp)) (fun b o _ e=>u.there b o e (by simp)) u.tups u.frzs u.tbls (fun m' hm=>by
  obtain⟨o',es',ep',ho',r'⟩:=hm
  rw[ho]at ho';cases ho'
  exact⟨_,es',ep',hL,r'⟩) hok I.bare
theorem Inv.call {g':Array GenState} {t':Nat} {d':Drawn} {ch:List Addr} (I:Inv X pins σ H s) (u:Un (frs X.stack) ch H H' s.heap h') (hok:HOk X.prog X.w H' h') (hg:AllBare g')
  (hch:∀b∈ch,(b∈X.ex\/X.s₀.heap.objs.size<=b)/\b≠X.env.locals/\(∀x c,X.env.cells.lookup x=some c->c≠b)/\∀p∈X.pn++pins,p.1≠b):
  Inv X pins σ H' { s with heap:=h',gens:=g',drawn:=d',toks:=t' }:=by
 obtain⟨m,⟨o,es,ep,ho,r⟩,_⟩:=id I.loc
 obtain⟨sl,hL⟩:=u.any ho I.free fun z=>(hch _ z).2.1 rfl
 exact I.step (ch:=ch) hch (fun b o hL hb hc e n=>u.keep b o e n (fun z=>(List.mem_cons.mp (I.stkSub b z)).elim hL hb) hc) (fun b o _ _ hc e n=>u.any e n hc) (fun b o hc e n=>u.free b o e n hc) (fun b o hc e=>u.there b o e hc) u.tups u.frzs u.tbls (fun m' hm=>by
  obtain⟨o',es',ep',ho',r'⟩:=hm
  rw[ho]at ho';cases ho'
  exact⟨_,es',ep',hL,r'⟩) hok hg
theorem Inv.turned {t':Nat} {it:Addr} (I:Inv X pins σ H s) (k:∀b o,b≠it->s.heap.get? b=some o->h'.get? b=some o) (hn:H it=none) (hL:it≠X.env.locals)
  (h1:it∈X.ex\/X.s₀.heap.objs.size<=it) (h2:∀x c,X.env.cells.lookup x=some c->c≠it) (h3:∀p∈X.pn++pins,p.1≠it):Inv X pins σ H { s with heap:=h',toks:=t' }:=by
 have nit:∀b u,H b=some u->b≠it:=fun b u e z=>by rw[z,hn]at e;cases e
 refine I.step (g':=s.gens) (d':=s.drawn) (ch:=[it]) (fun b hb=>?_) (fun b o _ _ hc e _=>k b o (fun z=>hc (by simp[z])) e) (fun b o _ _ hc e _=>⟨o.slots,k b o (fun z=>hc (by simp[z])) e⟩) (fun _ _ _ _ n=>n)
  (fun b o hc e=>⟨o,k b o (fun z=>hc (by simp[z])) e⟩) (fun _ _ e=>e) (fun _ _ _ e=>e) (fun b ps e=>⟨#[],by rw[e];simp⟩) (fun m hm=>?_) (fun b u e=>?_) I.bare
 .have e:b=it:=by simpa using hb
  subst e
  exact⟨h1,hL,h2,h3⟩
 .obtain⟨o,es,ep,ho,r⟩:=hm
  exact⟨o,es,ep,k _ o (Ne.symm hL) ho,r⟩
 .refine(I.hok b u e).stay (fun c v hc q=>k c v ?_ q) (fun _ q=>q) fun _ _ q=>q
  rcases hc with z|z
  .rw[z];exact nit b u e
  .exact nit c _ z
theorem Inv.tok (I:Inv X pins σ H s) (t:Nat):Inv X pins σ H { s with toks:=t }:=I.un (h':=s.heap) (t':=t) Un.refl I.hok
theorem Inv.kept {t':Nat} (I:Inv X pins σ H s) (k:∀b u,s.heap.get? b=some u->h'.get? b=some u):Inv X pins σ H { s with heap:=h',toks:=t' }:=I.un (Un.kept k) (I.hok.kept k)
theorem Inv.laid {a:Addr} {o:HO} {t':Nat} (I:Inv X pins σ H s) (k:∀b u,s.heap.get? b=some u->h'.get? b=some u) (hp:s.heap.objs.size<=a) (new:ObjOk X.prog X.w (upd H a o) h' a o):
  Inv X pins σ (upd H a o) { s with heap:=h',toks:=t' }:=I.un (Un.laid k hp (I.hok.fresh hp)) (I.hok.laid k hp new)
theorem Inv.write {x e:Addr} {o:HO} {t':Nat} (I:Inv X pins σ H s) (mu:Mut (H x)) (he:e=x\/H e=some (.own x)) (k:∀b u,b≠e->s.heap.get? b=some u->h'.get? b=some u) (heo:∃u,h'.get? e=some u)
  (new:ObjOk X.prog X.w (upd H x o) h' x o):Inv X pins σ (upd H x o) { s with heap:=h',toks:=t' }:=I.un (Un.write mu he k heo) (I.hok.write mu he k heo new)
theorem Inv.weak {σ':List (Option V)} (I:Inv X pins σ H s) (hl:σ'.length=σ.length) (w:∀(i:Nat) v,σ'[i]?=some (some v)->σ[i]?=some (some v)):Inv X pins σ' H s:=
 ⟨I.ok,I.os,I.bare,I.base,let⟨m,hn,hl'⟩:=I.loc;⟨m,hn,fun i x v e1 e2 e3=>hl' i x v e1 (w i v e2) e3⟩,I.cell,I.free,I.freeC,I.pin,I.hok,hl.trans I.len⟩
theorem Inv.pins_of {pins':List (Addr×Obj)} (I:Inv X pins σ H s) (h:∀p∈pins',s.heap.get? p.1=some p.2/\H p.1=none/\p.1≠X.env.locals/\p.1∉X.fs/\∀v,p.2.data≠.cell v):Inv X pins' σ H s:=
 ⟨I.ok,I.os,I.bare,I.base,I.loc,I.cell,I.free,I.freeC,fun p hp=>(List.mem_append.mp hp).elim (fun z=>I.pin p (List.mem_append_left _ z)) (h p),I.hok,I.len⟩
theorem nodup_ix {N:List Str} (hN:N.Nodup) {i j:Nat} {x:Str} (a:N[i]?=some x) (b:N[j]?=some x):i=j:=by
 obtain⟨h1,e1⟩:=List.getElem?_eq_some_iff.mp a
 obtain⟨h2,e2⟩:=List.getElem?_eq_some_iff.mp b
 exact(List.getElem_inj hN).mp (e1.trans e2.symm)
theorem store_ok2 {M:Model} {A:Around} {E:Value->Shared->Prop} {i:Nat} {x:Str} {v:V} {u:Value} {Q:Unit->Shared->Prop} (I:Inv X pins σ H s) (hN:X.N.Nodup) (hi:X.N[i]?=some x) (hx:Loc X.env.scope x) (r:RelV v u)
  (h:∀s',Inv X pins (σ.set i (some v)) H s'->(∃a,Heap.SameBut a s.heap s'.heap/\(a=X.env.locals\/X.env.cells.lookup x=some a))->Q () s') (hf:X.fn x=true\/X.env.scope.names.lookup x=some .local:=by first|exact .inl rfl|exact .inr rfl|assumption):wpAny M A (storeName X.env x u) Q E s:=by
 obtain⟨m,hn,hl⟩:=id I.loc
 have hcls:(X.env.scope.kind == .class || (X.env.scope.kind == .module&&X.env.locals != X.env.globals))=false:=by rw[I.ok.kind];rfl
 have hiσ:i<σ.length:=by rw[I.len];exact(List.getElem?_eq_some_iff.mp hi).1
 have cne:=I.cne
 have tracked:∀{a:Addr} {h':Heap},(∃o,s.heap.get? a=some o/\H a=none)->Heap.SameBut a s.heap h'->HOk X.prog X.w H h':=fun {a h'} ha hs b ob e=>by
  obtain⟨_,_,hfree⟩:=ha
  refine(I.hok b ob e).stay (fun c w' hc q=>(hs.2 c ?_).trans q) (fun _ q=>q) fun _ _ q=>q
  rintro rfl
  rcases hc with rfl|hc
  .rw[hfree]at e;cases e
  .rw[hfree]at hc;cases hc
 rcases hx with hk|hk
 .refine wpAny_storeName_local hk hn (fun h' hn' hs=>?_) hcls
  obtain⟨oL,_,_,hoL,_⟩:=id hn
  refine h _ ⟨I.ok,I.os,I.bare,⟨fun b o e n hb hx=>?_,fun b o e n hb hx=>?_,I.base.free,fun b o e hx=>?_,I.base.tups,I.base.frzs,I.base.tbls⟩,⟨_,hn',fun j y v' e1 e2 e3=>?_⟩,fun y c e=>?_,I.free,I.freeC,fun p hp=>?_,tracked ⟨oL,hoL,I.free⟩ hs,by simpa using I.len⟩ ⟨_,hs,.inl rfl⟩
  .exact(hs.2 b (Nat.ne_of_lt (Nat.lt_of_lt_of_le (Heap.lt_size e) I.ok.above))).trans (I.base.keep b o e n hb hx)
  .obtain⟨sl,e1⟩:=I.base.slot b o e n hb hx
   exact⟨sl,(hs.2 b (Nat.ne_of_lt (Nat.lt_of_lt_of_le (Heap.lt_size e) I.ok.above))).trans e1⟩
  .obtain⟨o',e1⟩:=I.base.there b o e hx
   exact⟨o',(hs.2 b (Nat.ne_of_lt (Nat.lt_of_lt_of_le (Heap.lt_size e) I.ok.above))).trans e1⟩
  .by_cases hj:j=i
   .subst hj
    rw[hi]at e1;cases e1
    rw[List.getElem?_set_self hiσ]at e2
    cases e2
    exact⟨u,r,.inl ⟨hk,by simp⟩⟩
   .rw[List.getElem?_set_ne (Ne.symm hj)]at e2
    obtain⟨u',r',q⟩:=hl j y v' e1 e2 e3
    refine⟨u',r',?_⟩
    rcases q with⟨k,e⟩|⟨k,c,e,z⟩
    .refine .inl ⟨k,?_⟩
     have:y≠x:=fun e=>hj (nodup_ix hN e1 (e ▸ hi))
     simp[this,e]
    .exact .inr ⟨k,c,e,z.sameBut hs (cne y c e)⟩
  .obtain⟨w',z⟩:=I.cell y c e
   exact⟨w',z.sameBut hs (cne y c e)⟩
  .obtain⟨e,n,ne,nf,d⟩:=I.pin p hp
   exact⟨(hs.2 p.1 ne).trans e,n,ne,nf,d⟩
 .have hfn:X.fn x=true:=by
   rcases hf with z|z
   .exact z
   .rw[z]at hk;cases hk
  obtain⟨c,hc⟩:=I.ok.has x (.inl hk)
  obtain⟨w',z⟩:=I.cell x c hc
  refine wpAny_storeName_cell I.ok.kind hk hc z (fun h' hc' hs=>?_)
  obtain⟨oc,hoc,hocd⟩:=id z
  refine h { s with heap:=h' } ⟨I.ok,I.os,I.bare,⟨fun b o e n hb hx=>?_,fun b o e n hb hx=>?_,I.base.free,fun b o e hx=>?_,I.base.tups,I.base.frzs,I.base.tbls⟩,⟨m,hn.sameBut hs (Ne.symm (cne x c hc)),fun j y v' e1 e2 e3=>?_⟩,fun y c' e=>?_,I.free,I.freeC,fun p hp=>?_,tracked ⟨oc,hoc,I.freeC x c hc⟩ hs,by simpa using I.len⟩ ⟨c,hs,.inr hc⟩
  .exact(hs.2 b (Nat.ne_of_lt (Nat.lt_of_lt_of_le (Heap.lt_size e) (I.ok.cab x c hfn hc)))).trans (I.base.keep b o e n hb hx)
  .obtain⟨sl,e1⟩:=I.base.slot b o e n hb hx
   exact⟨sl,(hs.2 b (Nat.ne_of_lt (Nat.lt_of_lt_of_le (Heap.lt_size e) (I.ok.cab x c hfn hc)))).trans e1⟩
  .obtain⟨o',e1⟩:=I.base.there b o e hx
   exact⟨o',(hs.2 b (Nat.ne_of_lt (Nat.lt_of_lt_of_le (Heap.lt_size e) (I.ok.cab x c hfn hc)))).trans e1⟩
  .by_cases hj:j=i
   .subst hj
    rw[hi]at e1;cases e1
    rw[List.getElem?_set_self hiσ]at e2
    cases e2
    exact⟨u,r,.inr ⟨.inl hk,c,hc,hc'⟩⟩
   .rw[List.getElem?_set_ne (Ne.symm hj)]at e2
    obtain⟨u',r',q⟩:=hl j y v' e1 e2 e3
    refine⟨u',r',?_⟩
    rcases q with q|⟨k,c',e,z'⟩
    .exact .inl q
    .refine .inr ⟨k,c',e,z'.sameBut hs ?_⟩
     rintro rfl
     exact hj (nodup_ix hN e1 (I.ok.inj _ _ _ e hc ▸ hi))
  .by_cases hcc:c'=c
   .subst hcc;exact⟨_,hc'⟩
   .obtain⟨w2,z2⟩:=I.cell y c' e
    exact⟨w2,z2.sameBut hs hcc⟩
  .obtain⟨e,n,ne,nf,d⟩:=I.pin p hp
   refine⟨(hs.2 p.1 ?_).trans e,n,ne,nf,d⟩
   intro q
   rw[q,hoc]at e
   have q':oc=p.2:=Option.some.inj e
   exact d w' (by rw[<- q'];exact hocd)
theorem store_ok {M:Model} {A:Around} {E:Value->Shared->Prop} {i:Nat} {x:Str} {v:V} {u:Value} {Q:Unit->Shared->Prop} (I:Inv X pins σ H s) (hN:X.N.Nodup) (hi:X.N[i]?=some x) (hx:Loc X.env.scope x) (r:RelV v u)
  (h:∀s',Inv X pins (σ.set i (some v)) H s'->Q () s') (hf:X.fn x=true\/X.env.scope.names.lookup x=some .local:=by first|exact .inl rfl|exact .inr rfl|assumption):wpAny M A (storeName X.env x u) Q E s:=
 store_ok2 I hN hi hx r (fun s' I' _=>h s' I') hf
theorem Inv.call' {s':Shared} {ch:List Addr} (I:Inv X pins σ H s) (ho:s'.os=s.os) (u:Un (frs X.stack) ch H H' s.heap s'.heap) (hok:HOk X.prog X.w H' s'.heap) (hg:AllBare s'.gens)
  (hch:∀b∈ch,(b∈X.ex\/X.s₀.heap.objs.size<=b)/\b≠X.env.locals/\(∀x c,X.env.cells.lookup x=some c->c≠b)/\∀p∈X.pn++pins,p.1≠b):Inv X pins σ H' s':=by
 obtain⟨h',g',d',t',o'⟩:=s'
 have e:o'=s.os:=ho
 subst e
 exact I.call (g':=g') (t':=t') (d':=d') u hok hg hch
end
noncomputable abbrev XK:=Value->Option Addr->Hp->Prop
noncomputable abbrev St:=List (Option V)
noncomputable abbrev VK:=V->Hp->Prop
noncomputable abbrev TE:=St->Hp->VK->Prop
noncomputable abbrev TT:=St->Hp->(Bool->Hp->Prop)->Prop
noncomputable abbrev TA:=St->Hp->(List V->Hp->Prop)->Prop
structure Ends where
 nx:St->Hp->Prop
 rt:VK
 bk:St->Hp->Prop:=fun _ _=>False
 ct:St->Hp->Prop:=fun _ _=>False
noncomputable abbrev TS:=Ends->St->Hp->Prop
def EP (X:Cx) (pins:List (Addr×Obj)) (σ:St) (Q:VK) (u:Value) (s':Shared):Prop:=∃v H',Inv X pins σ H' s'/\RelV v u/\Q v H'
def TP (X:Cx) (pins:List (Addr×Obj)) (σ:St) (Q:Bool->Hp->Prop) (b:Bool) (s':Shared):Prop:=∃H',Inv X pins σ H' s'/\Q b H'
def AP (X:Cx) (pins:List (Addr×Obj)) (σ:St) (Q:List V->Hp->Prop) (us:List Value) (s':Shared):Prop:=∃vs H',Inv X pins σ H' s'/\Vals vs us/\Q vs H'
def SP (X:Cx) (pins:List (Addr×Obj)) (D:Ends) (f:Flow) (s':Shared):Prop:=
 match f with
 | .next=>∃σ' H',Inv X pins σ' H' s'/\D.nx σ' H'
 | .brk=>∃σ' H',Inv X pins σ' H' s'/\D.bk σ' H'
 | .cont=>∃σ' H',Inv X pins σ' H' s'/\D.ct σ' H'
 | .ret u=>∃v σ' H',Inv X pins σ' H' s'/\RelV v u/\D.rt v H'
def PE (X:Cx) (e:Expr) (t:TE):Prop:=
 ∀(pins:List (Addr×Obj)) (s:Shared) (σ:St) (H:Hp) (Q:VK),Inv X pins σ H s->t σ H Q->wpAny (model X.prog X.w) X.A (eval e X.env) (EP X pins σ Q) X.xe s
def PT (X:Cx) (e:Expr) (t:TT):Prop:=
 ∀(pins:List (Addr×Obj)) (s:Shared) (σ:St) (H:Hp) (Q:Bool->Hp->Prop),Inv X pins σ H s->t σ H Q->wpAny (model X.prog X.w) X.A (isTrue e X.env (eval e X.env)) (TP X pins σ Q) X.xe s
def PW (X:Cx) (e:Expr) (t:TT):Prop:=
 ∀(whole:Sem Value) (pins:List (Addr×Obj)) (s:Shared) (σ:St) (H:Hp) (Q:Bool->Hp->Prop),Inv X pins σ H s->t σ H Q->wpAny (model X.prog X.w) X.A (isTrue e X.env whole) (TP X pins σ Q) X.xe s
theorem PW.pt {X:Cx} {e:Expr} {t:TT} (h:PW X e t):PT X e t:=h _
def PA (X:Cx) (es:List Expr) (t:TA):Prop:=
 ∀(pos:Pos) (pins:List (Addr×Obj)) (s:Shared) (σ:St) (H:Hp) (Q:List V->Hp->Prop),Inv X pins σ H s->t σ H Q->wpAny (model X.prog X.w) X.A (spliced (backTo pos (starEach es X.env))) (AP X pins σ Q) X.xe s
def PS (X:Cx) (st:Stmt) (t:TS):Prop:=
 ∀(pins:List (Addr×Obj)) (s:Shared) (σ:St) (H:Hp) (D:Ends),Inv X pins σ H s->t D σ H->wpAny (model X.prog X.w) X.A (exec st X.env) (SP X pins D) X.xe s
def PSs (X:Cx) (st:List Stmt) (t:TS):Prop:=
 ∀(pins:List (Addr×Obj)) (s:Shared) (σ:St) (H:Hp) (D:Ends),Inv X pins σ H s->t D σ H->wpAny (model X.prog X.w) X.A (execs st X.env) (SP X pins D) X.xe s
theorem thn {α:Type} {t:Sem α} {Q Q':α->Shared->Prop} {M:Model} {A:Around} {E:Value->Shared->Prop} {s:Shared} (h:wpAny M A t Q E s) (hQ:∀a s,Q a s->Q' a s):wpAny M A t Q' E s:=wpAny_mono h hQ fun _ _ x=>x
section
variable {X:Cx}
theorem bin {a b:Expr} {ta tb:TE} (ha:PE X a ta) (hb:PE X b tb) {pins:List (Addr×Obj)} {s:Shared} {σ:St} {H:Hp} {R:V->V->Hp->Prop} (I:Inv X pins σ H s) (h:ta σ H fun x H1=>tb σ H1 fun y H2=>R x y H2)
  {α:Type} {Q:α->Shared->Prop} {f:Value->Value->Sem α}
  (hf:∀v u s2 x y H2,Inv X pins σ H2 s2->RelV x v->RelV y u->R x y H2->wpAny (model X.prog X.w) X.A (f v u) Q X.xe s2):
  wpAny (model X.prog X.w) X.A (eval a X.env) (fun v s₁=>wpAny (model X.prog X.w) X.A (eval b X.env) (fun u s₂=>wpAny (model X.prog X.w) X.A (f v u) Q X.xe s₂) X.xe s₁) X.xe s:=by
 refine thn (ha pins s σ H _ I h) fun v s1 ⟨x,H1,I1,r1,q1⟩=>?_
 refine thn (hb pins s1 σ H1 _ I1 q1) fun u s2 ⟨y,H2,I2,r2,q2⟩=>?_
 exact hf v u s2 x y H2 I2 r1 r2 q2
noncomputable def tVar (i:Nat):TE:=fun σ H Q=>∃v,σ[i]?=some (some v)/\Q v H
noncomputable def tC (v:V):TE:=fun _ H Q=>Q v H
theorem pe_var {i:Nat} {x:Str} {pos:Pos} (hN:X.N[i]?=some x) (hv:Vis X.env.scope x) (hd:(x == ("__debug__":Str))=false:=by decide) (hcd:(x == ("__classdict__":Str))=false:=by decide):PE X (.Name x pos) (tVar i):=by
 intro pins s σ H Q I h
 obtain⟨v,e,h⟩:=h
 obtain⟨m,hn,hl⟩:=I.loc
 obtain⟨u,r,l⟩:=hl i x v hN e hv
 have fin:EP X pins σ Q u s:=⟨v,H,I,r,h⟩
 rcases l with⟨hk,hm⟩|⟨hk,c,hc,hcell⟩
 .exact wpAny_Name (wpAny_loadName_local I.ok.kind hk hn hm fin) hd
 .rcases hk with hk|hk
  .exact wpAny_Name (wpAny_loadName_cell I.ok.kind hk hc hcell fin) hd
  .exact wpAny_Name (wpAny_loadName_free I.ok.kind hk hc hcell fin hcd) hd
theorem pe_int {i j pos}:PE X (.Constant (.int i) j pos) (tC (.int i)):=fun _ _ _ H _ I h=>wpAny_Constant_int ⟨.int i,H,I.tok _,⟨_,rfl⟩,h⟩
theorem pe_bl {b j pos}:PE X (.Constant (.bool b) j pos) (tC (.bl b)):=fun _ _ _ H _ I h=>Constant_bool ⟨.bl b,H,I,rfl,h⟩
theorem pe_non {j pos}:PE X (.Constant .none j pos) (tC .non):=fun _ _ _ H _ I h=>Constant_none ⟨.non,H,I,rfl,h⟩
theorem pe_str {x j pos}:PE X (.Constant (.str x) j pos) (tC (.str x)):=fun _ _ _ H _ I h=>Calls.Constant_str ⟨.str x,H,I.tok _,⟨_,rfl⟩,h⟩
def Gl (X:Cx) (x:Str):Prop:=X.env.kindOf x=some .globalImplicit
theorem ld_glob {E:Value->Shared->Prop} {pins:List (Addr×Obj)} {s:Shared} {σ:St} {H:Hp} {x:Str} {u:Value} {pos:Pos} {Q:Value->Shared->Prop} (I:Inv X pins σ H s) (hg:Gl X x) (hm:X.mg x=some u) (h:Q u s)
  (hd:(x == ("__debug__":Str))=false:=by decide):wpAny (model X.prog X.w) X.A (eval (.Name x pos) X.env) Q E s:=
 Calls.Name_function_global I.ok.kind hg (Calls.loadGlobal_global (by rw[I.ok.glob];exact I.mod.glob.keeps I.bk) hm h) hd
theorem ld_blt {E:Value->Shared->Prop} {pins:List (Addr×Obj)} {s:Shared} {σ:St} {H:Hp} {x:Str} {u:Value} {pos:Pos} {Q:Value->Shared->Prop} (I:Inv X pins σ H s) (hg:Gl X x) (hm:X.mg x=none) (hv:bootBuiltins x=some u) (h:Q u s)
  (hn:x≠"__name__":=by decide) (hd:(x == ("__debug__":Str))=false:=by decide):wpAny (model X.prog X.w) X.A (eval (.Name x pos) X.env) Q E s:=by
 obtain⟨mb,h1,h2⟩:=I.mod.blt
 exact Calls.Name_function_global I.ok.kind hg (Calls.loadGlobal_builtin (by rw[I.ok.glob];exact I.mod.glob.keeps I.bk) hm (by rw[I.ok.blt];exact h1.keeps I.bk) ((h2 x hn).trans hv) h) hd
theorem pe_bltn {x:Str} {v:V} {u:Value} {pos:Pos} (hg:Gl X x) (hm:X.mg x=none) (hv:bootBuiltins x=some u) (r:RelV v u) (hn:x≠"__name__":=by decide) (hd:(x == ("__debug__":Str))=false:=by decide):PE X (.Name x pos) (tC v):=
 fun _ _ _ H _ I h=>ld_blt I hg hm hv ⟨v,H,I,r,h⟩ hn hd
variable {a b:Expr} {ta tb:TE} {pos:Pos}
def PC (X:Cx) (op:CmpOp) (a b:Expr) (t:TE):Prop:=
 ∀(pins:List (Addr×Obj)) (s:Shared) (σ:St) (H:Hp) (Q:VK),Inv X pins σ H s->t σ H Q->
  wpAny (model X.prog X.w) X.A (eval a X.env) (fun v s₁=>wpAny (model X.prog X.w) X.A (eval b X.env) (fun u s₂=>wpAny (model X.prog X.w) X.A (compareOp op v u) (EP X pins σ Q) X.xe s₂) X.xe s₁) X.xe s
theorem nobehind (b:Expr) {op:CmpOp} (h:op≠.In) (h2:op≠.NotIn):behindInMarks op b=false:=by
 have e1:(op == CmpOp.In)=false:=by cases op<;>first|rfl|exact absurd rfl h
 have e2:(op == CmpOp.NotIn)=false:=by cases op<;>first|rfl|exact absurd rfl h2
 cases b<;>simp[behindInMarks,e1,e2]
noncomputable def tB (t:TE):TT:=fun σ H Q=>t σ H fun x H1=>∃c,x=.bl c/\Q c H1
theorem pe_cmp {op:CmpOp} {t:TE} (h:PC X op a b t) (h1:behindInMarks op b=false:=by first|exact nobehind _ (by decide) (by decide)|rfl):PE X (.Compare a [op] [b] pos) t:=fun pins s σ H Q I hw=>wpAny_Compare1 (h pins s σ H Q I hw) h1
theorem pt_cmp {op:CmpOp} {t:TE} (h:PC X op a b t) (h1:behindInMarks op b=false:=by first|exact nobehind _ (by decide) (by decide)|rfl):PT X (.Compare a [op] [b] pos) (tB t):=by
 intro pins s σ H Q I hw
 refine wpAny_isTrue_Compare1 (thn (h pins s σ H _ I hw) fun v s1 h1=>thn h1 fun u s2 h2=>thn h2 fun c s3 ⟨x,H1,I1,r1,q1⟩=>?_) h1
 obtain⟨d,rfl,q⟩:=q1
 cases r1
 exact wpAny_truthy_bool ⟨H1,I1,q⟩
variable {tA tB':TT} {rest:List Expr}
noncomputable def tAnd (t u:TT):TT:=fun σ H Q=>t σ H fun c H1=>if c=true then u σ H1 Q else Q false H1
noncomputable def tOr (t u:TT):TT:=fun σ H Q=>t σ H fun c H1=>if c=true then Q true H1 else u σ H1 Q
theorem pw_and1 (ha:PT X a tA):PW X (.BoolOp .And [a] pos) tA:=by
 intro wh pins s σ H Q I h
 refine isTrue_and (thn (ha pins s σ H Q I h) fun c s1 e=>?_)
 cases c with
 |true=>exact isTrue_and_nil e
 |false=>exact e
theorem pw_or1 (ha:PT X a tA):PW X (.BoolOp .Or [a] pos) tA:=by
 intro wh pins s σ H Q I h
 refine isTrue_or (thn (ha pins s σ H Q I h) fun c s1 e=>?_)
 cases c with
 |false=>exact isTrue_or_nil e
 |true=>exact e
theorem pw_and (ha:PT X a tA) (hb:PW X (.BoolOp .And (b :: rest) pos) tB'):PW X (.BoolOp .And (a :: b :: rest) pos) (tAnd tA tB'):=by
 intro wh pins s σ H Q I h
 refine isTrue_and (thn (ha pins s σ H _ I h) fun c s1 ⟨H1,I1,q1⟩=>?_)
 cases c with
 |true=>exact hb wh pins s1 σ H1 Q I1 q1
 |false=>exact⟨H1,I1,q1⟩
theorem pw_or (ha:PT X a tA) (hb:PW X (.BoolOp .Or (b :: rest) pos) tB'):PW X (.BoolOp .Or (a :: b :: rest) pos) (tOr tA tB'):=by
 intro wh pins s σ H Q I h
 refine isTrue_or (thn (ha pins s σ H _ I h) fun c s1 ⟨H1,I1,q1⟩=>?_)
 cases c with
 |true=>exact⟨H1,I1,q1⟩
 |false=>exact hb wh pins s1 σ H1 Q I1 q1
noncomputable def tAndV (ta tb:TE):TE:=fun σ H Q=>ta σ H fun x H1=>∃c,x=.bl c/\if c=true then tb σ H1 Q else Q (.bl false) H1
noncomputable def tOrV (ta tb:TE):TE:=fun σ H Q=>ta σ H fun x H1=>∃c,x=.bl c/\if c=true then Q (.bl true) H1 else tb σ H1 Q
theorem pe_one {op} {t:TE} (h:PE X a t):PE X (.BoolOp op [a] pos) t:=fun pins s σ H Q I hw=>BoolOp_one (h pins s σ H Q I hw)
theorem pe_and (ha:PE X a ta) (hb:PE X (.BoolOp .And (b :: rest) pos) tb):PE X (.BoolOp .And (a :: b :: rest) pos) (tAndV ta tb):=by
 intro pins s σ H Q I h
 refine BoolOp_and (thn (ha pins s σ H _ I h) fun v s1 ⟨x,H1,I1,r1,q1⟩=>?_)
 obtain⟨c,rfl,q1⟩:=q1
 cases r1
 refine wpAny_truthy_bool ?_
 cases c with
 |true=>exact hb pins s1 σ H1 Q I1 q1
 |false=>exact⟨.bl false,H1,I1,rfl,q1⟩
theorem pe_or (ha:PE X a ta) (hb:PE X (.BoolOp .Or (b :: rest) pos) tb):PE X (.BoolOp .Or (a :: b :: rest) pos) (tOrV ta tb):=by
 intro pins s σ H Q I h
 refine BoolOp_or (thn (ha pins s σ H _ I h) fun v s1 ⟨x,H1,I1,r1,q1⟩=>?_)
 obtain⟨c,rfl,q1⟩:=q1
 cases r1
 refine wpAny_truthy_bool ?_
 cases c with
 |false=>exact hb pins s1 σ H1 Q I1 q1
 |true=>exact⟨.bl true,H1,I1,rfl,q1⟩
end
def SqL (K:W.Frag) (H:Hp) (a:Addr) (xs:List V):Prop:=
 Rd H a (.lst xs)\/
  ∃(o:Obj) (its:Array Value) (n:Nat),K.lookup a=some o/\o.cls=.type "list"/\o.dict=none/\o.data=.seq its n/\its.size<=sizeLine/\Vals xs its.toList
def SqT (K:W.Frag) (H:Hp) (a:Addr) (xs:List V):Prop:=
 Rd H a (.tup xs)\/
  ∃(o:Obj) (its:Array Value) (n:Nat),K.lookup a=some o/\o.cls=.type "tuple"/\o.data=.seq its n/\its.size<=sizeLine/\Vals xs its.toList
noncomputable def absV:Value->Option V
 | .none=>some .non
 | .bool b=>some (.bl b)
 | .int i _=>some (.int i)
 | .str x _=>some (.str x)
 | .bytes b _=>some (.byt b)
 | .float b _=>some (.flt b)
 | .ref a=>some (.ref a)
 | .type n=>some (.ty n)
 |_=>none
theorem RelV.abs {x:V} {u:Value} (r:RelV x u):absV u=some x:=by
 cases x with
 |non=>cases r;rfl
 |bl _=>cases r;rfl
 |int _=>obtain⟨t,rfl⟩:=r;rfl
 |str _=>obtain⟨t,rfl⟩:=r;rfl
 |byt _=>obtain⟨t,rfl⟩:=r;rfl
 |flt _=>obtain⟨t,rfl⟩:=r;rfl
 |ref _=>cases r;rfl
 |ty _=>cases r;rfl
theorem RelV.inj {x y:V} {u:Value} (r:RelV x u) (q:RelV y u):x=y:=Option.some.inj (r.abs.symm.trans q.abs)
theorem Vals.inj:∀{xs ys:List V} {us:List Value},Vals xs us->Vals ys us->xs=ys
 |_,_,_,.nil,.nil=>rfl
 |_,_,_,.cons r t,.cons r' t'=>by rw[r.inj r',Vals.inj t t']
section
variable {X:Cx} {pins:List (Addr×Obj)} {σ:St} {H:Hp} {s:Shared} {a:Addr} {xs ys:List V}
theorem SqL.of {K:W.Frag} (h:H a=some (.lst xs)):SqL K H a xs:=.inl (.inl h)
theorem SqT.of {K:W.Frag} (h:H a=some (.tup xs)):SqT K H a xs:=.inl (.inl h)
theorem Inv.list (I:Inv X pins σ H s) (h:SqL X.K H a xs):∃its:List Value,Vals xs its/\PlainL s.heap a its.toArray/\xs.length<=sizeLine:=by
 rcases h with h|⟨o,its,n,hk,hc,hd,hs,hz,r⟩
 .obtain⟨z,its,n,r,e⟩:=h.ok I.hok
  exact⟨its,r,⟨_,n,e,rfl,rfl,rfl⟩,z⟩
 .refine⟨its.toList,r,⟨o,n,I.kIn a o hk,hc,hd,by simpa using hs⟩,?_⟩
  have e:=r.length
  simp only[Array.length_toList]at e
  omega
theorem Inv.tuple (I:Inv X pins σ H s) (h:SqT X.K H a xs):∃its:List Value,Vals xs its/\IsTup s.heap a its.toArray/\xs.length<=sizeLine:=by
 rcases h with h|⟨o,its,n,hk,hc,hs,hz,r⟩
 .obtain⟨z,its,r,p⟩:=h.ok I.hok
  exact⟨its,r,p.tup,z⟩
 .refine⟨its.toList,r,⟨o,I.kIn a o hk,hc,n,by simpa using hs⟩,?_⟩
  have e:=r.length
  simp only[Array.length_toList]at e
  omega
theorem Inv.list_inj (I:Inv X pins σ H s) (h:SqL X.K H a xs) (h':SqL X.K H a ys):xs=ys:=by
 obtain⟨its,r,⟨o,n,e,_,_,d⟩,_⟩:=I.list h
 obtain⟨its',r',⟨o',n',e',_,_,d'⟩,_⟩:=I.list h'
 rw[e]at e';cases e'
 rw[d]at d'
 injection d' with d1 _
 have:its=its':=by simpa using congrArg Array.toList d1
 subst this
 exact r.inj r'
theorem Inv.tuple_inj (I:Inv X pins σ H s) (h:SqT X.K H a xs) (h':SqT X.K H a ys):xs=ys:=by
 obtain⟨its,r,⟨o,e,_,n,d⟩,_⟩:=I.tuple h
 obtain⟨its',r',⟨o',e',_,n',d'⟩,_⟩:=I.tuple h'
 rw[e]at e';cases e'
 rw[d]at d'
 injection d' with d1 _
 have:its=its':=by simpa using congrArg Array.toList d1
 subst this
 exact r.inj r'
end
noncomputable abbrev Cx.wish (X:Cx) (E:Value->Shared->Prop):Cx:={ X with xe:=E }
noncomputable abbrev Cx.nox (X:Cx):Cx:=X.wish fun _ _=>False
theorem Cx.Ok.wish {X:Cx} (ok:X.Ok) (E:Value->Shared->Prop):(X.wish E).Ok:=
 ⟨ok.mod,ok.kind,ok.glob,ok.blt,ok.above,ok.inj,ok.has,ok.cab,ok.hd,ok.frames,ok.stk,ok.exf,ok.bs,ok.bsz,ok.noex,ok.exfs,ok.funs,ok.frf⟩
theorem Cx.Ok.unwish {X:Cx} {E:Value->Shared->Prop} (ok:(X.wish E).Ok):X.Ok:=
 ⟨ok.mod,ok.kind,ok.glob,ok.blt,ok.above,ok.inj,ok.has,ok.cab,ok.hd,ok.frames,ok.stk,ok.exf,ok.bs,ok.bsz,ok.noex,ok.exfs,ok.funs,ok.frf⟩
section
variable {X:Cx} {pins:List (Addr×Obj)} {σ:St} {H:Hp} {s:Shared} {E:Value->Shared->Prop}
theorem Inv.wish (I:Inv X pins σ H s) (E:Value->Shared->Prop):Inv (X.wish E) pins σ H s:=⟨I.ok.wish E,I.os,I.bare,I.base,I.loc,I.cell,I.free,I.freeC,I.pin,I.hok,I.len⟩
theorem Inv.unwish (I:Inv (X.wish E) pins σ H s):Inv X pins σ H s:=⟨I.ok.unwish,I.os,I.bare,I.base,I.loc,I.cell,I.free,I.freeC,I.pin,I.hok,I.len⟩
theorem SP.unwish {D:Ends} {f:Flow} {s':Shared} (h:SP (X.wish E) pins D f s'):SP X pins D f s':=by
 cases f with
 |next=>obtain⟨σ',H',I,q⟩:=h;exact⟨σ',H',I.unwish,q⟩
 |brk=>obtain⟨σ',H',I,q⟩:=h;exact⟨σ',H',I.unwish,q⟩
 |cont=>obtain⟨σ',H',I,q⟩:=h;exact⟨σ',H',I.unwish,q⟩
 |ret u=>obtain⟨v,σ',H',I,r,q⟩:=h;exact⟨v,σ',H',I.unwish,r,q⟩
theorem PSs.nox {st:List Stmt} {t:TS} (h:PSs X.nox st t):PSs X st t:=fun pins s σ H D I hw=>
 wpAny_mono (h pins s σ H D (I.wish _) hw) (fun _ _ q=>q.unwish) fun _ _ z=>False.elim z
end
section
variable {X:Cx} {st:Stmt} {rest:List Stmt} {t u:TS} {e:Expr} {te:TE} {pos:Pos}
noncomputable def tNext:TS:=fun D σ H=>D.nx σ H
noncomputable def tSeq (t u:TS):TS:=fun D σ H=>t { D with nx:=u D } σ H
theorem pss_nil:PSs X [] tNext:=fun _ _ σ H _ I h=>wpAny_execs_nil ⟨σ,H,I,h⟩
theorem pss_cons (h1:PS X st t) (h2:PSs X rest u):PSs X (st :: rest) (tSeq t u):=by
 intro pins s σ H D I h
 refine wpAny_execs_cons (thn (h1 pins s σ H { D with nx:=u D } I h) fun f s1 q=>?_)
 cases f with
 |next=>
  obtain⟨σ',H',I',q⟩:=q
  exact h2 pins s1 σ' H' D I' q
 |ret v=>exact q
 |brk=>exact q
 |cont=>exact q
noncomputable def tBreak:TS:=fun D σ H=>D.bk σ H
theorem ps_break:PS X (.Break pos) tBreak:=fun _ _ σ H _ I h=>wpAny_Break ⟨σ,H,I,h⟩
theorem Inv.quiet {pins:List (Addr×Obj)} {σ:St} {H:Hp} {s:Shared} (I:Inv X pins σ H s):interactive X.env=false:=by simp[interactive,I.ok.kind]
noncomputable def tDrop (te:TE):TS:=fun D σ H=>te σ H fun _ H1=>D.nx σ H1
theorem ps_expr (he:PE X e te) (hs:swapsWith e none pos.line X.env=pure false:=by rfl):PS X (.Expr e pos) (tDrop te):=by
 intro pins s σ H D I h
 exact wpAny_Expr_any (thn (he pins s σ H _ I h) fun v s1 ⟨x,H1,I1,r1,q1⟩=>⟨σ,H1,I1,q1⟩) I.quiet hs
noncomputable def tRet (te:TE):TS:=fun D σ H=>te σ H D.rt
theorem ps_ret (he:PE X e te):PS X (.Return (some e) pos) (tRet te):=by
 intro pins s σ H D I h
 exact wpAny_Return_some (thn (he pins s σ H _ I h) fun v s1 ⟨x,H1,I1,r1,q1⟩=>⟨x,σ,H1,I1,r1,q1⟩)
noncomputable def tIfS (c:TT) (t u:TS):TS:=fun D σ H=>c σ H fun b H1=>if b=true then t D σ H1 else u D σ H1
theorem ps_if {c:Expr} {a b:List Stmt} {tc:TT} (hc:PT X c tc) (ha:PSs X a t) (hb:PSs X b u):PS X (.If c a b pos) (tIfS tc t u):=by
 intro pins s σ H D I h
 refine wpAny_If (thn (hc pins s σ H _ I h) fun d s1 ⟨H1,I1,q1⟩=>?_)
 cases d with
 |true=>exact ha pins s1 σ H1 D I1 q1
 |false=>exact hb pins s1 σ H1 D I1 q1
end
noncomputable abbrev TG:=V->St->Hp->(St->Hp->Prop)->Prop
noncomputable abbrev TGs:=List V->St->Hp->(St->Hp->Prop)->Prop
def PG (X:Cx) (target:Expr) (t:TG):Prop:=
 ∀(pins:List (Addr×Obj)) (s:Shared) (σ:St) (H:Hp) (v:V) (u:Value) (Q:St->Hp->Prop),Inv X pins σ H s->RelV v u->t v σ H Q->
  wpAny (model X.prog X.w) X.A (assign target X.env u) (fun _ s'=>∃σ' H',Inv X pins σ' H' s'/\Q σ' H') X.xe s
def PGs (X:Cx) (ts:List Expr) (t:TGs):Prop:=
 ∀(pins:List (Addr×Obj)) (s:Shared) (σ:St) (H:Hp) (vs:List V) (us:List Value) (Q:St->Hp->Prop),Inv X pins σ H s->Vals vs us->t vs σ H Q->
  wpAny (model X.prog X.w) X.A (assignInOrder ((assignEach ts X.env).map (·.2)) us) (fun _ s'=>∃σ' H',Inv X pins σ' H' s'/\Q σ' H') X.xe s
noncomputable abbrev TSet:=V->V->V->Hp->(Hp->Prop)->Prop
def PSet (X:Cx) (t:TSet):Prop:=
 ∀(pins:List (Addr×Obj)) (s:Shared) (σ:St) (H:Hp) (o i v:V) (ov iv u:Value) (Q:Hp->Prop),Inv X pins σ H s->RelV o ov->RelV i iv->RelV v u->t o i v H Q->
  wpAny (model X.prog X.w) X.A (setItem ov iv u) (fun _ s'=>∃H',Inv X pins σ H' s'/\Q H') X.xe s
noncomputable abbrev TIp:=V->V->Hp->VK->Prop
def PIp (X:Cx) (op:Operator) (t:TIp):Prop:=
 ∀(pins:List (Addr×Obj)) (s:Shared) (σ:St) (H:Hp) (x y:V) (v u:Value) (Q:VK),Inv X pins σ H s->RelV x v->RelV y u->t x y H Q->
  wpAny (model X.prog X.w) X.A (inplaceOp op v u) (EP X pins σ Q) X.xe s
section
variable {X:Cx} {pos:Pos}
noncomputable def gName (i:Nat):TG:=fun v σ H Q=>Q (σ.set i (some v)) H
theorem pg_name {i:Nat} {x:Str} (hN:X.N.Nodup) (hi:X.N[i]?=some x) (hx:Loc X.env.scope x) (hf:X.fn x=true\/X.env.scope.names.lookup x=some .local:=by first|exact .inl rfl|exact .inr rfl|assumption):PG X (.Name x pos) (gName i):=by
 intro pins s σ H v u Q I r h
 exact wpAny_assign_Name (store_ok I hN hi hx r (fun s' I'=>⟨_,H,I',h⟩) hf)
noncomputable def gNil:TGs:=fun vs σ H Q=>vs=[]/\Q σ H
noncomputable def gCons (t:TG) (u:TGs):TGs:=fun vs σ H Q=>∃v r,vs=v :: r/\t v σ H fun σ' H'=>u r σ' H' Q
theorem pgs_nil:PGs X [] gNil:=by
 intro pins s σ H vs us Q I r h
 obtain⟨e,h⟩:=h
 subst e
 cases r
 exact assignInOrder_nil ⟨σ,H,I,h⟩
theorem pgs_cons {e:Expr} {es:List Expr} {t:TG} {u:TGs} (h1:PG X e t) (h2:PGs X es u)
  (hs:(assignEach (e :: es) X.env).map (·.2)=assign e X.env :: (assignEach es X.env).map (·.2):=by rfl):PGs X (e :: es) (gCons t u):=by
 intro pins s σ H vs us Q I r h
 obtain⟨v,vr,e1,h⟩:=h
 subst e1
 cases r with
 |cons r rr=>
  rw[hs]
  refine assignInOrder_cons (thn (h1 pins s σ H _ _ _ I r h) fun _ s1 ⟨σ1,H1,I1,q1⟩=>?_)
  exact h2 pins s1 σ1 H1 _ _ Q I1 rr q1
noncomputable def gTup (K:W.Frag) (n:Nat) (t:TGs):TG:=fun v σ H Q=>∃a xs,v=.ref a/\SqT K H a xs/\xs.length=n/\t xs σ H Q
theorem pg_tup {es:List Expr} {k:Nat} {t:TGs} {n:Nat} (hc:X.calm=true) (h:PGs X es t)
  (hn:(assignEach es X.env).length=n:=by rfl) (hst:(assignEach es X.env).findIdx? (·.1)=none:=by rfl):PG X (.Tuple es k pos) (gTup X.K n t):=by
 intro pins s σ H v u Q I r hw
 obtain⟨a,xs,e1,hq,hl,hw⟩:=hw
 subst e1
 cases r
 obtain⟨its,rv,ht,hz⟩:=I.tuple hq
 refine assign_Tuple_tuple (I.ok.hd hc) ht (by simp[hn,<- hl,rv.length]) hst fun h' hx=>?_
 have I1:Inv X pins σ H { s with heap:=h' }:=I.kept (t':=s.toks) fun b o e=>hx b o (Nat.ne_of_lt (Heap.lt_size e)) e
 exact h pins _ σ H xs _ Q I1 (by simpa using rv) hw
noncomputable def gSub (to ti:TE) (t:TSet):TG:=fun v σ H Q=>to σ H fun o H1=>ti σ H1 fun i H2=>t o i v H2 fun H3=>Q σ H3
theorem pg_sub {o i:Expr} {to ti:TE} {t:TSet} (ho:PE X o to) (hi:PE X i ti) (hs:PSet X t)
  (ha:∀v,assign (.Subscript o i pos) X.env v=(do
   let ov <- holding [v] (eval o X.env)
   let iv <- holding [v,ov] (eval i X.env)
   standAt pos
   holding [v,ov,iv] (setItem ov iv v)
   release [v,ov,iv] []):=by intro _;rfl):PG X (.Subscript o i pos) (gSub to ti t):=by
 intro pins s σ H v u Q I r h
 rw[ha]
 refine wpAny_bind (wpAny_holding (thn (ho pins s σ H _ I h) fun ov s1 ⟨x,H1,I1,r1,q1⟩=>?_))
 refine wpAny_bind (wpAny_holding (thn (hi pins s1 σ H1 _ I1 q1) fun iv s2 ⟨y,H2,I2,r2,q2⟩=>?_))
 refine wpAny_bind (wpAny_standAt (wpAny_bind (wpAny_holding (thn (hs pins s2 σ H2 x y v ov iv u _ I2 r1 r2 r q2) fun _ s3 ⟨H3,I3,q3⟩=>?_))))
 exact wpAny_release ⟨σ,H3,I3,q3⟩
noncomputable def tAsg (te:TE) (g:TG):TS:=fun D σ H=>te σ H fun x H1=>g x σ H1 D.nx
theorem ps_asg {tg e:Expr} {te:TE} {g:TG} (he:PE X e te) (hg:PG X tg g) (hs:swapsWithSole [tg] e pos.line X.env=pure false:=by rfl) (hw:swappedStores [tg] e X.env=pure none:=by rfl)
  (h1:(assignEach [tg] X.env).map (·.2)=[assign tg X.env]:=by rfl):PS X (.Assign [tg] e pos) (tAsg te g):=by
 intro pins s σ H D I h
 refine wpAny_Assign_stores (thn (he pins s σ H _ I h) fun v s1 ⟨x,H1,I1,r1,q1⟩=>?_) hs hw
 rw[h1]
 exact thn (hg pins s1 σ H1 x v _ I1 r1 q1) fun _ s2 q=>q
noncomputable def tPar (i j:Nat) (ta:TA):TS:=fun D σ H=>ta σ H fun vs H1=>∃v w,vs=[v,w]/\D.nx ((σ.set i (some v)).set j (some w)) H1
theorem ps_par {i j:Nat} {x y:Str} {a b:Expr} {ta:TA} {px py pt:Pos} {kt k2 pt2} (hc:X.calm=true) (hN:X.N.Nodup) (hi:X.N[i]?=some x) (hj:X.N[j]?=some y) (hij:i≠j)
  (hx:X.env.scope.names.lookup x=some .local) (hy:X.env.scope.names.lookup y=some .local) (ha:PA X [a,b] ta)
  (hw:swappedStores [.Tuple [.Name x px,.Name y py] kt pt] (.Tuple [a,b] k2 pt2) X.env=pure (some [x,y]))
  (hs:swapsWithSole [.Tuple [.Name x px,.Name y py] kt pt] (.Tuple [a,b] k2 pt2) pos.line X.env=pure false:=by rfl):
  PS X (.Assign [.Tuple [.Name x px,.Name y py] kt pt] (.Tuple [a,b] k2 pt2) pos) (tPar i j ta):=by
 intro pins s σ H D I h
 rw[exec_Assign_arm]
 refine wpAny_bind (wpAny_standAt ?_)
 rw[hs]
 refine wpAny_bind (wpAny_pure ?_)
 rw[if_neg (by decide)]
 refine wpAny_bind (Tuple_ (thn (ha _ pins s σ H _ I h) fun us s1 ⟨vs,H1,I1,r1,q1⟩=>?_))
 obtain⟨v,w,e1,q1⟩:=q1
 subst e1
 obtain⟨u1,u2,rfl,rv,rw'⟩:∃u1 u2,us=[u1,u2]/\RelV v u1/\RelV w u2:=by
  cases r1 with
  |cons p q=>
   cases q with
   |cons p' q'=>
    cases q'
    exact⟨_,_,rfl,p,p'⟩
 refine wpAny_newObj_type ?_ (by show 2<=sizeLine;decide)
 have I2:Inv X pins σ H1 { s1 with heap:=s1.heap.push { cls:=.type "tuple",data:=.seq [u1,u2].toArray } }:=I1.kept (t':=s1.toks) fun b o e=>Heap.get?_push_of_some _ e
 rw[hw]
 refine wpAny_bind (wpAny_pure ?_)
 show wpAny (model X.prog X.w) X.A (do rule "assign.swapped-stores";let items <- unpackItems (.ref s1.heap.objs.size) 2 none;assignInOrder [fun v=>bindName X.env y v,fun v=>bindName X.env x v] items.reverse;pure Flow.next) _ _ _
 refine wpAny_bind (wpAny_rule (wpAny_bind (unpackItems_tuple (items:=#[u1,u2]) (I.ok.hd hc) (IsTup.new s1.heap _) fun h' hx'=>?_)))
 have I3:=I2.kept (h':=h') (t':=s1.toks) fun b o e=>hx' b o (Nat.ne_of_lt (Heap.lt_size e)) e
 show wpAny _ _ (assignInOrder [fun v=>bindName X.env y v,fun v=>bindName X.env x v] [u2,u1] >>= fun _=>pure Flow.next) _ _ _
 refine wpAny_bind (assignInOrder_cons (wpAny_bindName (store_ok I3 hN hj (.inl hy) rw' (fun s2 I4=>?_) (.inr hy))))
 refine assignInOrder_cons (wpAny_bindName (store_ok I4 hN hi (.inl hx) rv (fun s3 I5=>assignInOrder_nil (wpAny_pure ?_)) (.inr hx)))
 rw[List.set_comm _ _ (Ne.symm hij)]at I5
 exact⟨_,H1,I5,q1⟩
noncomputable def tAug (i:Nat) (te:TE) (ti:TIp):TS:=fun D σ H=>∃x,σ[i]?=some (some x)/\te σ H fun y H1=>ti x y H1 fun z H2=>D.nx (σ.set i (some z)) H2
theorem ps_aug {i:Nat} {x:Str} {e:Expr} {te:TE} {op:Operator} {ti:TIp} {pos':Pos} (hN:X.N.Nodup) (hi:X.N[i]?=some x) (hx:Loc X.env.scope x) (he:PE X e te) (ho:PIp X op ti) (hf:X.fn x=true\/X.env.scope.names.lookup x=some .local:=by first|exact .inl rfl|exact .inr rfl|assumption):
  PS X (.AugAssign (.Name x pos') op e pos) (tAug i te ti):=by
 intro pins s σ H D I h
 obtain⟨v,e1,h⟩:=h
 obtain⟨m,hn,hl⟩:=I.loc
 have vis:Vis X.env.scope x:=by rcases hx with k|k;exact .inl k;exact .inr (.inl k)
 obtain⟨u,r,l⟩:=hl i x v hi e1 vis
 refine wpAny_AugAssign_Name ?_
 have go:wpAny (model X.prog X.w) X.A (eval e X.env) (fun w s₂=>wpAny (model X.prog X.w) X.A (inplaceOp op u w) (fun r s₃=>wpAny (model X.prog X.w) X.A (storeName X.env x r) (fun _=>SP X pins D .next) X.xe s₃) X.xe s₂) X.xe s:=by
  refine thn (he pins s σ H _ I h) fun w s1 ⟨y,H1,I1,r1,q1⟩=>?_
  refine thn (ho pins s1 σ H1 v y u w _ I1 r r1 q1) fun z s2 ⟨zv,H2,I2,r2,q2⟩=>?_
  exact store_ok I2 hN hi hx r2 (fun s3 I3=>⟨_,H2,I3,q2⟩) hf
 rcases l with⟨hk,hm⟩|⟨hk,c,hc,hcell⟩
 .exact wpAny_loadName_local I.ok.kind hk hn hm go
 .rcases hk with hk|hk
  .exact wpAny_loadName_cell I.ok.kind hk hc hcell go
  .rcases hx with k|k
   .have:X.env.scope.names.lookup x=some .free:=hk
    rw[k]at this;cases this
   .have:X.env.scope.names.lookup x=some .free:=hk
    rw[k]at this;cases this
noncomputable def ipI (f:Int->Int->Int):TIp:=fun x y H Q=>∃i j,x=.int i/\y=.int j/\Q (.int (f i j)) H
theorem ip_add:PIp X .Add (ipI fun i j=>i+j):=by
 intro pins s σ H x y v u Q I r1 r2 h
 obtain⟨i,j,e1,e2,q⟩:=h
 subst e1;subst e2
 obtain⟨t,rfl⟩:=r1
 obtain⟨t',rfl⟩:=r2
 exact iadd_int ⟨.int _,H,I.tok _,⟨_,rfl⟩,q⟩
theorem ip_sub:PIp X .Sub (ipI fun i j=>i-j):=by
 intro pins s σ H x y v u Q I r1 r2 h
 obtain⟨i,j,e1,e2,q⟩:=h
 subst e1;subst e2
 obtain⟨t,rfl⟩:=r1
 obtain⟨t',rfl⟩:=r2
 exact isub_int ⟨.int _,H,I.tok _,⟨_,rfl⟩,q⟩
end
section
variable {X:Cx} {pos:Pos}
noncomputable def tWhile (c:TT) (tb:TS):TS:=fun D σ H=>∃W:Nat->St->Hp->Prop,(∃m,W m σ H)/\∀m σ H,W m σ H->
 c σ H fun b H1=>if b=true then ∃N:St->Hp->Prop,(∀σ' H',N σ' H'->∃m',m'<m/\W m' σ' H')/\tb { D with nx:=N,ct:=N,bk:=D.nx } σ H1 else D.nx σ H1
theorem ps_while {c:Expr} {body:List Stmt} {tc:TT} {tb:TS} (hp:PassesOwn (model X.prog X.w) X.A X.env X.xe) (hc:PT X c tc) (hb:PSs X body tb):PS X (.While c body [] pos) (tWhile tc tb):=by
 intro pins s σ H D I h
 obtain⟨W,⟨m0,w0⟩,turn⟩:=h
 refine wpAny_While (codeAny_whileLoop (fun n s'=>∃σ' H',Inv X pins σ' H' s'/\W n σ' H') ?_ m0 ⟨σ,H,I,w0⟩)
 rintro n s1 ⟨σ1,H1,I1,w1⟩
 refine wpAny_passesOwn hp (thn (hc pins s1 σ1 H1 _ I1 (turn n σ1 H1 w1)) fun b s2 ⟨H2,I2,q2⟩=>?_)
 cases b with
 |true=>
  obtain⟨N,hN,q2⟩:=q2
  rw[if_pos rfl]
  refine wpAny_passesOwn hp (thn (hb pins s2 σ1 H2 _ I2 q2) fun f s3 q3=>?_)
  cases f with
  |next=>
   obtain⟨σ3,H3,I3,n3⟩:=q3
   obtain⟨m',hm,w3⟩:=hN σ3 H3 n3
   exact⟨m',hm,σ3,H3,I3,w3⟩
  |cont=>
   obtain⟨σ3,H3,I3,n3⟩:=q3
   obtain⟨m',hm,w3⟩:=hN σ3 H3 n3
   exact⟨m',hm,σ3,H3,I3,w3⟩
  |brk=>exact q3
  |ret v=>exact q3
 |false=>
  rw[if_neg Bool.false_ne_true]
  exact wpAny_execs_nil ⟨σ1,H2,I2,q2⟩
end
structure It where
 go:Nat->Hp->Prop
 yld:Nat->Hp->V->Hp->Prop
 stop:Nat->Hp->Prop
def FpOk (X:Cx) (pins:List (Addr×Obj)) (H:Hp) (b:Addr):Prop:=
 H b=none/\b≠X.env.locals/\b∉X.fs/\(b∈X.ex\/X.s₀.heap.objs.size<=b)/\(∀x c,X.env.cells.lookup x=some c->c≠b)/\∀p∈X.pn++pins,p.1≠b
theorem Inv.fpOk {X:Cx} {pins:List (Addr×Obj)} {σ:St} {H H':Hp} {s:Shared} {b:Addr} (I:Inv X pins σ H s) (hb:s.heap.objs.size<=b) (hn:H' b=none):FpOk X pins H' b:=by
 refine⟨hn,Nat.ne_of_gt (Nat.lt_of_lt_of_le I.lt hb),I.nofs hb,.inr (Nat.le_trans I.sz hb),fun x c e z=>?_,fun p hp z=>?_⟩
 .obtain⟨v,q⟩:=I.cell x c e
  exact absurd (Nat.lt_of_lt_of_le q.lt (by rw[z];exact hb)) (Nat.lt_irrefl _)
 .exact absurd (Nat.lt_of_lt_of_le (Heap.lt_size (I.pin p hp).1) (by rw[z];exact hb)) (Nat.lt_irrefl _)
structure Turn (P:Program) (w:World) (K:W.Frag) (tg:Expr) (J:It) (fp:List Addr) (it:Addr) (tn:Nat->Heap->Prop):Prop where
 mem:it∈fp
 obj:∀i h,tn i h->∀b∈fp,∃o,h.get? b=some o/\∀v,o.data≠.cell v
 keep:∀i h h',tn i h->(∀b∈fp,∀o,h.get? b=some o->h'.get? b=some o)->tn i h'
 item:∀(X:Cx),X.prog=P->X.w=w->X.K=K->X.calm=true->∀(i:Nat) (pins:List (Addr×Obj)) (s:Shared) (σ:St) (H:Hp) (E:Value->Shared->Prop),Inv X pins σ H s->(∀b∈fp,FpOk X pins H b)->tn i s.heap->J.go i H->
  wpAny (model P w) X.A (pyNext (.ref it)) (fun r s1=>∃u,r=some u/\
   wpAny (model P w) X.A (letOwnedTupleGo tg (.ref it) u) (fun _ s2=>∃x H',Inv X pins σ H' s2/\RelV x u/\J.yld i H x H'/\tn (i+1) s2.heap/\∀b∈fp,H' b=none) E s1) E s
 done:∀(X:Cx),X.prog=P->X.w=w->X.K=K->X.calm=true->∀(i:Nat) (pins:List (Addr×Obj)) (s:Shared) (σ:St) (H:Hp) (E:Value->Shared->Prop),Inv X pins σ H s->(∀b∈fp,FpOk X pins H b)->tn i s.heap->J.stop i H->
  wpAny (model P w) X.A (pyNext (.ref it)) (fun r s1=>r=none/\Inv X pins σ H s1) E s
 self:∀(A:Around) (i:Nat) (s:Shared) (Q:Value->Shared->Prop) (E:Value->Shared->Prop),tn i s.heap->Q (.ref it) s->wpAny (model P w) A (pyIter (.ref it)) Q E s
noncomputable abbrev TI:=St->Hp->(It->Hp->Prop)->Prop
def PIE (X:Cx) (pins:List (Addr×Obj)) (σ:St) (tg:Expr) (R:It->Hp->Prop) (itv:Value) (s2:Shared):Prop:=
 ∃(it:Addr) (fp:List Addr) (tn:Nat->Heap->Prop) (J:It) (H':Hp),itv=.ref it/\Inv X pins σ H' s2/\Turn X.prog X.w X.K tg J fp it tn/\tn 0 s2.heap/\(∀b∈fp,FpOk X pins H' b)/\R J H'
def PI (X:Cx) (tg iter:Expr) (wi:TI):Prop:=
 ∀(pins:List (Addr×Obj)) (s:Shared) (σ:St) (H:Hp) (R:It->Hp->Prop),Inv X pins σ H s->wi σ H R->
  wpAny (model X.prog X.w) X.A (eval iter X.env) (fun v s1=>wpAny (model X.prog X.w) X.A (pyIter v) (PIE X pins σ tg R) X.xe s1) X.xe s
theorem go_of {M:Model} {A:Around} {E:Value->Shared->Prop} {s:Shared} {tg:Expr} {it:Addr} {u:Value} {o:Obj} {n:String} {vs:Array Value} {Q:Unit->Shared->Prop} (ho:s.heap.get? it=some o) (hc:o.cls=.type n) (hd:o.data=.fields vs)
  (hn:["enumerate","zip","dict_itemiterator","dict_reverseitemiterator","odict_iterator","itertools.zip_longest","itertools.pairwise"].contains n=false) (hQ:Q () s):wpAny M A (letOwnedTupleGo tg (.ref it) u) Q E s:=by
 unfold letOwnedTupleGo
 cases tg<;>first
  |exact wpAny_pure hQ
  |(cases u<;>first
    |exact wpAny_pure hQ
    |(refine wpAny_bind (wpAny_load ho ?_)
      rw[hc,hd]
      show wpAny M A (if(["enumerate","zip","dict_itemiterator","dict_reverseitemiterator","odict_iterator","itertools.zip_longest","itertools.pairwise"].contains n&&vs[0]? == some (rawInt _))=true then _ else _) Q E s
      rw[if_neg (by intro h;rw[hn,Bool.false_and]at h;cases h)]
      exact wpAny_pure hQ))
noncomputable def Itl (K:W.Frag) (a:Addr):It:=
 ⟨fun i H=>∃xs x,SqL K H a xs/\xs[i]?=some x,fun i H x H'=>H'=H/\∀xs,SqL K H a xs->xs[i]?=some x,fun i H=>∃xs,SqL K H a xs/\xs.length<=i⟩
noncomputable def Itt (K:W.Frag) (a:Addr):It:=
 ⟨fun i H=>∃xs x,SqT K H a xs/\xs[i]?=some x,fun i H x H'=>H'=H/\∀xs,SqT K H a xs->xs[i]?=some x,fun i H=>∃xs,SqT K H a xs/\xs.length<=i⟩
noncomputable def Itr (lo:Int) (n:Nat):It:=⟨fun i _=>i<n,fun i H x H'=>H'=H/\x=.int (lo+i),fun i _=>n<=i⟩
theorem turn_list {P:Program} {w:World} {K:W.Frag} {tg:Expr} (a it:Addr):Turn P w K tg (Itl K a) [it] it (fun i h=>h.IsListIter it a i) where
 mem:=by simp
 obj:=fun i h st b hb=>by
  have e:b=it:=by simpa using hb
  subst e
  obtain⟨o,e,c,d⟩:=st
  exact⟨o,e,fun v z=>by rw[d]at z;cases z⟩
 keep:=fun i h h' st k=>st.at fun o e=>k it (by simp) o e
 item:=by
  intro X hP hw hK hc i pins s σ H E I hf st hg
  subst hP hw hK
  obtain⟨xs,x,hq,hx⟩:=hg
  obtain⟨its,rv,p,hz⟩:=I.list hq
  obtain⟨u,hu,ru⟩:=rv.get hx
  obtain⟨f0,f1,f2,f3,f4,f5⟩:=hf it (by simp)
  refine wpAny_pyNext_list_item st p.isList (x:=u) (by simpa using hu) fun h' st' sb=>?_
  have I1:Inv X pins σ H { s with heap:=h' }:=I.turned (t':=s.toks) (fun b o hb e=>(sb.2 b hb).trans e) f0 f1 f3 f4 f5
  obtain⟨o,e,c,d⟩:=id st'
  exact⟨u,rfl,go_of (s:={ s with heap:=h' }) e c d (by decide) ⟨x,H,I1,ru,⟨rfl,fun ys hy=>by rw[I.list_inj hy hq];exact hx⟩,st',fun b hb=>(hf b hb).1⟩⟩
 done:=by
  intro X hP hw hK hc i pins s σ H E I hf st hg
  subst hP hw hK
  obtain⟨xs,hq,hx⟩:=hg
  obtain⟨its,rv,p,hz⟩:=I.list hq
  obtain⟨f0,f1,f2,f3,f4,f5⟩:=hf it (by simp)
  have hl:=rv.length
  exact wpAny_pyNext_list_end (I.ok.hd hc) st p.isList (by simp;omega) fun h' eb=>⟨rfl,I.turned (t':=s.toks) (fun b o hb e=>eb b o hb e) f0 f1 f3 f4 f5⟩
 self:=fun _ _ _ _ _ st h=>wpAny_pyIter_listiter st h
theorem turn_tuple {P:Program} {w:World} {K:W.Frag} {tg:Expr} (a it:Addr):Turn P w K tg (Itt K a) [it] it (fun i h=>h.IsTupleIter it a i) where
 mem:=by simp
 obj:=fun i h st b hb=>by
  have e:b=it:=by simpa using hb
  subst e
  obtain⟨o,e,c,d⟩:=st
  exact⟨o,e,fun v z=>by rw[d]at z;cases z⟩
 keep:=fun i h h' st k=>st.at fun o e=>k it (by simp) o e
 item:=by
  intro X hP hw hK hc i pins s σ H E I hf st hg
  subst hP hw hK
  obtain⟨xs,x,hq,hx⟩:=hg
  obtain⟨its,rv,p,hz⟩:=I.tuple hq
  obtain⟨u,hu,ru⟩:=rv.get hx
  obtain⟨f0,f1,f2,f3,f4,f5⟩:=hf it (by simp)
  refine wpAny_pyNext_tuple_item st (show s.heap.IsTuple a its.toArray from p) (x:=u) (by simpa using hu) fun h' st' sb=>?_
  have I1:Inv X pins σ H { s with heap:=h' }:=I.turned (t':=s.toks) (fun b o hb e=>(sb.2 b hb).trans e) f0 f1 f3 f4 f5
  obtain⟨o,e,c,d⟩:=id st'
  exact⟨u,rfl,go_of (s:={ s with heap:=h' }) e c d (by decide) ⟨x,H,I1,ru,⟨rfl,fun ys hy=>by rw[I.tuple_inj hy hq];exact hx⟩,st',fun b hb=>(hf b hb).1⟩⟩
 done:=by
  intro X hP hw hK hc i pins s σ H E I hf st hg
  subst hP hw hK
  obtain⟨xs,hq,hx⟩:=hg
  obtain⟨its,rv,p,hz⟩:=I.tuple hq
  obtain⟨f0,f1,f2,f3,f4,f5⟩:=hf it (by simp)
  have hl:=rv.length
  exact wpAny_pyNext_tuple_end (I.ok.hd hc) st (show s.heap.IsTuple a its.toArray from p) (by simp;omega) fun h' eb=>⟨rfl,I.turned (t':=s.toks) (fun b o hb e=>eb b o hb e) f0 f1 f3 f4 f5⟩
 self:=fun _ _ _ _ _ st h=>wpAny_pyIter_tupleiter st h
theorem turn_range {P:Program} {w:World} {K:W.Frag} {tg:Expr} (it:Addr) (lo:Int) (n:Nat):Turn P w K tg (Itr lo n) [it] it (fun i h=>IsRangeIter h it (lo+(i:Nat)*1) ((n:Int)-(i:Nat)) 1) where
 mem:=by simp
 obj:=fun i h st b hb=>by
  have e:b=it:=by simpa using hb
  subst e
  exact⟨_,st,fun v z=>by
   have z':Data.fields _=Data.cell v:=z
   cases z'⟩
 keep:=fun i h h' st k=>k it (by simp) _ st
 item:=by
  intro X hP hw hK hc i pins s σ H E I hf st hg
  subst hP hw hK
  obtain⟨f0,f1,f2,f3,f4,f5⟩:=hf it (by simp)
  have W:=Walks.range (prog:=X.prog) (w:=X.w) (I.ok.hd hc) it lo 1 n
  refine W.item i s _ _ hg st fun v h' tk hv st' kk=>?_
  obtain⟨t,rfl⟩:=hv
  have I1:Inv X pins σ H { s with heap:=h',toks:=tk }:=I.turned (fun b o hb e=>kk b o (by simpa using hb) e) f0 f1 f3 f4 f5
  refine⟨_,rfl,go_of (s:={ s with heap:=h',toks:=tk }) (n:="range_iterator") st' rfl rfl (by decide) ⟨.int (lo+i),H,I1,⟨t,?_⟩,⟨rfl,rfl⟩,st',fun b hb=>(hf b hb).1⟩⟩
  rw[Int.mul_one]
 done:=by
  intro X hP hw hK hc i pins s σ H E I hf st hg
  subst hP hw hK
  obtain⟨f0,f1,f2,f3,f4,f5⟩:=hf it (by simp)
  exact wpAny_pyNext_range_end (I.ok.hd hc) st (by have:n<=i:=hg;omega) fun h' eb=>⟨rfl,I.turned (t':=s.toks) (fun b o hb e=>eb b o hb e) f0 f1 f3 f4 f5⟩
 self:=fun _ _ _ _ _ st h=>wpAny_pyIter_rangeiter st h
section
variable {X:Cx} {tg:Expr}
theorem range_it {pins:List (Addr×Obj)} {σ:St} {H:Hp} {s:Shared} {R:It->Hp->Prop} {E:Value->Shared->Prop} {lo hi:Int} {t u v:Tok} {tk:Nat} (I:Inv X pins σ H s) (h1:-(2 ^ 62)<=lo) (h2:lo<2 ^ 62) (h3:-(2 ^ 62)<=hi) (h4:hi<2 ^ 62)
  (q:R (Itr lo (hi-lo).toNat) H):wpAny (model X.prog X.w) X.A (pyIter (.ref s.heap.objs.size)) (PIE X pins σ tg R) E { s with heap:=s.heap.push { cls:=.type "range",data:=.fields #[.int lo t,.int hi u,.int 1 v] },toks:=tk }:=by
 refine wpAny_pyIter_range (IsRange.new ..) (small_one h1 h2 h3 h4) ?_
 have I1:Inv X pins σ H { s with heap:=s.heap.push { cls:=.type "range",data:=.fields #[.int lo t,.int hi u,.int 1 v] },toks:=tk }:=I.kept fun b o e=>Heap.get?_push_of_some _ e
 refine⟨(s.heap.push { cls:=.type "range",data:=.fields #[.int lo t,.int hi u,.int 1 v] }).objs.size,[(s.heap.push { cls:=.type "range",data:=.fields #[.int lo t,.int hi u,.int 1 v] }).objs.size],_,_,H,rfl,
  I1.kept (t':=tk) fun b o e=>Heap.get?_push_of_some _ e,turn_range _ lo (hi-lo).toNat,?_,fun b hb=>?_,q⟩
 .have e1:lo+((0:Nat):Int)*1=lo:=by simp
  have e2:(((hi-lo).toNat:Nat):Int)-((0:Nat):Int)=Builtin.Range.rangeSize lo hi 1:=by rw[rangeSize_one];split<;>omega
  show IsRangeIter _ _ (lo+((0:Nat):Int)*1) ((((hi-lo).toNat:Nat):Int)-((0:Nat):Int)) 1
  rw[e1,e2]
  exact Heap.get?_push_size _ rfl
 .have e:b=(s.heap.push { cls:=.type "range",data:=.fields #[.int lo t,.int hi u,.int 1 v] }).objs.size:=by simpa using hb
  subst e
  exact I1.fpOk (Nat.le_refl _) (I1.hok.fresh (Nat.le_refl _))
noncomputable def iRng1 (ta:TA):TI:=fun σ H R=>ta σ H fun vs H1=>∃j:Int,vs=[.int j]/\-(2 ^ 62)<=j/\j<2 ^ 62/\R (Itr 0 j.toNat) H1
theorem pi_range1 {a:Expr} {ta:TA} {p pos:Pos} (hg:Gl X "range") (hm:X.mg "range"=none) (ha:PA X [a] ta) (hs:starEach [a] X.env=[(false,eval a X.env)]:=by rfl):PI X tg (.Call (.Name "range" p) [a] [] pos) (iRng1 ta):=by
 intro pins s σ H R I h
 refine Call_ (ld_blt I hg hm boot_range (PyProof.Rows.callWith_type1 (thn (ha pos pins s σ H _ I h) fun us s1 ⟨vs,H1,I1,r1,q1⟩=>?_) hs rfl))
 obtain⟨j,e,q1,q2,q⟩:=q1
 subst e
 cases r1 with
 |cons r rr=>
  cases rr
  obtain⟨t,rfl⟩:=r
  exact call_range_1 (range_it I1 (by omega) (by omega) q1 q2 (by simpa using q))
noncomputable def tFor (wi:TI) (g:TG) (tb:TS):TS:=fun D σ H=>wi σ H fun J H1=>∃W:Nat->Nat->St->Hp->Prop,(∃m,W 0 m σ H1)/\∀i m σ H,W i m σ H->
 (J.stop i H/\D.nx σ H)\/(J.go i H/\∃N:St->Hp->Prop,(∀σ' H',N σ' H'->∃m',m'<m/\W (i+1) m' σ' H')/\∀x H',J.yld i H x H'->g x σ H' fun σ2 H2=>tb { D with nx:=N,ct:=N,bk:=D.nx } σ2 H2)
noncomputable def pinsAt (fp:List Addr) (h:Heap):List (Addr×Obj):=fp.filterMap fun b=>(h.get? b).map fun o=>(b,o)
theorem mem_pinsAt {fp:List Addr} {h:Heap} {b:Addr} {o:Obj} (hb:b∈fp) (e:h.get? b=some o):(b,o)∈pinsAt fp h:=List.mem_filterMap.mpr ⟨b,hb,by rw[e];rfl⟩
theorem of_pinsAt {fp:List Addr} {h:Heap} {p:Addr×Obj} (hp:p∈pinsAt fp h):p.1∈fp/\h.get? p.1=some p.2:=by
 obtain⟨b,hb,e⟩:=List.mem_filterMap.mp hp
 cases q:h.get? b with
 |none=>rw[q]at e;cases e
 |some o=>
  rw[q]at e
  have e':(b,o)=p:=Option.some.inj e
  subst e'
  exact⟨hb,q⟩
theorem Inv.pinned {pins:List (Addr×Obj)} {σ:St} {H:Hp} {s:Shared} {fp:List Addr} (I:Inv X pins σ H s) (hf:∀b∈fp,FpOk X pins H b) (ho:∀b∈fp,∃o,s.heap.get? b=some o/\∀v,o.data≠.cell v):Inv X (pins++pinsAt fp s.heap) σ H s:=
 I.pins_of fun p hp=>(List.mem_append.mp hp).elim (fun z=>I.pin p (List.mem_append_right _ z)) fun z=>by
  obtain⟨hb,e⟩:=of_pinsAt z
  obtain⟨f0,f1,f2,_⟩:=hf p.1 hb
  obtain⟨o,e',d⟩:=ho p.1 hb
  rw[e]at e';cases e'
  exact⟨e,f0,f1,f2,d⟩
theorem Inv.unpinned {pins pl:List (Addr×Obj)} {σ:St} {H:Hp} {s:Shared} (I:Inv X (pins++pl) σ H s):Inv X pins σ H s:=I.pins_of fun p hp=>I.pin p (List.mem_append_right _ (List.mem_append_left _ hp))
theorem ps_for {iter:Expr} {body:List Stmt} {wi:TI} {g:TG} {tb:TS} {pos:Pos} (hp:PassesOwn (model X.prog X.w) X.A X.env X.xe) (hc:X.calm=true) (hi:PI X tg iter wi) (hg:PG X tg g) (hb:PSs X body tb)
  (hs:∀x,foldedSetIterable iter X.env x=pure x:=by intro _;rfl):PS X (.For tg iter body [] pos) (tFor wi g tb):=by
 intro pins s σ H D I h
 refine wpAny_For (thn (hi pins s σ H _ I h) fun v s1 h1=>thn h1 fun itv s2 h2=>?_) hs
 obtain⟨it,fp,tn,J,H2,e,I2,T,st2,f2,W,⟨m0,w0⟩,turn⟩:=h2
 subst e
 have stat:∀{H':Hp},(∀b∈fp,H' b=none)->∀b∈fp,FpOk X pins H' b:=fun hn b hb=>⟨hn b hb,(f2 b hb).2⟩
 refine codeAny_forLoop_any (fun n s'=>∃i σ' H',Inv X pins σ' H' s'/\tn i s'.heap/\(∀b∈fp,H' b=none)/\W i n σ' H') ?_ m0 ⟨0,σ,H2,I2,st2,fun b hb=>(f2 b hb).1,w0⟩
 rintro n s3 ⟨i,σ3,H3,I3,st3,fr3,w3⟩
 rcases turn i n σ3 H3 w3 with⟨stop,qn⟩|⟨go,N,hN,step⟩
 .refine wpAny_passesOwn hp (thn (T.done X rfl rfl rfl hc i pins s3 σ3 H3 X.xe I3 (stat fr3) st3 stop) fun r s4 ⟨hr,I4⟩=>?_)
  subst hr
  exact wpAny_execs_nil ⟨σ3,H3,I4,qn⟩
 .refine wpAny_passesOwn hp (thn (T.item X rfl rfl rfl hc i pins s3 σ3 H3 X.xe I3 (stat fr3) st3 go) fun r s4 ⟨u,hr,h4⟩=>?_)
  subst hr
  refine wpAny_passesOwn hp (thn h4 fun _ s5 ⟨x,H5,I5,r5,y5,st5,fr5⟩=>?_)
  have I5':=I5.pinned (stat fr5) (T.obj _ _ st5)
  refine wpAny_passesOwn hp (thn (hg _ s5 σ3 H5 x u _ I5' r5 (step x H5 y5)) fun _ s6 ⟨σ6,H6,I6,q6⟩=>?_)
  refine wpAny_passesOwn hp (thn (hb _ s6 σ6 H6 _ I6 q6) fun f s7 q7=>?_)
  have again:∀{σ7:St} {H7:Hp},Inv X (pins++pinsAt fp s5.heap) σ7 H7 s7->N σ7 H7->∃m,m<n/\∃i σ' H',Inv X pins σ' H' s7/\tn i s7.heap/\(∀b∈fp,H' b=none)/\W i m σ' H':=fun {σ7 H7} I7 n7=>by
   obtain⟨m',hm,w7⟩:=hN σ7 H7 n7
   refine⟨m',hm,i+1,σ7,H7,I7.unpinned,T.keep _ _ _ st5 fun b hb o e=>(I7.pin (b,o) (List.mem_append_right _ (List.mem_append_right _ (mem_pinsAt hb e)))).1,fun b hb=>?_,w7⟩
   obtain⟨o,e,d⟩:=T.obj _ _ st5 b hb
   exact(I7.pin (b,o) (List.mem_append_right _ (List.mem_append_right _ (mem_pinsAt hb e)))).2.1
  cases f with
  |next=>obtain⟨σ7,H7,I7,n7⟩:=q7;exact again I7 n7
  |cont=>obtain⟨σ7,H7,I7,n7⟩:=q7;exact again I7 n7
  |brk=>obtain⟨σ7,H7,I7,q7⟩:=q7;exact⟨σ7,H7,I7.unpinned,q7⟩
  |ret v=>obtain⟨x7,σ7,H7,I7,r7,q7⟩:=q7;exact⟨x7,σ7,H7,I7.unpinned,r7,q7⟩
end
theorem for_list {K:W.Frag} {a:Addr} {xs:List V} {g:TG} {tb:TS} {D:Ends} {σ:St} {H:Hp} (Pv:Nat->St->Hp->Prop) (h0:Pv 0 σ H) (hl:∀i σ H,i<=xs.length->Pv i σ H->SqL K H a xs)
  (hs:∀i x σ H,xs[i]?=some x->Pv i σ H->g x σ H fun σ2 H2=>tb { D with nx:=Pv (i+1),ct:=Pv (i+1),bk:=D.nx } σ2 H2) (hd:∀σ H,Pv xs.length σ H->D.nx σ H):
  ∃W:Nat->Nat->St->Hp->Prop,(∃m,W 0 m σ H)/\∀i m σ H,W i m σ H->
   ((Itl K a).stop i H/\D.nx σ H)\/((Itl K a).go i H/\∃N:St->Hp->Prop,(∀σ' H',N σ' H'->∃m',m'<m/\W (i+1) m' σ' H')/\∀x H',(Itl K a).yld i H x H'->g x σ H' fun σ2 H2=>tb { D with nx:=N,ct:=N,bk:=D.nx } σ2 H2):=by
 refine⟨fun i m σ H=>m=xs.length-i/\i<=xs.length/\Pv i σ H,⟨xs.length,by simp,Nat.zero_le _,h0⟩,?_⟩
 rintro i m σ H ⟨rfl,hi,p⟩
 have q:=hl i σ H hi p
 by_cases hlt:i<xs.length
 .refine .inr ⟨⟨xs,xs[i],q,by simp[hlt]⟩,Pv (i+1),fun σ' H' p'=>⟨xs.length-(i+1),by omega,rfl,hlt,p'⟩,fun x H' y=>?_⟩
  obtain⟨e,y⟩:=y
  subst e
  exact hs i x σ _ (y xs q) p
 .have e:i=xs.length:=by omega
  subst e
  exact .inl ⟨⟨xs,q,Nat.le_refl _⟩,hd σ H p⟩
theorem for_range {lo:Int} {n:Nat} {g:TG} {tb:TS} {D:Ends} {σ:St} {H:Hp} (Pv:Nat->St->Hp->Prop) (h0:Pv 0 σ H)
  (hs:∀i σ H,i<n->Pv i σ H->g (.int (lo+i)) σ H fun σ2 H2=>tb { D with nx:=Pv (i+1),ct:=Pv (i+1),bk:=D.nx } σ2 H2) (hd:∀σ H,Pv n σ H->D.nx σ H):
  ∃W:Nat->Nat->St->Hp->Prop,(∃m,W 0 m σ H)/\∀i m σ H,W i m σ H->
   ((Itr lo n).stop i H/\D.nx σ H)\/((Itr lo n).go i H/\∃N:St->Hp->Prop,(∀σ' H',N σ' H'->∃m',m'<m/\W (i+1) m' σ' H')/\∀x H',(Itr lo n).yld i H x H'->g x σ H' fun σ2 H2=>tb { D with nx:=N,ct:=N,bk:=D.nx } σ2 H2):=by
 refine⟨fun i m σ H=>m=n-i/\i<=n/\Pv i σ H,⟨n,by simp,Nat.zero_le _,h0⟩,?_⟩
 rintro i m σ H ⟨rfl,hi,p⟩
 by_cases hlt:i<n
 .refine .inr ⟨hlt,Pv (i+1),fun σ' H' p'=>⟨n-(i+1),by omega,rfl,hlt,p'⟩,fun x H' y=>?_⟩
  obtain⟨e,y⟩:=y
  subst e y
  exact hs i σ _ hlt p
 .have e:i=n:=by omega
  subst e
  exact .inl ⟨Nat.le_refl _,hd σ H p⟩
noncomputable abbrev R2:=V->V->Hp->VK->Prop
def OpR (X:Cx) (f:Value->Value->Sem Value) (r:R2):Prop:=
 ∀(pins:List (Addr×Obj)) (s:Shared) (σ:St) (H:Hp) (x y:V) (v u:Value) (Q:VK),Inv X pins σ H s->RelV x v->RelV y u->r x y H Q->
  wpAny (model X.prog X.w) X.A (f v u) (EP X pins σ Q) X.xe s
def UnR (X:Cx) (f:Value->Sem Value) (r:V->Hp->VK->Prop):Prop:=
 ∀(pins:List (Addr×Obj)) (s:Shared) (σ:St) (H:Hp) (x:V) (v:Value) (Q:VK),Inv X pins σ H s->RelV x v->r x H Q->
  wpAny (model X.prog X.w) X.A (f v) (EP X pins σ Q) X.xe s
def CallR (X:Cx) (f:Value) (r:List V->Hp->VK->Prop):Prop:=
 ∀(pins:List (Addr×Obj)) (s:Shared) (σ:St) (H:Hp) (xs:List V) (us:List Value) (Q:VK),Inv X pins σ H s->Vals xs us->r xs H Q->
  wpAny (model X.prog X.w) X.A (call f us) (EP X pins σ Q) X.xe s
def TruR (X:Cx) (r:V->Hp->(Bool->Hp->Prop)->Prop):Prop:=
 ∀(pins:List (Addr×Obj)) (s:Shared) (σ:St) (H:Hp) (x:V) (v:Value) (Q:Bool->Hp->Prop),Inv X pins σ H s->RelV x v->r x H Q->
  wpAny (model X.prog X.w) X.A (truthy v) (TP X pins σ Q) X.xe s
noncomputable def tOp (r:R2) (ta tb:TE):TE:=fun σ H Q=>ta σ H fun x H1=>tb σ H1 fun y H2=>r x y H2 Q
noncomputable def tUn (r:V->Hp->VK->Prop) (ta:TE):TE:=fun σ H Q=>ta σ H fun x H1=>r x H1 Q
noncomputable def rI (C:Int->Int->Prop) (g:Int->Int->V):R2:=fun x y H Q=>∃i j,x=.int i/\y=.int j/\C i j/\Q (g i j) H
noncomputable def rI0 (g:Int->Int->V):R2:=fun x y H Q=>∃i j,x=.int i/\y=.int j/\Q (g i j) H
noncomputable def rU (g:Int->V):V->Hp->VK->Prop:=fun x H Q=>∃i,x=.int i/\Q (g i) H
section
variable {X:Cx} {a b c:Expr} {ta tb tc:TE} {pos:Pos}
theorem binT (ha:PE X a ta) (hb:PE X b tb) {pins:List (Addr×Obj)} {s:Shared} {σ:St} {H:Hp} {R:V->V->Hp->Prop} (I:Inv X pins σ H s)
  (h:ta σ H fun x H1=>tb σ H1 fun y H2=>R x y H2) {Q:Value->Shared->Prop} {f:Value->Value->Sem Value}
  (hf:∀v u s2 x y H2,Inv X pins σ H2 s2->RelV x v->RelV y u->R x y H2->wpAny (model X.prog X.w) X.A (f v u) Q X.xe s2):
  wpAny (model X.prog X.w) X.A (eval a X.env) (fun v s₁=>wpAny (model X.prog X.w) X.A (eval b X.env) (fun u s₂=>wpAny (model X.prog X.w) X.A (f v u) Q X.xe s₂) X.xe s₁) X.xe s:=by
 refine thn (ha pins s σ H _ I h) fun v s1 ⟨x,H1,I1,r1,q1⟩=>?_
 refine thn (hb pins s1 σ H1 _ I1 q1) fun u s2 ⟨y,H2,I2,r2,q2⟩=>?_
 exact hf v u s2 x y H2 I2 r1 r2 q2
theorem pe_op {op:Operator} {r:R2} (ho:OpR X (binaryOp op) r) (ha:PE X a ta) (hb:PE X b tb):PE X (.BinOp a op b pos) (tOp r ta tb):=by
 intro pins s σ H Q I h
 exact wpAny_BinOp (binT ha hb I h fun v u s2 x y H2 I2 rx ry q=>ho pins s2 σ H2 x y v u Q I2 rx ry q)
theorem pe_un {op:UnaryOp} {r:V->Hp->VK->Prop} (ho:UnR X (unaryOp op) r) (ha:PE X a ta):PE X (.UnaryOp op a pos) (tUn r ta):=by
 intro pins s σ H Q I h
 exact UnaryOp_ (thn (ha pins s σ H _ I h) fun v s1 ⟨x,H1,I1,r1,q1⟩=>ho pins s1 σ H1 x v Q I1 r1 q1)
theorem opI {f:Value->Value->Sem Value} {C:Int->Int->Prop} {g:Int->Int->Int}
  (rule:∀(i j:Int) (t u:Tok) (s:Shared) (Q:Value->Shared->Prop) (E:Value->Shared->Prop),C i j->Q (.int (g i j) s.toks) { s with toks:=s.toks+1 }->wpAny (model X.prog X.w) X.A (f (.int i t) (.int j u)) Q E s):
  OpR X f (rI C fun i j=>.int (g i j)):=by
 intro pins s σ H x y v u Q I rx ry h
 obtain⟨i,j,rfl,rfl,hc,q⟩:=h
 obtain⟨t,rfl⟩:=rx
 obtain⟨t',rfl⟩:=ry
 exact rule i j t t' s _ _ hc ⟨.int (g i j),H,I.tok _,⟨_,rfl⟩,q⟩
theorem opI0 {f:Value->Value->Sem Value} {g:Int->Int->Int}
  (rule:∀(i j:Int) (t u:Tok) (s:Shared) (Q:Value->Shared->Prop) (E:Value->Shared->Prop),Q (.int (g i j) s.toks) { s with toks:=s.toks+1 }->wpAny (model X.prog X.w) X.A (f (.int i t) (.int j u)) Q E s):
  OpR X f (rI0 fun i j=>.int (g i j)):=by
 intro pins s σ H x y v u Q I rx ry h
 obtain⟨i,j,rfl,rfl,q⟩:=h
 obtain⟨t,rfl⟩:=rx
 obtain⟨t',rfl⟩:=ry
 exact rule i j t t' s _ _ ⟨.int (g i j),H,I.tok _,⟨_,rfl⟩,q⟩
theorem opB0 {f:Value->Value->Sem Value} {g:Int->Int->Bool}
  (rule:∀(i j:Int) (t u:Tok) (s:Shared) (Q:Value->Shared->Prop) (E:Value->Shared->Prop),Q (.bool (g i j)) s->wpAny (model X.prog X.w) X.A (f (.int i t) (.int j u)) Q E s):
  OpR X f (rI0 fun i j=>.bl (g i j)):=by
 intro pins s σ H x y v u Q I rx ry h
 obtain⟨i,j,rfl,rfl,q⟩:=h
 obtain⟨t,rfl⟩:=rx
 obtain⟨t',rfl⟩:=ry
 exact rule i j t t' s _ _ ⟨.bl (g i j),H,I,rfl,q⟩
def CDiv (i j:Int):Prop:=0<j/\j<1073741824
def CPow (i j:Int):Prop:=0<=j/\j<=1000000/\i.natAbs<2 ^ 64
def CMul (i j:Int):Prop:=(-(2 ^ 64)<i/\i<2 ^ 64)\/(-(2 ^ 64)<j/\j<2 ^ 64)
theorem CMul.ok {i j:Int} (h:CMul i j):IntMulOk i j:=by
 rcases h with⟨h1,h2⟩|⟨h1,h2⟩
 .exact .of_left (intBits_le_64 h1 h2)
 .exact .of_right (intBits_le_64 h1 h2)
theorem two_pow_nn (k:Nat):(0:Int)<=2 ^ k:=by
 rw[two_pow_cast]
 exact Int.natCast_nonneg _
theorem op_add:OpR X (binaryOp .Add) (rI0 fun i j=>.int (i+j)):=opI0 fun _ _ _ _ _ _ _ q=>add_int q
theorem op_sub:OpR X (binaryOp .Sub) (rI0 fun i j=>.int (i-j)):=opI0 fun _ _ _ _ _ _ _ q=>sub_int q
theorem op_fdiv:OpR X (binaryOp .FloorDiv) (rI CDiv fun i j=>.int (i / j)):=opI fun i j _ _ _ _ _ hc q=>by
 have h1:(0:Int)<j:=hc.1
 have h2:j<1073741824:=hc.2
 exact floordiv_int (by omega) (by rw[Int.fdiv_eq_ediv_of_nonneg i (by omega)];exact q) (.inl (PyProof.noPylong_small (by omega)))
theorem op_mod:OpR X (binaryOp .Mod) (rI (fun _ j=>0<j) fun i j=>.int (i % j)):=opI fun i j _ _ _ _ _ hc q=>by
 have h1:(0:Int)<j:=hc
 exact mod_int' (by omega) (by rw[Int.fmod_eq_emod_of_nonneg i (by omega)];exact q)
theorem op_pow:OpR X (binaryOp .Pow) (rI CPow fun i j=>.int (i ^ j.toNat)):=opI fun _ _ _ _ _ _ _ hc q=>pow_int_small hc.1 hc.2.1 hc.2.2 q
theorem op_shr:OpR X (binaryOp .RShift) (rI (fun _ j=>0<=j) fun i j=>.int (i / 2 ^ j.toNat)):=opI fun i j _ _ _ _ _ hc q=>
 rshift_int hc (by rw[Int.fdiv_eq_ediv_of_nonneg i (two_pow_nn _)];exact q)
theorem op_and:OpR X (binaryOp .BitAnd) (rI0 fun i j=>.int (Builtin.bitAnd i j)):=opI0 fun _ _ _ _ _ _ _ q=>and_int q
theorem unI {f:Value->Sem Value} {g:Int->Int}
  (rule:∀(i:Int) (t:Tok) (s:Shared) (Q:Value->Shared->Prop) (E:Value->Shared->Prop),Q (.int (g i) s.toks) { s with toks:=s.toks+1 }->wpAny (model X.prog X.w) X.A (f (.int i t)) Q E s):
  UnR X f (rU fun i=>.int (g i)):=by
 intro pins s σ H x v Q I rx h
 obtain⟨i,rfl,q⟩:=h
 obtain⟨t,rfl⟩:=rx
 exact rule i t s _ _ ⟨.int (g i),H,I.tok _,⟨_,rfl⟩,q⟩
theorem un_neg:UnR X (unaryOp .USub) (rU fun i=>.int (-i)):=unI fun _ _ _ _ _ q=>neg_int q
end
noncomputable def scal:V->V->Bool
 | .non,.non=>true | .non,.int _=>true | .int _,.non=>true | .non,.bl _=>true | .bl _,.non=>true | .non,.str _=>true | .str _,.non=>true
 | .int _,.int _=>true | .bl _,.bl _=>true | .str _,.str _=>true | .byt _,.byt _=>true
 | .int _,.str _=>true | .str _,.int _=>true | .bl _,.str _=>true | .str _,.bl _=>true
 |_,_=>false
noncomputable def rEq:R2:=fun x y H Q=>scal x y=true/\Q (.bl (decide (x=y))) H
noncomputable def rNe:R2:=fun x y H Q=>scal x y=true/\Q (.bl (!decide (x=y))) H
theorem dec_int {i j:Int}:decide (V.int i=V.int j)=(i == j):=by
 rw[Bool.eq_iff_iff]
 simp
theorem dec_bl {i j:Bool}:decide (V.bl i=V.bl j)=(i == j):=by
 rw[Bool.eq_iff_iff]
 simp
theorem dec_str {i j:Str}:decide (V.str i=V.str j)=(i == j):=by
 rw[Bool.eq_iff_iff]
 simp
theorem dec_byt {i j:Array UInt8}:decide (V.byt i=V.byt j)=(i.toList == j.toList):=by
 rw[Bool.eq_iff_iff]
 cases i
 cases j
 simp
section
variable {X:Cx} {a b c:Expr} {ta tb tc:TE} {pos:Pos}
theorem fin_bl {pins:List (Addr×Obj)} {σ:St} {H:Hp} {s:Shared} {Q:VK} {k k':Bool} (I:Inv X pins σ H s) (q:Q (.bl k) H) (e:k=k'):EP X pins σ Q (.bool k') s:=by
 subst e
 exact⟨.bl k,H,I,rfl,q⟩
theorem op_eq:OpR X (compareOp .Eq) rEq:=by
 intro pins s σ H x y v u Q I rx ry h
 obtain⟨hs,q⟩:=h
 cases x with
 |non=>
  cases rx
  cases y with
  |non=>cases ry;exact PySem.EqNone.eq_none_none (fin_bl I q (by simp))
  |bl j=>cases ry;exact PySem.EqNone.eq_none_bool (fin_bl I q (by simp))
  |int j=>obtain⟨t',rfl⟩:=ry;exact PySem.EqNone.eq_none_int (fin_bl I q (by simp))
  |str j=>obtain⟨t',rfl⟩:=ry;exact PySem.EqNone.eq_none_str (fin_bl I q (by simp))
  |_=>exact absurd (show false=true from hs) Bool.false_ne_true
 |bl i=>
  cases rx
  cases y with
  |non=>cases ry;exact PySem.EqNone.eq_bool_none (fin_bl I q (by simp))
  |bl j=>cases ry;exact eq_bool (fin_bl I q dec_bl)
  |str j=>obtain⟨t',rfl⟩:=ry;exact PySem.EqMixed.eq_bool_str (fin_bl I q (by simp))
  |_=>exact absurd (show false=true from hs) Bool.false_ne_true
 |int i=>
  obtain⟨t,rfl⟩:=rx
  cases y with
  |non=>cases ry;exact PySem.EqNone.eq_int_none (fin_bl I q (by simp))
  |int j=>obtain⟨t',rfl⟩:=ry;exact eq_int (fin_bl I q dec_int)
  |str j=>obtain⟨t',rfl⟩:=ry;exact PySem.EqMixed.eq_int_str (fin_bl I q (by simp))
  |_=>exact absurd (show false=true from hs) Bool.false_ne_true
 |str i=>
  obtain⟨t,rfl⟩:=rx
  cases y with
  |non=>cases ry;exact PySem.EqNone.eq_str_none (fin_bl I q (by simp))
  |bl j=>cases ry;exact PySem.EqMixed.eq_str_bool (fin_bl I q (by simp))
  |int j=>obtain⟨t',rfl⟩:=ry;exact PySem.EqMixed.eq_str_int (fin_bl I q (by simp))
  |str j=>obtain⟨t',rfl⟩:=ry;exact eq_str (fin_bl I q dec_str)
  |_=>exact absurd (show false=true from hs) Bool.false_ne_true
 |byt i=>
  obtain⟨t,rfl⟩:=rx
  cases y with
  |byt j=>obtain⟨t',rfl⟩:=ry;exact W.eq_bytes (fin_bl I q dec_byt)
  |_=>exact absurd (show false=true from hs) Bool.false_ne_true
 |_=>cases y<;>exact absurd (show false=true from hs) Bool.false_ne_true
theorem op_ne:OpR X (compareOp .NotEq) rNe:=by
 intro pins s σ H x y v u Q I rx ry h
 obtain⟨hs,q⟩:=h
 cases x with
 |non=>
  cases rx
  cases y with
  |non=>cases ry;exact PySem.EqNone.ne_none_none (fin_bl I q (by simp))
  |bl j=>cases ry;exact PySem.EqNone.ne_none_bool (fin_bl I q (by simp))
  |int j=>obtain⟨t',rfl⟩:=ry;exact PySem.EqNone.ne_none_int (fin_bl I q (by simp))
  |str j=>obtain⟨t',rfl⟩:=ry;exact PySem.EqNone.ne_none_str (fin_bl I q (by simp))
  |_=>exact absurd (show false=true from hs) Bool.false_ne_true
 |bl i=>
  cases rx
  cases y with
  |non=>cases ry;exact PySem.EqNone.ne_bool_none (fin_bl I q (by simp))
  |bl j=>cases ry;exact ne_bool (fin_bl I q (congrArg not dec_bl))
  |str j=>obtain⟨t',rfl⟩:=ry;exact PySem.EqMixed.ne_bool_str (fin_bl I q (by simp))
  |_=>exact absurd (show false=true from hs) Bool.false_ne_true
 |int i=>
  obtain⟨t,rfl⟩:=rx
  cases y with
  |non=>cases ry;exact PySem.EqNone.ne_int_none (fin_bl I q (by simp))
  |int j=>obtain⟨t',rfl⟩:=ry;exact ne_int (fin_bl I q (congrArg not dec_int))
  |str j=>obtain⟨t',rfl⟩:=ry;exact PySem.EqMixed.ne_int_str (fin_bl I q (by simp))
  |_=>exact absurd (show false=true from hs) Bool.false_ne_true
 |str i=>
  obtain⟨t,rfl⟩:=rx
  cases y with
  |non=>cases ry;exact PySem.EqNone.ne_str_none (fin_bl I q (by simp))
  |bl j=>cases ry;exact PySem.EqMixed.ne_str_bool (fin_bl I q (by simp))
  |int j=>obtain⟨t',rfl⟩:=ry;exact PySem.EqMixed.ne_str_int (fin_bl I q (by simp))
  |str j=>obtain⟨t',rfl⟩:=ry;exact ne_str (fin_bl I q (congrArg not dec_str))
  |_=>exact absurd (show false=true from hs) Bool.false_ne_true
 |byt i=>
  obtain⟨t,rfl⟩:=rx
  cases y with
  |byt j=>obtain⟨t',rfl⟩:=ry;exact W.ne_bytes (fin_bl I q (congrArg not dec_byt))
  |_=>exact absurd (show false=true from hs) Bool.false_ne_true
 |_=>cases y<;>exact absurd (show false=true from hs) Bool.false_ne_true
theorem op_lt:OpR X (compareOp .Lt) (rI0 fun i j=>.bl (decide (i<j))):=opB0 fun _ _ _ _ _ _ _ q=>lt_int q
theorem op_le:OpR X (compareOp .LtE) (rI0 fun i j=>.bl (decide (i<=j))):=opB0 fun _ _ _ _ _ _ _ q=>le_int q
theorem op_gt:OpR X (compareOp .Gt) (rI0 fun i j=>.bl (decide (j<i))):=opB0 fun _ _ _ _ _ _ _ q=>gt_int q
theorem op_ge:OpR X (compareOp .GtE) (rI0 fun i j=>.bl (decide (j<=i))):=opB0 fun _ _ _ _ _ _ _ q=>ge_int q
theorem op_isN:OpR X (compareOp .Is) (fun x y H Q=>y=.non/\Q (.bl (decide (x=.non))) H):=by
 intro pins s σ H x y v u Q I rx ry h
 obtain⟨rfl,q⟩:=h
 cases ry
 refine is_none_gen (fin_bl I q ?_)
 cases x<;>first
  |(cases rx;rfl)
  |(obtain⟨t,rfl⟩:=rx;rfl)
theorem op_notN:OpR X (compareOp .IsNot) (fun x y H Q=>y=.non/\Q (.bl (!decide (x=.non))) H):=by
 intro pins s σ H x y v u Q I rx ry h
 obtain⟨rfl,q⟩:=h
 cases ry
 refine isnot_none_gen (fin_bl I q ?_)
 cases x<;>first
  |(cases rx;rfl)
  |(obtain⟨t,rfl⟩:=rx;rfl)
theorem OpR.or {f:Value->Value->Sem Value} {r r':R2} (h:OpR X f r) (h':OpR X f r'):OpR X f (fun x y H Q=>r x y H Q\/r' x y H Q):=by
 intro pins s σ H x y v u Q I rx ry q
 rcases q with q|q
 .exact h pins s σ H x y v u Q I rx ry q
 .exact h' pins s σ H x y v u Q I rx ry q
theorem pe_cmpR {op:CmpOp} {r:R2} (ho:OpR X (compareOp op) r) (ha:PE X a ta) (hb:PE X b tb) (hm:behindInMarks op b=false):PE X (.Compare a [op] [b] pos) (tOp r ta tb):=by
 intro pins s σ H Q I h
 exact wpAny_Compare1 (binT ha hb I h fun v u s2 x y H2 I2 rx ry q=>ho pins s2 σ H2 x y v u Q I2 rx ry q) hm
noncomputable def tTest (t:TE):TT:=fun σ H Q=>t σ H fun x H'=>∃k,x=.bl k/\Q k H'
theorem pt_cmpR {op:CmpOp} {r:R2} (ho:OpR X (compareOp op) r) (ha:PE X a ta) (hb:PE X b tb) (hm:behindInMarks op b=false):PT X (.Compare a [op] [b] pos) (tTest (tOp r ta tb)):=by
 intro pins s σ H Q I h
 refine wpAny_isTrue_Compare1 (thn (ha pins s σ H _ I h) fun v s1 ⟨x,H1,I1,r1,q1⟩=>thn (hb pins s1 σ H1 _ I1 q1) fun u s2 ⟨y,H2,I2,r2,q2⟩=>
  thn (ho pins s2 σ H2 x y v u _ I2 r1 r2 q2) fun c s3 ⟨z,H3,I3,r3,k,e,q3⟩=>?_) hm
 subst e
 cases r3
 exact wpAny_truthy_bool ⟨H3,I3,q3⟩
def TruV (K:W.Frag) (x:V) (H:Hp) (k:Bool):Prop:=
 match x with
 | .non=>k=false
 | .bl b=>k=b
 | .int i=>k=(i != 0)
 | .str y=>y.length<=sizeLine/\k=((y.length:Int) != 0)
 | .byt y=>y.size<=sizeLine/\k=((y.size:Int) != 0)
 | .ref p=>(∃xs,SqL K H p xs/\k=!xs.isEmpty)\/(∃xs,SqT K H p xs/\k=!xs.isEmpty)\/∃kvs,H p=some (.dK kvs)/\k=!kvs.isEmpty
 |_=>False
theorem isEmpty_kv {κ:Type} {kvs:List (κ×V)} {vs:List (κ×Value)} (r:KV kvs vs):(!vs.isEmpty)=!kvs.isEmpty:=by
 cases r<;>rfl
theorem isEmpty_of {xs:List V} {its:List Value} (r:Vals xs its):(!its.toArray.isEmpty)=!xs.isEmpty:=by
 cases r<;>simp
theorem line63:(sizeLine:Nat)<2 ^ 63:=by rw[sizeLine_eq];decide
theorem tru_ok:TruR X (fun x H Q=>∃k,TruV X.K x H k/\Q k H):=by
 intro pins s σ H x v Q I rx h
 obtain⟨k,e,q⟩:=h
 have hl:=line63
 have hs:sizeLine=16777216:=sizeLine_eq
 cases x with
 |non=>
  cases rx
  have e':k=false:=e
  subst e'
  exact truthy_none ⟨H,I,q⟩
 |bl b=>
  cases rx
  have e':k=b:=e
  subst e'
  exact wpAny_truthy_bool ⟨H,I,q⟩
 |int i=>
  obtain⟨t,rfl⟩:=rx
  have e':k=(i != 0):=e
  subst e'
  exact PySem.P.truthy_int ⟨H,I,q⟩
 |str y=>
  obtain⟨t,rfl⟩:=rx
  obtain⟨hy,e'⟩:y.length<=sizeLine/\k=((y.length:Int) != 0):=e
  subst e'
  exact PySem.P.truthy_str (by omega) ⟨H,I.tok _,q⟩
 |byt y=>
  obtain⟨t,rfl⟩:=rx
  obtain⟨hy,e'⟩:y.size<=sizeLine/\k=((y.size:Int) != 0):=e
  subst e'
  exact W.truthy_bytes (by omega) ⟨H,I.tok _,q⟩
 |ref p=>
  cases rx
  have e':(∃xs,SqL X.K H p xs/\k=!xs.isEmpty)\/(∃xs,SqT X.K H p xs/\k=!xs.isEmpty)\/∃kvs,H p=some (.dK kvs)/\k=!kvs.isEmpty:=e
  rcases e' with⟨xs,hx,e'⟩|⟨xs,hx,e'⟩|⟨kvs,hx,e'⟩
  .subst e'
   obtain⟨its,r,pl,hz⟩:=I.list hx
   have hlen:=r.length
   exact wpAny_truthy_list pl.isList (by simp only[List.size_toArray];omega) ⟨H,I.tok _,by rw[isEmpty_of r];exact q⟩
  .subst e'
   obtain⟨its,r,pl,hz⟩:=I.tuple hx
   have hlen:=r.length
   exact truthy_tuple pl (by simp only[List.size_toArray];omega) ⟨H,I.tok _,by rw[isEmpty_of r];exact q⟩
  .subst e'
   obtain⟨hz,hS,vs,r,m⟩:kvs.length<=sizeLine/\(p == sysModules)=false/\∃vs,KV kvs vs/\s.heap.DictOf (mixKind X.prog X.w) p vs:=I.hok p _ hx
   have hlen:kvs.length=vs.length:=Paired.length r
   exact wpAny_truthy_dict hS m (by omega) ⟨H,I.tok _,by rw[isEmpty_kv r];exact q⟩
 |_=>exact(show False from e).elim
theorem pt_truth (ha:PE X a ta) (he:∀whole,isTrue a X.env whole=(do let v <- whole;standAt a.pos;holding [v] (truthy v))):
  PT X a (fun σ H Q=>ta σ H fun x H'=>∃k,TruV X.K x H' k/\Q k H'):=by
 intro pins s σ H Q I h
 exact isTrue_plain (thn (ha pins s σ H _ I h) fun v s1 ⟨x,H1,I1,r1,q1⟩=>tru_ok pins s1 σ H1 x v Q I1 r1 q1) (he _)
theorem op_add_str:OpR X (binaryOp .Add) (fun x y H Q=>∃i j,x=.str i/\y=.str j/\i.length+j.length<=sizeLine/\Q (.str (i++j)) H):=by
 intro pins s σ H x y v u Q I rx ry h
 obtain⟨i,j,rfl,rfl,hz,q⟩:=h
 obtain⟨t,rfl⟩:=rx
 obtain⟨t',rfl⟩:=ry
 exact add_str (fun t' tk=>⟨.str (i++j),H,I.tok _,⟨_,rfl⟩,q⟩) hz
theorem vals1 {x:V} {us:List Value} (r:Vals [x] us):∃u,us=[u]/\RelV x u:=by
 cases r with
 |cons r1 r2=>cases r2;exact⟨_,rfl,r1⟩
theorem vals2 {x y:V} {us:List Value} (r:Vals [x,y] us):∃u w',us=[u,w']/\RelV x u/\RelV y w':=by
 cases r with
 |cons r1 r2=>
  cases r2 with
  |cons r3 r4=>cases r4;exact⟨_,_,rfl,r1,r3⟩
theorem call_abs:CallR X (.builtin "abs") (fun xs H Q=>∃i,xs=[.int i]/\Q (.int (if i<0 then -i else i)) H):=by
 intro pins s σ H xs us Q I r h
 obtain⟨i,rfl,q⟩:=h
 obtain⟨u,rfl,t,rfl⟩:=vals1 r
 exact call_abs_int fun u tk=>⟨.int (if i<0 then -i else i),H,I.tok _,⟨_,rfl⟩,q⟩
theorem call_min2 (hc:X.calm=true):CallR X (.builtin "min") (fun xs H Q=>∃i j,xs=[.int i,.int j]/\Q (.int (if j<i then j else i)) H):=by
 intro pins s σ H xs us Q I r h
 obtain⟨i,j,rfl,q⟩:=h
 obtain⟨u,w',rfl,⟨t,rfl⟩,⟨t',rfl⟩⟩:=vals2 r
 refine min_two_ints (I.ok.hd hc) fun h' tk k=>⟨_,H,I.kept k,?_,q⟩
 by_cases hj:j<i
 .rw[if_pos hj,if_pos hj];exact⟨_,rfl⟩
 .rw[if_neg hj,if_neg hj];exact⟨_,rfl⟩
theorem call_int1:CallR X (.type "int") (fun xs H Q=>(∃i,xs=[.int i]/\Q (.int i) H)\/∃k,xs=[.bl k]/\Q (.int (if k then 1 else 0)) H):=by
 intro pins s σ H xs us Q I r h
 rcases h with⟨i,rfl,q⟩|⟨k,rfl,q⟩
 .obtain⟨u,rfl,t,rfl⟩:=vals1 r
  exact call_int_int ⟨.int i,H,I,⟨_,rfl⟩,q⟩
 .obtain⟨u,rfl,r1⟩:=vals1 r
  cases r1
  exact call_int_bool ⟨.int (if k then 1 else 0),H,I.tok _,⟨_,rfl⟩,q⟩
theorem call_str_int:CallR X (.type "str") (fun xs H Q=>∃i,xs=[.int i]/\i.natAbs.log2<1920/\Q (.str (toString i)) H):=by
 intro pins s σ H xs us Q I r h
 obtain⟨i,rfl,hz,q⟩:=h
 obtain⟨u,rfl,t,rfl⟩:=vals1 r
 exact PySem.P.str_of_int hz ⟨.str _,H,I.tok _,⟨_,rfl⟩,q⟩
def LenV (K:W.Frag) (x:V) (H:Hp) (n:Nat):Prop:=
 match x with
 | .str y=>y.length<=sizeLine/\n=y.length
 | .byt y=>y.size<=sizeLine/\n=y.size
 | .ref p=>(∃xs,SqL K H p xs/\n=xs.length)\/∃xs,SqT K H p xs/\n=xs.length
 |_=>False
theorem call_len:CallR X (.builtin "len") (fun xs H Q=>∃x n,xs=[x]/\LenV X.K x H n/\Q (.int n) H):=by
 intro pins s σ H xs us Q I r h
 obtain⟨x,n,rfl,e,q⟩:=h
 obtain⟨u,rfl,rx⟩:=vals1 r
 have hl:=line63
 have hs:sizeLine=16777216:=sizeLine_eq
 cases x with
 |str y=>
  obtain⟨t,rfl⟩:=rx
  obtain⟨hy,e'⟩:y.length<=sizeLine/\n=y.length:=e
  subst e'
  exact len_str (by omega) ⟨.int _,H,I.tok _,⟨_,rfl⟩,q⟩
 |byt y=>
  obtain⟨t,rfl⟩:=rx
  obtain⟨hy,e'⟩:y.size<=sizeLine/\n=y.size:=e
  subst e'
  exact W.len_bytes (by omega) ⟨.int _,H,I.tok _,⟨_,rfl⟩,q⟩
 |ref p=>
  cases rx
  have e':(∃xs,SqL X.K H p xs/\n=xs.length)\/∃xs,SqT X.K H p xs/\n=xs.length:=e
  rcases e' with⟨xs,hx,e'⟩|⟨xs,hx,e'⟩
  .subst e'
   obtain⟨its,r',pl,hz⟩:=I.list hx
   have hlen:=r'.length
   exact Calls.call_len_list pl.isList (by simp only[List.size_toArray];omega) ⟨.int xs.length,H,I.tok _,⟨_,by simp only[List.size_toArray];rw[hlen]⟩,q⟩
  .subst e'
   obtain⟨its,r',pl,hz⟩:=I.tuple hx
   have hlen:=r'.length
   exact len_tuple pl (by simp only[List.size_toArray];omega) ⟨.int xs.length,H,I.tok _,⟨_,by simp only[List.size_toArray];rw[hlen]⟩,q⟩
 |_=>exact(show False from e).elim
end
structure ObjM (h:Heap) (x dx C:Addr) (mA:Str->Option Value):Prop where
 obj:h.get? x=some (W.instObj C dx)
 ns:h.Ns1 dx mA
 ne:dx≠x
theorem lookIn_ns {h:Heap} {dx:Addr} {mA:Str->Option Value} (n:h.Ns1 dx mA):∃od,h.get? dx=some od/\∀name,W.lookIn name od=some (mA name):=by
 obtain⟨o,es,ep,ho,hd,hk,_,hm⟩:=n
 refine⟨o,ho,fun name=>?_⟩
 have e:=hm name
 unfold nsFind findBy at e
 rw[<- Array.find?_toList]at e
 unfold W.lookIn
 rw[hd]
 dsimp only
 split
 .rename_i y q
  rw[q]at e
  exact congrArg some e
 .rename_i q
  rw[q]at e
  have a:es.toList.any (·.refKey)=false:=by
   rw[List.any_eq_false]
   intro y hy
   obtain⟨z,t,hkey⟩:=hk y (Array.mem_toList_iff.mp hy)
   simp[DictEntry.refKey,hkey]
  have a':¬es.toList.any (·.refKey)=true:=by rw[a];exact Bool.false_ne_true
  rw[if_neg a']
  exact congrArg some e
theorem ObjM.look {h:Heap} {x dx C:Addr} {mA:Str->Option Value} (I:ObjM h x dx C mA):∃od,W.InstAt h x (W.instObj C dx) C (some od)/\∀name,W.lookIn name od=some (mA name):=
 let⟨od,ho,hl⟩:=lookIn_ns I.ns
 ⟨od,⟨I.obj,rfl,rfl,ho⟩,hl⟩
section
variable {prog:Program} {w:World} {A:Around} {E:Value->Shared->Prop} {s:Shared} {K:W.Frag} {x dx C f:Addr} {mA:Str->Option Value} {name:Str} {v:Value}
end
section
variable {P:Program} {w:World} {H H':Hp} {h h':Heap} {a C dx:Addr} {fs fs':List (Str×V)}
theorem ins_get (hok:HOk P w H h) (e:H a=some (.ins C dx fs)):∃mA,ObjM h a dx C mA/\(∀f,RelO (fs.lookup f) (mA f))/\PySem.Within mA (fs.map (·.1))/\fs.length<=1000/\H dx=some (.own a):=by
 obtain⟨d,z,ne,ob,mA,n,r,q⟩:=(show ObjOk P w H h a (.ins C dx fs) from hok a _ e)
 exact⟨mA,⟨ob,n,ne⟩,r,q,z,d⟩
end
structure Cls (K:W.Frag) (C:Addr):Prop where
 pg:W.plainGet K C Str.empty=true
 hd:W.hasDictIn K C=true
 po:W.plainOver K C=true
 sa:W.findIn K (.ref C) "__setattr__"=some (some (.builtin "object.__setattr__"))
theorem Cls.get {K:W.Frag} {C:Addr} (c:Cls K C) (f:Str):W.plainGet K C f=true:=c.pg
structure Con (K:W.Frag) (C:Addr) (f:Str) (v:V) (u:Value):Prop where
 at_:W.findIn K (.ref C) f=some (some u)
 rel:RelV v u
 get:W.specialIn K u "__get__"=some none
 cp:W.copiedNames.contains f=false
structure Meth (K:W.Frag) (C:Addr) (m:Str) (f:Addr):Prop where
 at_:W.findIn K (.ref C) m=some (some (.ref f))
 fn:W.isFn K (.ref f)=true
 kp:W.keepIn K (.ref f)=true
section
variable {X:Cx} {pins:List (Addr×Obj)} {σ:St} {H:Hp} {s:Shared} {a C dx:Addr} {fs:List (Str×V)} {f:Str} {v:V} {A:Around} {E:Value->Shared->Prop}
end
section
variable {X:Cx} {o e value:Expr} {f:Str} {pos pos' tpos:Pos} {ta tv:TE}
end
section
variable {X:Cx} {pins:List (Addr×Obj)} {σ:St} {H:Hp} {s:Shared} {A:Around} {E:Value->Shared->Prop} {Q:Value->Shared->Prop} {c:Value} {b:Bool}
inductive TyOf (K:W.Frag) (H:Hp):V->Value->Prop where
 |non:TyOf K H .non (.type "NoneType")
 |bl (x:Bool):TyOf K H (.bl x) (.type "bool")
 |int (i:Int):TyOf K H (.int i) (.type "int")
 |str (x:Str):TyOf K H (.str x) (.type "str")
 |flt (x:UInt64):TyOf K H (.flt x) (.type "float")
 |lst {a:Addr} {xs:List V} (e:H a=some (.lst xs)):TyOf K H (.ref a) (.type "list")
 |frz {a:Addr} {o:Obj} {xs:List V} (e:H a=some (.frz o (.lst xs))):TyOf K H (.ref a) (.type "list")
 |tup {a:Addr} {xs:List V} (e:H a=some (.tup xs)):TyOf K H (.ref a) (.type "tuple")
 |dK {a:Addr} {kvs:List (Key×V)} (e:H a=some (.dK kvs)):TyOf K H (.ref a) (.type "dict")
 |dT {a:Addr} {kvs:List (List Key×V)} (e:H a=some (.dT kvs)):TyOf K H (.ref a) (.type "dict")
 |ins {a C dx:Addr} {fs:List (Str×V)} (e:H a=some (.ins C dx fs)) (cl:Cls K C) (ha:W.findIn K (.ref C) "__class__"=some (some (.builtin "object.__class__")))
   (hn:W.specialIn K (.builtin "object.__class__") "__get__"=some (some (.builtin "getset_descriptor.__get__"))) (htk:W.takesIn K (.builtin "object.__class__")=some true)
   (hm:W.mroIn K C (.type "object")=some true):TyOf K H (.ref a) (.ref C)
theorem isinst_ok {x:V} {u t:Value} (I:Inv X pins σ H s) (rx:RelV x u) (ty:TyOf X.K H x t) (e:W.kitOne X.K t c=some b) (h:∀tk,Q (.bool b) { s with toks:=tk }):
  wpAny (model X.prog X.w) A (call (.builtin "isinstance") [u,c]) Q E s:=by
 cases ty with
 |non=>cases(show u=Value.none from rx);exact W.kia_one W.kitx_none I.kIn True.intro e (fun z=>nomatch z) h
 |bl y=>cases(show u=Value.bool y from rx);exact W.kia_one W.kitx_bool I.kIn True.intro e (fun z=>nomatch z) h
 |int i=>obtain⟨t,q⟩:=(show ∃t,u=Value.int i t from rx);cases q;exact W.kia_one W.kitx_int I.kIn True.intro e (fun z=>nomatch z) h
 |str y=>obtain⟨t,q⟩:=(show ∃t,u=Value.str y t from rx);cases q;exact W.kia_one W.kitx_str I.kIn True.intro e (fun z=>nomatch z) h
 |flt y=>obtain⟨t,q⟩:=(show ∃t,u=Value.float y t from rx);cases q;exact W.kia_one W.kitx_float I.kIn True.intro e (fun z=>nomatch z) h
 | @lst a xs ea=>
  cases(show u=Value.ref a from rx)
  obtain⟨_,_,n,_,h1⟩:=(show ObjOk X.prog X.w H s.heap a (.lst xs) from I.hok a _ ea)
  exact W.kia_one W.kitx_list I.kIn ⟨_,h1,rfl⟩ e (fun z=>nomatch z) h
 | @frz a ob xs ea=>
  cases(show u=Value.ref a from rx)
  obtain⟨_,_,_,n,_,h1⟩:=(show ObjOk X.prog X.w H s.heap a (.frz ob (.lst xs)) from I.hok a _ ea)
  exact W.kia_one W.kitx_list I.kIn ⟨_,h1,rfl⟩ e (fun z=>nomatch z) h
 | @tup a xs ea=>
  cases(show u=Value.ref a from rx)
  obtain⟨_,_,_,p⟩:=(show ObjOk X.prog X.w H s.heap a (.tup xs) from I.hok a _ ea)
  obtain⟨o,h1,h2,_⟩:=p
  exact W.kia_one W.kitx_tuple I.kIn ⟨o,h1,h2⟩ e (fun z=>nomatch z) h
 | @dK a kvs ea=>
  cases(show u=Value.ref a from rx)
  obtain⟨_,_,vs,_,p⟩:=(show ObjOk X.prog X.w H s.heap a (.dK kvs) from I.hok a _ ea)
  obtain⟨o,es,ep,h1,h2,_⟩:=p
  exact W.kia_one W.kitx_dict I.kIn ⟨o,h1,h2.1⟩ e (fun z=>nomatch z) h
 | @dT a kvs ea=>
  cases(show u=Value.ref a from rx)
  obtain⟨_,_,xs,_,o,es,ep,h1,h2,_⟩:=(show ObjOk X.prog X.w H s.heap a (.dT kvs) from I.hok a _ ea)
  exact W.kia_one W.kitx_dict I.kIn ⟨o,h1,h2.1⟩ e (fun z=>nomatch z) h
 | @ins a C dx fs ea cl ha hn htk hm=>
  cases(show u=Value.ref a from rx)
  obtain⟨mA,O,_⟩:=ins_get I.hok ea
  obtain⟨od,J,_⟩:=O.look
  exact W.kia_one (W.kitx_own (cl.get _) cl.hd ha hn htk hm) I.kIn J e (fun z=>nomatch z) h
end
structure Room (k:Nat) (A:Around):Prop where
 hd:A.handled=none
 dp:A.depth+3*k+5<recursionLimit
 un:A.units+16*k+200<cLine
 gd:A.guards=some []
theorem Room.mono {j k:Nat} {A:Around} (r:Room k A) (h:j<=k):Room j A:=⟨r.hd,by have:=r.dp;omega,by have:=r.un;omega,r.gd⟩
theorem Room.deeper {k:Nat} {A:Around} (r:Room (k+1) A) (env:Env):Room k (A.deeper env):=
 ⟨r.hd,by have:=r.dp;show A.depth+1+3*k+5<_;omega,by have:=r.un;show A.units+3+16*k+200<_;omega,r.gd⟩
theorem Room.depth {k:Nat} {A:Around} (r:Room k A):A.depth<recursionLimit:=by have:=r.dp;omega
theorem Room.units {k:Nat} {A:Around} (r:Room k A):A.units+64<cLine:=by have:=r.un;omega
noncomputable def tNil:TA:=fun _ H Q=>Q [] H
noncomputable def tCons (ta:TE) (tr:TA):TA:=fun σ H Q=>ta σ H fun x H1=>tr σ H1 fun xs H2=>Q (x :: xs) H2
section
variable {X:Cx} {e:Expr} {es:List Expr} {te:TE} {t:TA} {pos:Pos}
theorem pa_nil:PA X [] tNil:=fun _ _ _ _ H Q I h=>Calls.spliced_nil ⟨[],H,I,.nil,h⟩
theorem pa_cons (ha:PE X e te) (hr:PA X es t) (hs:starEach (e :: es) X.env=(false,eval e X.env) :: starEach es X.env:=by rfl):PA X (e :: es) (tCons te t):=by
 intro pos pins s σ H Q I h
 rw[hs]
 show wpAny _ _ (spliced ((false,eval e X.env) :: backTo pos (starEach es X.env))) _ _ s
 refine Calls.spliced_cons (thn (ha pins s σ H _ I h) fun u s1 ⟨x,H1,I1,r1,q1⟩=>?_)
 exact thn (hr pos pins s1 σ H1 _ I1 q1) fun us s2 ⟨xs,H2,I2,r2,q2⟩=>⟨x :: xs,H2,I2,.cons r1 r2,q2⟩
noncomputable def tTup (t:TA):TE:=fun σ H Q=>t σ H fun xs H1=>xs.length<=sizeLine/\∀p,H1 p=none->Q (.ref p) (upd H1 p (.tup xs))
noncomputable def tLst (t:TA):TE:=fun σ H Q=>t σ H fun xs H1=>xs.length<=sizeLine/\∀p,H1 p=none->Q (.ref p) (upd H1 p (.lst xs))
theorem pe_tup {x1} (h:PA X es t):PE X (.Tuple es x1 pos) (tTup t):=by
 intro pins s σ H Q I hq
 refine wpAny_Tuple_spliced (thn (h pos pins s σ H _ I hq) fun us s1 ⟨xs,H1,I1,r,z,q⟩=>⟨by rw[<- r.length];exact z,?_⟩)
 have hf:H1 s1.heap.objs.size=none:=I1.hok.fresh (Nat.le_refl _)
 refine⟨.ref s1.heap.objs.size,upd H1 s1.heap.objs.size (.tup xs),I1.laid (t':=s1.toks) (fun b u e=>Heap.get?_push_of_some _ e) (Nat.le_refl _) ?_,rfl,q _ hf⟩
 exact⟨z,us,r,⟨_,Heap.get?_push_size _ rfl,rfl,⟨_,rfl⟩,rfl⟩⟩
theorem pe_lst (h:PA X es t):PE X (.List es pos) (tLst t):=by
 intro pins s σ H Q I hq
 refine wpAny_List_spliced (thn (h pos pins s σ H _ I hq) fun us s1 ⟨xs,H1,I1,r,z,q⟩=>⟨by rw[<- r.length];exact z,?_⟩)
 have hf:H1 s1.heap.objs.size=none:=I1.hok.fresh (Nat.le_refl _)
 refine⟨.ref s1.heap.objs.size,upd H1 s1.heap.objs.size (.lst xs),I1.laid (t':=s1.toks) (fun b u e=>Heap.get?_push_of_some _ e) (Nat.le_refl _) ?_,rfl,q _ hf⟩
 exact⟨z,us,0,r,Heap.get?_push_size _ rfl⟩
end
noncomputable abbrev Sp:=List V->Hp->VK->XK->Prop
noncomputable abbrev CXT:=List Env->Hp->Shared->XK->Value->Shared->Prop
structure Env0 (P:Program) (w:World) (K:W.Frag) (mg:Str->Option Value) (base:Heap) (A:Around) (outer:List Env) (s:Shared) (H:Hp):Prop where
 frames:A.frames=some outer
 mod:Mod K mg base
 bs:∀b o,base.get? b=some o->s.heap.get? b=some o/\H b=none
 bsz:base.objs.size<=s.heap.objs.size
 funs:s.heap.FunFrames base outer
 frf:∀b∈frs outer,H b=none
 hok:HOk P w H s.heap
 bare:AllBare s.gens
def CE (outer:List Env) (P:Program) (w:World) (H:Hp) (s:Shared) (Q:VK) (u:Value) (s':Shared):Prop:=
 ∃v H',s'.os=s.os/\AllBare s'.gens/\Un (frs outer) [] H H' s.heap s'.heap/\HOk P w H' s'.heap/\RelV v u/\Q v H'
def CR (CX:CXT) (outer:List Env) (P:Program) (w:World) (H:Hp) (s:Shared) (Q:VK) (E:XK) (r:Result) (s':Shared):Prop:=
 match r with
 | .ok (.ret u)=>CE outer P w H s Q u s'
 | .ok _=>False
 | .error e=>CX outer H s E e s'
structure FnOk (P:Program) (w:World) (K:W.Frag) (mg:Str->Option Value) (base:Heap) (CX:CXT) (k:Nat) (f:Addr) (fd:FuncData) (ps:List Str) (sp:Sp):Prop where
 len:∀vs H Q E,sp vs H Q E->vs.length=ps.length
 run:∀(A:Around) (outer:List Env) (s:Shared) (H:Hp) (args:Args) (us:List Value) (vs:List V) (Q:VK) (E:XK),Room k A->Env0 P w K mg base A outer s H->BindsTo s fd args (ps.zip us)->Vals vs us->sp vs H Q E->
  codeAny (model P w) A (.call (.ref f) args) (CR CX outer P w H s Q E) s
theorem FnOk.mono {P:Program} {w:World} {K:W.Frag} {mg:Str->Option Value} {base:Heap} {CX:CXT} {j k:Nat} {f:Addr} {fd:FuncData} {ps:List Str} {sp:Sp} (F:FnOk P w K mg base CX j f fd ps sp) (h:j<=k):
  FnOk P w K mg base CX k f fd ps sp:=⟨F.len,fun A outer s H args us vs Q E hr=>F.run A outer s H args us vs Q E (hr.mono h)⟩
section
variable {X:Cx} {pins:List (Addr×Obj)} {σ:St} {H:Hp} {s s':Shared}
theorem Inv.env0 (I:Inv X pins σ H s):Env0 X.prog X.w X.K X.mg X.base X.A X.stack s H:=
 ⟨I.ok.frames,I.ok.mod,I.bs,Nat.le_trans I.ok.bsz I.sz,I.stack,I.stkFree,I.hok,I.bare⟩
theorem Inv.after {Q:VK} {u:Value} (I:Inv X pins σ H s) (h:CE X.stack X.prog X.w H s Q u s'):EP X pins σ Q u s':=by
 obtain⟨v,H',os,bare,un,hok,r,q⟩:=h
 obtain⟨hh,g,d,t,os'⟩:=s'
 obtain rfl:os'=s.os:=os
 exact⟨v,H',I.call (h':=hh) (g':=g) (d':=d) (t':=t) (ch:=[]) un hok bare (fun b z=>absurd z (by simp)),r,q⟩
end
noncomputable def tCall (sp:Sp) (dvs:List V) (E:XK) (t:TA):TE:=fun σ H Q=>t σ H fun vs H1=>sp (vs++dvs) H1 Q E
def Binds (K:W.Frag) (fd:FuncData) (ps:List Str) (ds:List Value):Prop:=
 ∀(s:Shared) (us:List Value),K.In s.heap->(us++ds).length=ps.length->BindsTo s fd ⟨us,[]⟩ (ps.zip (us++ds))
theorem Binds.all {K:W.Frag} {fd:FuncData} {ps:List Str} (h:∀us:List Value,us.length=ps.length->bindArgs fd ⟨us,[]⟩=pure (ps.zip us)):Binds K fd ps []:=fun s us _ hl=>by
 rw[List.append_nil]at hl ⊢
 exact .of_eq (h us hl)
section
variable {X:Cx} {CX:CXT} {k:Nat} {f C:Addr} {fd:FuncData} {ps:List Str} {sp:Sp} {dvs:List V} {ds:List Value} {E:XK} {x m:Str} {p pos apos:Pos} {e o:Expr} {es:List Expr} {ta:TE} {t:TA}
structure Mk (K:W.Frag) (C f:Addr):Prop where
 makes:W.makesIn K C=true
 init:W.findIn K (.ref C) "__init__"=some (some (.ref f))
 fn:W.isFn K (.ref f)=true
 kp:W.keepIn K (.ref C)=true
end
section
variable {X:Cx} {CX:CXT} {k:Nat} {f C:Addr} {fd:FuncData} {ps ks:List Str} {sp:Sp} {E:XK} {x m:Str} {p pos apos kpos:Pos} {e o:Expr} {es:List Expr} {kws:List Keyword} {te ta:TE} {t tk:TA} {nm:Option Str}
structure KBinds (K:W.Frag) (fd:FuncData) (ps ks:List Str) (g:List Value->List Value->List Value) (gV:List V->List V->List V):Prop where
 to:∀(s:Shared) (us ws:List Value),K.In s.heap->(g us ws).length=ps.length->BindsTo s fd ⟨us,ks.zip ws⟩ (ps.zip (g us ws))
 rel:∀{vs:List V} {us:List Value} {zs:List V} {ws:List Value},Vals vs us->Vals zs ws->Vals (gV vs zs) (g us ws)
variable {g:List Value->List Value->List Value} {gV:List V->List V->List V}
end
structure FnScope (N P:List Str) (sc:Scope):Prop where
 kind:sc.kind=.function
 co:sc.isCoroutine=false
 gen:sc.isGenerator=false
 nd:N.Nodup
 pre:N.take P.length=P
 par:∀x∈P,sc.names.lookup x=some .local\/sc.names.lookup x=some .cell
 nofree:∀y∈sc.names,y.2≠.free
theorem bindL_out {kindOf:Str->Option NameKind} {x:Str}:∀{binds:List (Str×Value)} {m:Str->Option Value},(∀v,(x,v)∉binds)->bindL kindOf binds m x=m x
 | [],_,_=>rfl
 |(n,v) :: r,m,h=>by
  unfold bindL
  rw[bindL_out fun w hw=>h w (List.mem_cons_of_mem _ hw)]
  split
  .have:x≠n:=by rintro rfl;exact h v List.mem_cons_self
   simp[this]
  .rfl
theorem bindC_out {kindOf:Str->Option NameKind} {x:Str}:∀{binds:List (Str×Value)} {m:Str->Option Value},(∀v,(x,v)∉binds)->bindC kindOf binds m x=m x
 | [],_,_=>rfl
 |(n,v) :: r,m,h=>by
  unfold bindC
  rw[bindC_out fun w hw=>h w (List.mem_cons_of_mem _ hw)]
  split
  .rfl
  .have:x≠n:=by rintro rfl;exact h v List.mem_cons_self
   simp[this]
theorem bindL_get {kindOf:Str->Option NameKind} {x:Str} {v:Value}:∀{P:List Str} {vs:List Value} {i:Nat} {m:Str->Option Value},P.Nodup->P[i]?=some x->vs[i]?=some v->kindOf x=some .local->
  bindL kindOf (P.zip vs) m x=some v
 | [],_,_,_,_,h,_,_=>by simp at h
 |_ :: _,[],_,_,_,_,h,_=>by simp at h
 |p :: P,w :: vs,0,m,nd,h1,h2,hk=>by
  simp at h1 h2;subst h1;subst h2
  show bindL kindOf ((p,w) :: P.zip vs) m p=_
  unfold bindL
  rw[bindL_out fun v hv=>(List.nodup_cons.mp nd).1 (List.of_mem_zip hv).1,if_pos hk]
  simp
 |p :: P,w :: vs,i+1,m,nd,h1,h2,hk=>by
  show bindL kindOf ((p,w) :: P.zip vs) m x=_
  unfold bindL
  exact bindL_get (i:=i) (List.nodup_cons.mp nd).2 (by simpa using h1) (by simpa using h2) hk
theorem bindC_get {kindOf:Str->Option NameKind} {x:Str} {v:Value}:∀{P:List Str} {vs:List Value} {i:Nat} {m:Str->Option Value},P.Nodup->P[i]?=some x->vs[i]?=some v->kindOf x≠some .local->
  bindC kindOf (P.zip vs) m x=some v
 | [],_,_,_,_,h,_,_=>by simp at h
 |_ :: _,[],_,_,_,_,h,_=>by simp at h
 |p :: P,w :: vs,0,m,nd,h1,h2,hk=>by
  simp at h1 h2;subst h1;subst h2
  show bindC kindOf ((p,w) :: P.zip vs) m p=_
  unfold bindC
  rw[bindC_out fun v hv=>(List.nodup_cons.mp nd).1 (List.of_mem_zip hv).1,if_neg hk]
  simp
 |p :: P,w :: vs,i+1,m,nd,h1,h2,hk=>by
  show bindC kindOf ((p,w) :: P.zip vs) m x=_
  unfold bindC
  exact bindC_get (i:=i) (List.nodup_cons.mp nd).2 (by simpa using h1) (by simpa using h2) hk
noncomputable def start (N:List Str) (vs:List V):St:=vs.map some++List.replicate (N.length-vs.length) none
noncomputable def cxOf (CX:CXT) (P:Program) (w:World) (K:W.Frag) (mg:Str->Option Value) (base:Heap) (N:List Str) (qual:Str) (scope:Scope) (f:Addr) (cd:Value) (A:Around) (outer:List Env) (s:Shared) (H:Hp) (E:XK):Cx where
 prog:=P
 w:=w
 K:=K
 mg:=mg
 base:=base
 A:=A.deeper (envOfC qual scope s.heap.objs.size f cd)
 N:=N
 s₀:=s
 H₀:=H
 env:=envOfC qual scope s.heap.objs.size f cd
 outer:=outer
 stack:=envOfC qual scope s.heap.objs.size f cd :: outer
 ex:=[]
 calm:=true
 fn:=fun _=>true
 pn:=[]
 xe:=fun e s'=>wpAny (model P w) (A.deeper (envOfC qual scope s.heap.objs.size f cd)) (leaving (envOfC qual scope s.heap.objs.size f cd) e) (fun _ s''=>CX outer H s E e s'') (fun e' s''=>CX outer H s E e' s'') s'
theorem cell_has {sc:Scope} {n:Nat} {x:Str} (h:sc.names.lookup x=some .cell):∃c,(cellsFrom n sc.names []).lookup x=some c:=by
 have q:=W.cellsFrom_some sc.names n [] (.inl h)
 exact Option.isSome_iff_exists.mp q
theorem inv_start {CX:CXT} {P:Program} {w:World} {K:W.Frag} {mg:Str->Option Value} {base:Heap} {N ps:List Str} {qual:Str} {scope:Scope} {f:Addr} {cd:Value} {A:Around} {outer:List Env} {s s1:Shared} {H:Hp} {E:XK} {us:List Value} {vs:List V}
  (S:FnScope N ps scope) (hd:A.handled=none) (e0:Env0 P w K mg base A outer s H) (hl:vs.length=ps.length) (r:Vals vs us)
  (x:InCallC s s.heap.objs.size (bindL (envOfC qual scope s.heap.objs.size f cd).kindOf (ps.zip us) fun _=>none) (cellsFrom (s.heap.objs.size+1) scope.names []) (bindC (envOfC qual scope s.heap.objs.size f cd).kindOf (ps.zip us) fun _=>none) s1):
  Inv (cxOf CX P w K mg base N qual scope f cd A outer s H E) [] (start N vs) H s1:=by
 have hpl:ps.length<=N.length:=by have:=congrArg List.length S.pre;rw[List.length_take]at this;omega
 obtain⟨h1,tk,rfl,hk⟩:=x.done
 have noA:∀b:Addr,b∉(cxOf CX P w K mg base N qual scope f cd A outer s H E).ex:=fun b z=>absurd (show b∈([]:List Addr) from z) (by simp)
 refine⟨⟨e0.mod,S.kind,rfl,rfl,Nat.le_refl _,fun y z c h1 h2=>?_,fun y hy=>?_,fun y c _ h=>?_,fun _=>hd,Around.frames_deeper e0.frames,.inr ⟨rfl,rfl⟩,fun b z=>absurd z (noA b),e0.bs,e0.bsz,fun b _ _=>noA b,fun b z=>absurd z (noA b),e0.funs,e0.frf⟩,
  rfl,e0.bare,Un.kept hk,⟨_,x.toInCall.ns,fun i y v h1 h2 h3=>?_⟩,fun y c h=>⟨_,x.cell y c h⟩,e0.hok.fresh (Nat.le_refl _),fun y c h=>?_,fun p hp=>absurd (show p∈([]:List (Addr×Obj)) from hp) (by simp),e0.hok.kept hk,?_⟩
 .exact name_of_addr x.apart (PySem.mem_of_lookup h1) (PySem.mem_of_lookup h2)
 .have hy:scope.names.lookup y=some .cell\/scope.names.lookup y=some .free:=hy
  rcases hy with hy|hy
  .exact cell_has hy
  .exact absurd rfl (S.nofree _ (PySem.mem_of_lookup hy))
 .exact Nat.le_of_lt (x.above y c (PySem.mem_of_lookup h))
 .have hi:i<vs.length:=by
   unfold start at h2
   by_cases hi:i<vs.length
   .exact hi
   .rw[List.getElem?_append_right (by simpa using hi)]at h2
    rw[List.getElem?_replicate]at h2
    split at h2<;>cases h2
  have ha:vs[i]?=some v:=by
   unfold start at h2
   rw[List.getElem?_append_left (by simpa using hi),List.getElem?_map]at h2
   cases e:vs[i]? with
   |none=>rw[e]at h2;cases h2
   |some a=>rw[e]at h2;cases h2;rfl
  obtain⟨u,hu,rv⟩:=r.get ha
  have hp:ps[i]?=some y:=by
   rw[<- S.pre,List.getElem?_take_of_lt (by omega)];exact h1
  have ndP:ps.Nodup:=by rw[<- S.pre];exact S.nd.sublist (List.take_sublist _ _)
  refine⟨u,rv,?_⟩
  rcases S.par y (List.mem_of_getElem? hp)with k|k
  .exact .inl ⟨k,bindL_get ndP hp hu k⟩
  .obtain⟨c,e⟩:=cell_has (n:=s.heap.objs.size+1) k
   refine .inr ⟨.inl k,c,e,?_⟩
   have q:=x.cell y c e
   rw[bindC_get ndP hp hu (by show scope.names.lookup y≠_;rw[k];decide)]at q
   exact q
 .exact e0.hok.fresh (Nat.le_of_lt (x.above y c (PySem.mem_of_lookup h)))
 .unfold start
  show _=N.length
  rw[List.length_append,List.length_map,List.length_replicate]
  omega
theorem fn_of {CX:CXT} {P:Program} {w:World} {K:W.Frag} {mg:Str->Option Value} {base:Heap} {k:Nat} {f:Addr} {name qual:Str} {params:Arguments} {body:List Stmt} {scope:Scope} {dV kV doc pm cdv ct oc:Value} {an od:Option Addr}
  {osl:Array (Option Value)} {N ps:List Str} {sp:Sp} (lk:K.lookup f=some ⟨oc,od,.func (W.fnOf name qual params body scope dV kV doc pm an cdv ct),osl⟩) (hcd:W.codeIn K cdv qual=true) (S:FnScope N ps scope)
  (len:∀vs H Q E,sp vs H Q E->vs.length=ps.length)
  (hbody:∀(A:Around) (outer:List Env) (s:Shared) (H:Hp) (vs:List V) (Q:VK) (E:XK),Room k (A.deeper (envOfC qual scope s.heap.objs.size f cdv))->sp vs H Q E->
   ∃t,PSs (cxOf CX P w K mg base N qual scope f cdv A outer s H E) body t/\t { nx:=fun _ H'=>Q .non H',rt:=Q } (start N vs) H):
  FnOk P w K mg base CX (k+1) f (W.fnOf name qual params body scope dV kV doc pm an cdv ct) ps sp:=by
 refine⟨len,fun A outer s H args us vs Q E hr e0 hb r hsp=>?_⟩
 have hl:=len _ _ _ _ hsp
 have KX:K.In s.heap:=e0.mod.kin.keeps fun b o e=>(e0.bs b o e).1
 have lim:s.heap.NoLimit:=e0.mod.nolimit.keeps fun b o e=>(e0.bs b o e).1
 have hkind:∀y∈ps.zip us,scope.names.lookup y.1=some .local\/(scope.names.lookup y.1=some .cell/\((cellsFrom (s.heap.objs.size+1) scope.names []).lookup y.1).isSome=true):=fun⟨n,v⟩ hy=>by
  rcases S.par n (List.of_mem_zip hy).1 with q|q
  .exact .inl q
  .exact .inr ⟨q,W.cellsFrom_some _ _ _ (.inl q)⟩
 refine codeAny_call_function hr.depth (KX _ _ lk) rfl S.co S.gen rfl (W.codeRec_of KX hcd) (hb _ _ _ _ ?_)
 refine wpAny_newFunctionEnv_cells S.kind hkind fun env he s1 x=>?_
 subst he
 refine⟨lim.keeps x.toInCall.keep,codeAny_func ?_⟩
 obtain⟨t,ht,hq⟩:=hbody A outer s H vs Q E (hr.deeper _) hsp
 have I:Inv (cxOf CX P w K mg base N qual scope f cdv A outer s H E) [] (start N vs) H s1:=inv_start S hr.hd e0 hl r x
 refine wpAny_mono (ht [] s1 (start N vs) H _ I hq) (fun fl s' hs=>?_) fun e s' hs=>hs
 have fin:∀{σ':St} {H':Hp} {v:V} {u:Value},Inv (cxOf CX P w K mg base N qual scope f cdv A outer s H E) [] σ' H' s'->RelV v u->Q v H'->CE outer P w H s Q u s':=
  fun {σ' H' v u} J rv q=>⟨v,H',J.os,J.bare,J.base,J.hok,rv,q⟩
 cases fl with
 |ret u=>
  obtain⟨v,σ',H',J,rv,q⟩:=hs
  exact fin J rv q
 |next=>
  obtain⟨σ',H',J,q⟩:=hs
  exact fin (v:=V.non) (u:=Value.none) J rfl q
 |brk=>
  obtain⟨_,_,_,q⟩:=hs
  exact False.elim q
 |cont=>
  obtain⟨_,_,_,q⟩:=hs
  exact False.elim q
section
variable {X:Cx} {x:Str} {p pos:Pos} {e:Expr} {es:List Expr} {t:TA} {id T:String} {r:List V->Hp->VK->Prop}
noncomputable def tCB (r:List V->Hp->VK->Prop) (t:TA):TE:=fun σ H Q=>t σ H fun vs H1=>r vs H1 Q
theorem pe_callB (hc:CallR X (.builtin id) r) (hg:Gl X x) (hm:X.mg x=none) (hv:bootBuiltins x=some (.builtin id)) (ha:PA X (e :: es) t) (hn:x≠"__name__":=by decide) (hdb:(x == ("__debug__":Str))=false:=by decide)
  (he:starEach (e :: es) X.env=(false,eval e X.env) :: starEach es X.env:=by rfl) (hpl:(backTo pos (starEach es X.env)).any (·.1)=false:=by rfl):PE X (.Call (.Name x p) (e :: es) [] pos) (tCB r t):=by
 intro pins s σ H Q I h
 refine wpAny_Call_Name_kw (ld_blt I hg hm hv ?_ hn hdb)
 exact PyProof.Rows.callWith_builtin1 (thn (ha pos pins s σ H _ I h) fun us s1 ⟨vs,H1,I1,r1,q1⟩=>hc pins s1 σ H1 vs us Q I1 r1 q1) he hpl
theorem pe_callTy (hc:CallR X (.type T) r) (hg:Gl X x) (hm:X.mg x=none) (hv:bootBuiltins x=some (.type T)) (ha:PA X (e :: es) t) (hn:x≠"__name__":=by decide) (hdb:(x == ("__debug__":Str))=false:=by decide)
  (he:starEach (e :: es) X.env=(false,eval e X.env) :: starEach es X.env:=by rfl) (hpl:(backTo pos (starEach es X.env)).any (·.1)=false:=by rfl):PE X (.Call (.Name x p) (e :: es) [] pos) (tCB r t):=by
 intro pins s σ H Q I h
 refine wpAny_Call_Name_kw (ld_blt I hg hm hv ?_ hn hdb)
 exact PyProof.Rows.callWith_type1 (thn (ha pos pins s σ H _ I h) fun us s1 ⟨vs,H1,I1,r1,q1⟩=>hc pins s1 σ H1 vs us Q I1 r1 q1) he hpl
end
end L2
namespace HT
open PySem PyProof.Rows
section
open PySem.SeqAt
open PySem.AutoSeq1 (wpAny_loadPart')
open PySem.MeetsSeq PySem.MeetsSeq2 PySem.MeetsSeq3
end
section
variable {prog:Program} {w:World} {A:Around} {E:Value->Shared->Prop} {s:Shared}
theorem cat_tup {t b:Addr} {vs ws:List Value} {Q:Value->Shared->Prop} (ht:IsTup s.heap t vs.toArray) (hb:IsTup s.heap b ws.toArray) (hv:vs≠[])
  (h1:ws=[]->Q (.ref t) s) (h2:ws≠[]->Q (.ref s.heap.objs.size) { s with heap:=s.heap.push { cls:=.type "tuple",data:=.seq (vs++ws).toArray } })
  (hsz:vs.length+ws.length<=sizeLine):wpAny (model prog w) A (binaryOp .Add (.ref t) (.ref b)) Q E s:=by
 obtain⟨⟨cls,dd,data,sl⟩,ho,hc,n,hd⟩:=id ht
 obtain⟨⟨cls2,dd2,data2,sl2⟩,ho2,hc2,n2,hd2⟩:=id hb
 simp only at hc hd hc2 hd2
 subst hc hd hc2 hd2
 have e:vs.toArray++ws.toArray=(vs++ws).toArray:=by simp
 by_cases hw:ws=[]
 .exact concat_meets ⟨_,ho,rfl⟩ ⟨_,ho2,rfl⟩ noFill_tuple_add seq_tuple_add PySem.F.slot_tuple_add PySem.F.entry_tuple_add (PySem.F.args_tuple_add_2 _ _)
   (tuple_addW1 t b vs.toArray ws.toArray n n2 dd dd2 sl sl2 (by simpa using hv) (by simp[hw])) ⟨ho,ho2,h1 hw⟩
 .refine concat_meets ⟨_,ho,rfl⟩ ⟨_,ho2,rfl⟩ noFill_tuple_add seq_tuple_add PySem.F.slot_tuple_add PySem.F.entry_tuple_add (PySem.F.args_tuple_add_2 _ _)
   (tuple_addW2 t b vs.toArray ws.toArray n n2 dd dd2 sl sl2 (by simpa using hv) (by simpa using hw) (by rw[List.size_toArray,List.size_toArray];exact hsz)) ⟨ho,ho2,?_⟩
  rw[e]
  exact h2 hw
noncomputable def sIx (n d:Nat):Option Int->Nat
 |none=>d
 |some v=>if v<0 then(v+(n:Int)).toNat else min v.toNat n
theorem sIx_le (n d:Nat) (hd:d<=n) (o:Option Int):sIx n d o<=n:=by
 cases o with
 |none=>exact hd
 |some v=>
  show(if v<0 then(v+(n:Int)).toNat else min v.toNat n)<=n
  by_cases hv:v<0
  .rw[if_pos hv];omega
  .rw[if_neg hv];exact Nat.min_le_right _ _
theorem clip_eq (v:Int) (n d:Nat):(if v<0 then max (v+(n:Int)) 0 else min v (n:Int))=((sIx n d (some v):Nat):Int):=by
 show(if v<0 then max (v+(n:Int)) 0 else min v (n:Int))=(((if v<0 then(v+(n:Int)).toNat else min v.toNat n):Nat):Int)
 by_cases hv:v<0
 .simp only[if_pos hv];omega
 .simp only[if_neg hv];omega
theorem adjust_gen (lo hi:Option Int) (n:Nat):Builtin.Slice.sliceAdjust lo hi 1 (n:Int)=(((sIx n 0 lo:Nat):Int),((sIx n n hi:Nat):Int)):=by
 have h1:¬((1:Int)<0):=by omega
 unfold Builtin.Slice.sliceAdjust
 simp only[h1,if_false]
 refine Prod.ext ?_ ?_
 .cases lo with
  |none=>rfl
  |some v=>exact clip_eq v n 0
 .cases hi with
  |none=>rfl
  |some v=>exact clip_eq v n n
theorem places_gen (i j:Nat):Builtin.Slice.slicePlaces (i:Int) (j:Int) 1=j-i:=by
 unfold Builtin.Slice.slicePlaces
 have h1:(1:Int) > 0:=by omega
 simp only[h1,if_true,Int.ediv_one]
 split<;>omega
theorem slicePart_ {v:Value} {o:Option Int} {Q:Option Int->Shared->Prop} (p:IsPart v o) (h:Q o s):wpAny (model prog w) A (Builtin.Slice.slicePartIndex v) Q E s:=by
 cases p with
 |none=>exact slicePart_none h
 |int i t=>exact slicePart_int h
theorem sliceApplied_gen {sl:Addr} {vl vu:Value} {lo hi:Option Int} {n:Nat} {Q:Int×Int×Nat->Shared->Prop} (hs:s.heap.IsSliceOf sl vl vu .none) (pl:IsPart vl lo) (pu:IsPart vu hi)
  (h:Q (((sIx n 0 lo:Nat):Int),1,sIx n n hi-sIx n 0 lo) s):wpAny (model prog w) A (Builtin.Slice.sliceApplied (.ref sl) (pure (n:Int))) Q E s:=by
 obtain⟨os,hos,hcs,hds⟩:=id hs
 unfold Builtin.Slice.sliceApplied Builtin.Slice.sliceFields
 refine wpAny_bind (wpAny_bind (wpAny_field hos hds (x:=vl) rfl (wpAny_bind (wpAny_field hos hds (x:=vu) rfl (wpAny_bind (wpAny_field hos hds (x:=.none) rfl (wpAny_pure ?_)))))))
 refine wpAny_bind (slicePart_none ?_)
 show wpAny _ _ (if((1:Int) == 0)=true then _ else _) _ _ s
 rw[if_neg (by decide)]
 refine wpAny_bind (slicePart_ pl (wpAny_bind (slicePart_ pu (wpAny_bind (wpAny_pure ?_)))))
 show wpAny _ _ (match Builtin.Slice.sliceAdjust lo hi 1 (n:Int)with|(lo,hi)=>pure (lo,(1:Int),Builtin.Slice.slicePlaces lo hi 1)) _ _ s
 rw[adjust_gen lo hi n]
 show wpAny _ _ (pure (((sIx n 0 lo:Nat):Int),(1:Int),Builtin.Slice.slicePlaces ((sIx n 0 lo:Nat):Int) ((sIx n n hi:Nat):Int) 1)) _ _ s
 rw[places_gen]
 exact wpAny_pure h
theorem pick_gen (xs:Array Value) (i k:Nat):((List.range k).filterMap fun(m:Nat)=>xs[((i:Int)+(m:Int)*1).toNat]?).toArray=((xs.toList.drop i).take k).toArray:=by
 have e:(fun(m:Nat)=>xs[((i:Int)+(m:Int)*1).toNat]?)=fun m=>xs[i+m]?:=by
  funext m
  have:((i:Int)+(m:Int)*1).toNat=i+m:=by omega
  rw[this]
 rw[e]
 have:=pick_run xs i k
 rw[List.filterMap_map]at this
 have e2:((fun x=>xs[x]?)∘fun x=>i+x)=fun m=>xs[i+m]?:=rfl
 rw[e2]at this
 rw[this]
theorem getItem_tuple_cut {t sl:Addr} {items:Array Value} {vl vu:Value} {lo hi:Option Int} {Q:Value->Shared->Prop} (ht:IsTup s.heap t items) (hs:s.heap.IsSliceOf sl vl vu .none) (pl:IsPart vl lo) (pu:IsPart vu hi)
  (hw:¬(sIx items.size 0 lo=0/\sIx items.size items.size hi=items.size))
  (h:Q (.ref s.heap.objs.size) { s with heap:=s.heap.push { cls:=.type "tuple",data:=.seq ((items.toList.drop (sIx items.size 0 lo)).take (sIx items.size items.size hi-sIx items.size 0 lo)).toArray } })
  (hsz:items.size<=sizeLine):wpAny (model prog w) A (getItem (.ref t) (.ref sl)) Q E s:=by
 have htake:sizeOk (.seq ((items.toList.drop (sIx items.size 0 lo)).take (sIx items.size items.size hi-sIx items.size 0 lo)).toArray):=by
  show((items.toList.drop (sIx items.size 0 lo)).take (sIx items.size items.size hi-sIx items.size 0 lo)).toArray.size<=sizeLine
  rw[List.size_toArray,List.length_take,List.length_drop,Array.length_toList]
  omega
 have hj:sIx items.size items.size hi<=items.size:=sIx_le _ _ (Nat.le_refl _) hi
 obtain⟨os,hos,hcs,hds⟩:=id hs
 have hTs:s.TypeIs (.ref sl) "slice":=⟨os,hos,hcs⟩
 unfold getItem
 try with_reducible refine wpAny_holding ?_
 first|refine wpAny_bind (wpAny_pure ?_)|skip
 refine wpAny_bind (wpAny_sequenceKey ht.typeIs (by decide) ?_)
 refine wpAny_bind (wpAny_callSpecial?_slot (name:=Str.ofString "__getitem__") ht.typeIs PyProof.Rows.slot_tuple_getitem
  (wpAny_call_entry PyProof.Rows.slot_tuple_getitem ht.typeIs entry_tuple_getitem ?_ (args_tuple_getitem _ _)))
 show wpAny _ _ (Builtin.Tuple.tupleItemsOf (.ref t) >>= _) _ _ s
 refine wpAny_bind (tupleItemsOf_ ht ?_)
 refine wpAny_bind (wpAny_typeOf hTs ?_)
 rw[if_pos (by decide)]
 refine wpAny_bind (sliceApplied_gen hs pl pu ?_)
 have hno:¬((((sIx items.size 0 lo:Nat):Int) == 0&&(1:Int) == 1&&(sIx items.size items.size hi-sIx items.size 0 lo) == items.size)=true):=by
  intro q
  rw[Bool.and_eq_true,Bool.and_eq_true]at q
  have q1:((sIx items.size 0 lo:Nat):Int)=0:=eq_of_beq q.1.1
  have q2:sIx items.size items.size hi-sIx items.size 0 lo=items.size:=eq_of_beq q.2
  exact hw ⟨by omega,by omega⟩
 show wpAny _ _ (if(((sIx items.size 0 lo:Nat):Int) == 0&&(1:Int) == 1&&(sIx items.size items.size hi-sIx items.size 0 lo) == items.size)=true then _ else _) _ _ s
 rw[if_neg hno,pick_gen]
 first
  |exact wpAny_bind (m:=Builtin.Tuple.tupleExact _) (wpAny_newObj_type (wpAny_pure ⟨_,rfl,wpAny_pure h⟩) htake)
  |exact wpAny_bind (m:=Builtin.Tuple.tupleExact _) (wpAny_newObj_type (wpAny_bind (wpAny_pure (wpAny_pure ⟨_,rfl,wpAny_pure h⟩))) htake)
  |exact wpAny_bind (wpAny_bind (m:=Builtin.Tuple.tupleExact _) (wpAny_newObj_type (wpAny_pure (wpAny_pure ⟨_,rfl,wpAny_pure h⟩)) htake))
  |exact wpAny_bind (wpAny_bind (m:=Builtin.Tuple.tupleExact _) (wpAny_newObj_type (wpAny_pure ⟨_,rfl,wpAny_pure h⟩) htake))
end
end HT
namespace L2
open PySem PySem.Spec PyProof.Rows
noncomputable abbrev TO:=St->Hp->(Option Int->Hp->Prop)->Prop
def PO (X:Cx) (e:Option Expr) (t:TO):Prop:=
 ∀(pins:List (Addr×Obj)) (s:Shared) (σ:St) (H:Hp) (Q:Option Int->Hp->Prop),Inv X pins σ H s->t σ H Q->
  wpAny (model X.prog X.w) X.A (evalPart e X.env) (fun u s'=>∃o H',Inv X pins σ H' s'/\IsPart u o/\Q o H') X.xe s
noncomputable def tNoPart:TO:=fun _ H Q=>Q none H
noncomputable def tPart (t:TE):TO:=fun σ H Q=>t σ H fun x H1=>∃i,x=.int i/\Q (some i) H1
theorem intsAre_of {ns:List Int}:∀{us:List Value},Vals (ns.map V.int) us->IntsAre us ns:=by
 induction ns with
 |nil=>intro us r;rw[List.map_nil]at r;cases r;exact .nil
 |cons n ns ih=>
  intro us r
  rw[List.map_cons]at r
  cases r with
  |cons r1 r2=>
   obtain⟨t,e⟩:=r1
   subst e
   exact .cons n t (ih r2)
section
variable {X:Cx} {e:Expr} {te:TE} {lo hi:Option Expr} {tl th:TO} {pos p2:Pos}
theorem po_none:PO X none tNoPart:=by
 intro pins s σ H Q I h
 rw[evalPart_none]
 exact wpAny_pure ⟨none,H,I,.none,h⟩
theorem po_some (h:PE X e te):PO X (some e) (tPart te):=by
 intro pins s σ H Q I hw
 rw[evalPart_some]
 refine thn (h pins s σ H _ I hw) fun u s1 ⟨x,H1,I1,r1,q1⟩=>?_
 obtain⟨i,rfl,q⟩:=q1
 obtain⟨t,rfl⟩:=r1
 exact⟨some i,H1,I1,.int i t,q⟩
def SlR (X:Cx) (r:V->Option Int->Option Int->Hp->VK->Prop):Prop:=
 ∀(pins:List (Addr×Obj)) (s:Shared) (σ:St) (H:Hp) (x:V) (v vl vu:Value) (lo hi:Option Int) (sl:Addr) (Q:VK),Inv X pins σ H s->RelV x v->s.heap.IsSliceOf sl vl vu .none->IsPart vl lo->IsPart vu hi->r x lo hi H Q->
  ∃T id,typeLookup (.type T) "__getitem__"=pure (some (.builtin id))/\s.TypeIs v T/\wpAny (model X.prog X.w) X.A (getItem v (.ref sl)) (EP X pins σ Q) X.xe s
theorem SlR.or {r r':V->Option Int->Option Int->Hp->VK->Prop} (h:SlR X r) (h':SlR X r'):SlR X (fun x lo hi H Q=>r x lo hi H Q\/r' x lo hi H Q):=by
 intro pins s σ H x v vl vu lo hi sl Q I rx hs pl pu q
 rcases q with q|q
 .exact h pins s σ H x v vl vu lo hi sl Q I rx hs pl pu q
 .exact h' pins s σ H x v vl vu lo hi sl Q I rx hs pl pu q
noncomputable def tSl (r:V->Option Int->Option Int->Hp->VK->Prop) (te:TE) (tl th:TO):TE:=fun σ H Q=>te σ H fun x H1=>tl σ H1 fun l H2=>th σ H2 fun u H3=>r x l u H3 Q
theorem pe_slice {r:V->Option Int->Option Int->Hp->VK->Prop} (hr:SlR X r) (he:PE X e te) (hl:PO X lo tl) (hu:PO X hi th):PE X (.Subscript e (.Slice lo hi none p2) pos) (tSl r te tl th):=by
 intro pins s σ H Q I h
 refine Subscript_ (thn (he pins s σ H _ I h) fun v s1 ⟨x,H1,I1,r1,q1⟩=>?_)
 refine wpAny_Slice (thn (hl pins s1 σ H1 _ I1 q1) fun vl s2 ⟨l,H2,I2,pl,q2⟩=>thn (hu pins s2 σ H2 _ I2 q2) fun vu s3 ⟨u,H3,I3,pu,q3⟩=>?_)
 rw[evalPart_none]
 refine wpAny_pure ?_
 have I4:Inv X pins σ H3 { s3 with heap:=s3.heap.push { cls:=.type "slice",data:=.fields #[vl,vu,.none] } }:=I3.kept (t':=s3.toks) fun b ob q=>Heap.get?_push_of_some _ q
 obtain⟨T,id,hT,ht,hg⟩:=hr pins { s3 with heap:=s3.heap.push { cls:=.type "slice",data:=.fields #[vl,vu,.none] } } σ H3 x v vl vu l u s3.heap.objs.size Q I4 r1 (Heap.IsSliceOf.new ..) pl pu q3
 show wpAny (model X.prog X.w) X.A (subscriptTail e (.Slice lo hi none p2) v (.ref s3.heap.objs.size)) (EP X pins σ Q) X.xe { s3 with heap:=s3.heap.push { cls:=.type "slice",data:=.fields #[vl,vu,.none] } }
 exact tail_any (ops:=[.ref s3.heap.objs.size,v]) ht hT hg (by with_unfolding_all rfl)
noncomputable def cutV (xs:List V) (lo hi:Option Int):List V:=(xs.drop (HT.sIx xs.length 0 lo)).take (HT.sIx xs.length xs.length hi-HT.sIx xs.length 0 lo)
theorem cutV_length (xs:List V) (lo hi:Option Int):(cutV xs lo hi).length<=xs.length:=by
 unfold cutV
 rw[List.length_take,List.length_drop]
 omega
noncomputable def rSlT (K:W.Frag):V->Option Int->Option Int->Hp->VK->Prop:=fun x lo hi H Q=>∃a xs,x=.ref a/\SqT K H a xs/\
 ¬(HT.sIx xs.length 0 lo=0/\HT.sIx xs.length xs.length hi=xs.length)/\∀p,H p=none->Q (.ref p) (upd H p (.tup (cutV xs lo hi)))
theorem sl_tup:SlR X (rSlT X.K):=by
 intro pins s σ H x v vl vu lo hi sl Q I rx hs pl pu h
 obtain⟨a,xs,rfl,hx,hw,q⟩:=h
 cases rx
 obtain⟨its,r,ht,hz⟩:=I.tuple hx
 have hlen:its.toArray.size=xs.length:=by rw[List.size_toArray];exact r.length.symm
 refine⟨"tuple",_,PyProof.Rows.slot_tuple_getitem.lookup,ht.typeIs,?_⟩
 refine HT.getItem_tuple_cut ht hs pl pu (by rw[hlen];exact hw) ?_ (by rw[hlen];exact hz)
 rw[hlen]
 refine⟨.ref s.heap.objs.size,_,I.laid (t':=s.toks) (o:=.tup (cutV xs lo hi)) (fun b ob q=>Heap.get?_push_of_some _ q) (Nat.le_refl _) ?_,rfl,q _ (I.hok.fresh (Nat.le_refl _))⟩
 exact⟨Nat.le_trans (cutV_length xs lo hi) hz,_,(r.drop (HT.sIx xs.length 0 lo)).take (HT.sIx xs.length xs.length hi-HT.sIx xs.length 0 lo),TupD.new _ _⟩
noncomputable def rCatT (K:W.Frag):R2:=fun x y H Q=>∃a b xs ys,x=.ref a/\y=.ref b/\SqT K H a xs/\SqT K H b ys/\xs≠[]/\xs.length+ys.length<=sizeLine/\
 (ys=[]->Q (.ref a) H)/\(ys≠[]->∀p,H p=none->Q (.ref p) (upd H p (.tup (xs++ys))))
theorem Vals.nil_iff {xs:List V} {us:List Value} (r:Vals xs us):us=[]↔xs=[]:=by
 cases r with
 |nil=>simp
 |cons _ _=>simp
theorem op_catT:OpR X (binaryOp .Add) (rCatT X.K):=by
 intro pins s σ H x y v u Q I rx ry h
 obtain⟨a,b,xs,ys,rfl,rfl,ha,hb,hx,hz,q1,q2⟩:=h
 cases rx
 cases ry
 obtain⟨its,r1,p1,_⟩:=I.tuple ha
 obtain⟨its2,r2,p2,_⟩:=I.tuple hb
 refine HT.cat_tup p1 p2 (fun z=>hx (r1.nil_iff.mp z)) (fun z=>⟨.ref a,H,I,rfl,q1 (r2.nil_iff.mp z)⟩) (fun z=>?_) (by rw[<- r1.length,<- r2.length];exact hz)
 refine⟨.ref s.heap.objs.size,_,I.laid (t':=s.toks) (o:=.tup (xs++ys)) (fun b ob q=>Heap.get?_push_of_some _ q) (Nat.le_refl _) ?_,rfl,q2 (fun w=>z (r2.nil_iff.mpr w)) _ (I.hok.fresh (Nat.le_refl _))⟩
 exact⟨by rw[List.length_append];exact hz,_,r1.append r2,TupD.new _ _⟩
end
noncomputable def ixN (n:Nat) (i:Int):Option Nat:=if 0<=i then(if i<n then some i.toNat else none)else if -(n:Int)<=i then some (i+n).toNat else none
noncomputable def atI {α:Type} (xs:List α) (i:Int):Option α:=(ixN xs.length i).bind fun j=>xs[j]?
theorem ixN_seq {n:Nat} {i:Int} {j:Nat} (h:ixN n i=some j):seqIndex? i n=some j/\j<n/\-(n:Int)<=i/\i<n:=by
 unfold ixN at h
 by_cases h0:0<=i
 .rw[if_pos h0]at h
  by_cases h1:i<n
  .rw[if_pos h1]at h
   have e:i.toNat=j:=Option.some.inj h
   exact⟨by rw[seqIndex_of h0 h1,e],by omega,by omega,h1⟩
  .rw[if_neg h1]at h;cases h
 .rw[if_neg h0]at h
  by_cases h1:-(n:Int)<=i
  .rw[if_pos h1]at h
   have e:(i+n).toNat=j:=Option.some.inj h
   exact⟨by rw[seqIndex_neg (by omega) h1,e],by omega,h1,by omega⟩
  .rw[if_neg h1]at h;cases h
theorem atI_get {α:Type} {xs:List α} {i:Int} {v:α} (h:atI xs i=some v):∃j,seqIndex? i xs.length=some j/\xs[j]?=some v/\j<xs.length/\-(xs.length:Int)<=i/\i<xs.length:=by
 unfold atI at h
 cases e:ixN xs.length i with
 |none=>rw[e]at h;cases h
 |some j=>
  rw[e]at h
  obtain⟨h1,h2,h3,h4⟩:=ixN_seq e
  exact⟨j,h1,h,h2,h3,h4⟩
theorem atI_nat {α:Type} {xs:List α} {j:Nat} {v:α} (h:xs[j]?=some v):atI xs (j:Int)=some v:=by
 have hj:j<xs.length:=(List.getElem?_eq_some_iff.mp h).1
 have e:ixN xs.length (j:Int)=some j:=by
  unfold ixN
  rw[if_pos (by omega),if_pos (by omega)];simp
 unfold atI;rw[e];exact h
def PlainIx (b:Expr):Prop:=∀o i,subscripted b false o i=operate [o,i] (getItem o i)
def IxR (X:Cx) (r:R2):Prop:=
 ∀(value slice:Expr) (pins:List (Addr×Obj)) (s:Shared) (σ:St) (H:Hp) (x y:V) (v u:Value) (Q:VK),Inv X pins σ H s->RelV x v->RelV y u->r x y H Q->
  subscripted slice false v u=operate [v,u] (getItem v u)->wpAny (model X.prog X.w) X.A (subscriptTail value slice v u) (EP X pins σ Q) X.xe s
def MtR (X:Cx) (id:String) (r:V->List V->Hp->VK->Prop):Prop:=
 ∀(pins:List (Addr×Obj)) (s:Shared) (σ:St) (H:Hp) (x:V) (xs:List V) (v:Value) (us:List Value) (Q:VK),Inv X pins σ H s->RelV x v->Vals xs us->r x xs H Q->
  wpAny (model X.prog X.w) X.A (call (.builtin id) (v :: us)) (EP X pins σ Q) X.xe s
section
variable {X:Cx} {a b:Expr} {ta tb:TE} {pos:Pos}
theorem IxR.or {r r':R2} (h:IxR X r) (h':IxR X r'):IxR X (fun x y H Q=>r x y H Q\/r' x y H Q):=by
 intro value slice pins s σ H x y v u Q I rx ry q hs
 rcases q with q|q
 .exact h value slice pins s σ H x y v u Q I rx ry q hs
 .exact h' value slice pins s σ H x y v u Q I rx ry q hs
theorem pe_ix {r:R2} (hr:IxR X r) (ha:PE X a ta) (hb:PE X b tb) (hs:PlainIx b):PE X (.Subscript a b pos) (tOp r ta tb):=by
 intro pins s σ H Q I h
 exact Subscript_ (binT ha hb I h fun v u s2 x y H2 I2 rx ry q=>hr a b pins s2 σ H2 x y v u Q I2 rx ry q (hs _ _))
noncomputable def rIxL (K:W.Frag):R2:=fun x y H Q=>∃p xs i v,x=.ref p/\y=.int i/\SqL K H p xs/\atI xs i=some v/\Q v H
noncomputable def rIxT (K:W.Frag):R2:=fun x y H Q=>∃p xs i v,x=.ref p/\y=.int i/\SqT K H p xs/\atI xs i=some v/\Q v H
noncomputable def rIxS:R2:=fun x y H Q=>∃z i c,x=.str z/\y=.int i/\z.length<=sizeLine/\atI z.cps.toList i=some c/\Q (.str ⟨#[c]⟩) H
theorem ix_list:IxR X (rIxL X.K):=by
 intro value slice pins s σ H x y v u Q I rx ry h hs
 obtain⟨p,xs,i,z,rfl,rfl,hq,he,q⟩:=h
 cases rx
 obtain⟨t,rfl⟩:=ry
 obtain⟨its,r,pl,hz⟩:=I.list hq
 obtain⟨j,h1,h2,h3,h4,h5⟩:=atI_get he
 obtain⟨w,ew,rw'⟩:=r.get h2
 have hl:=r.length
 have hn:=line63
 have fin:EP X pins σ Q w s:=⟨z,H,I,rw',q⟩
 by_cases h0:0<=i
 .have hj:i.toNat=j:=by
   rw[seqIndex_of h0 h5]at h1
   exact Option.some.inj h1
  exact item_listR pl.isList h0 (by omega) (by rw[hj];simpa using ew) fin hs
 .have hj:(i+(its.toArray.size:Int)).toNat=j:=by
   rw[seqIndex_neg (by omega) h4]at h1
   rw[List.size_toArray,<- hl]
   exact Option.some.inj h1
  exact subscriptTail_builtinR (x:=w) pl.isList.typeIs slot_list_getitem.lookup
   (wpAny_getItem_list_neg (Q:=fun r s'=>r=w/\EP X pins σ Q r s') pl.isList (by omega) (by rw[List.size_toArray]<;>omega) (by omega) (by rw[hj];simpa using ew) ⟨rfl,fin⟩) hs
theorem ix_tup:IxR X (rIxT X.K):=by
 intro value slice pins s σ H x y v u Q I rx ry h hs
 obtain⟨p,xs,i,z,rfl,rfl,hq,he,q⟩:=h
 cases rx
 obtain⟨t,rfl⟩:=ry
 obtain⟨its,r,pl,hz⟩:=I.tuple hq
 obtain⟨j,h1,h2,h3,h4,h5⟩:=atI_get he
 obtain⟨w,ew,rw'⟩:=r.get h2
 have hl:=r.length
 have hn:=line63
 have fin:EP X pins σ Q w s:=⟨z,H,I,rw',q⟩
 exact subscriptTail_builtinR (x:=w) pl.typeIs slot_tuple_getitem.lookup
  (getItem_tuple (j:=j) (Q:=fun r s'=>r=w/\EP X pins σ Q r s') pl (by omega) (by omega) (by rw[List.size_toArray,<- hl];exact h1) (by simpa using ew) ⟨rfl,fin⟩) hs
theorem ix_str:IxR X rIxS:=by
 intro value slice pins s σ H x y v u Q I rx ry h hs
 obtain⟨z,i,c,rfl,rfl,hz,he,q⟩:=h
 obtain⟨t,rfl⟩:=rx
 obtain⟨t',rfl⟩:=ry
 obtain⟨j,h1,h2,h3,h4,h5⟩:=atI_get he
 have hl:z.cps.toList.length=z.length:=by simp[Str.length]
 rw[hl]at h1 h4 h5
 have hn:=line63
 exact tail_any (typeIs_str s z t) slot_str_getitem.lookup (getItem_str (c:=c) (by
  have e1:decide (i < -(2 ^ 63:Int))=false:=decide_eq_false (by omega)
  have e2:decide (i ≥ 2 ^ 63)=false:=decide_eq_false (by omega)
  rw[e1,e2,Bool.or_false]) (by rw[h1];simpa using h2) ⟨.str ⟨#[c]⟩,H,I.tok _,⟨_,rfl⟩,q⟩) hs
noncomputable def rIx (K:W.Frag):R2:=fun x y H Q=>rIxL K x y H Q\/rIxT K x y H Q\/rIxS x y H Q
theorem ix_seq:IxR X (rIx X.K):=ix_list.or (ix_tup.or ix_str)
theorem mapSeq_set (its:List Value) (n j:Nat) (u:Value):Obj.mapSeq (·.setIfInBounds j u) { cls:=.type "list",data:=.seq its.toArray n }={ cls:=.type "list",data:=.seq (its.set j u).toArray n }:=by
 simp[Obj.mapSeq]
theorem Inv.lst {pins:List (Addr×Obj)} {σ:St} {H:Hp} {s:Shared} {p:Addr} {xs:List V} (I:Inv X pins σ H s) (h:H p=some (.lst xs)):
  ∃(its:List Value) (n:Nat),Vals xs its/\s.heap.get? p=some { cls:=.type "list",data:=.seq its.toArray n }/\xs.length<=sizeLine:=by
 obtain⟨z,its,n,r,e⟩:=I.hok p _ h
 exact⟨its,n,r,e,z⟩
theorem Inv.lstUpd {pins:List (Addr×Obj)} {σ:St} {H:Hp} {s:Shared} {p:Addr} {xs ys:List V} {its its':List Value} {n n':Nat} {f:Obj->Obj} (I:Inv X pins σ H s) (h:H p=some (.lst xs))
  (ho:s.heap.get? p=some { cls:=.type "list",data:=.seq its.toArray n }) (hf:f { cls:=.type "list",data:=.seq its.toArray n }={ cls:=.type "list",data:=.seq its'.toArray n' }) (r:Vals ys its') (hz:ys.length<=sizeLine) (t:Nat):
  Inv X pins σ (upd H p (.lst ys)) { s with heap:=s.heap.update p f,toks:=t }:=by
 have e:(s.heap.update p f).get? p=some { cls:=.type "list",data:=.seq its'.toArray n' }:=by
  rw[Heap.get?_update_self f ho (by rw[hf]<;>rfl),hf]
 refine I.write (x:=p) (e:=p) (by rw[h];trivial) (.inl rfl) (fun b u hb q=>(Heap.get?_update_other _ _ (Ne.symm hb)).trans q) ⟨_,e⟩ ?_
 exact⟨hz,its',n',r,e⟩
noncomputable def rSetL:V->V->V->Hp->(Hp->Prop)->Prop:=fun o i v H Q=>∃p xs k j,o=.ref p/\i=.int k/\H p=some (.lst xs)/\ixN xs.length k=some j/\Q (upd H p (.lst (xs.set j v)))
theorem set_list:PSet X rSetL:=by
 intro pins s σ H o i v ov iv u Q I ro ri rv h
 obtain⟨p,xs,k,j,rfl,rfl,hp,hj,q⟩:=h
 cases ro
 obtain⟨t,rfl⟩:=ri
 obtain⟨its,n,r,ho,hz⟩:=I.lst hp
 obtain⟨h1,h2,h3,h4⟩:=ixN_seq hj
 have hl:=r.length
 have hn:=line63
 have I':Inv X pins σ (upd H p (.lst (xs.set j v))) { s with heap:=s.heap.update p (Obj.mapSeq (·.setIfInBounds j u)) }:=
  I.lstUpd hp ho (mapSeq_set its n j u) (r.set rv j) (by rw[List.length_set];exact hz) s.toks
 by_cases h0:0<=k
 .have hk:k.toNat=j:=by
   rw[seqIndex_of h0 h4]at h1
   exact Option.some.inj h1
  exact W.ki_setAt ho h0 (by omega) (by rw[List.size_toArray,<- hl];exact h4) (by rw[hk];exact⟨_,I',q⟩)
 .have hk:(k+(its.toArray.size:Int)).toNat=j:=by
   rw[seqIndex_neg (by omega) h3]at h1
   rw[List.size_toArray,<- hl]
   exact Option.some.inj h1
  exact W.ki_setBack ho (by omega) (by rw[List.size_toArray,<- hl];exact h3) (by omega) (by rw[hk];exact⟨_,I',q⟩)
theorem slice_bounds (lo hi:Option Int) (n:Nat):(sliceBounds lo hi none n).1=((HT.sIx n 0 lo:Nat):Int)/\(sliceBounds lo hi none n).2.1=((HT.sIx n n hi:Nat):Int)/\(sliceBounds lo hi none n).2.2=1:=by
 refine⟨?_,?_,rfl⟩
 .cases lo with
  |none=>simp[sliceBounds,HT.sIx]
  |some i=>
   simp only[sliceBounds,HT.sIx,Option.getD_none,show(1:Int) > 0 by decide,if_true]
   by_cases h:i<0
   .simp only[h,if_true]<;>omega
   .simp only[h,if_false]<;>omega
 .cases hi with
  |none=>simp[sliceBounds,HT.sIx]
  |some i=>
   simp only[sliceBounds,HT.sIx,Option.getD_none,show(1:Int) > 0 by decide,if_true]
   by_cases h:i<0
   .simp only[h,if_true]<;>omega
   .simp only[h,if_false]<;>omega
theorem slicePick_cut (its:List Value) (lo hi:Option Int):slicePick its.toArray lo hi none=((its.drop (HT.sIx its.length 0 lo)).take (HT.sIx its.length its.length hi-HT.sIx its.length 0 lo)).toArray:=by
 obtain⟨h1,h2,h3⟩:=slice_bounds lo hi its.toArray.size
 unfold slicePick
 rw[h1,h2,h3]
 simp only[sliceRange_one,pick_run,List.size_toArray]<;>rfl
noncomputable def rSlL (K:W.Frag):V->Option Int->Option Int->Hp->VK->Prop:=fun x lo hi H Q=>∃a xs,x=.ref a/\SqL K H a xs/\∀p,H p=none->Q (.ref p) (upd H p (.lst (cutV xs lo hi)))
theorem sl_list:SlR X (rSlL X.K):=by
 intro pins s σ H x v vl vu lo hi sl Q I rx hs pl pu h
 obtain⟨a,xs,rfl,hx,q⟩:=h
 cases rx
 obtain⟨its,r,ht,hz⟩:=I.list hx
 have hlen:=r.length
 refine⟨"list",_,slot_list_getitem.lookup,ht.isList.typeIs,?_⟩
 refine wpAny_getItem_list_slice ht.isList hs pl pu .none (by simp) ?_ (by rw[List.size_toArray]<;>omega)
 rw[slicePick_cut,<- hlen]
 refine⟨.ref s.heap.objs.size,_,I.laid (t':=s.toks) (o:=.lst (cutV xs lo hi)) (fun b ob q=>Heap.get?_push_of_some _ q) (Nat.le_refl _) ?_,rfl,q _ (I.hok.fresh (Nat.le_refl _))⟩
 exact⟨Nat.le_trans (cutV_length xs lo hi) hz,_,0,(r.drop (HT.sIx xs.length 0 lo)).take (HT.sIx xs.length xs.length hi-HT.sIx xs.length 0 lo),Heap.get?_push_size _ rfl⟩
noncomputable def flatV:V->Bool
 | .non=>true
 | .bl _=>true
 | .int _=>true
 | .str _=>true
 |_=>false
noncomputable def eqV:V->V->Bool
 | .non,.non=>true
 | .bl a,.bl b=>a == b
 | .bl a,.int b=>(if a then 1 else 0) == b
 | .int a,.bl b=>a == (if b then 1 else 0)
 | .int a,.int b=>a == b
 | .str a,.str b=>a == b
 |_,_=>false
theorem eqAt_V {A:Around} {s:Shared} {y x:V} {u v:Value} (ry:RelV y u) (rx:RelV x v) (fy:flatV y=true) (fx:flatV x=true):SeqAt.EqAt A s u v (eqV y x):=by
 cases y with
 |non=>
  cases ry
  cases x with
  |non=>cases rx;exact SeqAt.EqAt.same _
  |bl b=>cases rx;exact SeqAt.EqAt.none_bool b
  |int b=>obtain⟨t,rfl⟩:=rx;exact SeqAt.EqAt.none_int b t
  |str b=>obtain⟨t,rfl⟩:=rx;exact SeqAt.EqAt.none_str b t
  |_=>exact absurd (show false=true from fx) Bool.false_ne_true
 |bl a=>
  cases ry
  cases x with
  |non=>cases rx;exact SeqAt.EqAt.bool_none a
  |bl b=>cases rx;exact SeqAt.EqAt.bool_bool a b
  |int b=>obtain⟨t,rfl⟩:=rx;exact SeqAt.EqAt.bool_int a b t
  |str b=>obtain⟨t,rfl⟩:=rx;exact SeqAt.EqAt.bool_str a b t
  |_=>exact absurd (show false=true from fx) Bool.false_ne_true
 |int a=>
  obtain⟨t',rfl⟩:=ry
  cases x with
  |non=>cases rx;exact SeqAt.EqAt.int_none a t'
  |bl b=>cases rx;exact SeqAt.EqAt.int_bool a t' b
  |int b=>obtain⟨t,rfl⟩:=rx;exact SeqAt.EqAt.int_int a t' b t
  |str b=>obtain⟨t,rfl⟩:=rx;exact SeqAt.EqAt.int_str a t' b t
  |_=>exact absurd (show false=true from fx) Bool.false_ne_true
 |str a=>
  obtain⟨t',rfl⟩:=ry
  cases x with
  |non=>cases rx;exact SeqAt.EqAt.str_none a t'
  |bl b=>cases rx;exact SeqAt.EqAt.str_bool a t' b
  |int b=>obtain⟨t,rfl⟩:=rx;exact SeqAt.EqAt.str_int a t' b t
  |str b=>obtain⟨t,rfl⟩:=rx;exact SeqAt.EqAt.str_str a t' b t
  |_=>exact absurd (show false=true from fx) Bool.false_ne_true
 |_=>exact absurd (show false=true from fy) Bool.false_ne_true
noncomputable def eqU (x:V) (u:Value):Bool:=match u with
 | .none=>eqV .non x
 | .bool b=>eqV (.bl b) x
 | .int i _=>eqV (.int i) x
 | .str z _=>eqV (.str z) x
 |_=>false
theorem eqU_of {x y:V} {u:Value} (r:RelV y u) (f:flatV y=true):eqU x u=eqV y x:=by
 cases y with
 |non=>cases r;rfl
 |bl b=>cases r;rfl
 |int i=>obtain⟨t,rfl⟩:=r;rfl
 |str z=>obtain⟨t,rfl⟩:=r;rfl
 |_=>exact absurd (show false=true from f) Bool.false_ne_true
theorem any_eqU {x:V}:∀{xs:List V} {us:List Value},Vals xs us->xs.all flatV=true->us.any (eqU x)=xs.any fun y=>eqV y x
 |_,_,.nil,_=>rfl
 |y :: xs,u :: us,.cons r t,f=>by
  rw[List.all_cons,Bool.and_eq_true]at f
  rw[List.any_cons,List.any_cons,eqU_of r f.1,any_eqU t f.2]
theorem mem_eqAt {A:Around} {s:Shared} {x:V} {v:Value} (rx:RelV x v) (fx:flatV x=true):∀{xs:List V} {us:List Value},Vals xs us->xs.all flatV=true->∀u∈us,SeqAt.EqAt A s u v (eqU x u)
 |_,_,.nil,_=>fun u hu=>by cases hu
 |y :: xs,u :: us,.cons r t,f=>fun u' hu=>by
  rw[List.all_cons,Bool.and_eq_true]at f
  rcases List.mem_cons.mp hu with rfl|hu
  .rw[eqU_of r f.1];exact eqAt_V r rx f.1 fx
  .exact mem_eqAt rx fx t f.2 u' hu
noncomputable def inV (x:V) (xs:List V):Bool:=xs.any fun y=>eqV y x
noncomputable def rIn (K:W.Frag) (neg:Bool):R2:=fun x y H Q=>∃p xs,y=.ref p/\(SqL K H p xs\/SqT K H p xs)/\flatV x=true/\xs.all flatV=true/\Q (.bl (if neg then !inV x xs else inV x xs)) H
theorem op_in_seq:OpR X (compareOp .In) (rIn X.K false):=by
 intro pins s σ H x y v u Q I rx ry h
 obtain⟨p,xs,rfl,hq,fx,fs,q⟩:=h
 cases ry
 rcases hq with hq|hq
 .obtain⟨its,r,pl,hz⟩:=I.list hq
  refine SeqAt.in_listAt (eqU x) pl.isList (fun w hw=>mem_eqAt rx fx r fs w (by simpa using hw)) ⟨.bl _,H,I,rfl,?_⟩
  rw[show its.toArray.any (eqU x)=its.any (eqU x) by simp,any_eqU r fs]
  exact q
 .obtain⟨its,r,pl,hz⟩:=I.tuple hq
  refine SeqAt.in_tupleAt (eqU x) pl (fun w hw=>mem_eqAt rx fx r fs w (by simpa using hw)) ⟨.bl _,H,I,rfl,?_⟩
  rw[show its.toArray.any (eqU x)=its.any (eqU x) by simp,any_eqU r fs]
  exact q
theorem op_notIn_seq:OpR X (compareOp .NotIn) (rIn X.K true):=by
 intro pins s σ H x y v u Q I rx ry h
 obtain⟨p,xs,rfl,hq,fx,fs,q⟩:=h
 cases ry
 rcases hq with hq|hq
 .obtain⟨its,r,pl,hz⟩:=I.list hq
  refine SeqAt.notIn_listAt (eqU x) pl.isList (fun w hw=>mem_eqAt rx fx r fs w (by simpa using hw)) ⟨.bl _,H,I,rfl,?_⟩
  rw[show its.toArray.any (eqU x)=its.any (eqU x) by simp,any_eqU r fs]
  exact q
 .obtain⟨its,r,pl,hz⟩:=I.tuple hq
  refine SeqAt.notIn_tupleAt (eqU x) pl (fun w hw=>mem_eqAt rx fx r fs w (by simpa using hw)) ⟨.bl _,H,I,rfl,?_⟩
  rw[show its.toArray.any (eqU x)=its.any (eqU x) by simp,any_eqU r fs]
  exact q
theorem CallR.or {f:Value} {r r':List V->Hp->VK->Prop} (h:CallR X f r) (h':CallR X f r'):CallR X f (fun xs H Q=>r xs H Q\/r' xs H Q):=by
 intro pins s σ H xs us Q I rs q
 rcases q with q|q
 .exact h pins s σ H xs us Q I rs q
 .exact h' pins s σ H xs us Q I rs q
theorem call_list_of:CallR X (.type "list") (fun xs H Q=>∃p ys,xs=[.ref p]/\(SqL X.K H p ys\/SqT X.K H p ys)/\∀l,H l=none->Q (.ref l) (upd H l (.lst ys))):=by
 intro pins s σ H xs us Q I r h
 obtain⟨p,ys,rfl,hq,q⟩:=h
 obtain⟨u,rfl,rx⟩:=vals1 r
 cases rx
 have fin:∀(its:List Value),Vals ys its->ys.length<=sizeLine->∀(h':Heap) (c':Nat),(∀b o',s.heap.get? b=some o'->h'.get? b=some o')->
   h'.get? s.heap.objs.size=some { cls:=.type "list",dict:=none,data:=.seq its.toArray c',slots:=#[] }->EP X pins σ Q (.ref s.heap.objs.size) { s with heap:=h' }:=fun its r' hz h' c' kp e=>
  ⟨.ref s.heap.objs.size,_,I.laid (t':=s.toks) kp (Nat.le_refl _) (show ObjOk X.prog X.w _ h' _ (.lst ys) from⟨hz,its,c',r',e⟩),rfl,q _ (I.hok.fresh (Nat.le_refl _))⟩
 rcases hq with hq|hq
 .obtain⟨its,r',pl,hz⟩:=I.list hq
  have hlen:=r'.length
  obtain⟨o,ho,hc,n,hd⟩:=pl.isList
  exact call_list_seq p (.inl rfl) ho hc hd (fun h' c' kp e=>fin its r' hz h' c' kp e) (by simp only[List.size_toArray]<;>omega)
 .obtain⟨its,r',pl,hz⟩:=I.tuple hq
  have hlen:=r'.length
  obtain⟨o,ho,hc,n,hd⟩:=pl
  exact call_list_seq p (.inr rfl) ho hc hd (fun h' c' kp e=>fin its r' hz h' c' kp e) (by simp only[List.size_toArray]<;>omega)
theorem call_tuple_of:CallR X (.type "tuple") (fun xs H Q=>∃p ys,xs=[.ref p]/\((SqL X.K H p ys/\∀l,H l=none->Q (.ref l) (upd H l (.tup ys)))\/(SqT X.K H p ys/\Q (.ref p) H))):=by
 intro pins s σ H xs us Q I r h
 obtain⟨p,ys,rfl,h⟩:=h
 obtain⟨u,rfl,rx⟩:=vals1 r
 cases rx
 rcases h with⟨hq,q⟩|⟨hq,q⟩
 .obtain⟨its,r',pl,hz⟩:=I.list hq
  have hlen:=r'.length
  refine call_tuple_list pl.isList (fun h' kp=>?_) (by simp only[List.size_toArray]<;>omega)
  have I1:Inv X pins σ H { s with heap:=h' }:=I.kept (t':=s.toks) kp
  have I2:Inv X pins σ (upd H h'.objs.size (.tup ys)) { s with heap:=h'.push { cls:=.type "tuple",data:=.seq its.toArray } }:=
   I1.laid (t':=s.toks) (fun b o e=>Heap.get?_push_of_some _ e) (Nat.le_refl _) (show ObjOk X.prog X.w _ _ _ (.tup ys) from⟨hz,its,r',TupD.new _ _⟩)
  exact⟨.ref h'.objs.size,_,I2,rfl,q _ (I1.hok.fresh (Nat.le_refl _))⟩
 .obtain⟨its,r',pl,hz⟩:=I.tuple hq
  exact call_tuple_same pl ⟨.ref p,H,I,rfl,q⟩
def tyV (K:W.Frag) (T:String) (x:V) (H:Hp):Prop:=match x with
 | .str _=>T="str"
 | .int _=>T="int"
 | .ref p=>(T="list"/\∃xs,SqL K H p xs)\/(T="tuple"/\((∃o,K.lookup p=some o/\o.cls=.type "tuple"/\o.dict=none)\/∃xs,H p=some (.tup xs)))\/
   (T="dict"/\((∃kvs,H p=some (.dK kvs))\/∃kvs,H p=some (.dT kvs)))\/(T="set"/\∃S n,H p=some (.set S n))
 |_=>False
theorem tyV_is {pins:List (Addr×Obj)} {σ:St} {H:Hp} {s:Shared} {T:String} {x:V} {v:Value} (I:Inv X pins σ H s) (r:RelV x v) (ty:tyV X.K T x H):
  s.TypeIs v T/\∀a,v=.ref a->∃ob,s.heap.get? a=some ob/\ob.dict=none:=by
 cases x with
 |str z=>
  obtain⟨t,rfl⟩:=r
  cases(show T="str" from ty)
  exact⟨typeIs_str s z t,fun _ e=>nomatch e⟩
 |int i=>
  obtain⟨t,rfl⟩:=r
  cases(show T="int" from ty)
  exact⟨typeIs_int s i t,fun _ e=>nomatch e⟩
 |ref p=>
  cases r
  rcases ty with⟨rfl,xs,hq⟩|⟨rfl,⟨o,hk,hc,hd⟩|⟨xs,hk⟩⟩|⟨rfl,hk⟩|⟨rfl,S,n,hk⟩
  .obtain⟨its,_,pl,_⟩:=I.list hq
   refine⟨pl.isList.typeIs,fun a e=>?_⟩
   cases e
   obtain⟨o,n,e,c,hd,_⟩:=pl
   exact⟨o,e,hd⟩
  .refine⟨⟨o,I.kIn p o hk,hc⟩,fun a e=>?_⟩
   cases e
   exact⟨o,I.kIn _ o hk,hd⟩
  .obtain⟨_,_,_,o,e,c,_,hd⟩:=I.hok p _ hk
   refine⟨⟨o,e,c⟩,fun a e2=>?_⟩
   cases e2
   exact⟨o,e,hd⟩
  .have z:∃o,s.heap.get? p=some o/\o.ExactDict:=by
    rcases hk with⟨kvs,hk⟩|⟨kvs,hk⟩
    .obtain⟨_,_,_,_,o,_,_,e,ex,_⟩:=I.hok p _ hk
     exact⟨o,e,ex⟩
    .obtain⟨_,_,_,_,o,_,_,e,ex,_⟩:=I.hok p _ hk
     exact⟨o,e,ex⟩
   obtain⟨o,e,ex⟩:=z
   refine⟨⟨o,e,ex.1⟩,fun a e2=>?_⟩
   cases e2
   exact⟨o,e,ex.2.1⟩
  .obtain⟨o,_,_,_,e,ex,_⟩:=I.hok p _ hk
   refine⟨⟨o,e,ex.1⟩,fun a e2=>?_⟩
   cases e2
   exact⟨o,e,ex.2.1⟩
 |_=>exact False.elim ty
noncomputable def tBM0 (K:W.Frag) (T:String) (r:V->List V->Hp->VK->Prop) (to:TE):TE:=fun σ H Q=>to σ H fun x H1=>tyV K T x H1/\r x [] H1 Q
noncomputable def tBM (K:W.Frag) (T:String) (r:V->List V->Hp->VK->Prop) (to:TE) (t:TA):TE:=fun σ H Q=>to σ H fun x H1=>tyV K T x H1/\t σ H1 fun xs H2=>r x xs H2 Q
variable {o e:Expr} {es:List Expr} {to:TE} {t:TA} {name:Str} {apos cpos:Pos} {T id:String} {r:V->List V->Hp->VK->Prop}
theorem pe_bm0 (pa:PlainAttrs T) (slot:Slot T name id) (hty:typeOf (.builtin id)=pure (.type "method_descriptor")) (hm:MtR X id r) (ho:PE X o to)
  (hbase:attributeBase o name X.env (eval o X.env)=eval o X.env:=by rfl) (hline:(apos.endLine == cpos.line)=true:=by rfl):PE X (.Call (.Attribute o name apos) [] [] cpos) (tBM0 X.K T r to):=by
 intro pins s σ H Q I h
 refine wpAny_Call_method0_late hbase hline (thn (ho pins s σ H _ I h) fun v s1 ⟨x,H1,I1,r1,ty,q1⟩=>?_)
 obtain⟨h1,h2⟩:=tyV_is I1 r1 ty
 exact⟨T,id,pa,slot,hty,h1,h2,Calls.callWith_builtin rfl (PySem.evalArgs_none (hm pins s1 σ H1 x [] v [] Q I1 r1 .nil q1))⟩
theorem pe_bm (pa:PlainAttrs T) (slot:Slot T name id) (hty:typeOf (.builtin id)=pure (.type "method_descriptor")) (hm:MtR X id r) (ho:PE X o to) (ha:PA X (e :: es) t)
  (hbase:attributeBase o name X.env (eval o X.env)=eval o X.env:=by rfl)
  (hfew:((backTo cpos (starEach (e :: es) X.env)).all (fun x=>!x.1)&&(backToKw cpos (keywordEach [] X.env)).all (fun x=>x.1.isSome)
   && decide ((e :: es).length+([]:List Keyword).length+(if([]:List Keyword).isEmpty then 0 else 1)<30))=true:=by rfl)
  (hline:(apos.endLine == cpos.line)=true:=by rfl) (hs:starEach (e :: es) X.env=(false,eval e X.env) :: starEach es X.env:=by rfl) (hplain:(backTo cpos (starEach es X.env)).any (·.1)=false:=by rfl):
  PE X (.Call (.Attribute o name apos) (e :: es) [] cpos) (tBM X.K T r to t):=by
 intro pins s σ H Q I h
 refine wpAny_Call_method_late hbase hfew hline rfl (thn (ho pins s σ H _ I h) fun v s1 ⟨x,H1,I1,r1,ty,q1⟩=>?_)
 obtain⟨h1,h2⟩:=tyV_is I1 r1 ty
 refine⟨T,id,pa,slot,hty,h1,h2,?_⟩
 have hA:=ha cpos pins s1 σ H1 _ I1 q1
 rw[hs]at hA ⊢
 refine Calls.callWith_builtin (by show(false || (backTo cpos (starEach es X.env)).any (·.1))=false;rw[hplain]<;>rfl) (Calls.evalArgs_plain ?_)
 exact thn hA fun us s2 ⟨vs,H2,I2,r2,q2⟩=>hm pins s2 σ H2 x vs v us Q I2 r1 r2 q2
end
def MtM (X:Cx) (id:String) (r:V->List V->Hp->VK->Prop):Prop:=
 ∀(pins:List (Addr×Obj)) (s:Shared) (σ:St) (H:Hp) (x:V) (xs:List V) (v:Value) (us:List Value) (Q:VK),Inv X pins σ H s->RelV x v->Vals xs us->r x xs H Q->
  wpAny (model X.prog X.w) X.A (call (.builtin id) (v :: us)) (EP X pins σ Q) X.xe s
theorem Vals.one:∀{x:V} {us:List Value},Vals [x] us->∃u,us=[u]/\RelV x u
 |_,_,.cons r .nil=>⟨_,rfl,r⟩
theorem Vals.zero:∀{us:List Value},Vals [] us->us=[]
 |_,.nil=>rfl
theorem Vals.reverse {xs:List V} {us:List Value} (h:Vals xs us):Vals xs.reverse us.reverse:=by
 induction h with
 |nil=>exact .nil
 |cons r t ih=>rw[List.reverse_cons,List.reverse_cons];exact Vals.append ih (.cons r .nil)
theorem Vals.rep {xs:List V} {us:List Value} (h:Vals xs us):∀k:Nat,Vals (List.replicate k xs).flatten (List.replicate k us).flatten
 |0=>.nil
 |k+1=>by
  rw[List.replicate_succ,List.replicate_succ,List.flatten_cons,List.flatten_cons]
  exact Vals.append h (Vals.rep h k)
theorem foldl_rep (its:List Value):∀(k:Nat) (acc:List Value),
  List.foldl (fun x1 x2=>x1++x2) acc.toArray (List.replicate k its.toArray)=(acc++(List.replicate k its).flatten).toArray
 |0,acc=>by simp
 |k+1,acc=>by
  have e:acc.toArray++its.toArray=(acc++its).toArray:=by simp
  have e2:(acc++its)++(List.replicate k its).flatten=acc++(List.replicate (k+1) its).flatten:=by
   rw[List.replicate_succ,List.flatten_cons,List.append_assoc]
  rw[<- e2,<- foldl_rep its k (acc++its),<- e,List.replicate_succ,List.foldl_cons]
section
variable {X:Cx} {pins:List (Addr×Obj)} {σ:St} {H:Hp} {s:Shared} {l b:Addr} {xs ys zs:List V}
theorem Inv.lset {its its':List Value} {n:Nat} {f:Array Value->Array Value} {t':Nat} (I:Inv X pins σ H s) (hH:H l=some (.lst xs))
  (e:s.heap.get? l=some { cls:=.type "list",data:=.seq its.toArray n }) (hf:f its.toArray=its'.toArray) (hv:Vals ys its') (hz:ys.length<=sizeLine):
  Inv X pins σ (upd H l (.lst ys)) { s with heap:=s.heap.update l (Obj.mapSeq f),toks:=t' }:=by
 have q:=PySem.IsL.update e f
 rw[hf]at q
 refine I.write (x:=l) (e:=l) (by rw[hH];exact trivial) (.inl rfl) (fun b' u hb hu=>(Heap.get?_update_other s.heap (Obj.mapSeq f) (Ne.symm hb)).trans hu) ⟨_,q⟩ ?_
 exact⟨hz,its',_,hv,q⟩
theorem Inv.lnew {its:List Value} {t':Nat} (I:Inv X pins σ H s) (hv:Vals ys its) (hz:ys.length<=sizeLine):
  Inv X pins σ (upd H s.heap.objs.size (.lst ys)) { s with heap:=s.heap.push { cls:=.type "list",data:=.seq its.toArray },toks:=t' }:=
 I.laid (fun _ _ q=>Heap.get?_push_of_some _ q) (Nat.le_refl _) ⟨hz,its,0,hv,Heap.get?_push_size _ rfl⟩
theorem Inv.fresh (I:Inv X pins σ H s):H s.heap.objs.size=none:=I.hok.fresh (Nat.le_refl _)
theorem Inv.lstM (I:Inv X pins σ H s) (hH:H l=some (.lst xs)):xs.length<=sizeLine/\∃(its:List Value) (n:Nat),Vals xs its/\xs.length=its.length/\s.heap.get? l=some { cls:=.type "list",data:=.seq its.toArray n }:=by
 obtain⟨z,its,n,r,e⟩:=I.hok l _ hH
 exact⟨z,its,n,r,r.length,e⟩
theorem notLongL {n:Nat} (h:n<=sizeLine):Builtin.List.listTooLong n=false:=by
 unfold Builtin.List.listTooLong
 exact decide_eq_false (by omega)
end
section
variable {X:Cx}
noncomputable def rAppend:V->List V->Hp->VK->Prop:=fun x vs H Q=>∃l xs y,x=.ref l/\vs=[y]/\H l=some (.lst xs)/\xs.length<sizeLine/\Q .non (upd H l (.lst (xs++[y])))
theorem mt_append:MtM X "list.append" rAppend:=by
 intro pins s σ H x vs v us Q I rx rv h
 obtain⟨l,xs,y,rfl,rfl,hH,hz,q⟩:=h
 cases rx
 obtain⟨u,rfl,ru⟩:=rv.one
 obtain⟨z,its,n,r,hl,e⟩:=I.lstM hH
 refine call_meets F.slot_list_append ⟨_,e,rfl⟩ F.entry_list_append (F.args_list_append_2 _ _) (PySem.list_append l its.toArray n u (by rw[List.size_toArray];omega)) ⟨e,?_⟩
 refine⟨.non,_,I.lset (its':=its++[u]) hH e (by simp) (r.append (.cons ru .nil)) ?_,rfl,q⟩
 rw[List.length_append,List.length_singleton]
 omega
noncomputable def rCat:R2:=fun x y H Q=>∃l b xs zs,x=.ref l/\y=.ref b/\H l=some (.lst xs)/\H b=some (.lst zs)/\xs.length+zs.length<=sizeLine/\∀p,H p=none->Q (.ref p) (upd H p (.lst (xs++zs)))
theorem op_cat:OpR X (binaryOp .Add) rCat:=by
 intro pins s σ H x y v u Q I rx ry h
 obtain⟨l,b,xs,zs,rfl,rfl,hH,hB,hz,q⟩:=h
 cases rx
 cases ry
 obtain⟨z,its,n,r,hl,e⟩:=I.lstM hH
 obtain⟨z2,its2,n2,r2,hl2,e2⟩:=I.lstM hB
 refine PySem.P.add_list e e2 ?_ (by rw[List.size_toArray,List.size_toArray];omega)
 have ea:its.toArray++its2.toArray=(its++its2).toArray:=by simp
 rw[ea]
 exact⟨.ref _,_,I.lnew (t':=s.toks) (r.append r2) (by rw[List.length_append];omega),rfl,q _ I.fresh⟩
noncomputable def rRep:R2:=fun x y H Q=>∃l k xs,x=.ref l/\y=.int k/\H l=some (.lst xs)/\-(2 ^ 63)<=k/\k<2 ^ 63/\xs.length*k.toNat<=sizeLine/\
 ∀p,H p=none->Q (.ref p) (upd H p (.lst (List.replicate k.toNat xs).flatten))
theorem len_rep {α:Type} (xs:List α) (k:Nat):(List.replicate k xs).flatten.length=k*xs.length:=by
 induction k with
 |zero=>simp
 |succ k ih=>rw[List.replicate_succ,List.flatten_cons,List.length_append,ih,Nat.succ_mul,Nat.add_comm]
theorem op_rep:OpR X (binaryOp .Mult) rRep:=by
 intro pins s σ H x y v u Q I rx ry h
 obtain⟨l,k,xs,rfl,rfl,hH,h1,h2,hz,q⟩:=h
 cases rx
 obtain⟨t,rfl⟩:=ry
 obtain⟨z,its,n,r,hl,e⟩:=I.lstM hH
 have hlen:its.toArray.size*k.toNat<=sizeLine:=by rw[List.size_toArray,<- hl];exact hz
 have hcap:¬its.toArray.size*k.toNat > (2 ^ 63-1) / 8:=by
  have:(sizeLine:Nat)<=(2 ^ 63-1) / 8:=by decide
  omega
 have hfit:¬(!Builtin.List.listFitsIndex k)=true:=by
  rw[fitsIndex_both h1 h2]
  exact Bool.false_ne_true
 have hlong:¬Builtin.List.listTooLong (its.toArray.size*k.toNat)=true:=by
  rw[notLongL hlen]
  exact Bool.false_ne_true
 have hnew:List.foldl (fun x1 x2=>x1++x2) #[] (List.replicate (if its.toArray.isEmpty=true then 0 else k.toNat) its.toArray)=(List.replicate k.toNat its).flatten.toArray:=by
  have f0:∀m:Nat,List.foldl (fun x1 x2=>x1++x2) #[] (List.replicate m its.toArray)=(List.replicate m its).flatten.toArray:=fun m=>by
   have:=foldl_rep its m []
   rw[List.nil_append]at this
   exact this
  rw[f0]
  cases its with
  |nil=>simp
  |cons a r'=>rw[if_neg (by simp)]
 refine wpAny_binaryOp_repeat_ref (T:="list") (U:="int") (by decide) ⟨_,e,rfl⟩ (fun s'=>typeIs_int s' k t) noFill_list_mul F.fills_int_mul F.slot_int_rmul repeat_list F.slot_int_index.lookup
  (call_meets F.slot_int_rmul (typeIs_int s k t) F.entry_int_rmul (F.args_int_rmul_2 _ _) (int___rmul___int_list k t l its.toArray n)
   ⟨e,rfl,⟨_,e,rfl⟩,call_meets F.slot_list_mul ⟨_,e,rfl⟩ F.entry_list_mul (F.args_list_mul_2 _ _) (AutoListH.list___mul___list_int_3 l its.toArray n k t hfit hcap hlong) ⟨e,?_⟩⟩)
 rw[hnew]
 exact⟨.ref _,_,I.lnew (t':=s.toks) (r.rep k.toNat) (by rw[len_rep,Nat.mul_comm];exact hz),rfl,q _ I.fresh⟩
end
section
variable {prog:Program} {w:World} {A:Around} {E:Value->Shared->Prop} {s:Shared}
end
section
variable {X:Cx}
end
end L2
namespace Att
open PySem PySem.W PySem.Calls PyProof.Rows
theorem ints_of_wellAll {P:Params} {h:Heap}:∀(ns:List Int) (vs:List Value),WellAll P h vs (ns.map WData.int)->IntsAre vs ns:=by
 intro ns
 induction ns with
 |nil=>
  intro vs w
  rw[List.map_nil]at w
  cases w
  exact .nil
 |cons n ns ih=>
  intro vs w
  rw[List.map_cons]at w
  cases w with
  |cons a b=>
   cases a
   exact .cons _ _ (ih _ b)
theorem script_of {l:OpenLaw} {n:Nat} (hn:l.most=some n) {P:Params} {h:Heap} {args:List WData} {vals:List Value}
  (hpre:l.row.toRowW.claim.pre args=true) (hwl:WellAll P h vals args):
  ∃a vs ns,vals=[Value.ref a]/\args=[WData.list (ns.map WData.int)]/\h.get? a=some { cls:=.type "list",data:=.seq vs.toArray }/\IntsAre vs ns/\ns.length<=n:=by
 have hsh:WShape.hasAll [] args [.list .int]=true:=(pre_splitW hpre).1
 have hc:l.pre.holds [] { args:=args }=true:=(pre_splitW hpre).2
 obtain⟨d,r,rfl,h1,h2⟩:=hasAllW_cons hsh
 obtain rfl:=hasAllW_nil h2
 obtain⟨xs,rfl,h3⟩:=hasW_list h1
 obtain⟨ns,rfl⟩:=items_int h3
 have hlen:ns.length<=n:=by
  unfold OpenLaw.pre at hc
  have h4:(WTm.not (.lt (.lit (.int (n:Int))) (.len (.arg 0)))).holds [] { args:=[.list (ns.map .int)] }=true:=by
   have h4:=(holds_andW hc).1
   rw[hn]at h4
   exact h4
  have h5:=condW_of h4 (w_not (w_lt w_lit (w_len_list (w_arg rfl))))
  rw[List.length_map]at h5
  refine Nat.le_of_not_lt fun q=>?_
  have q':(n:Int)<((ns.length:Nat):Int):=by omega
  first
   |(rw[decide_eq_true q']at h5;exact absurd h5 (by decide))
   |(simp at h5;omega)
 cases hwl with
 |cons w1 w2=>
  cases w2
  cases w1 with
  |list ho hall=>exact⟨_,_,ns,rfl,rfl,ho,ints_of_wellAll ns _ hall,hlen⟩
theorem post_true (l:OpenLaw) (args:List WData):l.row.toRowW.claim.post args (.bool true) args=true:=
 postW_of (r:=l.row.toRowW) (X:=(true == true))
  (show WShape.has [] (.bool true) .bool=true by first|rfl|decide|simp[WShape.has,WShape.arms,WShape.armsAll])
  (show(WTm.eq .res (.lit (.bool true))).value [] { args:=args,res:=some (.bool true),after:=args }=some (.bool (true == true)) from w_eq_bool (w_res rfl) w_lit) rfl
theorem attach_call {l:OpenLaw} {n:Nat} {q:Program} {loose:List Str} {XP:(Str->Option Value)->Heap->Prop} {YP:World->Heap->Prop} {d:DefRec}
  (hn:l.most=some n) (hdf:d.params.defaults=[])
  (call:∀(w:World) (s₀ s₁:Shared) (mg mb:Str->Option Value) (fa:Addr) (o:Obj) (pm cd doc:Value) (a:Addr) (vs:List Value) (ns:List Int),
   Ground q loose [] XP w s₀ mg mb s₁.heap->YP w s₁.heap->
   s₁.heap.get? fa=some o->o.data=.func (docDef d.name d.params d.body d.scope pm cd doc)->s₁.heap.CodeRec cd d.name->mg d.name=some (.ref fa)->
   s₁.heap.get? a=some { cls:=.type "list",data:=.seq vs.toArray }->IntsAre vs ns->ns.length<=n->s₁.gens=#[]->
   codeAny (model l.prog w) callerA (.call (.ref fa) ⟨[.ref a],[]⟩) (fun r s'=>r=.ok (.ret (.bool true))/\OldK s₁.heap s'.heap/\s'.os=s₁.os/\AllBare s'.gens) s₁):
  WalkO q loose XP YP l.row.toRowW d [] (fun f vs=>PySem.call f vs):=by
 intro w s₀ s₁ mg mb G Y fa o pm cd doc dV kV ho hd hcd hD hmg hg args vals as hpre hlay hrd hwl hlo
 obtain rfl:dV=.none:=Dflts.none hD hdf
 obtain rfl:kV=.none:=Dflts.noKw hD
 obtain⟨a,vs,ns,rfl,rfl,hobj,hints,hlen⟩:=script_of hn hpre hwl
 refine enter_call (codeAny_mono (call w s₀ s₁ mg mb fa o pm cd doc a vs ns G Y ho (fd_plain hd) hcd hmg hobj hints hlen hg) fun r s' hq=>?_)
 obtain⟨rfl,h2,h3,h4⟩:=hq
 exact⟨.inl ⟨.bool true,.bool true,[],rfl,fun _=>rfl,.bool true,post_true l _,fun _=>⟨List.Pairwise.nil,fun _ hm=>(nomatch hm)⟩⟩,h2,h3,h4⟩
section
variable {prog:Program} {w:World} {A:Around} {E:Value->Shared->Prop} {s:Shared} {K:Frag}
end
end Att
namespace L2
open PySem PySem.Spec PyProof.Rows
theorem vals_ints:∀{vs:List Value} {ns:List Int},IntsAre vs ns->Vals (ns.map V.int) vs
 |_,_,.nil=>.nil
 |_,_,.cons n t h=>.cons ⟨t,rfl⟩ (vals_ints h)
def Only (H:Hp):Prop:=∀b,H b=none\/∃o xs,H b=some (.frz o (.lst xs))
theorem law_call {P:Program} {w:World} {K:W.Frag} {mg mb:Str->Option Value} {CX:CXT} {k:Nat} {fa a:Addr} {fd:FuncData} {x:Str} {sp:Sp} {s₁:Shared} {vs:List Value} {ns:List Int}
  (KX:K.In s₁.heap) (hns:s₁.heap.Ns mainGlobals mg) (hb:s₁.heap.Ns builtinsNs mb) (hbb:∀x:Str,x≠"__name__"->mb x=bootBuiltins x) (hlim:s₁.heap.NoLimit) (hg:s₁.gens=#[])
  (ha:s₁.heap.get? a=some { cls:=.type "list",data:=.seq vs.toArray }) (hi:IntsAre vs ns) (hl:ns.length<=sizeLine) (hr:Room k callerA)
  (F:∀base:Heap,K.In base->base.Ns mainGlobals mg->FnOk P w K mg base CX k fa fd [x] sp) (hbind:∀(s:Shared) (u:Value),BindsTo s fd ⟨[u],[]⟩ [(x,u)])
  (hsp:∀H:Hp,Only H->SqL K H a (ns.map V.int)->sp [.ref a] H (fun v _=>v=.bl true) fun _ _ _=>False)
  (hCX:∀H e s',CX [] H s₁ (fun _ _ _=>False) e s'->False):
  codeAny (model P w) callerA (.call (.ref fa) ⟨[.ref a],[]⟩) (fun r s'=>r=.ok (.ret (.bool true))/\OldK s₁.heap s'.heap/\s'.os=s₁.os/\AllBare s'.gens) s₁:=by
 have rv:=vals_ints hi
 have lenV:=hi.length
 have core:∀H:Hp,Only H->SqL K H a (ns.map V.int)->HOk P w H s₁.heap->(∀b,H b≠none->b=a)->(H a≠none->K.lookup a=none)->
   codeAny (model P w) callerA (.call (.ref fa) ⟨[.ref a],[]⟩) (fun r s'=>r=.ok (.ret (.bool true))/\OldK s₁.heap s'.heap/\s'.os=s₁.os/\AllBare s'.gens) s₁:=by
  intro H hO hS hok hA hK
  have base_of:∀{b:Addr} {o:Obj},s₁.heap.get? b=some o->H b=none->(hidT s₁.heap H).get? b=some o:=fun e n=>hidT_get e n
  have noA:∀{b:Addr} {o:Obj} {es:Array DictEntry} {ep:Nat},s₁.heap.get? b=some o->o.data=.dict es ep->H b=none:=fun {b o es ep} e d=>by
   cases q:H b with
   |none=>rfl
   |some u=>
    have e':b=a:=hA b (by rw[q];simp)
    subst e'
    rw[ha]at e;cases e
    have d':Data.seq vs.toArray _=Data.dict es ep:=d
    cases d'
  have nsK:∀{b:Addr} {m:Str->Option Value},s₁.heap.Ns b m->(hidT s₁.heap H).Ns b m:=fun {b m} ⟨o,es,ep,e,d,r⟩=>⟨o,es,ep,base_of e (noA e d),d,r⟩
  have hKb:K.In (hidT s₁.heap H):=fun b o e=>base_of (KX b o e) (by
   cases q:H b with
   |none=>rfl
   |some u=>
    have e':b=a:=hA b (by rw[q];simp)
    subst e'
    rw[hK (by rw[q];simp)]at e;cases e)
  have hM:Mod K mg (hidT s₁.heap H):=⟨hKb,nsK hns,⟨mb,nsK hb,hbb⟩,let⟨mc,h1,h2⟩:=hlim;⟨mc,nsK h1,h2⟩⟩
  have e0:Env0 P w K mg (hidT s₁.heap H) callerA [] s₁ H:=⟨rfl,hM,fun b o e=>of_hidT e,Nat.le_of_eq (hidT_size _ _),trivial,fun b hb=>absurd (show b∈([]:List Addr) from hb) (by simp),hok,.of_eq hg⟩
  refine codeAny_mono ((F _ hKb (nsK hns)).run callerA [] s₁ H ⟨[.ref a],[]⟩ [.ref a] [.ref a] _ _ hr e0 (hbind s₁ (.ref a)) (.cons rfl .nil) (hsp H hO hS)) fun r s' h=>?_
  cases r with
  |error e=>exact(hCX H e s' h).elim
  |ok fl=>
   cases fl with
   |next=>exact False.elim h
   |brk=>exact False.elim h
   |cont=>exact False.elim h
   |ret u=>
    obtain⟨v,H',os,bare,un,hok',r',q⟩:=h
    have q':v=.bl true:=q
    subst q'
    obtain rfl:u=Value.bool true:=r'
    refine⟨rfl,OldK.of_keep fun b o e=>?_,os,bare⟩
    cases q:H b with
    |none=>exact un.keep b o e q (by intro z;exact absurd (show b∈([]:List Addr) from z) (by simp)) (by simp)
    |some u=>
     rcases hO b with z|⟨ob,xs,z⟩
     .rw[q]at z;cases z
     .have z2:=un.frzs b ob _ z
      obtain⟨e1,_⟩:=hok b _ z
      obtain⟨e2,_⟩:=hok' b _ z2
      rw[e]at e1;cases e1
      exact e2
 cases hk:K.lookup a with
 |some o=>
  have e:=KX a o hk
  rw[ha]at e
  cases e
  refine core (fun _=>none) (fun _=>.inl rfl) (.inr ⟨_,vs.toArray,_,hk,rfl,rfl,rfl,by rw[List.size_toArray,lenV];exact hl,by simpa using rv⟩) (fun b u z=>by have z':(none:Option HO)=some u:=z;cases z') (fun b z=>absurd rfl z) fun z=>absurd rfl z
 |none=>
  refine core (fun b=>if b=a then some (.frz { cls:=.type "list",data:=.seq vs.toArray } (.lst (ns.map V.int)))else none) (fun b=>?_) (.inl (.inr ⟨{ cls:=.type "list",data:=.seq vs.toArray },if_pos rfl⟩)) (fun b u z=>?_) (fun b z=>?_) fun _=>hk
  .by_cases hb:b=a
   .exact .inr ⟨_,_,if_pos hb⟩
   .exact .inl (if_neg hb)
  .by_cases hb:b=a
   .have z':=(if_pos hb).symm.trans z
    cases z'
    subst hb
    exact⟨ha,by rw[List.length_map];exact hl,vs,_,rv,ha⟩
   .have z':=(if_neg hb).symm.trans z
    cases z'
  .by_cases hb:b=a
   .exact hb
   .exact absurd (if_neg hb) z
theorem walk_of {l:W.OpenLaw} {n k:Nat} {q:Program} {loose:List Str} {XP:(Str->Option Value)->Heap->Prop} {YP:World->Heap->Prop} {d:DefRec} {K:Params->W.Frag} {CX:World->CXT} {sp:World->Sp} {x:Str}
  (hn:l.most=some n) (hn2:n<=sizeLine) (hdf:d.params.defaults=[]) (hr:Room k callerA)
  (hY:∀(w:World) (h:Heap),YP w h->(K w.params).In h)
  (F:∀(w:World) (mg:Str->Option Value) (fa:Addr) (h:Heap),(K w.params).In h->h.Ns mainGlobals mg->mg d.name=some (.ref fa)->
   ∃fd:FuncData,(∀(s:Shared) (u:Value),BindsTo s fd ⟨[u],[]⟩ [(x,u)])/\
    ∀base:Heap,(K w.params).In base->base.Ns mainGlobals mg->FnOk l.prog w (K w.params) mg base (CX w) k fa fd [x] (sp w))
  (hsp:∀(w:World) (H:Hp) (a:Addr) (ns:List Int),ns.length<=n->Only H->SqL (K w.params) H a (ns.map V.int)->sp w [.ref a] H (fun v _=>v=.bl true) fun _ _ _=>False)
  (hCX:∀(w:World) (H:Hp) (s:Shared) (e:Value) (s':Shared),CX w [] H s (fun _ _ _=>False) e s'->False):
  W.WalkO q loose XP YP l.row.toRowW d [] (fun f vs=>PySem.call f vs):=by
 refine Att.attach_call hn hdf fun w s₀ s₁ mg mb fa o pm cd doc a vs ns G Y ho hd hcd hmg hobj hints hlen hg=>?_
 have KX:=hY w _ Y
 obtain⟨fd,hb,hF⟩:=F w mg fa _ KX G.T.g hmg
 exact law_call KX G.T.g G.T.b G.T.builtins G.T.nolimit hg hobj hints (Nat.le_trans hlen hn2) hr hF hb (fun H hO hS=>hsp w H a ns hlen hO hS) fun H e s'=>hCX w H s₁ e s'
noncomputable def defArgs (s:Stmt):Arguments:=match s with
 | .FunctionDef _ a _ _ _ _ _ _ _ _=>a
 |_=>{ posonlyargs:=[],args:=[],vararg:=none,kwonlyargs:=[],kw_defaults:=[],kwarg:=none,defaults:=[] }
noncomputable def defBody (s:Stmt):List Stmt:=match s with
 | .FunctionDef _ _ b _ _ _ _ _ _ _=>b
 |_=>[]
noncomputable def defScope (s:Stmt):Scope:=match s with
 | .FunctionDef _ _ _ _ _ _ sc _ _ _=>sc
 |_=>{ kind:=.function,names:=[],isGenerator:=false,isCoroutine:=false }
noncomputable abbrev CX0:CXT:=fun _ _ _ _ _ _=>False
noncomputable abbrev E0:XK:=fun _ _ _=>False
structure Fun (K:W.Frag) (x qual:Str) (st:Stmt) (f:Addr) (fd:FuncData):Prop where
 ex:∃(oc:Value) (od:Option Addr) (kV doc pm:Value) (an:Option Addr) (cdv ct:Value) (osl:Array (Option Value)),
  fd=W.fnOf x qual (defArgs st) (defBody st) (defScope st) .none kV doc pm an cdv ct/\K.lookup f=some ⟨oc,od,.func fd,osl⟩/\W.codeIn K cdv qual=true
 kp:W.keepIn K (.ref f)=true
section
variable {P:Program} {w:World} {K:W.Frag} {mg:Str->Option Value} {base:Heap}
theorem Fun.ok {x qual:Str} {st:Stmt} {f:Addr} {fd:FuncData} {N ps:List Str} {k:Nat} {sp:Sp} (F:Fun K x qual st f fd) (S:FnScope N ps (defScope st)) (len:∀vs H Q E,sp vs H Q E->vs.length=ps.length)
  (hbody:∀(cdv:Value) (A:Around) (outer:List Env) (s:Shared) (H:Hp) (vs:List V) (Q:VK) (E:XK),Room k (A.deeper (envOfC qual (defScope st) s.heap.objs.size f cdv))->sp vs H Q E->
   ∃t,PSs (cxOf CX0 P w K mg base N qual (defScope st) f cdv A outer s H E).nox (defBody st) t/\t { nx:=fun _ H'=>Q .non H',rt:=Q } (start N vs) H):FnOk P w K mg base CX0 (k+1) f fd ps sp:=by
 obtain⟨oc,od,kV,doc,pm,an,cdv,ct,osl,rfl,lk,hcd⟩:=F.ex
 refine fn_of lk hcd S len fun A outer s H vs Q E hr hsp=>?_
 obtain⟨t,h,q⟩:=hbody cdv A outer s H vs Q E hr hsp
 exact⟨t,h.nox,q⟩
theorem Fun.binds {x qual:Str} {st:Stmt} {f:Addr} {fd:FuncData} {ps:List Str} (F:Fun K x qual st f fd)
  (h:∀(kV doc pm:Value) (an:Option Addr) (cdv ct:Value) (us:List Value),us.length=ps.length->bindArgs (W.fnOf x qual (defArgs st) (defBody st) (defScope st) .none kV doc pm an cdv ct) ⟨us,[]⟩=pure (ps.zip us)):Binds K fd ps []:=by
 obtain⟨oc,od,kV,doc,pm,an,cdv,ct,osl,rfl,lk,hcd⟩:=F.ex
 exact .all (h kV doc pm an cdv ct)
theorem fun_mk {x qual:Str} {st:Stmt} {f:Addr} {oc:Value} {od an:Option Addr} {osl:Array (Option Value)} {kV doc pm cdv ct:Value} (l:K.lookup f=some ⟨oc,od,.func (W.fnOf x qual (defArgs st) (defBody st) (defScope st) .none kV doc pm an cdv ct),osl⟩)
  (c:W.codeIn K cdv qual=true) (k:W.keepIn K (.ref f)=true):Fun K x qual st f (W.fnOf x qual (defArgs st) (defBody st) (defScope st) .none kV doc pm an cdv ct):=⟨⟨oc,od,kV,doc,pm,an,cdv,ct,osl,rfl,l,c⟩,k⟩
end
theorem small1000 {n:Nat} (h:n<=1000):n<sizeLine:=Nat.lt_of_le_of_lt h (by decide)
section
variable {X:Cx}
theorem pv (i:Nat) {x:Str} {pos:Pos} (hN:X.N[i]?=some x:=by rfl) (hv:Vis X.env.scope x:=by first|exact Or.inl rfl|exact Or.inr (Or.inl rfl)|exact Or.inr (Or.inr rfl)) (hd:(x == ("__debug__":Str))=false:=by decide)
  (hcd:(x == ("__classdict__":Str))=false:=by decide):PE X (.Name x pos) (tVar i):=pe_var hN hv hd hcd
end
def Same (H H':Hp):Prop:=∀b o,H b=some o->H' b=some o
theorem Same.refl (H:Hp):Same H H:=fun _ _ h=>h
theorem Same.trans {H H1 H2:Hp} (a:Same H H1) (b:Same H1 H2):Same H H2:=fun c o h=>b c o (a c o h)
theorem Same.free {H H':Hp} (e:Same H H') {l:Addr} (h:H' l=Option.none):H l=Option.none:=by
 cases q:H l with
 |none=>rfl
 |some o=>
  rw[e l o q]at h
  cases h
theorem Same.seq {K:W.Frag} {H H':Hp} {a:Addr} {xs:List V} (e:Same H H') (h:SqL K H a xs):SqL K H' a xs:=by
 rcases h with(h|⟨o,h⟩)|h
 .exact .inl (.inl (e _ _ h))
 .exact .inl (.inr ⟨o,e _ _ h⟩)
 .exact .inr h
noncomputable def closL (cells:List (Str×Addr)):List (Str×NameKind)->List (Str×Addr)->List (Str×Addr)
 | [],acc=>acc
 |(n,k) :: r,acc=>if k == .free then closL cells r ((n,(cells.lookup n).getD 0) :: acc)else closL cells r acc
noncomputable def closF (env:Env) (x:Str×NameKind) (r:List (Str×Addr)):Sem (ForInStep (List (Str×Addr))):=
 match x with|(name,kind)=>if(kind == .free)=true then(do let a <- cellOf env name;pure (ForInStep.yield ((name,a) :: r)))else pure (ForInStep.yield r)
theorem closGo {env:Env}:∀(names:List (Str×NameKind)) (acc:List (Str×Addr)),(∀n,(n,NameKind.free)∈names->∃c,env.cells.lookup n=some c)->
   forIn names acc (closF env)=(pure (closL env.cells names acc):Sem _):=by
  intro names
  induction names with
  |nil=>intro acc _;rfl
  |cons x r ih=>
   intro acc hh
   obtain⟨n,k⟩:=x
   rw[List.forIn_cons]
   have hr:=fun m hm=>hh m (List.mem_cons_of_mem _ hm)
   by_cases hk:k=.free
   .subst hk
    obtain⟨c,hc⟩:=hh n List.mem_cons_self
    have e1:cellOf env n=(pure c:Sem Addr):=by unfold cellOf;rw[hc]
    have e2:closF env (n,NameKind.free) acc=pure (ForInStep.yield ((n,c) :: acc)):=by
     unfold closF
     dsimp only
     rw[if_pos (by rfl),e1]
     rfl
    rw[e2]
    have e3:=ih ((n,c) :: acc) hr
    have e4:closL env.cells ((n,NameKind.free) :: r) acc=closL env.cells r ((n,c) :: acc):=by
     show(if(NameKind.free == NameKind.free)=true then _ else _)=_
     rw[if_pos (by rfl),hc]
     rfl
    rw[e4,<- e3]
    rfl
   .have hb:(k == NameKind.free)=false:=by simpa using hk
    have e2:closF env (n,k) acc=pure (ForInStep.yield acc):=by
     unfold closF
     dsimp only
     rw[if_neg (by rw[hb];exact Bool.false_ne_true)]
    rw[e2]
    have e4:closL env.cells ((n,k) :: r) acc=closL env.cells r acc:=by
     show(if(k == NameKind.free)=true then _ else _)=_
     rw[if_neg (by rw[hb];exact Bool.false_ne_true)]
    rw[e4,<- ih acc hr]
    rfl
theorem closFor {env:Env} {scope:Scope} (h:∀n,(n,NameKind.free)∈scope.names->∃c,env.cells.lookup n=some c):closureFor scope env=pure (closL env.cells scope.names []):=by
 have e:=closGo (env:=env) scope.names [] h
 unfold closureFor
 have q:∀f:Str×NameKind->List (Str×Addr)->Sem (ForInStep (List (Str×Addr))),(∀x r,f x r=closF env x r)->(forIn scope.names ([]:List (Str×Addr)) f >>= fun r=>pure r)=(pure (closL env.cells scope.names []):Sem _):=by
  intro f hf
  have:f=closF env:=funext fun x=>funext fun r=>hf x r
  rw[this,e]
  rfl
 refine q _ fun x r=>?_
 obtain⟨n,k⟩:=x
 unfold closF
 first|done|(dsimp only;done)|(dsimp only;cases hk:k == NameKind.free<;>simp[hk])
theorem closL_mem {cells:List (Str×Addr)}:∀{names:List (Str×NameKind)} {acc:List (Str×Addr)} {n:Str} {c:Addr},(n,c)∈closL cells names acc->(n,c)∈acc\/((n,NameKind.free)∈names/\c=(cells.lookup n).getD 0)
 | [],_,_,_,h=>.inl h
 |(m,k) :: r,acc,n,c,h=>by
  unfold closL at h
  split at h
  .rename_i hk
   have hk':k=.free:=by simpa using hk
   subst hk'
   rcases closL_mem h with q|⟨q,e⟩
   .rcases List.mem_cons.mp q with q|q
    .cases q;exact .inr ⟨List.mem_cons_self,rfl⟩
    .exact .inl q
   .exact .inr ⟨List.mem_cons_of_mem _ q,e⟩
  .rcases closL_mem h with q|⟨q,e⟩
   .exact .inl q
   .exact .inr ⟨List.mem_cons_of_mem _ q,e⟩
theorem closL_has {cells:List (Str×Addr)}:∀{names:List (Str×NameKind)} {acc:List (Str×Addr)} {n:Str},((n,NameKind.free)∈names\/∃c,(n,c)∈acc)->∃c,(n,c)∈closL cells names acc
 | [],_,_,h=>by
  rcases h with h|h
  .simp at h
  .exact h
 |(m,k) :: r,acc,n,h=>by
  unfold closL
  split
  .rename_i hk
   refine closL_has ?_
   rcases h with h|⟨c,h⟩
   .rcases List.mem_cons.mp h with h|h
    .cases h;exact .inr ⟨_,List.mem_cons_self⟩
    .exact .inl h
   .exact .inr ⟨c,List.mem_cons_of_mem _ h⟩
  .rename_i hk
   refine closL_has ?_
   rcases h with h|h
   .rcases List.mem_cons.mp h with h|h
    .cases h;exact absurd rfl hk
    .exact .inl h
   .exact .inr h
theorem cellsFrom_app:∀(names:List (Str×NameKind)) (n:Nat) (acc:List (Str×Addr)),cellsFrom n names acc=cellsFrom n names []++acc
 | [],_,_=>rfl
 |(x,k) :: r,n,acc=>by
  unfold cellsFrom
  split
  .rw[cellsFrom_app r (n+1) ((x,n) :: acc),cellsFrom_app r (n+1) [(x,n)],List.append_assoc]
   rfl
  .exact cellsFrom_app r n acc
theorem lookup_some_of_mem {α:Type}:∀{l:List (Str×α)} {n:Str} {c:α},(n,c)∈l->∃c',l.lookup n=some c'
 |(k,v) :: r,n,c,h=>by
  rw[List.lookup_cons]
  cases hb:n == k with
  |true=>exact⟨v,rfl⟩
  |false=>
   rcases List.mem_cons.mp h with e|h
   .cases e;simp at hb
   .exact lookup_some_of_mem h
theorem relabel_lookup {env:Env}:∀{names:List (Str×NameKind)} {x:Str} {k':NameKind},
  (names.map fun(n,k)=>if(k == NameKind.free&&env.scope.kind == .function&&env.kindOf n == some .cell)then(n,NameKind.cell)else(n,k)).lookup x=some k'->∃k,names.lookup x=some k/\(k'=k\/(k=.free/\k'=.cell))
 | [],_,_,h=>by simp at h
 |(n,k) :: r,x,k',h=>by
  have ih:=@relabel_lookup env r x k'
  rw[List.map_cons]at h
  by_cases hc:(k == NameKind.free&&env.scope.kind == .function&&env.kindOf n == some .cell)=true
  .have e1:(match ((n,k):Str×NameKind)with|(n,k)=>if(k == NameKind.free&&env.scope.kind == .function&&env.kindOf n == some .cell)=true then(n,NameKind.cell)else(n,k))=(n,NameKind.cell):=if_pos hc
   rw[e1,List.lookup_cons]at h
   rw[List.lookup_cons]
   cases hx:x == n with
   |true=>
    rw[hx]at h
    cases h
    refine⟨k,rfl,.inr ⟨?_,rfl⟩⟩
    simp only[Bool.and_eq_true]at hc
    exact beq_iff_eq.mp hc.1.1
   |false=>rw[hx]at h;exact ih h
  .have e1:(match ((n,k):Str×NameKind)with|(n,k)=>if(k == NameKind.free&&env.scope.kind == .function&&env.kindOf n == some .cell)=true then(n,NameKind.cell)else(n,k))=(n,k):=if_neg hc
   rw[e1,List.lookup_cons]at h
   rw[List.lookup_cons]
   cases hx:x == n with
   |true=>rw[hx]at h;cases h;exact⟨k,rfl,.inl rfl⟩
   |false=>rw[hx]at h;exact ih h
theorem relabel_lookup' {env:Env}:∀{names:List (Str×NameKind)} {x:Str} {k:NameKind},names.lookup x=some k ->
  ∃k',(names.map fun(n,k)=>if(k == NameKind.free&&env.scope.kind == .function&&env.kindOf n == some .cell)then(n,NameKind.cell)else(n,k)).lookup x=some k'/\(k'=k\/(k=.free/\k'=.cell))
 | [],_,_,h=>by simp at h
 |(n,k0) :: r,x,k,h=>by
  have ih:=@relabel_lookup' env r x k
  rw[List.map_cons]
  by_cases hc:(k0 == NameKind.free&&env.scope.kind == .function&&env.kindOf n == some .cell)=true
  .have e1:(match ((n,k0):Str×NameKind)with|(n,k)=>if(k == NameKind.free&&env.scope.kind == .function&&env.kindOf n == some .cell)=true then(n,NameKind.cell)else(n,k))=(n,NameKind.cell):=if_pos hc
   rw[e1,List.lookup_cons]
   rw[List.lookup_cons]at h
   cases hx:x == n with
   |true=>
    rw[hx]at h
    cases h
    refine⟨_,rfl,.inr ⟨?_,rfl⟩⟩
    simp only[Bool.and_eq_true]at hc
    exact beq_iff_eq.mp hc.1.1
   |false=>rw[hx]at h;exact ih h
  .have e1:(match ((n,k0):Str×NameKind)with|(n,k)=>if(k == NameKind.free&&env.scope.kind == .function&&env.kindOf n == some .cell)=true then(n,NameKind.cell)else(n,k))=(n,k0):=if_neg hc
   rw[e1,List.lookup_cons]
   rw[List.lookup_cons]at h
   cases hx:x == n with
   |true=>rw[hx]at h;cases h;exact⟨_,rfl,.inl rfl⟩
   |false=>rw[hx]at h;exact ih h
section
variable {M:Model} {A:Around} {E:Value->Shared->Prop} {s:Shared}
noncomputable abbrev compHeap (h:Heap) (names:List (Str×NameKind)):Heap:=pushCells (h.push { cls:=.type "dict",data:=.dict #[] }) names
theorem wpAny_compEnv {scope:Scope} {globals:Addr} {cl:List (Str×Addr)} {qual:Str} {env:Env} {Q:Env->Shared->Prop}
  (h:Q (newEnv scope s.heap.objs.size globals (cellsFrom (s.heap.objs.size+1) scope.names cl) qual none .none (some env) builtinsNs) { s with heap:=compHeap s.heap scope.names }):
  wpAny M A (newFunctionEnv scope globals cl [] qual none .none (some env)) Q E s:=by
 simp only[newFunctionEnv,Option.isSome_some,if_true]
 refine wpAny_bind (wpAny_alloc ?_)
 refine wpAny_bind (wpAny_layCells _ (fun name kind cells=>by cases hkc:kind == NameKind.cell<;>simp[hkc]) _ _ _ _ ?_)
 rw[show({ s with heap:=s.heap.push { cls:=.type "dict",data:=.dict #[] } }:Shared).heap.objs.size=s.heap.objs.size+1 from Heap.size_push ..]
 exact wpAny_bind (wpAny_pure (wpAny_pure h))
end
noncomputable def Cx.comp (X:Cx) (scope:Scope) (s₀:Shared) (H₀:Hp) (ex:List Addr):Cx:=
 { X with
  s₀:=s₀,H₀:=H₀
  env:={ newEnv scope s₀.heap.objs.size X.env.globals (cellsFrom (s₀.heap.objs.size+1) scope.names (closL X.env.cells scope.names [])) X.env.qual none .none (some X.env) builtinsNs with scope:=relabel scope X.env }
  outer:=X.stack,ex:=ex,fn:=fun x=>((cellsFrom (s₀.heap.objs.size+1) scope.names []).lookup x).isSome,pn:=[],xe:=fun _ _=>False }
structure CompSc (X:Cx) (scope:Scope):Prop where
 kind:scope.kind=.function
 names:∀x∈scope.names,x.2=.local->scope.names.lookup x.1=some .local
 one:∀n,(n,NameKind.cell)∈scope.names->scope.names.lookup n=some .cell
 free:∀n,(n,NameKind.free)∈scope.names->X.env.kindOf n=some .cell\/X.env.kindOf n=some .free
theorem cellsFrom_mem:∀{names:List (Str×NameKind)} {n:Nat} {x:Str} {c:Addr},(x,c)∈cellsFrom n names []->(x,NameKind.cell)∈names
 | [],_,_,_,h=>by simp[cellsFrom]at h
 |(y,k) :: r,n,x,c,h=>by
  unfold cellsFrom at h
  split at h
  .rename_i hk
   have hk':k=.cell:=by simpa using hk
   subst hk'
   rw[cellsFrom_app]at h
   rcases List.mem_append.mp h with h|h
   .exact List.mem_cons_of_mem _ (cellsFrom_mem h)
   .have h':(x,c)=(y,n):=by simpa using h
    cases h'
    exact List.mem_cons_self
  .exact List.mem_cons_of_mem _ (cellsFrom_mem h)
noncomputable def clr (own:List Nat) (σ:St):St:=own.foldl (fun σ i=>σ.set i none) σ
theorem clr_len:∀(own:List Nat) (σ:St),(clr own σ).length=σ.length
 | [],_=>rfl
 |i :: r,σ=>by
  show(clr r (σ.set i none)).length=_
  rw[clr_len r,List.length_set]
theorem clr_get:∀{own:List Nat} {σ:St} {i:Nat} {v:V},(clr own σ)[i]?=some (some v)->σ[i]?=some (some v)/\i∉own
 | [],_,_,_,h=>⟨h,by simp⟩
 |j :: r,σ,i,v,h=>by
  obtain⟨h1,h2⟩:=clr_get (own:=r) (σ:=σ.set j none) h
  by_cases e:j=i
  .subst e
   rw[List.getElem?_set]at h1
   simp at h1
  .rw[List.getElem?_set_ne e]at h1
   exact⟨h1,by simp;exact⟨fun z=>e z.symm,h2⟩⟩
theorem clr_out:∀{own:List Nat} {σ:St} {i:Nat},i∉own->(clr own σ)[i]?=σ[i]?
 | [],_,_,_=>rfl
 |j :: r,σ,i,h=>by
  have h1:i≠j:=fun z=>h (by simp[z])
  have h2:i∉r:=fun z=>h (by simp[z])
  show(clr r (σ.set j none))[i]?=_
  rw[clr_out h2,List.getElem?_set_ne (Ne.symm h1)]
section
variable {X:Cx} {pins:List (Addr×Obj)} {σ:St} {H H':Hp} {s s':Shared} {scope:Scope} {ex:List Addr} {own:List Nat}
theorem comp_cells (I:Inv X pins σ H s) (S:CompSc X scope):
  (∀x c,(closL X.env.cells scope.names []).lookup x=some c->X.env.cells.lookup x=some c)/\
  (∀x,(x,NameKind.free)∈scope.names->∃c,(closL X.env.cells scope.names []).lookup x=some c)/\
  CellsOk (compHeap s.heap scope.names) (s.heap.objs.size+1) (cellsFrom (s.heap.objs.size+1) scope.names []):=by
 have hc:∀x c,(x,c)∈closL X.env.cells scope.names []->X.env.cells.lookup x=some c:=fun x c h=>by
  rcases closL_mem h with z|⟨z,e⟩
  .simp at z
  .obtain⟨c',e'⟩:=I.ok.has x (S.free x z)
   rw[e',Option.getD_some]at e
   rw[e',e]
 refine⟨fun x c h=>hc x c (PySem.mem_of_lookup h),fun x h=>?_,?_⟩
 .obtain⟨c,q⟩:=closL_has (cells:=X.env.cells) (acc:=[]) (.inl h)
  exact lookup_some_of_mem q
 .have q:=cellsFrom_ok scope.names (s.heap.push { cls:=.type "dict",data:=.dict #[] }) (s.heap.objs.size+1) [] ⟨fun _ _ hm=>(nomatch hm),List.Pairwise.nil⟩ (by rw[Heap.size_push];exact Nat.le_refl _)
  rw[Heap.size_push]at q
  exact q
theorem comp_start (I:Inv X pins σ H s) (hex:∀b∈ex,FpOk X pins H b) (hlt:∀b∈ex,b<s.heap.objs.size) (S:CompSc X scope)
  (hown:∀i x,X.N[i]?=some x->(scope.names.lookup x=some .local\/scope.names.lookup x=some .cell)->i∈own):
  Inv (X.comp scope s H ex) [] (clr own σ) H { s with heap:=compHeap s.heap scope.names }:=by
 obtain⟨hcl,hcf,ok⟩:=comp_cells I S
 have lk:∀x c,(X.comp scope s H ex).env.cells.lookup x=some c->(cellsFrom (s.heap.objs.size+1) scope.names []).lookup x=some c\/((cellsFrom (s.heap.objs.size+1) scope.names []).lookup x=none/\X.env.cells.lookup x=some c):=fun x c h=>by
  have h':(cellsFrom (s.heap.objs.size+1) scope.names (closL X.env.cells scope.names [])).lookup x=some c:=h
  rw[cellsFrom_app,List.lookup_append]at h'
  cases q:(cellsFrom (s.heap.objs.size+1) scope.names []).lookup x with
  |some d=>rw[q]at h';exact .inl h'
  |none=>rw[q]at h';exact .inr ⟨rfl,hcl x c h'⟩
 have newC:∀x c,(cellsFrom (s.heap.objs.size+1) scope.names []).lookup x=some c->(compHeap s.heap scope.names).IsCell c none/\s.heap.objs.size+1<=c:=fun x c h=>ok.empty x c (PySem.mem_of_lookup h)
 have oldC:∀x c,X.env.cells.lookup x=some c->c<s.heap.objs.size:=fun x c h=>let⟨_,q⟩:=I.cell x c h;q.lt
 have keep:∀b o,s.heap.get? b=some o->(compHeap s.heap scope.names).get? b=some o:=fun b o e=>pushCells_keeps _ _ b o (Heap.get?_push_of_some _ e)
 have fresh:∀b,s.heap.objs.size<=b->H b=none:=fun b hb=>I.hok.fresh hb
 have loc0:(X.comp scope s H ex).env.locals=s.heap.objs.size:=rfl
 refine⟨⟨I.ok.mod,S.kind,I.ok.glob,?_,Nat.le_refl _,fun x y c h1 h2=>?_,fun x hx=>?_,fun x c hf h=>?_,I.ok.hd,I.ok.frames,.inl rfl,fun b hb=>?_,I.bs,Nat.le_trans I.ok.bsz I.sz,fun b o e hb=>?_,fun b hb=>?_,I.stack,I.stkFree⟩,
  rfl,I.bare,Un.kept keep,⟨fun _=>none,?_,fun i x v h1 h2 h3=>?_⟩,fun x c h=>?_,fresh _ (Nat.le_refl _),fun x c h=>?_,fun p hp=>absurd (show p∈([]:List (Addr×Obj)) from hp) (by simp),I.hok.kept keep,?_⟩
 .show X.env.builtins=_
  exact I.ok.blt
 .rcases lk x c h1 with q1|⟨_,q1⟩<;>rcases lk y c h2 with q2|⟨_,q2⟩
  .exact name_of_addr ok.apart (PySem.mem_of_lookup q1) (PySem.mem_of_lookup q2)
  .exact absurd (Nat.lt_of_lt_of_le (oldC y c q2) (Nat.le_trans (Nat.le_succ _) (newC x c q1).2)) (Nat.lt_irrefl _)
  .exact absurd (Nat.lt_of_lt_of_le (oldC x c q1) (Nat.le_trans (Nat.le_succ _) (newC y c q2).2)) (Nat.lt_irrefl _)
  .exact I.ok.inj x y c q1 q2
 .have hx':(relabel scope X.env).names.lookup x=some .cell\/(relabel scope X.env).names.lookup x=some .free:=hx
  have fin:∀k,scope.names.lookup x=some k->(k=.cell\/k=.free)->∃c,(cellsFrom (s.heap.objs.size+1) scope.names (closL X.env.cells scope.names [])).lookup x=some c:=fun k hk hkk=>by
   rw[cellsFrom_app,List.lookup_append]
   rcases hkk with rfl|rfl
   .obtain⟨c,q⟩:=cell_has (n:=s.heap.objs.size+1) hk
    exact⟨c,by rw[q];rfl⟩
   .obtain⟨c,q⟩:=hcf x (PySem.mem_of_lookup hk)
    cases z:(cellsFrom (s.heap.objs.size+1) scope.names []).lookup x with
    |some d=>exact⟨d,rfl⟩
    |none=>exact⟨c,by rw[q];rfl⟩
  rcases hx' with hx'|hx'<;>obtain⟨k,hk,e⟩:=relabel_lookup hx'
  .rcases e with e|⟨e,_⟩
   .exact fin k hk (.inl e.symm)
   .exact fin k hk (.inr e)
  .rcases e with e|⟨e,_⟩
   .exact fin k hk (.inr e.symm)
   .exact fin k hk (.inr e)
 .rcases lk x c h with q|⟨q,_⟩
  .have:=(newC x c q).2
   show s.heap.objs.size<=c
   omega
  .have hf':((cellsFrom (s.heap.objs.size+1) scope.names []).lookup x).isSome=true:=hf
   rw[q]at hf'
   cases hf'
 .refine⟨?_,fun x c h=>?_⟩
  .show b≠s.heap.objs.size
   exact Nat.ne_of_lt (hlt b hb)
  .rcases lk x c h with q|⟨_,q⟩
   .intro e
    rw[e]at q
    exact absurd (Nat.lt_of_lt_of_le (hlt b hb) (Nat.le_trans (Nat.le_succ _) (newC x b q).2)) (Nat.lt_irrefl _)
   .exact(hex b hb).2.2.2.2.1 x c q
 .rcases(hex b hb).2.2.2.1 with z|z
  .exact I.ok.noex b o e z
  .exact absurd (Nat.lt_of_lt_of_le (Heap.lt_size e) (Nat.le_trans I.ok.bsz z)) (Nat.lt_irrefl _)
 .intro z
  rcases List.mem_cons.mp (I.stkSub b z)with e|e
  .exact(hex b hb).2.1 e
  .exact(hex b hb).2.2.1 e
 .show(compHeap s.heap scope.names).Ns s.heap.objs.size _
  exact(Heap.Ns.new s.heap (.type "dict")).keeps (pushCells_keeps _ _)
 .obtain⟨h2,hno⟩:=clr_get h2
  have h3':(relabel scope X.env).names.lookup x=some .local\/(relabel scope X.env).names.lookup x=some .cell\/(relabel scope X.env).names.lookup x=some .free:=h3
  have h3k:∃k',(relabel scope X.env).names.lookup x=some k'/\(k'=.local\/k'=.cell\/k'=.free):=by
   rcases h3' with z|z|z
   .exact⟨_,z,.inl rfl⟩
   .exact⟨_,z,.inr (.inl rfl)⟩
   .exact⟨_,z,.inr (.inr rfl)⟩
  obtain⟨k',hk',hkk⟩:=h3k
  obtain⟨k,hk,e⟩:=relabel_lookup hk'
  have hfree:k=.free:=by
   rcases e with e|⟨e,_⟩
   .subst e
    rcases hkk with z|z|z
    .subst z;exact absurd (hown i x h1 (.inl hk)) hno
    .subst z;exact absurd (hown i x h1 (.inr hk)) hno
    .exact z
   .exact e
  subst hfree
  have hm:=PySem.mem_of_lookup hk
  have hv:Vis X.env.scope x:=by
   rcases S.free x hm with z|z
   .exact .inr (.inl z)
   .exact .inr (.inr z)
  obtain⟨m,hn,hl⟩:=I.loc
  obtain⟨u,r,l⟩:=hl i x v h1 h2 hv
  refine⟨u,r,?_⟩
  have hkind:(X.comp scope s H ex).env.kindOf x=some .cell\/(X.comp scope s H ex).env.kindOf x=some .free:=by
   show(relabel scope X.env).names.lookup x=some .cell\/(relabel scope X.env).names.lookup x=some .free
   rcases e with e|⟨_,e⟩
   .subst e;exact .inr hk'
   .subst e;exact .inl hk'
  have hcc:∃c,X.env.cells.lookup x=some c/\s.heap.IsCell c (some u):=by
   rcases l with⟨kk,_⟩|⟨_,c,e1,e2⟩
   .rcases S.free x hm with z|z
    .rw[z]at kk;cases kk
    .rw[z]at kk;cases kk
   .exact⟨c,e1,e2⟩
  obtain⟨c,e1,e2⟩:=hcc
  refine .inr ⟨hkind,c,?_,e2.keeps keep⟩
  show(cellsFrom (s.heap.objs.size+1) scope.names (closL X.env.cells scope.names [])).lookup x=some c
  rw[cellsFrom_app,List.lookup_append]
  have hnone:(cellsFrom (s.heap.objs.size+1) scope.names []).lookup x=none:=by
   cases z:(cellsFrom (s.heap.objs.size+1) scope.names []).lookup x with
   |none=>rfl
   |some d=>
    exfalso
    have q1:=S.one x (cellsFrom_mem (PySem.mem_of_lookup z))
    rw[hk]at q1
    cases q1
  obtain⟨c',q⟩:=hcf x hm
  have q':=hcl x c' q
  rw[e1]at q'
  cases q'
  rw[hnone,q]
  rfl
 .rcases lk x c h with q|⟨_,q⟩
  .exact⟨_,(newC x c q).1⟩
  .obtain⟨v,z⟩:=I.cell x c q
   exact⟨v,z.keeps keep⟩
 .rcases lk x c h with q|⟨_,q⟩
  .have:=(newC x c q).2
   exact fresh c (by omega)
  .exact I.freeC x c q
 .rw[clr_len]
  exact I.len
end
section
variable {X:Cx} {pins:List (Addr×Obj)} {σ:St} {H H':Hp} {s s':Shared} {scope:Scope} {ex:List Addr} {own:List Nat}
theorem hok_but {P:Program} {w:World} {h h':Heap} {a:Addr} (x:HOk P w H h) (hn:H a=none) (hs:∀b o,b≠a->h.get? b=some o->h'.get? b=some o):HOk P w H h':=fun b ob e=>
 (x b ob e).stay (fun c w' hc q=>hs c w' (by
  rintro rfl
  rcases hc with rfl|hc
  .rw[hn]at e;cases e
  .rw[hn]at hc;cases hc) q) (fun _ q=>q) fun _ _ q=>q
theorem comp_end {σ':St} {pins':List (Addr×Obj)} {h':Heap} (I:Inv X pins σ H s) (hex:∀b∈ex,FpOk X pins H b) (J:Inv (X.comp scope s H ex) pins' σ' H' s') (hs:Heap.SameBut s.heap.objs.size s'.heap h'):
  Inv X pins σ H' { s' with heap:=h' }:=by
 have ne:∀b o,s.heap.get? b=some o->b≠s.heap.objs.size:=fun b o e=>Nat.ne_of_lt (Heap.lt_size e)
 have u:Un (frs X.stack) ex H H' s.heap s'.heap:=J.base
 have hf:H' s.heap.objs.size=none:=J.free
 refine I.call' (s':={ s' with heap:=h' }) (ch:=ex) J.os ⟨fun b o e n hb hx=>?_,fun b o e n hb hx=>?_,u.free,fun b o e hx=>?_,u.tups,u.frzs,u.tbls⟩ (hok_but J.hok hf fun b o hb e=>(hs.2 b hb).trans e) J.bare fun b hb=>?_
 .exact(hs.2 b (ne b o e)).trans (u.keep b o e n hb hx)
 .obtain⟨sl,q⟩:=u.slot b o e n hb hx
  exact⟨sl,(hs.2 b (ne b o e)).trans q⟩
 .obtain⟨o',q⟩:=u.there b o e hx
  exact⟨o',(hs.2 b (ne b o e)).trans q⟩
 .obtain⟨f0,f1,f2,f3,f4,f5⟩:=hex b hb
  exact⟨f3,f1,f4,f5⟩
end
def PTs (X:Cx) (ifs:List Expr) (t:TT):Prop:=∀(pins:List (Addr×Obj)) (s:Shared) (σ:St) (H:Hp) (Q:Bool->Hp->Prop),Inv X pins σ H s->t σ H Q->
 wpAny (model X.prog X.w) X.A (forIn ifs true fun c r=>if r=true then do let ok <- isTrue c X.env (eval c X.env);pure (ForInStep.yield ok)else pure (ForInStep.yield r)) (TP X pins σ Q) X.xe s
theorem pts_nil {X:Cx}:PTs X [] (fun _ H Q=>Q true H):=fun pins s σ H Q I h=>wpAny_tests_nil ⟨H,I,h⟩
theorem pts_one {X:Cx} {c:Expr} {t:TT} (hc:PT X c t):PTs X [c] t:=fun pins s σ H Q I h=>wpAny_tests_one (hc pins s σ H Q I h)
def Ext (ws:List Nat) (σ σ':St):Prop:=σ'.length=σ.length/\∀j,j∉ws->σ'[j]?=σ[j]?
theorem Ext.refl {ws:List Nat} {σ:St}:Ext ws σ σ:=⟨rfl,fun _ _=>rfl⟩
theorem Ext.trans {ws:List Nat} {σ σ1 σ2:St} (a:Ext ws σ σ1) (b:Ext ws σ1 σ2):Ext ws σ σ2:=⟨b.1.trans a.1,fun j hj=>(b.2 j hj).trans (a.2 j hj)⟩
theorem Ext.mono {ws ws':List Nat} {σ σ1:St} (a:Ext ws σ σ1) (h:∀j∈ws,j∈ws'):Ext ws' σ σ1:=⟨a.1,fun j hj=>a.2 j fun z=>hj (h j z)⟩
theorem Ext.clr {ws:List Nat} {σ:St}:Ext ws σ (clr ws σ):=⟨clr_len _ _,fun j hj=>clr_out hj⟩
theorem Ext.back {ws:List Nat} {σ σ':St} (a:Ext ws (L2.clr ws σ) σ') (i:Nat) (v:V) (h:(L2.clr ws σ)[i]?=some (some v)):σ'[i]?=some (some v):=by
 obtain⟨_,q⟩:=clr_get h
 rw[a.2 i q]
 exact h
def GExt (ws:List Nat) (g:TG):Prop:=∀(x:V) (σ:St) (H:Hp) (Q:St->Hp->Prop),g x σ H Q->g x σ H fun σ2 H2=>Q σ2 H2/\Ext ws σ σ2
theorem gext_name {i:Nat} {ws:List Nat} (h:i∈ws):GExt ws (gName i):=fun x σ H Q q=>⟨q,by simp,fun j hj=>by
 have:i≠j:=fun z=>hj (z ▸ h)
 rw[List.getElem?_set_ne this]⟩
noncomputable def turnCode (e:Expr) (d:Nat) (tg iter:Expr) (ifs:List Expr) (nx:Sem Unit) (it acc:Value) (env:Env):Sem Fin:=do
 standAt iter.pos
 match <- pyNext it with
 |none=>pure (.done .next)
 |some v=>
  letOwnedTupleGo tg it v
  assign tg env v
  let mut ok:=true
  for c in ifs do
   if ok then ok <- isTrue c env (eval c env)
  if ok then nx
  again (.compLoop e d it acc env)
noncomputable abbrev TL (α:Type):=St->α->Hp->(α->Hp->Prop)->Prop
def CompRun {α:Type} (X:Cx) (D:Addr) (Is:α->Obj->Prop) (ws:List Nat) (code:Sem Unit) (t:TL α):Prop:=
 ∀(pins:List (Addr×Obj)) (s:Shared) (σ:St) (H:Hp) (a:α) (o:Obj) (N:α->Hp->Prop),Inv X pins σ H s->FpOk X pins H D->s.heap.get? D=some o->Is a o->t σ a H N->
  wpAny (model X.prog X.w) X.A code (fun _ s'=>∃σ' a' o' H',Inv X pins σ' H' s'/\Ext ws σ σ'/\s'.heap.get? D=some o'/\Is a' o'/\H' D=none/\N a' H') (fun _ _=>False) s
noncomputable def tClause {α:Type} (ws:List Nat) (g:TG) (tc:TT) (rest:TL α) (J:It):TL α:=fun σ a H1 N=>
 ∃W:Nat->Nat->α->Hp->Prop,(∃m,W 0 m a H1)/\∀i m b H,W i m b H->
  (J.stop i H/\N b H)\/(J.go i H/\∀x H',J.yld i H x H'->g x (clr ws σ) H' fun σ2 H2=>tc σ2 H2 fun ok H3=>
   if ok=true then rest σ2 b H3 (fun c H4=>∃m',m'<m/\W (i+1) m' c H4)else ∃m',m'<m/\W (i+1) m' b H3)
theorem comp_loop {α:Type} {Is:α->Obj->Prop} {X:Cx} {e:Expr} {d:Nat} {tg iter:Expr} {ifs:List Expr} {nx:Sem Unit} {it D:Addr} {fp:List Addr} {tn:Nat->Heap->Prop} {J:It} {g:TG} {tc:TT} {rest:TL α} {ws ws':List Nat}
  (hxe:X.xe=fun _ _=>False) (hcalm:X.calm=true)
  (hq:(Code.compLoop e d (.ref it) (.ref D) X.env).quiet=true) (hu:X.A.under (Code.compLoop e d (.ref it) (.ref D) X.env)=X.A)
  (hT:(model X.prog X.w).den (.compLoop e d (.ref it) (.ref D) X.env)=(turnCode e d tg iter ifs nx (.ref it) (.ref D) X.env).onRaise (fun x=>do noteFrame x X.env;theTreesLotGoes x))
  (T:Turn X.prog X.w X.K tg J fp it tn) (hg:PG X tg g) (hge:GExt ws g) (ht:PTs X ifs tc) (hn:CompRun X D Is ws' nx rest) (hws:∀j∈ws',j∈ws) (hIs:∀a o,Is a o->∀v,o.data≠.cell v) (hDf:D∉fp)
  {pins:List (Addr×Obj)} {s:Shared} {σ:St} {H:Hp} {a:α} {o:Obj} {N:α->Hp->Prop} (I:Inv X pins σ H s) (hf:∀b∈fp,FpOk X pins H b) (hD:FpOk X pins H D) (ho:s.heap.get? D=some o) (ha:Is a o) (h0:tn 0 s.heap)
  (hw:tClause ws g tc rest J σ a H N):
  codeAny (model X.prog X.w) X.A (.compLoop e d (.ref it) (.ref D) X.env) (fun r s'=>r=.ok .next/\∃a' o' H',Inv X pins (clr ws σ) H' s'/\s'.heap.get? D=some o'/\Is a' o'/\H' D=none/\N a' H') s:=by
 obtain⟨W,⟨m0,w0⟩,turn⟩:=hw
 have stat:∀{H':Hp} {pl:List (Addr×Obj)},(∀b∈D :: fp,H' b=none)->(∀b∈D :: fp,FpOk X pins H' b):=fun {H' pl} hn b hb=>by
  rcases List.mem_cons.mp hb with rfl|hb'
  .exact⟨hn _ List.mem_cons_self,hD.2⟩
  .exact⟨hn b hb,(hf b hb').2⟩
 refine codeAny_loop hq (fun n s'=>∃i b ob H',Inv X pins (clr ws σ) H' s'/\tn i s'.heap/\(∀b∈D :: fp,H' b=none)/\s'.heap.get? D=some ob/\Is b ob/\W i n b H') ?_ m0
  ⟨0,a,o,H,I.weak (clr_len _ _) (fun i v q=>(clr_get q).1),h0,fun b hb=>by
   rcases List.mem_cons.mp hb with rfl|hb'
   .exact hD.1
   .exact(hf b hb').1,ho,ha,w0⟩
 rintro n s3 ⟨i,b,ob,H3,I3,st3,fr3,o3,is3,w3⟩
 rw[hu,hT]
 refine wpAny_noted ?_
 have hE:∀{β:Type} {c:Sem β} {Q:β->Shared->Prop} {s:Shared} {E:Value->Shared->Prop},wpAny (model X.prog X.w) X.A c Q (fun _ _=>False) s->wpAny (model X.prog X.w) X.A c Q E s:=fun h=>wpAny_mono h (fun _ _ q=>q) fun _ _ q=>q.elim
 refine hE ?_
 unfold turnCode
 refine wpAny_bind (wpAny_standAt (wpAny_bind ?_))
 have hxeE:∀{β:Type} {c:Sem β} {Q:β->Shared->Prop} {s:Shared},wpAny (model X.prog X.w) X.A c Q X.xe s->wpAny (model X.prog X.w) X.A c Q (fun _ _=>False) s:=fun h=>by rw[hxe]at h;exact h
 have pD:Inv X (pins++pinsAt [D] s3.heap) (clr ws σ) H3 s3:=I3.pinned (fun b hb=>by
  have e:b=D:=by simpa using hb
  subst e
  exact stat (pl:=[]) fr3 b List.mem_cons_self) (fun b hb=>by
  have e:b=D:=by simpa using hb
  subst e
  exact⟨ob,o3,hIs _ _ is3⟩)
 have mD:(D,ob)∈pinsAt [D] s3.heap:=mem_pinsAt (by simp) o3
 have fpD:∀{H':Hp},(∀b∈fp,H' b=none)->∀b∈fp,FpOk X (pins++pinsAt [D] s3.heap) H' b:=fun {H'} hn b hb=>by
  obtain⟨_,f1,f2,f3,f4,f5⟩:=hf b hb
  refine⟨hn b hb,f1,f2,f3,f4,fun p hp=>?_⟩
  rcases List.mem_append.mp hp with q|q
  .exact f5 p (List.mem_append_left _ q)
  .rcases List.mem_append.mp q with q|q
   .exact f5 p (List.mem_append_right _ q)
   .have e:p.1=D:=by simpa using(of_pinsAt q).1
    rw[e]
    rintro rfl
    exact hDf hb
 have fr3':∀b∈fp,H3 b=none:=fun b hb=>fr3 b (List.mem_cons_of_mem _ hb)
 rcases turn i n b H3 w3 with⟨stop,qn⟩|⟨go,step⟩
 .refine thn (T.done X rfl rfl rfl hcalm i _ s3 _ H3 _ pD (fpD fr3') st3 stop) fun r s4 ⟨hr,I4⟩=>?_
  subst hr
  have q4:=I4.pin (D,ob) (List.mem_append_right _ (List.mem_append_right _ mD))
  exact wpAny_pure ⟨rfl,b,ob,H3,I4.unpinned,q4.1,is3,q4.2.1,qn⟩
 .refine thn (T.item X rfl rfl rfl hcalm i _ s3 _ H3 _ pD (fpD fr3') st3 go) fun r s4 ⟨u,hr,h4⟩=>?_
  subst hr
  refine wpAny_bind (thn h4 fun _ s5 ⟨x,H5,I5,r5,y5,st5,fr5⟩=>?_)
  have I5':=I5.pinned (fpD fr5) (T.obj _ _ st5)
  refine wpAny_bind (thn (hxeE (hg _ s5 _ H5 x u _ I5' r5 (hge x _ H5 _ (step x H5 y5)))) fun _ s6 ⟨σ6,H6,I6,q6,x6⟩=>?_)
  refine wpAny_bind (thn (hxeE (ht _ s6 σ6 H6 _ I6 q6)) fun ok s7 ⟨H7,I7,q7⟩=>?_)
  have q7D:=I7.pin (D,ob) (List.mem_append_right _ (List.mem_append_left _ (List.mem_append_right _ mD)))
  have q7f:∀b∈fp,∀o,s5.heap.get? b=some o->s7.heap.get? b=some o/\H7 b=none:=fun b hb o e =>
   let q:=I7.pin (b,o) (List.mem_append_right _ (List.mem_append_right _ (mem_pinsAt hb e)))
   ⟨q.1,q.2.1⟩
  have st7:tn (i+1) s7.heap:=T.keep _ _ _ st5 fun b hb o e=>(q7f b hb o e).1
  have fr7:∀b∈fp,H7 b=none:=fun b hb=>by
   obtain⟨o,e,_⟩:=T.obj _ _ st5 b hb
   exact(q7f b hb o e).2
  have I7':Inv X pins σ6 H7 s7:=I7.unpinned.unpinned
  cases ok with
  |false=>
   have q7':∃m',m'<n/\W (i+1) m' b H7:=q7
   obtain⟨m',hm,w7⟩:=q7'
   refine wpAny_pure ⟨rfl,m',hm,i+1,b,ob,H7,I7'.weak ?_ x6.back,st7,fun c hc=>?_,q7D.1,is3,w7⟩
   .rw[x6.1]
   .rcases List.mem_cons.mp hc with rfl|hc'
    .exact q7D.2.1
    .exact fr7 c hc'
  |true=>
   have I7p:=I7'.pinned (fun b hb=>stat (pl:=[]) (fun c hc=>by
    rcases List.mem_cons.mp hc with rfl|hc'
    .exact q7D.2.1
    .exact fr7 c hc') b (List.mem_cons_of_mem _ hb)) (T.obj _ _ st7)
   have fD:FpOk X (pins++pinsAt fp s7.heap) H7 D:=by
    obtain⟨_,f1,f2,f3,f4,f5⟩:=hD
    refine⟨q7D.2.1,f1,f2,f3,f4,fun p hp=>?_⟩
    rcases List.mem_append.mp hp with q|q
    .exact f5 p (List.mem_append_left _ q)
    .rcases List.mem_append.mp q with q|q
     .exact f5 p (List.mem_append_right _ q)
     .intro z
      exact hDf (z ▸ (of_pinsAt q).1)
   refine wpAny_bind (thn (hn _ s7 σ6 H7 b ob _ I7p fD q7D.1 is3 q7) fun _ s8 ⟨σ8,b8,o8,H8,I8,x8,e8,is8,n8,m',hm,w8⟩=>?_)
   have q8f:∀b∈fp,∀o,s7.heap.get? b=some o->s8.heap.get? b=some o/\H8 b=none:=fun b hb o e =>
    let q:=I8.pin (b,o) (List.mem_append_right _ (List.mem_append_right _ (mem_pinsAt hb e)))
    ⟨q.1,q.2.1⟩
   have x8':Ext ws (clr ws σ) σ8:=x6.trans (x8.mono hws)
   refine wpAny_pure ⟨rfl,m',hm,i+1,b8,o8,H8,I8.unpinned.weak (by rw[x8'.1]) x8'.back,T.keep _ _ _ st7 fun b hb o e=>(q8f b hb o e).1,fun c hc=>?_,e8,is8,w8⟩
   rcases List.mem_cons.mp hc with rfl|hc'
   .exact n8
   .obtain⟨o,e,_⟩:=T.obj _ _ st7 c hc'
    exact(q8f c hc' o e).2
def IsL (xs:List V) (o:Obj):Prop:=xs.length<=sizeLine/\∃(its:List Value) (n:Nat),Vals xs its/\o={ cls:=.type "list",data:=.seq its.toArray n }
theorem isL_data (xs:List V) (o:Obj) (h:IsL xs o) (v:Option Value):o.data≠.cell v:=by
 obtain⟨_,its,n,_,rfl⟩:=h
 intro z
 cases z
noncomputable def tEmit (te:TE):TL (List V):=fun σ xs H N=>te σ H fun v H'=>xs.length<sizeLine/\N (xs++[v]) H'
theorem run_emit {X:Cx} {D:Addr} {elt:Expr} {te:TE} (hxe:X.xe=fun _ _=>False) (he:PE X elt te):CompRun X D IsL [] (do let _ <- call (.builtin "list.append") [.ref D,<- eval elt X.env]) (tEmit te):=by
 intro pins s σ H xs o N I hD ho hi hq
 have I1:Inv X (pins++pinsAt [D] s.heap) σ H s:=I.pinned (fun b hb=>by
  have e:b=D:=by simpa using hb
  subst e
  exact hD) (fun b hb=>by
  have e:b=D:=by simpa using hb
  subst e
  exact⟨o,ho,isL_data _ _ hi⟩)
 have h1:=he _ s σ H _ I1 hq
 rw[hxe]at h1
 refine wpAny_bind (thn h1 fun u s1 ⟨v,H1,J1,r1,z1,n1⟩=>?_)
 have q1:=J1.pin (D,o) (List.mem_append_right _ (List.mem_append_right _ (mem_pinsAt (by simp) ho)))
 obtain⟨zx,its,n,rv,rfl⟩:=hi
 have hl:=rv.length
 refine wpAny_bind (wpAny_list_append_plain (items:=its.toArray) ⟨n,q1.1⟩ (fun h' hp hs=>?_) (by rw[List.size_toArray,<- hl];exact zx))
 obtain⟨_,f1,f2,f3,f4,f5⟩:=hD
 have J2:Inv X pins σ H1 { s1 with heap:=h' }:=J1.unpinned.turned (it:=D) (t':=s1.toks) (fun b o hb e=>(hs.2 b hb).trans e) q1.2.1 f1 f3 f4 f5
 obtain⟨n',hp⟩:=hp
 refine wpAny_pure ⟨σ,xs++[v],_,H1,J2,Ext.refl,hp,⟨?_,its++[u],n',rv.append (.cons r1 .nil),?_⟩,q1.2.1,n1⟩
 .rw[List.length_append];exact z1
 .simp
theorem start_ok {M:Model} {A:Around} {e:Expr} {d:Nat} {it acc:Value} {env:Env} {R:Result->Shared->Prop} {s:Shared}
  (hq:(Code.compStart e d it acc env).quiet=true) (hu:A.under (Code.compStart e d it acc env)=A) (hql:∀it',(Code.compLoop e d it' acc env).quiet=true)
  (hden:M.den (.compStart e d it acc env)=(compStart e d it acc env).onRaise (fun x=>do noteFrame x env;standAt theWindowsPlace)) (hg:∃g,(clausesOf e)[d]?=some g/\g.is_async=0)
  (h0:codeAny M A (.compLoop e d it acc env) R s) (h1:∀E,wpAny M A (pyIter it) (fun it' s'=>it'=it/\s'=s) E s):codeAny M A (.compStart e d it acc env) R s:=by
 refine codeAny_of_tree ?_
 rw[hu,hden]
 refine wpAny_notedAt ?_
 obtain⟨g,eg,ea⟩:=hg
 unfold compStart
 rw[eg]
 have e1:((some g:Option Comprehension).elim false (fun x=>x.is_async != 0))=false:=by
  show(g.is_async != 0)=false
  rw[ea];rfl
 rw[e1]
 show wpAny _ _ (ask >>= _) _ _ s
 refine wpAny_bind (wpAny_askSetting (wpAny_ite ?_))
 have fin:wpAny M A (again (.compLoop e d it acc env)) (fun fin s'=>match fin with | .done f=>R (.ok f) s' | .again c=>c.quiet=true/\codeAny M A c R s') (notedBy M A env fun x s'=>R (.error x) s') s:=wpAny_pure ⟨hql it,h0⟩
 split
 .first
   |exact fin
   |exact wpAny_bind fin
   |exact wpAny_bind (wpAny_pure fin)
 .refine wpAny_bind (wpAny_rule ?_)
  refine wpAny_bind (wpAny_standAt ?_)
  refine wpAny_bind (wpAny_mono (h1 _) (fun it' s' q=>?_) fun _ _ q=>q)
  obtain⟨rfl,rfl⟩:=q
  exact fin
theorem clr_idem (own:List Nat) (σ:St):clr own (clr own σ)=clr own σ:=by
 apply List.ext_getElem?
 intro i
 by_cases h:i∈own
 .have z:∀τ:St,(clr own τ)[i]?=none\/(clr own τ)[i]?=some none:=fun τ=>by
   cases q:(clr own τ)[i]? with
   |none=>exact .inl rfl
   |some o=>
    cases o with
    |none=>exact .inr rfl
    |some v=>exact absurd h (clr_get q).2
  have hl:(clr own (clr own σ)).length=(clr own σ).length:=clr_len _ _
  rcases z (clr own σ)with a|a<;>rcases z σ with b|b<;>rw[a,b]
  .have q1:=List.getElem?_eq_none_iff.mp a
   have q2:=(List.getElem?_eq_some_iff.mp b).1
   omega
  .have q1:=List.getElem?_eq_none_iff.mp b
   have q2:=(List.getElem?_eq_some_iff.mp a).1
   omega
 .rw[clr_out h]
noncomputable def tNest {α:Type} (wi:TI) (c:It->TL α):TL α:=fun σ a H N=>wi σ H fun J H1=>c J σ a H1 N
noncomputable def tComp (own:List Nat) (wi:TI) (g:TG) (tc:TT) (rest:TL (List V)):TE:=fun σ H Q=>wi σ H fun J H1=>tClause own g tc rest J σ [] H1 fun xs H2=>∀p,H2 p=none->Q (.ref p) (upd H2 p (.lst xs))
structure CompIn (X:Cx) (e:Expr) (scope:Scope) (tg:Expr) (iter:Expr) (ifs:List Expr) (nx:Addr->Env->Sem Unit) (g:TG) (tc:TT) (rest:TL (List V)) (own:List Nat):Prop where
 sc:CompSc X scope
 ow:∀i x,X.N[i]?=some x->(scope.names.lookup x=some .local\/scope.names.lookup x=some .cell)->i∈own
 cl:∃gs,clausesOf e=⟨tg,iter,ifs,0⟩ :: gs
 fs:∀x,foldedSetIterable iter X.env x=pure x
 calm:X.calm=true
 q:∀it D env,(Code.compLoop e 0 it (.ref D) env).quiet=true/\(Code.compStart e 0 it (.ref D) env).quiet=true
 u:∀A it D env,Around.under A (Code.compLoop e 0 it (.ref D) env)=A/\Around.under A (Code.compStart e 0 it (.ref D) env)=A
 T:∀P w it D env,(model P w).den (.compLoop e 0 it (.ref D) env)=(turnCode e 0 tg iter ifs (nx D env) it (.ref D) env).onRaise (fun x=>do noteFrame x env;theTreesLotGoes x)
 S:∀P w it D env,(model P w).den (.compStart e 0 it (.ref D) env)=(compStart e 0 it (.ref D) env).onRaise (fun x=>do noteFrame x env;standAt theWindowsPlace)
 ge:GExt own g
 inn:∀s0 H0 ex D,PG (X.comp scope s0 H0 ex) tg g/\PTs (X.comp scope s0 H0 ex) ifs tc/\∃ws',(∀j∈ws',j∈own)/\CompRun (X.comp scope s0 H0 ex) D IsL ws' (nx D (X.comp scope s0 H0 ex).env) rest
section
variable {X:Cx} {e:Expr} {scope:Scope} {tg iter:Expr} {ifs:List Expr} {nx:Addr->Env->Sem Unit} {g:TG} {tc:TT} {rest:TL (List V)} {own:List Nat} {wi:TI}
theorem comp_all (C:CompIn X e scope tg iter ifs nx g tc rest own) (hi:PI X tg iter wi) {pins:List (Addr×Obj)} {s:Shared} {σ:St} {H:Hp} {R:V->Hp->Prop} (I:Inv X pins σ H s) (hw:tComp own wi g tc rest σ H R)
  {use:Option (Value->Sem Unit)} {Q:Value->Shared->Prop} {pos:Pos}
  (fin:∀(s3 s':Shared) (H0 H':Hp) (ex:List Addr) (D:Addr) (xs:List V) (o:Obj) (σ':St),Inv X pins σ H0 s3->(∀b∈ex,FpOk X pins H0 b)->Inv (X.comp scope s3 H0 ex) [] σ' H' s'->s'.heap.get? D=some o->D<s3.heap.objs.size->X.s₀.heap.objs.size<=D->FpOk X pins H0 D->IsL xs o->H' D=none->R (.ref D) (upd H' D (.lst xs))->
   compPost (model X.prog X.w) X.A X.xe use Q (.ref D) s3.heap.objs.size (.ok .next) s'):
  wpAny (model X.prog X.w) X.A (comprehension e scope X.env pos (newList []) false (eval iter X.env) use) Q X.xe s:=by
 obtain⟨gs,hcl⟩:=C.cl
 refine wpAny_comprehension_free hcl C.fs (closFor fun n hn=>I.ok.has n (C.sc.free n hn)) C.sc.kind C.sc.names ?_
 refine thn (hi pins s σ H _ I hw) fun v s1 h1=>thn h1 fun itv s2 h2=>?_
 obtain⟨it,fp,tn,J,H2,rfl,I2,T,st2,f2,hc⟩:=h2
 refine wpAny_newObj_type (wpAny_compEnv ?_)
 have keep:∀b o,s2.heap.get? b=some o->(s2.heap.push { cls:=.type "list",dict:=none,data:=.seq ([]:List Value).toArray }).get? b=some o:=fun b o e=>Heap.get?_push_of_some _ e
 have I3:Inv X pins σ H2 { s2 with heap:=s2.heap.push { cls:=.type "list",dict:=none,data:=.seq ([]:List Value).toArray } }:=I2.kept (t':=s2.toks) keep
 have hsz:(s2.heap.push { cls:=.type "list",dict:=none,data:=.seq ([]:List Value).toArray }).objs.size=s2.heap.objs.size+1:=Heap.size_push ..
 have fD:FpOk X pins H2 s2.heap.objs.size:=I2.fpOk (Nat.le_refl _) (I2.hok.fresh (Nat.le_refl _))
 have hlt:∀b∈fp,b<s2.heap.objs.size:=fun b hb=>by
  obtain⟨o,e,_⟩:=T.obj _ _ st2 b hb
  exact Heap.lt_size e
 have hDf:s2.heap.objs.size∉fp:=fun z=>Nat.lt_irrefl _ (hlt _ z)
 have hex:∀b∈s2.heap.objs.size :: fp,FpOk X pins H2 b:=fun b hb=>by
  rcases List.mem_cons.mp hb with rfl|hb
  .exact fD
  .exact f2 b hb
 generalize hs3:({ s2 with heap:=s2.heap.push { cls:=.type "list",dict:=none,data:=.seq ([]:List Value).toArray } }:Shared)=s3 at *
 have hs3s:s3.heap.objs.size=s2.heap.objs.size+1:=by rw[<- hs3];exact hsz
 have hlt3:∀b∈s2.heap.objs.size :: fp,b<s3.heap.objs.size:=fun b hb=>by
  rw[hs3s]
  rcases List.mem_cons.mp hb with rfl|hb
  .exact Nat.lt_succ_self _
  .exact Nat.lt_succ_of_lt (hlt b hb)
 have J0:=comp_start (own:=own) I3 hex hlt3 C.sc C.ow
 obtain⟨c1,c2,ws',c4,c5⟩:=C.inn s3 H2 (s2.heap.objs.size :: fp) s2.heap.objs.size
 have kp:∀b o,s2.heap.get? b=some o->(compHeap s3.heap scope.names).get? b=some o:=fun b o e=>pushCells_keeps _ _ b o (Heap.get?_push_of_some _ (by rw[<- hs3];exact keep b o e))
 have oD:(compHeap s3.heap scope.names).get? s2.heap.objs.size=some { cls:=.type "list",dict:=none,data:=.seq ([]:List Value).toArray }:=pushCells_keeps _ _ _ _ (Heap.get?_push_of_some _ (by rw[<- hs3];exact Heap.get?_push_size _ rfl))
 have stat:∀b∈s2.heap.objs.size :: fp,FpOk (X.comp scope s3 H2 (s2.heap.objs.size :: fp)) [] H2 b:=fun b hb=>
  ⟨(hex b hb).1,(J0.ok.exf b hb).1,J0.ok.exfs b hb,.inl hb,(J0.ok.exf b hb).2,fun p hp=>absurd (show p∈([]:List (Addr×Obj)) from hp) (by simp)⟩
 have T':Turn (X.comp scope s3 H2 (s2.heap.objs.size :: fp)).prog (X.comp scope s3 H2 (s2.heap.objs.size :: fp)).w (X.comp scope s3 H2 (s2.heap.objs.size :: fp)).K tg J fp it tn:=T
 have hc':tClause own g tc rest J (clr own σ) [] H2 (fun xs H2=>∀p,H2 p=none->R (.ref p) (upd H2 p (.lst xs))):=by
  obtain⟨W,w0,turn⟩:=hc
  refine⟨W,w0,?_⟩
  rw[clr_idem]
  exact turn
 have st3:tn 0 ({ s3 with heap:=compHeap s3.heap scope.names }:Shared).heap:=T.keep _ _ _ st2 fun b hb o e=>kp b o e
 have L:=comp_loop (X:=X.comp scope s3 H2 (s2.heap.objs.size :: fp)) (Is:=IsL) (D:=s2.heap.objs.size) rfl C.calm (C.q _ _ _).1 (C.u _ _ _ _).1 (C.T _ _ _ _ _) T' c1 C.ge c2 c5 c4 isL_data hDf J0
  (fun b hb=>stat b (List.mem_cons_of_mem _ hb)) (stat _ List.mem_cons_self) oD ⟨Nat.zero_le _,[],0,.nil,rfl⟩ st3 hc'
 have L2:=start_ok (C.q _ _ _).2 (C.u _ _ _ _).2 (fun it'=>(C.q it' _ _).1) (C.S _ _ _ _ _) ⟨_,by rw[hcl];rfl,rfl⟩ L (fun E=>T.self _ 0 _ _ E st3 ⟨rfl,rfl⟩)
 refine codeAny_mono L2 fun r s' h=>?_
 obtain⟨rfl,xs,o',H',J',e',is',n',hN⟩:=h
 exact fin s3 s' H2 H' _ _ xs o' _ I3 hex J' e' (hlt3 _ List.mem_cons_self) I2.sz fD is' n' (hN _ n')
end
section
variable {X:Cx} {pins:List (Addr×Obj)} {σ:St} {H H':Hp} {s s':Shared} {D:Addr} {o:HO}
theorem Inv.track (I:Inv X pins σ H s) (f:FpOk X pins H D) (h0:X.s₀.heap.objs.size<=D) (new:ObjOk X.prog X.w (upd H D o) s.heap D o):Inv X pins σ (upd H D o) s:=by
 obtain⟨f0,f1,f2,f3,f4,f5⟩:=f
 have ne:∀b ob,X.s₀.heap.get? b=some ob->b≠D:=fun b ob e=>Nat.ne_of_lt (Nat.lt_of_lt_of_le (Heap.lt_size e) h0)
 have neT:∀b u,H b=some u->b≠D:=fun b u e z=>by rw[z,f0]at e;cases e
 refine⟨I.ok,I.os,I.bare,⟨I.base.keep,I.base.slot,fun b ob e n hx=>by rw[upd_ne (ne b ob e)];exact I.base.free b ob e n hx,I.base.there,fun b xs e=>?_,fun b ob u e=>?_,fun b ps e=>?_⟩,I.loc,I.cell,?_,fun x c e=>?_,fun p hp=>?_,fun b u e=>?_,I.len⟩
 .have q:=I.base.tups b xs e
  rw[upd_ne (neT b _ q)];exact q
 .have q:=I.base.frzs b ob u e
  rw[upd_ne (neT b _ q)];exact q
 .obtain⟨m,q⟩:=I.base.tbls b ps e
  exact⟨m,by rw[upd_ne (neT b _ q)];exact q⟩
 .rw[upd_ne (Ne.symm f1)];exact I.free
 .rw[upd_ne (f4 x c e)];exact I.freeC x c e
 .obtain⟨e,n,r⟩:=I.pin p hp
  refine⟨e,?_,r⟩
  rw[upd_ne (f5 p hp)];exact n
 .by_cases hb:b=D
  .subst hb
   rw[upd_same]at e;cases e
   exact new
  .rw[upd_ne hb]at e
   exact(I.hok b u e).stay (fun _ _ _ q=>q) (fun c q=>by rw[upd_ne (neT c _ q)];exact q) fun c xs q=>by rw[upd_ne (neT c _ q)];exact q
end
section
variable {X:Cx} {e:Expr} {scope:Scope} {tg iter:Expr} {ifs:List Expr} {nx:Addr->Env->Sem Unit} {g:TG} {tc:TT} {rest:TL (List V)} {own:List Nat} {wi:TI}
theorem pe_comp (C:CompIn X e scope tg iter ifs nx g tc rest own) (hi:PI X tg iter wi) {pos:Pos} (he:eval e X.env=comprehension e scope X.env pos (newList []) false (eval iter X.env)):PE X e (tComp own wi g tc rest):=by
 intro pins s σ H Q I hw
 rw[he]
 refine comp_all C hi I hw fun s3 s' H0 H' ex D xs o σ' I3 hex J e' hlt h0 fD is' n' hR=>?_
 obtain⟨m,hn,_⟩:=J.loc
 refine⟨m,hn,fun h' hs=>?_⟩
 have J2:=comp_end I3 hex J hs
 obtain⟨z,its,n,rv,rfl⟩:=is'
 have neC:D≠s3.heap.objs.size:=Nat.ne_of_lt hlt
 refine⟨.ref D,upd H' D (.lst xs),J2.track (o:=.lst xs) ⟨n',fD.2⟩ h0 ⟨z,its,n,rv,(hs.2 D neC).trans e'⟩,rfl,hR⟩
theorem ps_setcomp (C:CompIn X e scope tg iter ifs nx g tc rest own) (hi:PI X tg iter wi) {i:Nat} {y:Str} {py pos pos2:Pos} (hN:X.N.Nodup) (hy:X.N[i]?=some y) (hx:Loc X.env.scope y) (hf:X.fn y=true\/X.env.scope.names.lookup y=some .local)
  (he:evalThenUse e X.env (assign (.Name y py) X.env)=(do let _ <- comprehension e scope X.env pos2 (newList []) false (eval iter X.env) (some (assign (.Name y py) X.env))))
  (hsw:swapsWith e (some (.Name y py)) pos.line X.env=pure true):PS X (.Assign [.Name y py] e pos) (tAsg (tComp own wi g tc rest) (gName i)):=by
 intro pins s σ H D I hw
 rw[exec_Assign_Name_used _ _ _ _ hsw]
 refine wpAny_bind (wpAny_standAt (wpAny_bind ?_))
 rw[he]
 refine wpAny_bind (thn (Q:=fun _ s'=>SP X pins D .next s') (comp_all C hi I hw fun s3 s' H0 H' ex D' xs o σ' I3 hex J e' hlt h0 fD is' n' hR=>?_) fun _ s' q=>wpAny_pure (wpAny_pure q))
 obtain⟨m,hn,_⟩:=J.loc
 have J2:Inv X pins σ H' s':=comp_end I3 hex J (Heap.SameBut.refl ..)
 obtain⟨z,its,n,rv,rfl⟩:=is'
 have neC:D'≠s3.heap.objs.size:=Nat.ne_of_lt hlt
 have J3:Inv X pins σ (upd H' D' (.lst xs)) s':=J2.track ⟨n',fD.2⟩ h0 ⟨z,its,n,rv,e'⟩
 have fC:FpOk X pins H0 s3.heap.objs.size:=I3.fpOk (Nat.le_refl _) (I3.hok.fresh (Nat.le_refl _))
 refine wpAny_assign_Name (store_ok2 J3 hN hy hx (v:=.ref D') rfl (fun s'' J4 hs=>?_) hf)
 obtain⟨a,hsa,ha⟩:=hs
 have haC:s3.heap.objs.size≠a:=by
  rcases ha with rfl|ha
  .exact fC.2.1
  .exact fun q=>fC.2.2.2.2.1 _ _ ha q.symm
 have hn':s'.heap.Ns s3.heap.objs.size m:=hn
 refine⟨m,hn'.sameBut hsa haC,fun h' hs'=>?_⟩
 have J5:Inv X pins (σ.set i (some (.ref D'))) (upd H' D' (.lst xs)) { s'' with heap:=h' }:=J4.turned (it:=s3.heap.objs.size) (t':=s''.toks) (fun b ob hb q=>(hs'.2 b hb).trans q) (by rw[upd_ne (Ne.symm neC)];exact J.free) fC.2.1 fC.2.2.2.1 fC.2.2.2.2.1 fC.2.2.2.2.2
 exact⟨_,_,J5,hR⟩
end
noncomputable def SItr:Bool->Heap->Addr->Addr->Nat->Prop
 |true,h,it,a,i=>h.IsTupleIter it a i
 |false,h,it,a,i=>h.IsListIter it a i
noncomputable def SObj:Bool->Heap->Addr->Array Value->Prop
 |true,h,a,xs=>h.IsTuple a xs
 |false,h,a,xs=>h.IsList a xs
theorem SItr.obj {k:Bool} {h:Heap} {it a:Addr} {i:Nat} (x:SItr k h it a i):∃o,h.get? it=some o/\o.data=.fields #[.ref a,.int i 0]:=by
 cases k
 .obtain⟨o,e,_,d⟩:=x;exact⟨o,e,d⟩
 .obtain⟨o,e,_,d⟩:=x;exact⟨o,e,d⟩
theorem SItr.at {k:Bool} {h h':Heap} {it a:Addr} {i:Nat} (x:SItr k h it a i) (hk:∀o,h.get? it=some o->h'.get? it=some o):SItr k h' it a i:=by
 cases k
 .obtain⟨o,e,r⟩:=x;exact⟨o,hk o e,r⟩
 .obtain⟨o,e,r⟩:=x;exact⟨o,hk o e,r⟩
theorem SObj.at {k:Bool} {h h':Heap} {a:Addr} {xs:Array Value} (x:SObj k h a xs) (hk:∀o,h.get? a=some o->h'.get? a=some o):SObj k h' a xs:=by
 cases k
 .obtain⟨o,e,r⟩:=x;exact⟨o,hk o e,r⟩
 .obtain⟨o,e,r⟩:=x;exact⟨o,hk o e,r⟩
theorem SObj.lt {k:Bool} {h:Heap} {a:Addr} {xs:Array Value} (x:SObj k h a xs):a<h.objs.size:=by
 cases k
 .obtain⟨o,e,r⟩:=x;exact Heap.lt_size e
 .obtain⟨o,e,r⟩:=x;exact Heap.lt_size e
section
variable {prog:Program} {w:World} {A:Around} {E:Value->Shared->Prop} {s:Shared}
theorem nextOf_item {k:Bool} {it l:Addr} {i:Nat} {items:Array Value} {x:Value} {Q:Value->Shared->Prop} (hit:SItr k s.heap it l i) (hl:SObj k s.heap l items) (hx:items[i]?=some x)
  (hQ:∀h',SItr k h' it l (i+1)->Heap.SameBut it s.heap h'->Q x { s with heap:=h' }):wpAny (model prog w) A (Builtin.SmallTypes.nextOf (.ref it)) Q E s:=by
 cases k
 .exact wpAny_nextOf_list_item hit hl hx hQ
 .have hit:s.heap.IsTupleIter it l i:=hit
  have hl:s.heap.IsTuple l items:=hl
  obtain⟨o,ho,hc,hd⟩:=id hit
  obtain⟨ol,hol,_,nl,hdl⟩:=hl
  unfold Builtin.SmallTypes.nextOf
  refine wpAny_bind (wpAny_callSpecial?_slot (name:=Str.ofString "__next__") hit.typeIs F.slot_tuple_iterator_next
   (wpAny_call_entry F.slot_tuple_iterator_next hit.typeIs F.entry_tuple_iterator_next ?_ (F.args_tuple_iterator_next_1 _)))
  show wpAny _ _ (field (.ref it) 0 >>= _) _ _ s
  refine wpAny_bind (wpAny_field ho hd (x:=.ref l) rfl ?_)
  show wpAny _ _ (if(Value.ref l == Value.none)=true then _ else _) _ _ s
  rw[if_neg (show ¬((Value.ref l == Value.none)=true) from Bool.false_ne_true)]
  show wpAny _ _ (field (.ref it) 1 >>= _) _ _ s
  refine wpAny_bind (wpAny_field ho hd (x:=.int i 0) rfl ?_)
  show wpAny _ _ (seqItems? (.ref l) >>= _) _ _ s
  refine wpAny_bind (wpAny_seqItems hol hdl ?_)
  simp only[Int.toNat_natCast,hx]
  refine wpAny_bind (wpAny_setField ho hd (by simp) (wpAny_pure ⟨x,rfl,wpAny_pure (hQ _ ?_ (Heap.SameBut.update ..))⟩))
  exact⟨_,Heap.get?_update_self _ ho (Obj.isFreed_of_fields (Obj.data_mapFields hd _)),(Obj.cls_mapFields ..).trans hc,by
   rw[Obj.data_mapFields hd];simp[rawInt]⟩
theorem nextOf_end {k:Bool} {it l:Addr} {i:Nat} {items:Array Value} {Q:Value->Shared->Prop} (hh:A.handled=none) (hit:SItr k s.heap it l i) (hl:SObj k s.heap l items) (hx:items[i]?=none)
  (hE:∀h' e,Heap.ExtBut it s.heap h'->(∃o,h'.get? e=some o/\o.cls=.type "StopIteration")->E (.ref e) { s with heap:=h' }):wpAny (model prog w) A (Builtin.SmallTypes.nextOf (.ref it)) Q E s:=by
 cases k
 .exact wpAny_nextOf_list_end hh hit hl hx hE
 .have hit:s.heap.IsTupleIter it l i:=hit
  have hl:s.heap.IsTuple l items:=hl
  obtain⟨o,ho,hc,hd⟩:=id hit
  obtain⟨ol,hol,_,nl,hdl⟩:=hl
  unfold Builtin.SmallTypes.nextOf
  refine wpAny_bind (wpAny_callSpecial?_slot (name:=Str.ofString "__next__") hit.typeIs F.slot_tuple_iterator_next
   (wpAny_call_entry F.slot_tuple_iterator_next hit.typeIs F.entry_tuple_iterator_next ?_ (F.args_tuple_iterator_next_1 _)))
  show wpAny _ _ (field (.ref it) 0 >>= _) _ _ s
  refine wpAny_bind (wpAny_field ho hd (x:=.ref l) rfl ?_)
  show wpAny _ _ (if(Value.ref l == Value.none)=true then _ else _) _ _ s
  rw[if_neg (show ¬((Value.ref l == Value.none)=true) from Bool.false_ne_true)]
  show wpAny _ _ (field (.ref it) 1 >>= _) _ _ s
  refine wpAny_bind (wpAny_field ho hd (x:=.int i 0) rfl ?_)
  show wpAny _ _ (seqItems? (.ref l) >>= _) _ _ s
  refine wpAny_bind (wpAny_seqItems hol hdl ?_)
  simp only[Int.toNat_natCast,hx]
  refine wpAny_bind (wpAny_rule (wpAny_bind (wpAny_setField ho hd (by simp) ?_)))
  show wpAny _ _ (newExc (.type "StopIteration") [] >>= _) _ _ _
  refine wpAny_bind ?_
  simp only[newExc,newTuple]
  refine wpAny_bind (wpAny_newObj_type ?_ (by size_fits))
  refine wpAny_bind (m:=firstArgMember _ _) (wpAny_of_eq (a:=Value.none) (by first|rfl|(simp only[firstArgMember];rfl)) ?_)
  refine wpAny_newObj_type ?_ (by size_fits)
  simp only[raiseNew]
  refine wpAny_bind (wpAny_handled ?_)
  first|rw[show A.in1.handled=none from hh]|rw[hh]
  refine wpAny_bind (wpAny_pure (wpAny_throw ?_))
  exact hE _ _ (((Heap.SameBut.update ..).extBut.push _).push _) ⟨_,Heap.get?_push_size _ rfl,rfl⟩
end
section
variable {prog:Program} {w:World} {A:Around} {E:Value->Shared->Prop} {s:Shared}
end
noncomputable def Its (x:Str):It:=⟨fun i _=>i<x.cps.size,fun i H v H'=>H'=H/\∃c,x.cps[i]?=some c/\v=.str ⟨#[c]⟩,fun i _=>x.cps.size<=i⟩
theorem turn_str {P:Program} {w:World} {K:W.Frag} {tg:Expr} (it:Addr) (x:Str) (ty:String) (t:Tok) (hty:ty="str_ascii_iterator"\/ty="str_iterator"):
  Turn P w K tg (Its x) [it] it (fun i h=>h.IsStrIter it ty x t i) where
 mem:=by simp
 obj:=fun i h st b hb=>by
  have e:b=it:=by simpa using hb
  subst e
  obtain⟨o,e,c,d⟩:=st
  exact⟨o,e,fun v z=>by rw[d]at z;cases z⟩
 keep:=fun i h h' st k=>by
  obtain⟨o,e,r⟩:=st
  exact⟨o,k it (by simp) o e,r⟩
 item:=by
  intro X hP hw hK hc i pins s σ H E I hf st hg
  subst hP hw hK
  obtain⟨f0,f1,f2,f3,f4,f5⟩:=hf it (by simp)
  have hg':i<x.cps.size:=hg
  have hx:x.cps[i]?=some x.cps[i]:=by simp[hg']
  have fin:∀h',h'.IsStrIter it ty x t (i+1)->Heap.SameBut it s.heap h'->∃u,some (Value.str ⟨#[x.cps[i]]⟩ s.toks)=some u/\
    wpAny (model X.prog X.w) X.A (letOwnedTupleGo tg (.ref it) u) (fun _ s2=>∃y H',Inv X pins σ H' s2/\RelV y u/\(Its x).yld i H y H'/\s2.heap.IsStrIter it ty x t (i+1)/\∀b∈[it],H' b=none) E { s with heap:=h',toks:=s.toks+1 }:=fun h' st' sb=>by
   have I1:Inv X pins σ H { s with heap:=h',toks:=s.toks+1 }:=I.turned (fun b o hb e=>(sb.2 b hb).trans e) f0 f1 f3 f4 f5
   obtain⟨o,e,c,d⟩:=id st'
   refine⟨_,rfl,go_of (s:={ s with heap:=h',toks:=s.toks+1 }) e c d ?_ ⟨.str ⟨#[x.cps[i]]⟩,H,I1,⟨_,rfl⟩,⟨rfl,_,hx,rfl⟩,st',fun b hb=>(hf b hb).1⟩⟩
   rcases hty with rfl|rfl<;>decide
  rcases hty with rfl|rfl
  .exact wpAny_pyNext_ascii_item st hx fin
  .exact wpAny_pyNext_wide_item st hx fin
 done:=by
  intro X hP hw hK hc i pins s σ H E I hf st hg
  subst hP hw hK
  obtain⟨f0,f1,f2,f3,f4,f5⟩:=hf it (by simp)
  have hg':x.cps.size<=i:=hg
  have hx:x.cps[i]?=none:=by simp[hg']
  have fin:∀h',Heap.ExtBut it s.heap h'->(none:Option Value)=none/\Inv X pins σ H { s with heap:=h' }:=fun h' eb=>⟨rfl,I.turned (t':=s.toks) (fun b o hb e=>eb b o hb e) f0 f1 f3 f4 f5⟩
  rcases hty with rfl|rfl
  .exact wpAny_pyNext_ascii_end (I.ok.hd hc) st hx fin
  .exact wpAny_pyNext_wide_end (I.ok.hd hc) st hx fin
 self:=fun _ _ _ _ _ st h=>by
  rcases hty with rfl|rfl
  .exact wpAny_pyIter_striter_ascii st h
  .exact wpAny_pyIter_striter_wide st h
def Sq (k:Bool) (K:W.Frag) (H:Hp) (a:Addr) (xs:List V):Prop:=match k with
 |true=>SqT K H a xs
 |false=>SqL K H a xs
noncomputable def Itz2 (k j:Bool) (K:W.Frag) (a b:Addr):It:=
 ⟨fun i H=>∃xs ys x y,Sq k K H a xs/\Sq j K H b ys/\xs[i]?=some x/\ys[i]?=some y,
  fun i H v H'=>∃p x y,v=.ref p/\H p=none/\(∀xs,Sq k K H a xs->xs[i]?=some x)/\(∀ys,Sq j K H b ys->ys[i]?=some y)/\H'=upd H p (.tup [x,y]),
  fun i H=>∃xs ys,Sq k K H a xs/\Sq j K H b ys/\(xs.length<=i\/ys.length<=i)⟩
section
variable {X:Cx} {tg:Expr}
noncomputable def iVal (K:W.Frag) (tl:TE):TI:=fun σ H R=>tl σ H fun x H1=>
 (∃a,x=.ref a/\(∃xs,SqL K H1 a xs)/\R (Itl K a) H1)\/(∃a,x=.ref a/\(∃xs,SqT K H1 a xs)/\R (Itt K a) H1)\/∃z,x=.str z/\R (Its z) H1
theorem pi_val {l:Expr} {tl:TE} (hl:PE X l tl):PI X tg l (iVal X.K tl):=by
 intro pins s σ H R I h
 refine thn (hl pins s σ H _ I h) fun v s1 ⟨x,H1,I1,r1,q1⟩=>?_
 rcases q1 with⟨a,e,⟨xs,hq⟩,q⟩|⟨a,e,⟨xs,hq⟩,q⟩|⟨z,e,q⟩
 .subst e
  cases r1
  obtain⟨its,rv,p,hz⟩:=I1.list hq
  refine wpAny_pyIter_list p.isList ?_
  refine⟨s1.heap.objs.size,[s1.heap.objs.size],_,_,H1,rfl,I1.kept (t':=s1.toks) fun b o e=>Heap.get?_push_of_some _ e,turn_list a _,⟨_,Heap.get?_push_size _ rfl,rfl,rfl⟩,fun b hb=>?_,q⟩
  have e:b=s1.heap.objs.size:=by simpa using hb
  subst e
  exact I1.fpOk (Nat.le_refl _) (I1.hok.fresh (Nat.le_refl _))
 .subst e
  cases r1
  obtain⟨its,rv,p,hz⟩:=I1.tuple hq
  refine wpAny_pyIter_tuple (show s1.heap.IsTuple a its.toArray from p) ?_
  refine⟨s1.heap.objs.size,[s1.heap.objs.size],_,_,H1,rfl,I1.kept (t':=s1.toks) fun b o e=>Heap.get?_push_of_some _ e,turn_tuple a _,⟨_,Heap.get?_push_size _ rfl,rfl,rfl⟩,fun b hb=>?_,q⟩
  have e:b=s1.heap.objs.size:=by simpa using hb
  subst e
  exact I1.fpOk (Nat.le_refl _) (I1.hok.fresh (Nat.le_refl _))
 .subst e
  obtain⟨t,rfl⟩:=r1
  have fin:∀(ty:String),(ty="str_ascii_iterator"\/ty="str_iterator")->PIE X pins σ tg R (.ref s1.heap.objs.size) { s1 with heap:=s1.heap.push { cls:=.type ty,data:=.fields #[.str z t,.int 0 0] } }:=fun ty hty=>by
   refine⟨s1.heap.objs.size,[s1.heap.objs.size],_,_,H1,rfl,I1.kept (t':=s1.toks) fun b o e=>Heap.get?_push_of_some _ e,turn_str _ z ty t hty,⟨_,Heap.get?_push_size _ rfl,rfl,rfl⟩,fun b hb=>?_,q⟩
   have e:b=s1.heap.objs.size:=by simpa using hb
   subst e
   exact I1.fpOk (Nat.le_refl _) (I1.hok.fresh (Nat.le_refl _))
  cases ha:z.cps.all (· < 128)
  .exact wpAny_pyIter_wide ha (fin _ (.inr rfl))
  .exact wpAny_pyIter_ascii ha (fin _ (.inl rfl))
end
noncomputable def Itd (go:Nat->Hp->Prop) (val:Nat->Hp->V->Prop) (stop:Nat->Hp->Prop):It:=
 ⟨go,fun i H v H'=>∃p x,v=.ref p/\H p=none/\val i H x/\H'=upd H p (.tup [.int i,x]),stop⟩
structure EnSrc (P:Program) (w:World) (K:W.Frag) (e it:Addr) (Sx:Nat->Heap->Prop) (go:Nat->Hp->Prop) (val:Nat->Hp->V->Prop) (stop:Nat->Hp->Prop):Prop where
 ne:e≠it
 obj:∀i h,Sx i h->∃o,h.get? it=some o/\∀v,o.data≠.cell v
 keep:∀i h h',Sx i h->(∀o,h.get? it=some o->h'.get? it=some o)->Sx i h'
 item:∀(X:Cx),X.prog=P->X.w=w->X.K=K->X.calm=true->∀(i:Nat) (pins:List (Addr×Obj)) (s:Shared) (σ:St) (H:Hp),Inv X pins σ H s->H e=none->H it=none->e<s.heap.objs.size->(∃old,IsEnum s.heap e it i old)->Sx i s.heap->go i H->
  ∃n Pd Sd fp,Draws P w X.A.in1 it fp n Pd Sd/\e∉fp/\i<n/\Sd i s.heap/\(∀j h,Sd j h->Sx j h)/\∀u,Pd i u->∃x,RelV x u/\val i H x
 done:∀(X:Cx),X.prog=P->X.w=w->X.K=K->X.calm=true->∀(i:Nat) (pins:List (Addr×Obj)) (s:Shared) (σ:St) (H:Hp),Inv X pins σ H s->H e=none->H it=none->(∃old,IsEnum s.heap e it i old)->Sx i s.heap->stop i H->
  ∃Pd Sd fp,Draws P w X.A.in1 it fp i Pd Sd/\Sd i s.heap
theorem turn_enum {P:Program} {w:World} {K:W.Frag} {elts:List Expr} {kt:Nat} {pt:Pos} {e it:Addr} {Sx:Nat->Heap->Prop} {go:Nat->Hp->Prop} {val:Nat->Hp->V->Prop} {stop:Nat->Hp->Prop} (S:EnSrc P w K e it Sx go val stop):
  Turn P w K (.Tuple elts kt pt) (Itd go val stop) [e,it] e (fun i h=>(∃old,IsEnum h e it i old)/\Sx i h) where
 mem:=by simp
 obj:=fun i h st b hb=>by
  obtain⟨⟨old,he⟩,hs⟩:=st
  simp only[List.mem_cons,List.not_mem_nil,or_false]at hb
  rcases hb with rfl|rfl
  .exact⟨_,he,fun v=>(nomatch ·)⟩
  .exact S.obj i h hs
 keep:=fun i h h' st kk=>by
  obtain⟨⟨old,he⟩,hs⟩:=st
  exact⟨⟨old,kk e (by simp) _ he⟩,S.keep i h h' hs fun o q=>kk it (by simp) o q⟩
 item:=by
  intro X hP hw hK hc i pins s σ H E I hf st hg
  have hfe:=hf e (by simp)
  have hfi:=hf it (by simp)
  obtain⟨n,Pd,Sd,fp,D,hefp,hin,hsd,hsub,hval⟩:=S.item X hP hw hK hc i pins s σ H I hfe.1 hfi.1 (Heap.lt_size st.1.choose_spec) st.1 st.2 hg
  obtain⟨⟨old,he⟩,hs⟩:=st
  subst hP hw hK
  refine wpAny_pyNext_enum_itemD D he hsd hin S.ne hefp fun u h' tk hPu ho hs' hT hsz hk=>?_
  obtain⟨x,rx,vx⟩:=hval u hPu
  refine⟨_,rfl,wpAny_letOwnedTupleGo_enum (s:={ s with heap:=h',toks:=tk+1 }) ho fun h'' he'' hb=>?_⟩
  have hb':Heap.SameBut e h' h'':=hb
  have elt:e<s.heap.objs.size:=Heap.lt_size he
  have neT:s.heap.objs.size≠e:=Nat.ne_of_gt elt
  have hTn:H s.heap.objs.size=none:=I.hok.fresh (Nat.le_refl _)
  have hkk:∀c o,c∉[e,it]->s.heap.get? c=some o->h''.get? c=some o:=fun c o hc q=>by
   simp only[List.mem_cons,List.not_mem_nil,or_false,not_or]at hc
   exact(hb'.2 c hc.1).trans (hk c o hc.1 hc.2 q)
  have trk:∀c o,H c=some o->c∉[e,it]:=fun c o q hc=>by rw[(hf c hc).1]at q;cases q
  have I1:Inv X pins σ (upd H s.heap.objs.size (.tup [.int i,x])) { s with heap:=h'',toks:=tk+1 }:=by
   refine I.step (g':=s.gens) (d':=s.drawn) (t':=tk+1) (ch:=[e,it]) (fun c hc=>?_) (fun c o _ _ hc q _=>hkk c o hc q) (fun c o _ _ hc q _=>⟨o.slots,hkk c o hc q⟩)
    (fun c o _ q n=>by rw[upd_ne (Nat.ne_of_lt (Heap.lt_size q))];exact n) (fun c o hc q=>⟨o,hkk c o hc q⟩) (fun c ps q=>by rw[upd_ne (ne_of_none q hTn)];exact q) (fun c o p q=>by rw[upd_ne (ne_of_none q hTn)];exact q)
    (fun c ps q=>⟨#[],by rw[upd_ne (ne_of_none q hTn),q];simp⟩) (fun m hm=>?_) (fun c o q=>?_) I.bare
   .obtain⟨f0,f1,f2,f3,f4,f5⟩:=hf c hc
    exact⟨f3,f1,f4,f5⟩
   .obtain⟨oo,es,ep,ho,r⟩:=hm
    exact⟨oo,es,ep,hkk _ oo (fun hc=>(hf _ hc).2.1 rfl) ho,r⟩
   .by_cases hb:c=s.heap.objs.size
    .subst hb
     rw[upd_same]at q;cases q
     exact⟨by show 2<=sizeLine;decide,[.int i tk,u],.cons ⟨_,rfl⟩ (.cons rx .nil),⟨_,(hb'.2 _ neT).trans hT,rfl,⟨_,rfl⟩,rfl⟩⟩
    .rw[upd_ne hb]at q
     refine(I.hok c o q).stay (fun d q hd eq=>hkk d q ?_ eq) (fun d q=>by rw[upd_ne (ne_of_none q hTn)];exact q) fun d qs q=>by rw[upd_ne (ne_of_none q hTn)];exact q
     rcases hd with rfl|hd
     .exact trk _ _ (by assumption)
     .exact trk _ _ hd
  refine⟨.ref s.heap.objs.size,_,I1,rfl,⟨s.heap.objs.size,x,rfl,hTn,vx,rfl⟩,⟨⟨_,he''⟩,S.keep _ _ _ (hsub _ _ hs') fun o q=>(hb'.2 it (Ne.symm S.ne)).trans q⟩,fun c hc=>?_⟩
  rw[upd_ne]
  .exact(hf c hc).1
  .intro q
   subst q
   simp only[List.mem_cons,List.not_mem_nil,or_false]at hc
   rcases hc with q|q
   .exact neT q
   .obtain⟨o,e1,_⟩:=S.obj _ _ hs
    exact Nat.lt_irrefl _ (q ▸ Heap.lt_size e1)
 done:=by
  intro X hP hw hK hc i pins s σ H E I hf st hg
  have hfe:=hf e (by simp)
  have hfi:=hf it (by simp)
  obtain⟨Pd,Sd,fp,D,hsd⟩:=S.done X hP hw hK hc i pins s σ H I hfe.1 hfi.1 st.1 st.2 hg
  obtain⟨⟨old,he⟩,hs⟩:=st
  subst hP hw hK
  refine wpAny_pyNext_enum_endD D he hsd fun h' hx=>⟨rfl,?_⟩
  obtain⟨f0,f1,f2,f3,f4,f5⟩:=hfi
  exact I.turned (t':=s.toks) (fun b o hb q=>hx b o hb q) f0 f1 f3 f4 f5
 self:=fun _ _ _ _ _ st h=>by
  obtain⟨⟨old,he⟩,_⟩:=st
  exact wpAny_pyIter_enum he h
noncomputable def Ite (K:W.Frag) (a:Addr):It:=Itd (fun i H=>∃xs x,SqL K H a xs/\xs[i]?=some x) (fun i H x=>∀xs,SqL K H a xs->xs[i]?=some x) (fun i H=>∃xs,SqL K H a xs/\xs.length=i)
theorem en_list {P:Program} {w:World} {K:W.Frag} {e it a:Addr} (ne:e≠it) (na:a≠e) (nai:a≠it):EnSrc P w K e it (fun i h=>h.IsListIter it a i) (fun i H=>∃xs x,SqL K H a xs/\xs[i]?=some x) (fun i H x=>∀xs,SqL K H a xs->xs[i]?=some x) (fun i H=>∃xs,SqL K H a xs/\xs.length=i) where
 ne:=ne
 obj:=fun i h st=>by
  obtain⟨o,q,c,d⟩:=st
  exact⟨o,q,fun v z=>by rw[d]at z;cases z⟩
 keep:=fun i h h' st k=>st.at k
 item:=by
  intro X hP hw hK hc i pins s σ H I _ _ _ _ st hg
  obtain⟨xs,x,hxs,hx⟩:=hg
  subst hP hw hK
  obtain⟨its,rv,p,hz⟩:=I.list hxs
  have hl:=rv.length
  obtain⟨u,hu,ru⟩:=rv.get hx
  refine⟨_,_,_,_,Draws.list (show X.A.in1.handled=none from I.ok.hd hc) it a nai its.toArray,?_,?_,⟨st,p.isList⟩,fun j h q=>q.1,fun u' hu'=>⟨x,?_,fun ys hys=>by rw[I.list_inj hys hxs];exact hx⟩⟩
  .simp only[List.mem_cons,List.not_mem_nil,or_false,not_or]
   exact⟨ne,Ne.symm na⟩
  .have:=(List.getElem?_eq_some_iff.mp hx).1
   simp;omega
  .have e2:its[i]?=some u':=by simpa using hu'
   rw[hu]at e2
   cases e2
   exact ru
 done:=by
  intro X hP hw hK hc i pins s σ H I _ _ _ st hg
  obtain⟨xs,hxs,hx⟩:=hg
  subst hP hw hK
  obtain⟨its,rv,p,hz⟩:=I.list hxs
  have hl:=rv.length
  have e:i=its.toArray.size:=by simp;omega
  subst e
  exact⟨_,_,_,Draws.list (show X.A.in1.handled=none from I.ok.hd hc) it a nai its.toArray,st,p.isList⟩
noncomputable def Iteg (z:Str):It:=Itd (fun i _=>i<z.cps.size) (fun i _ v=>∃c,z.cps[i]?=some c/\v=.str ⟨#[c]⟩) (fun i _=>z.cps.size=i)
theorem en_str {P:Program} {w:World} {K:W.Frag} {e it:Addr} {z:Str} {t:Tok} {ty:String} (hty:ty="str_ascii_iterator"\/ty="str_iterator") (ne:e≠it):EnSrc P w K e it (fun i h=>h.IsStrIter it ty z t i) (fun i _=>i<z.cps.size) (fun i _ v=>∃c,z.cps[i]?=some c/\v=.str ⟨#[c]⟩) (fun i _=>z.cps.size=i) where
 ne:=ne
 obj:=fun i h st=>by
  obtain⟨o,q,c,d⟩:=st
  exact⟨o,q,fun v z=>by rw[d]at z;cases z⟩
 keep:=fun i h h' st k=>by
  obtain⟨o,q,r⟩:=st
  exact⟨o,k o q,r⟩
 item:=by
  intro X hP hw hK hc i pins s σ H I _ _ _ _ st hg
  subst hP hw hK
  have hh:X.A.in1.handled=none:=I.ok.hd hc
  rcases hty with rfl|rfl
  .refine⟨_,_,_,_,Draws.strAscii hh it z t,by simpa using ne,hg,st,fun j h q=>q,fun u hu=>?_⟩
   obtain⟨c,t',hc',rfl⟩:=hu
   exact⟨.str ⟨#[c]⟩,⟨_,rfl⟩,c,hc',rfl⟩
  .refine⟨_,_,_,_,Draws.strWide hh it z t,by simpa using ne,hg,st,fun j h q=>q,fun u hu=>?_⟩
   obtain⟨c,t',hc',rfl⟩:=hu
   exact⟨.str ⟨#[c]⟩,⟨_,rfl⟩,c,hc',rfl⟩
 done:=by
  intro X hP hw hK hc i pins s σ H I _ _ _ st hg
  subst hP hw hK
  have hh:X.A.in1.handled=none:=I.ok.hd hc
  have hg':z.cps.size=i:=hg
  subst hg'
  rcases hty with rfl|rfl
  .exact⟨_,_,_,Draws.strAscii hh it z t,st⟩
  .exact⟨_,_,_,Draws.strWide hh it z t,st⟩
theorem draws_tup {prog:Program} {w:World} {A:Around} (hh:A.handled=none) (it l:Addr) (hne:l≠it) (items:Array Value):
  Draws prog w A it [it,l] items.size (fun i v=>items[i]?=some v) (fun i h=>SItr true h it l i/\SObj true h l items) where
 live:=fun _ _ st=>let⟨o,ho,_⟩:=st.1.obj;⟨o,ho⟩
 frame:=fun _ _ _ st hk=>⟨st.1.at fun o e=>hk it (by simp) o e,st.2.at fun o e=>hk l (by simp) o e⟩
 item:=fun i s Q E hi st hQ=>by
  refine nextOf_item st.1 st.2 (x:=items[i]) (by simp[hi]) fun h' hit' hs'=>?_
  exact hQ _ h' s.toks (by simp[hi]) ⟨hit',st.2.at fun o e=>hs'.extBut l o hne e⟩ hs'
 done:=fun s Q E st hE=>nextOf_end hh st.1 st.2 (by simp) hE
open AutoSeq1 (wpAny_loadPart') in
theorem meets_enumerate_newT (l:Addr) (items:Array Value) (n:Nat) (dct:Option Addr) (sl:Array (Option Value)):
  Meets (Builtin.«enumerate.__new__» ⟨[.type "enumerate",.ref l],[]⟩) (fun _ R s=>s.heap.get? l=some { cls:=.type "tuple",dict:=dct,data:=.seq items n,slots:=sl }/\
   R (.ok (.ret (.ref (s.heap.push { cls:=.type "tuple_iterator",data:=.fields #[.ref l,.int 0 0] }).objs.size)))
    { s with heap:=(s.heap.push { cls:=.type "tuple_iterator",data:=.fields #[.ref l,.int 0 0] }).push { cls:=.type "enumerate",data:=.fields #[.none,.bool false,.ref s.heap.objs.size,rawInt 0,.none,.none] } }):=
 .of_wp fun prog w A R s h=>by
  obtain⟨hp,g,d,tk,os⟩:=s;obtain⟨hl,h⟩:=h
  have hsub:=sub_enumerate
  have hL:Heap.IsTuple (Shared.heap ⟨hp,g,d,tk,os⟩) l items:=⟨_,hl,rfl,n,rfl⟩
  wp_walk using wpAny_loadPart' hl
  refine wpAny_stack_any fun st=>wpAny_pure ?_
  split
  .rename_i c _ _ _ _ _
   cases(c == Value.type "enumerate")
   .wp_walk using wpAny_loadPart' hl,wpAny_pyIter_tuple hL
    exact⟨_,rfl,h⟩
   .wp_walk using wpAny_loadPart' hl,wpAny_pyIter_tuple hL
    exact⟨_,rfl,h⟩
  .wp_walk using wpAny_loadPart' hl,wpAny_pyIter_tuple hL
   exact⟨_,rfl,h⟩
theorem call_enumerate_tuple {prog:Program} {w:World} {A:Around} {E:Value->Shared->Prop} {s:Shared} {l:Addr} {items:Array Value} {Q:Value->Shared->Prop} (hL:s.heap.IsTuple l items)
  (h:∀h',IsEnum h' (s.heap.objs.size+1) s.heap.objs.size 0 .none->SItr true h' s.heap.objs.size l 0->h'.objs.size=s.heap.objs.size+2->
   (∀b o,s.heap.get? b=some o->h'.get? b=some o)->Q (.ref (s.heap.objs.size+1)) { s with heap:=h' }):
  wpAny (model prog w) A (call (.type "enumerate") [.ref l]) Q E s:=by
 obtain⟨⟨c,dct,dt,sl⟩,hl,hc,n,hd⟩:=hL
 replace hc:c=.type "tuple":=hc
 replace hd:dt=.seq items n:=hd
 subst hc hd
 refine callType_new F.called_enumerate (by decide) (F.typeCall_enumerate_1 _) (F.newCall_enumerate_1 _) (fun obj=>F.args_object_init_2 obj _) F.entry_enumerate_new
  (meets_enumerate_newT l items n dct sl) ⟨hl,?_⟩
 have hz:(s.heap.push { cls:=.type "tuple_iterator",data:=.fields #[.ref l,.int 0 0] }).objs.size=s.heap.objs.size+1:=Heap.size_push ..
 show _/\_
 rw[hz]
 have he:IsEnum ((s.heap.push { cls:=.type "tuple_iterator",data:=.fields #[.ref l,.int 0 0] }).push
   { cls:=.type "enumerate",data:=.fields #[.none,.bool false,.ref s.heap.objs.size,rawInt 0,.none,.none] }) (s.heap.objs.size+1) s.heap.objs.size 0 .none:=by
  have:=Heap.get?_push_size (s.heap.push { cls:=.type "tuple_iterator",data:=.fields #[.ref l,.int 0 0] })
   (o:={ cls:=.type "enumerate",data:=.fields #[.none,.bool false,.ref s.heap.objs.size,rawInt 0,.none,.none] }) rfl
  rw[hz]at this;exact this
 refine⟨⟨_,he,rfl⟩,h _ he ⟨_,Heap.get?_push_of_some _ (Heap.get?_push_size _ rfl),rfl,rfl⟩ (by rw[Heap.size_push,hz]) fun b o x=>Heap.get?_push_of_some _ (Heap.get?_push_of_some _ x)⟩
noncomputable def Itet (K:W.Frag) (a:Addr):It:=Itd (fun i H=>∃xs x,SqT K H a xs/\xs[i]?=some x) (fun i H x=>∀xs,SqT K H a xs->xs[i]?=some x) (fun i H=>∃xs,SqT K H a xs/\xs.length=i)
theorem en_tup {P:Program} {w:World} {K:W.Frag} {e it a:Addr} (ne:e≠it) (na:a≠e) (nai:a≠it):EnSrc P w K e it (fun i h=>SItr true h it a i) (fun i H=>∃xs x,SqT K H a xs/\xs[i]?=some x) (fun i H x=>∀xs,SqT K H a xs->xs[i]?=some x) (fun i H=>∃xs,SqT K H a xs/\xs.length=i) where
 ne:=ne
 obj:=fun i h st=>by
  obtain⟨o,q,d⟩:=st.obj
  exact⟨o,q,fun v z=>by rw[d]at z;cases z⟩
 keep:=fun i h h' st k=>st.at k
 item:=by
  intro X hP hw hK hc i pins s σ H I _ _ _ _ st hg
  obtain⟨xs,x,hxs,hx⟩:=hg
  subst hP hw hK
  obtain⟨its,rv,p,hz⟩:=I.tuple hxs
  have hl:=rv.length
  obtain⟨u,hu,ru⟩:=rv.get hx
  refine⟨_,_,_,_,draws_tup (show X.A.in1.handled=none from I.ok.hd hc) it a nai its.toArray,?_,?_,⟨st,p⟩,fun j h q=>q.1,fun u' hu'=>⟨x,?_,fun ys hys=>by rw[I.tuple_inj hys hxs];exact hx⟩⟩
  .simp only[List.mem_cons,List.not_mem_nil,or_false,not_or]
   exact⟨ne,Ne.symm na⟩
  .have:=(List.getElem?_eq_some_iff.mp hx).1
   simp;omega
  .have e2:its[i]?=some u':=by simpa using hu'
   rw[hu]at e2
   cases e2
   exact ru
 done:=by
  intro X hP hw hK hc i pins s σ H I _ _ _ st hg
  obtain⟨xs,hxs,hx⟩:=hg
  subst hP hw hK
  obtain⟨its,rv,p,hz⟩:=I.tuple hxs
  have hl:=rv.length
  have e:i=its.toArray.size:=by simp;omega
  subst e
  exact⟨_,_,_,draws_tup (show X.A.in1.handled=none from I.ok.hd hc) it a nai its.toArray,st,p⟩
section
variable {X:Cx}
noncomputable def iEnum (K:W.Frag) (tl:TE):TI:=fun σ H R=>tCons tl tNil σ H fun vs H1=>∃x,vs=[x]/\
 ((∃a,x=.ref a/\(∃xs,SqL K H1 a xs)/\R (Ite K a) H1)\/(∃z,x=.str z/\R (Iteg z) H1)\/∃a,x=.ref a/\(∃xs,SqT K H1 a xs)/\R (Itet K a) H1)
theorem boot_enumerate:bootBuiltins "enumerate"=some (.type "enumerate"):=by decide +kernel
theorem pi_enum {a:Expr} {tl:TE} {p pos:Pos} {elts:List Expr} {kt:Nat} {pt:Pos} (hg:Gl X "enumerate") (hm:X.mg "enumerate"=none) (ha:PA X [a] (tCons tl tNil)) (hs:starEach [a] X.env=[(false,eval a X.env)]):
  PI X (.Tuple elts kt pt) (.Call (.Name "enumerate" p) [a] [] pos) (iEnum X.K tl):=by
 intro pins s σ H R I h
 have h':tCons tl tNil σ H (fun vs H1=>∃x,vs=[x]/\((∃a,x=.ref a/\(∃xs,SqL X.K H1 a xs)/\R (Ite X.K a) H1)\/(∃z,x=.str z/\R (Iteg z) H1)\/∃a,x=.ref a/\(∃xs,SqT X.K H1 a xs)/\R (Itet X.K a) H1)):=h
 refine Call_ (ld_blt I hg hm boot_enumerate (PyProof.Rows.callWith_type1 (thn (ha pos pins s σ H _ I h') fun us s1 ⟨vs,H1,I1,r1,q1⟩=>?_) (by rw[hs];rfl) (by rfl)))
 obtain⟨x,e,q1⟩:=q1
 subst e
 cases r1 with
 |cons r rr=>
  cases rr
  rcases q1 with⟨a,rfl,⟨xs,hxs⟩,q⟩|⟨z,rfl,q⟩|⟨a,rfl,⟨xs,hxs⟩,q⟩
  .cases r
   obtain⟨its,rv,pl,hz⟩:=I1.list hxs
   refine call_enumerate_list pl.isList fun h' he hit hsz hk=>wpAny_pyIter_enum he ?_
   have la:a<s1.heap.objs.size:=by
    obtain⟨o,q,_⟩:=pl.isList
    exact Heap.lt_size q
   refine⟨s1.heap.objs.size+1,[s1.heap.objs.size+1,s1.heap.objs.size],_,_,H1,rfl,I1.kept (t':=s1.toks) hk,turn_enum (en_list (Nat.succ_ne_self _) (Nat.ne_of_lt (Nat.lt_succ_of_lt la)) (Nat.ne_of_lt la)),⟨⟨_,he⟩,hit⟩,fun c hc=>?_,q⟩
   have hle:s1.heap.objs.size<=c:=by
    simp only[List.mem_cons,List.not_mem_nil,or_false]at hc
    rcases hc with rfl|rfl<;>omega
   exact I1.fpOk hle (I1.hok.fresh hle)
  .obtain⟨t,rfl⟩:=r
   refine call_enumerate_str fun h' he hit hsz hk=>wpAny_pyIter_enum he ?_
   have hty:strIterType z="str_ascii_iterator"\/strIterType z="str_iterator":=by
    unfold strIterType
    split
    .exact .inl rfl
    .exact .inr rfl
   refine⟨s1.heap.objs.size+1,[s1.heap.objs.size+1,s1.heap.objs.size],_,_,H1,rfl,I1.kept (t':=s1.toks) hk,turn_enum (en_str hty (Nat.succ_ne_self _)),⟨⟨_,he⟩,hit⟩,fun c hc=>?_,q⟩
   have hle:s1.heap.objs.size<=c:=by
    simp only[List.mem_cons,List.not_mem_nil,or_false]at hc
    rcases hc with rfl|rfl<;>omega
   exact I1.fpOk hle (I1.hok.fresh hle)
  .cases r
   obtain⟨its,rv,pl,hz⟩:=I1.tuple hxs
   refine call_enumerate_tuple (show s1.heap.IsTuple a its.toArray from pl) fun h' he hit hsz hk=>wpAny_pyIter_enum he ?_
   have la:a<s1.heap.objs.size:=by
    obtain⟨o,q,_⟩:=pl
    exact Heap.lt_size q
   refine⟨s1.heap.objs.size+1,[s1.heap.objs.size+1,s1.heap.objs.size],_,_,H1,rfl,I1.kept (t':=s1.toks) hk,turn_enum (en_tup (Nat.succ_ne_self _) (Nat.ne_of_lt (Nat.lt_succ_of_lt la)) (Nat.ne_of_lt la)),⟨⟨_,he⟩,hit⟩,fun c hc=>?_,q⟩
   have hle:s1.heap.objs.size<=c:=by
    simp only[List.mem_cons,List.not_mem_nil,or_false]at hc
    rcases hc with rfl|rfl<;>omega
   exact I1.fpOk hle (I1.hok.fresh hle)
end
section
variable {X:Cx}
theorem call_int_text:CallR X (.type "int") (fun xs H Q=>∃x n,xs=[.str x]/\PySem.intText? x=some n/\x.length<=640/\Q (.int n) H):=by
 intro pins s σ H xs us Q I r h
 obtain⟨x,n,rfl,hn,hl,q⟩:=h
 obtain⟨u,rfl,t,rfl⟩:=vals1 r
 exact W.KIN.call_text hn hl ⟨.int n,H,I.tok _,⟨_,rfl⟩,q⟩
noncomputable def rInt:List V->Hp->VK->Prop:=fun xs H Q=>((∃i,xs=[.int i]/\Q (.int i) H)\/∃k,xs=[.bl k]/\Q (.int (if k then 1 else 0)) H)\/∃x n,xs=[.str x]/\PySem.intText? x=some n/\x.length<=640/\Q (.int n) H
theorem call_intA:CallR X (.type "int") rInt:=call_int1.or call_int_text
noncomputable def rMulS:R2:=fun x y H Q=>∃a n,x=.str a/\y=.int n/\-1000000<=n/\n<=1000000/\a.length*n.toNat<=1000000/\Q (.str (Txt.mul a n)) H
theorem op_mul_str:OpR X (binaryOp .Mult) rMulS:=by
 intro pins s σ H x y v u Q I rx ry h
 obtain⟨a,n,rfl,rfl,h1,h2,h3,q⟩:=h
 obtain⟨t,rfl⟩:=rx
 obtain⟨t',rfl⟩:=ry
 refine SB.mul ⟨?_,fun hn hc=>?_,fun hn hc=>?_⟩ fun t' k=>⟨.str (Txt.mul a n),H,I.tok _,⟨_,rfl⟩,q⟩
 .have e1:¬n < -(2 ^ 63:Int):=by omega
  have e2:¬n ≥ 2 ^ 63:=by omega
  simp[e1,e2]
  omega
 .have hn0:0<n:=by omega
  intro hgt
  have h4:(a.length:Int)*n<=1000000:=by
   have:((a.length*n.toNat:Nat):Int)<=1000000:=by omega
   rw[Int.natCast_mul,Int.toNat_of_nonneg (by omega)]at this
   exact this
  have h5:=(Int.ediv_lt_iff_lt_mul hn0).mp hgt
  omega
 .have e:Builtin.Str.tooLong (a.length*n.toNat)=false:=by
   unfold Builtin.Str.tooLong
   have:sizeLine=16777216:=sizeLine_eq
   simp
   omega
  exact e
noncomputable def rJoin (K:W.Frag):V->List V->Hp->VK->Prop:=fun x xs H Q=>∃(sep:Str) (p:Addr) (ys:List Str),x=.str sep/\xs=[.ref p]/\(SqL K H p (ys.map V.str)\/SqT K H p (ys.map V.str))/\(ys.map (·.length)).sum+ys.length*sep.length<=16777216/\Q (.str (Txt.join sep ys)) H
theorem strsAre_of:∀{ys:List Str} {us:List Value},Vals (ys.map V.str) us->StrsAre us ys
 | [],us,h=>by
  have e:=h.zero
  subst e
  exact .nil
 |y :: ys,_,.cons r t=>by
  obtain⟨k,rfl⟩:=r
  exact .cons y k (strsAre_of t)
theorem mt_join:MtR X "str.join" (rJoin X.K):=by
 intro pins s σ H x xs v us Q I rx rv h
 obtain⟨sep,p,ys,rfl,rfl,hs,hz,q⟩:=h
 obtain⟨t,rfl⟩:=rx
 obtain⟨u,rfl,ru⟩:=rv.one
 cases ru
 rcases hs with hs|hs
 .obtain⟨its,r,pl,_⟩:=I.list hs
  exact join_list pl.isList (strsAre_of r) hz fun t' k=>⟨.str _,H,I.tok _,⟨_,rfl⟩,q⟩
 .obtain⟨its,r,pl,_⟩:=I.tuple hs
  exact join_tuple pl (strsAre_of r) hz fun t' k=>⟨.str _,H,I.tok _,⟨_,rfl⟩,q⟩
noncomputable def rSlS:V->Option Int->Option Int->Hp->VK->Prop:=fun x lo hi H Q=>∃a,x=.str a/\a.length<=sizeLine/\Q (.str (Txt.slice a lo hi)) H
theorem sl_str:SlR X rSlS:=by
 intro pins s σ H x v vl vu lo hi sl Q I rx hs pl pu h
 obtain⟨a,rfl,hz,q⟩:=h
 obtain⟨t,rfl⟩:=rx
 have fin:∀(l u:Option (Int×Tok)),l.map (·.1)=lo->u.map (·.1)=hi->s.heap.IsSlice sl l u none->wpAny (model X.prog X.w) X.A (getItem (.str a t) (.ref sl)) (EP X pins σ Q) X.xe s:=by
  intro l u e1 e2 hsl
  refine wpAny_getItem_str_slice (l:=l) (u:=u) (st:=none) hsl rfl ?_
  refine post_val_or_str ?_
  subst e1 e2
  exact⟨Nat.le_trans (Txt.slice_le a _ _) hz,fun t' k=>⟨.str _,H,I.tok _,⟨_,rfl⟩,q⟩⟩
 refine⟨"str",_,F.slot_str_getitem.lookup,typeIs_str _ _ _,?_⟩
 cases pl with
 |none=>
  cases pu with
  |none=>exact fin none none rfl rfl hs
  |int j u=>exact fin none (some (j,u)) rfl rfl hs
 |int i t1=>
  cases pu with
  |none=>exact fin (some (i,t1)) none rfl rfl hs
  |int j u=>exact fin (some (i,t1)) (some (j,u)) rfl rfl hs
noncomputable def tyName (H:Hp):V->Option String
 | .non=>some "NoneType"
 | .bl _=>some "bool"
 | .int _=>some "int"
 | .str _=>some "str"
 | .ref a=>match H a with
  |some (.lst _)=>some "list"
  |some (.tup _)=>some "tuple"
  |some (.dK _)=>some "dict"
  |some (.dT _)=>some "dict"
  |some (.frz _ (.lst _))=>some "list"
  |_=>none
 |_=>none
theorem tyName_of {K:W.Frag} {H:Hp} {x:V} {T:String} (h:tyName H x=some T):TyOf K H x (.type T):=by
 cases x with
 |non=>cases h;exact .non
 |bl b=>cases h;exact .bl b
 |int i=>cases h;exact .int i
 |str y=>cases h;exact .str y
 |byt _=>cases h
 |flt _=>cases h
 |ty _=>cases h
 |ref a=>
  have h:(match H a with
   |some (.lst _)=>some "list"
   |some (.tup _)=>some "tuple"
   |some (.dK _)=>some "dict"
   |some (.dT _)=>some "dict"
   |some (.frz _ (.lst _))=>some "list"
   |_=>none)=some T:=h
  split at h
  .rename_i e;cases h;exact .lst e
  .rename_i e;cases h;exact .tup e
  .rename_i e;cases h;exact .dK e
  .rename_i e;cases h;exact .dT e
  .rename_i e;cases h;exact .frz e
  .cases h
noncomputable def isT (T c:String):Bool:=T == c || (T == "bool"&&c == "int")
noncomputable def tyKnown:List String:=["NoneType","bool","int","str","list","tuple","dict"]
theorem kitOne_known (K:W.Frag):∀T∈tyKnown,∀c∈["bool","int","str","list","tuple","dict"],W.kitOne K (.type T) (.type c)=some (isT T c):=by
 intro T hT c hc
 simp only[tyKnown,List.mem_cons,List.not_mem_nil,or_false]at hT hc
 rcases hT with rfl|rfl|rfl|rfl|rfl|rfl|rfl<;>rcases hc with rfl|rfl|rfl|rfl|rfl|rfl<;>rfl
noncomputable def rIsi:List V->Hp->VK->Prop:=fun xs H Q=>
 (∃x T c,xs=[x,.ty c]/\tyName H x=some T/\T∈tyKnown/\c∈["bool","int","str","list","tuple","dict"]/\Q (.bl (isT T c)) H)\/
 (∃(x:V) (T:String) (p:Addr) (cs:List String),xs=[x,.ref p]/\tyName H x=some T/\T∈tyKnown/\H p=some (.tup (cs.map V.ty))/\(∀c∈cs,c∈["bool","int","str","list","tuple","dict"])/\Q (.bl (cs.any (isT T))) H)
theorem vals_ty:∀{cs:List String} {us:List Value},Vals (cs.map V.ty) us->us=cs.map Value.type
 | [],us,h=>h.zero
 |c :: cs,_,.cons r t=>by
  have r':_=Value.type c:=r
  rw[r',vals_ty t]
  rfl
theorem kitAny_known (K:W.Frag) {T:String} (hT:T∈tyKnown):∀{cs:List String},(∀c∈cs,c∈["bool","int","str","list","tuple","dict"])->W.kitAny K (.type T) (cs.map Value.type)=some (cs.any (isT T))
 | [],_=>rfl
 |c :: cs,h=>by
  have h1:=kitOne_known K T hT c (h c List.mem_cons_self)
  have h2:=kitAny_known K hT (cs:=cs) fun c' hc'=>h c' (List.mem_cons_of_mem _ hc')
  show(match W.kitOne K (.type T) (.type c)with|some true=>some true|some false=>W.kitAny K (.type T) (cs.map Value.type)|none=>none)=_
  rw[h1]
  cases hb:isT T c
  .rw[List.any_cons,hb]
   exact h2
  .rw[List.any_cons,hb]
   rfl
theorem isinst_tup {pins:List (Addr×Obj)} {σ:St} {H:Hp} {s:Shared} {Q:Value->Shared->Prop} {E:Value->Shared->Prop} {b:Bool} {x:V} {u:Value} {T:String} {p:Addr} {dd:Option Addr} {its:List Value} {n:Nat} {sl:Array (Option Value)} (I:Inv X pins σ H s) (rx:RelV x u) (ty:tyName H x=some T)
  (hp:s.heap.get? p=some ⟨.type "tuple",dd,.seq its.toArray n,sl⟩) (e:W.kitAny X.K (.type T) its=some b) (h:∀tk,Q (.bool b) { s with toks:=tk }):
  wpAny (model X.prog X.w) X.A (call (.builtin "isinstance") [u,.ref p]) Q E s:=by
 cases x with
 |non=>cases ty;cases(show u=Value.none from rx);exact W.kia_tup W.kitx_none I.kIn True.intro hp e (fun z=>nomatch z) h
 |bl y=>cases ty;cases(show u=Value.bool y from rx);exact W.kia_tup W.kitx_bool I.kIn True.intro hp e (fun z=>nomatch z) h
 |int i=>cases ty;obtain⟨t,q⟩:=(show ∃t,u=Value.int i t from rx);cases q;exact W.kia_tup W.kitx_int I.kIn True.intro hp e (fun z=>nomatch z) h
 |str y=>cases ty;obtain⟨t,q⟩:=(show ∃t,u=Value.str y t from rx);cases q;exact W.kia_tup W.kitx_str I.kIn True.intro hp e (fun z=>nomatch z) h
 |byt _=>cases ty
 |flt _=>cases ty
 |ty _=>cases ty
 |ref a=>
  cases(show u=Value.ref a from rx)
  have ty:(match H a with
   |some (.lst _)=>some "list"
   |some (.tup _)=>some "tuple"
   |some (.dK _)=>some "dict"
   |some (.dT _)=>some "dict"
   |some (.frz _ (.lst _))=>some "list"
   |_=>none)=some T:=ty
  split at ty
  .rename_i xs ea
   cases ty
   obtain⟨_,_,n,_,h1⟩:=(show ObjOk X.prog X.w H s.heap a (.lst xs) from I.hok a _ ea)
   exact W.kia_tup W.kitx_list I.kIn ⟨_,h1,rfl⟩ hp e (fun z=>nomatch z) h
  .rename_i xs ea
   cases ty
   obtain⟨_,_,_,o,h1,h2,_⟩:=(show ObjOk X.prog X.w H s.heap a (.tup xs) from I.hok a _ ea)
   exact W.kia_tup W.kitx_tuple I.kIn ⟨o,h1,h2⟩ hp e (fun z=>nomatch z) h
  .rename_i kvs ea
   cases ty
   obtain⟨_,_,vs,_,o,es,ep,h1,h2,_⟩:=(show ObjOk X.prog X.w H s.heap a (.dK kvs) from I.hok a _ ea)
   exact W.kia_tup W.kitx_dict I.kIn ⟨o,h1,h2.1⟩ hp e (fun z=>nomatch z) h
  .rename_i kvs ea
   cases ty
   obtain⟨_,_,xs,_,o,es,ep,h1,h2,_⟩:=(show ObjOk X.prog X.w H s.heap a (.dT kvs) from I.hok a _ ea)
   exact W.kia_tup W.kitx_dict I.kIn ⟨o,h1,h2.1⟩ hp e (fun z=>nomatch z) h
  .rename_i ob xs ea
   cases ty
   obtain⟨_,_,_,n,_,h1⟩:=(show ObjOk X.prog X.w H s.heap a (.frz ob (.lst xs)) from I.hok a _ ea)
   exact W.kia_tup W.kitx_list I.kIn ⟨_,h1,rfl⟩ hp e (fun z=>nomatch z) h
  .cases ty
theorem call_isi:CallR X (.builtin "isinstance") rIsi:=by
 intro pins s σ H xs us Q I r h
 rcases h with⟨x,T,c,rfl,hT,hk,hc,q⟩|⟨x,T,p,cs,rfl,hT,hk,hp,hc,q⟩
 .obtain⟨u,w',rfl,r1,r2⟩:=vals2 r
  have r2:w'=Value.type c:=r2
  subst r2
  exact isinst_ok I r1 (tyName_of hT) (kitOne_known X.K T hk c hc) fun tk=>⟨.bl _,H,I.tok _,rfl,q⟩
 .obtain⟨u,w',rfl,r1,r2⟩:=vals2 r
  have r2:w'=Value.ref p:=r2
  subst r2
  obtain⟨_,its,rv,o,h1,h2,⟨n,h3⟩,_⟩:=(show ObjOk X.prog X.w H s.heap p (.tup (cs.map V.ty)) from I.hok p _ hp)
  have e:=vals_ty rv
  subst e
  obtain⟨oc,od,dat,osl⟩:=o
  have h2:oc=_:=h2
  have h3:dat=_:=h3
  subst h2 h3
  exact isinst_tup I r1 hT h1 (kitAny_known X.K hk hc) fun tk=>⟨.bl _,H,I.tok _,rfl,q⟩
noncomputable def rAll (K:W.Frag) (any:Bool):List V->Hp->VK->Prop:=fun xs H Q=>∃(p:Addr) (bs:List Bool),xs=[.ref p]/\SqL K H p (bs.map V.bl)/\Q (.bl (if any then bs.any id else bs.all id)) H
theorem bools_get:∀{bs:List Bool} {us:List Value} {i:Nat} {v:Value},Vals (bs.map V.bl) us->us[i]?=some v->∃b,bs[i]?=some b/\v=.bool b
 | [],us,i,v,h,e=>by rw[h.zero]at e;simp at e
 |b :: bs,_,0,v,.cons r t,e=>by
  have r:_=Value.bool b:=r
  simp at e
  exact⟨b,rfl,by rw[<- e];exact r⟩
 |b :: bs,_,i+1,v,.cons r t,e=>by
  obtain⟨b',h1,h2⟩:=bools_get (i:=i) t (by simpa using e)
  exact⟨b',by simpa using h1,h2⟩
theorem range_all (bs:List Bool):(List.range bs.length).all (fun i=>bs.getD i false)=bs.all id:=by
 rw[Bool.eq_iff_iff,List.all_eq_true,List.all_eq_true]
 constructor
 .intro h b hb
  obtain⟨i,hi,rfl⟩:=List.mem_iff_getElem.mp hb
  have:=h i (List.mem_range.mpr hi)
  simpa[List.getD_eq_getElem?_getD,hi]using this
 .intro h i hi
  have hi:=List.mem_range.mp hi
  have:=h bs[i] (List.getElem_mem hi)
  simpa[List.getD_eq_getElem?_getD,hi]using this
theorem range_any (bs:List Bool):(List.range bs.length).any (fun i=>bs.getD i false)=bs.any id:=by
 rw[Bool.eq_iff_iff,List.any_eq_true,List.any_eq_true]
 constructor
 .rintro⟨i,hi,h⟩
  have hi:=List.mem_range.mp hi
  exact⟨bs[i],List.getElem_mem hi,by simpa[List.getD_eq_getElem?_getD,hi]using h⟩
 .rintro⟨b,hb,h⟩
  obtain⟨i,hi,rfl⟩:=List.mem_iff_getElem.mp hb
  exact⟨i,List.mem_range.mpr hi,by simpa[List.getD_eq_getElem?_getD,hi]using h⟩
theorem call_allL (hc:X.calm=true):CallR X (.builtin "all") (rAll X.K false):=by
 intro pins s σ H xs us Q I r h
 obtain⟨p,bs,rfl,hs,q⟩:=h
 obtain⟨u,rfl,ru⟩:=vals1 r
 cases ru
 obtain⟨its,rv,pl,hz⟩:=I.list hs
 have hlen:its.toArray.size=bs.length:=by
  have:=rv.length
  rw[List.length_map]at this
  rw[List.size_toArray,this]
 refine call_all_walk (wpAny_pyIter_list pl.isList ?_)
 have hlt:p<s.heap.objs.size:=by obtain⟨o,n,e,_⟩:=pl;exact Heap.lt_size e
 refine⟨s.heap.objs.size,_,_,_,_,_,fun i=>bs.getD i false,rfl,Walks.list (A:=X.A.in1) (I.ok.hd hc) _ p (Nat.ne_of_lt hlt) its.toArray,⟨⟨_,Heap.get?_push_size _ rfl,rfl,rfl⟩,Heap.IsList.push pl.isList _⟩,?_,fun h' tk hk=>?_⟩
 .intro i v s' Q' E' hv hq
  obtain⟨b,hb,rfl⟩:=bools_get rv (i:=i) (by simpa using hv)
  refine wpAny_truthy_bool ?_
  have e:bs.getD i false=b:=by rw[List.getD_eq_getElem?_getD,hb];rfl
  have hq':Q' (bs.getD i false) s':=hq
  rw[e]at hq'
  exact hq'
 .rw[hlen,range_all]
  exact⟨.bl _,H,I.kept fun b o e=>hk b o (by simp;exact Nat.ne_of_lt (Heap.lt_size e)) (Heap.get?_push_of_some _ e),rfl,q⟩
theorem call_anyL (hc:X.calm=true):CallR X (.builtin "any") (rAll X.K true):=by
 intro pins s σ H xs us Q I r h
 obtain⟨p,bs,rfl,hs,q⟩:=h
 obtain⟨u,rfl,ru⟩:=vals1 r
 cases ru
 obtain⟨its,rv,pl,hz⟩:=I.list hs
 have hlen:its.toArray.size=bs.length:=by
  have:=rv.length
  rw[List.length_map]at this
  rw[List.size_toArray,this]
 refine call_any_walk (wpAny_pyIter_list pl.isList ?_)
 have hlt:p<s.heap.objs.size:=by obtain⟨o,n,e,_⟩:=pl;exact Heap.lt_size e
 refine⟨s.heap.objs.size,_,_,_,_,_,fun i=>bs.getD i false,rfl,Walks.list (A:=X.A.in1) (I.ok.hd hc) _ p (Nat.ne_of_lt hlt) its.toArray,⟨⟨_,Heap.get?_push_size _ rfl,rfl,rfl⟩,Heap.IsList.push pl.isList _⟩,?_,fun h' tk hk=>?_⟩
 .intro i v s' Q' E' hv hq
  obtain⟨b,hb,rfl⟩:=bools_get rv (i:=i) (by simpa using hv)
  refine wpAny_truthy_bool ?_
  have e:bs.getD i false=b:=by rw[List.getD_eq_getElem?_getD,hb];rfl
  have hq':Q' (bs.getD i false) s':=hq
  rw[e]at hq'
  exact hq'
 .rw[hlen,range_any]
  exact⟨.bl _,H,I.kept fun b o e=>hk b o (by simp;exact Nat.ne_of_lt (Heap.lt_size e)) (Heap.get?_push_of_some _ e),rfl,q⟩
noncomputable def rBest (K:W.Frag) (mx:Bool):List V->Hp->VK->Prop:=fun xs H Q=>∃(p:Addr) (ns:List Int),xs=[.ref p]/\SqL K H p (ns.map V.int)/\ns≠[]/\∀M,M∈ns->(∀a∈ns,if mx then a<=M else M<=a)->Q (.int M) H
theorem call_minL (hc:X.calm=true):CallR X (.builtin "min") (rBest X.K false):=by
 intro pins s σ H xs us Q I r h
 obtain⟨p,ns,rfl,hs,hne,q⟩:=h
 obtain⟨u,rfl,ru⟩:=vals1 r
 cases ru
 obtain⟨its,rv,pl,hz⟩:=I.list hs
 have hi:=intsAre_of rv
 obtain⟨xs,e⟩:=hi.allInts.items
 have hns:ns=xs.toList.map (·.1):=by
  rw[<- hi.numsOf,<- nums_intItems,<- e]
 have hsz:0<xs.size:=by
  have h3:=List.length_pos_iff.mpr hne
  rw[hns,List.length_map,Array.length_toList]at h3
  exact h3
 have hl:=pl.isList
 rw[e]at hl
 refine min_intList (I.ok.hd hc) hl hsz fun v h' tk hv hk=>?_
 obtain⟨t,rfl⟩:=intItems_at hv
 obtain⟨h1,h2⟩:=argBest_lt (numAt xs) (xs.size-1)
 refine⟨.int _,H,I.kept hk,⟨t,rfl⟩,q _ ?_ fun a ha=>?_⟩
 .rw[hns,numAt_eq];exact getD_mem (by rw[List.length_map,Array.length_toList];omega)
 .rw[hns]at ha
  obtain⟨j,hj,rfl⟩:=mem_getD ha
  rw[List.length_map,Array.length_toList]at hj
  rw[if_neg (by decide),<- numAt_eq];exact h2 j (by omega)
end
section
variable {X:Cx}
open PySem.SeqAt in
theorem eqAt_of {A:Around} {s:Shared} {x y:V} {u v:Value} (rx:RelV x u) (ry:RelV y v) (h:scal x y=true/\(∀b,x≠.byt b)\/x=y/\∃a,x=.ref a):EqAt A s u v (decide (x=y)):=by
 rcases h with⟨h,hb⟩|⟨rfl,a,rfl⟩
 .cases x with
  |non=>cases y with
   |non=>cases rx;cases ry;exact EqAt.same _
   |bl b=>cases rx;cases ry;exact EqAt.none_bool _
   |int b=>cases rx;obtain⟨t,rfl⟩:=ry;exact EqAt.none_int _ _
   |str b=>cases rx;obtain⟨t,rfl⟩:=ry;exact EqAt.none_str _ _
   |_=>cases h
  |bl a=>cases y with
   |non=>cases rx;cases ry;exact EqAt.bool_none _
   |bl b=>cases rx;cases ry;have:=EqAt.bool_bool (A:=A) (s:=s) a b;cases a<;>cases b<;>exact this
   |str b=>cases rx;obtain⟨t,rfl⟩:=ry;exact EqAt.bool_str _ _ _
   |_=>cases h
  |int a=>cases y with
   |non=>obtain⟨t,rfl⟩:=rx;cases ry;exact EqAt.int_none _ _
   |int b=>obtain⟨t,rfl⟩:=rx;obtain⟨t',rfl⟩:=ry;rw[dec_int];exact EqAt.int_int _ _ _ _
   |str b=>obtain⟨t,rfl⟩:=rx;obtain⟨t',rfl⟩:=ry;exact EqAt.int_str _ _ _ _
   |_=>cases h
  |str a=>cases y with
   |non=>obtain⟨t,rfl⟩:=rx;cases ry;exact EqAt.str_none _ _
   |bl b=>obtain⟨t,rfl⟩:=rx;cases ry;exact EqAt.str_bool _ _ _
   |int b=>obtain⟨t,rfl⟩:=rx;obtain⟨t',rfl⟩:=ry;exact EqAt.str_int _ _ _ _
   |str b=>
    obtain⟨t,rfl⟩:=rx
    obtain⟨t',rfl⟩:=ry
    have e:decide (V.str a=V.str b)=(a == b):=by
     by_cases hab:a=b
     .subst hab;simp
     .rw[decide_eq_false (by intro z;cases z;exact hab rfl)];simp[hab]
    rw[e]
    exact EqAt.str_str _ _ _ _
   |_=>cases h
  |byt b=>exact absurd rfl (hb b)
  |_=>cases y<;>cases h
 .cases rx
  cases ry
  rw[decide_eq_true rfl]
  exact EqAt.same _
def LEq (xs ys:List V):Prop:=∀(i:Nat) x y,xs[i]?=some x->ys[i]?=some y->scal x y=true/\(∀b,x≠.byt b)\/x=y/\∃a,x=.ref a
noncomputable def rEqL (K:W.Frag) (neg:Bool):V->V->Hp->VK->Prop:=fun x y H Q=>∃p q xs ys,x=.ref p/\y=.ref q/\SqL K H p xs/\SqL K H q ys/\(xs.length=ys.length->LEq xs ys)/\Q (.bl (if neg then !decide (xs=ys)else decide (xs=ys))) H
theorem all_eq {xs ys:List V} (h:xs.length=ys.length):(List.range xs.length).all (fun i=>decide (xs[i]?=ys[i]?))=decide (xs=ys):=by
 by_cases e:xs=ys
 .subst e
  simp
 .rw[decide_eq_false e,Bool.eq_false_iff]
  intro q
  rw[List.all_eq_true]at q
  apply e
  apply List.ext_getElem?
  intro i
  rcases Nat.lt_or_ge i xs.length with hi|hi
  .exact of_decide_eq_true (q i (List.mem_range.mpr hi))
  .rw[List.getElem?_eq_none_iff.mpr hi,List.getElem?_eq_none_iff.mpr (by omega)]
open PySem.SeqAt in
theorem op_eqL (hu:X.A.units<cLine):OpR X (compareOp .Eq) (rEqL X.K false):=by
 intro pins s σ H x y v u Q I rx ry h
 obtain⟨p,q,xs,ys,rfl,rfl,hp,hq,he,k⟩:=h
 cases rx
 cases ry
 obtain⟨its,r1,pl1,_⟩:=I.list hp
 obtain⟨its2,r2,pl2,_⟩:=I.list hq
 have l1:=r1.length
 have l2:=r2.length
 by_cases hl:xs.length=ys.length
 .refine eq_listAt (e:=fun i=>decide (xs[i]?=ys[i]?)) pl1.isList pl2.isList (by simp;omega) hu (fun j h1 h2=>?_) ?_
  .have j1:j<xs.length:=by simp at h1;omega
   have j2:j<ys.length:=by omega
   have g1:xs[j]?=some xs[j]:=List.getElem?_eq_getElem j1
   have g2:ys[j]?=some ys[j]:=List.getElem?_eq_getElem j2
   obtain⟨u1,e1,ru1⟩:=r1.get g1
   obtain⟨u2,e2,ru2⟩:=r2.get g2
   have f1:its.toArray[j]=u1:=by simp at h1 ⊢;rw[List.getElem?_eq_getElem h1]at e1;exact Option.some.inj e1
   have f2:its2.toArray[j]=u2:=by simp at h2 ⊢;rw[List.getElem?_eq_getElem h2]at e2;exact Option.some.inj e2
   rw[f1,f2,g1,g2]
   have e3:decide (some xs[j]=some ys[j])=decide (xs[j]=ys[j]):=by simp
   rw[e3]
   exact eqAt_of ru1 ru2 (he hl j _ _ g1 g2)
  .have e4:(List.range its.toArray.size).all (fun i=>decide (xs[i]?=ys[i]?))=decide (xs=ys):=by
    rw[List.size_toArray,<- l1];exact all_eq hl
   rw[e4]
   exact⟨.bl _,H,I,rfl,k⟩
 .refine eq_list_lengthsAt pl1.isList pl2.isList (by simp;omega) hu ?_
  rw[decide_eq_false (fun z=>hl (by rw[z]))]at k
  exact⟨.bl false,H,I,rfl,k⟩
open PySem.SeqAt in
theorem op_neL (hu:X.A.units<cLine):OpR X (compareOp .NotEq) (rEqL X.K true):=by
 intro pins s σ H x y v u Q I rx ry h
 obtain⟨p,q,xs,ys,rfl,rfl,hp,hq,he,k⟩:=h
 cases rx
 cases ry
 obtain⟨its,r1,pl1,_⟩:=I.list hp
 obtain⟨its2,r2,pl2,_⟩:=I.list hq
 have l1:=r1.length
 have l2:=r2.length
 obtain⟨⟨cls,dd,data,sl⟩,ho,hc,n,hd⟩:=pl1.isList
 obtain⟨⟨cls2,dd2,data2,sl2⟩,ho2,hc2,n2,hd2⟩:=pl2.isList
 simp only at hc hd hc2 hd2
 subst hc hd hc2 hd2
 by_cases hl:xs.length=ys.length
 .refine richCompare_meets_room (op:=.NotEq) ⟨_,ho,rfl⟩ ⟨_,ho2,rfl⟩ F.slot_list_ne F.entry_list_ne (F.args_list_ne_2 _ _) (list_neAt p q its.toArray its2.toArray n n2 dd dd2 sl sl2 (by simp;omega) (fun i=>decide (xs[i]?=ys[i]?))) ⟨ho,ho2,fun j h1 h2=>?_,?_⟩ hu
  .have j1:j<xs.length:=by simp at h1;omega
   have j2:j<ys.length:=by omega
   have g1:xs[j]?=some xs[j]:=List.getElem?_eq_getElem j1
   have g2:ys[j]?=some ys[j]:=List.getElem?_eq_getElem j2
   obtain⟨u1,e1,ru1⟩:=r1.get g1
   obtain⟨u2,e2,ru2⟩:=r2.get g2
   have f1:its.toArray[j]=u1:=by simp at h1 ⊢;rw[List.getElem?_eq_getElem h1]at e1;exact Option.some.inj e1
   have f2:its2.toArray[j]=u2:=by simp at h2 ⊢;rw[List.getElem?_eq_getElem h2]at e2;exact Option.some.inj e2
   rw[f1,f2,g1,g2]
   have e3:decide (some xs[j]=some ys[j])=decide (xs[j]=ys[j]):=by simp
   rw[e3]
   exact eqAt_of ru1 ru2 (he hl j _ _ g1 g2)
  .have e4:(List.range its.toArray.size).all (fun i=>decide (xs[i]?=ys[i]?))=decide (xs=ys):=by
    rw[List.size_toArray,<- l1];exact all_eq hl
   rw[e4]
   exact(show Value.bool (!decide (xs=ys))≠Value.notImplemented/\EP X pins σ Q (Value.bool (!decide (xs=ys))) s from⟨(fun x=>nomatch x),⟨.bl _,H,I,rfl,k⟩⟩)
 .refine richCompare_meets_room (op:=.NotEq) ⟨_,ho,rfl⟩ ⟨_,ho2,rfl⟩ F.slot_list_ne F.entry_list_ne (F.args_list_ne_2 _ _) (list_ne_lengthsAt p q its.toArray its2.toArray n n2 dd dd2 sl sl2 (by simp;omega)) ⟨ho,ho2,?_⟩ hu
  rw[decide_eq_false (fun z=>hl (by rw[z]))]at k
  exact(show Value.bool true≠Value.notImplemented/\EP X pins σ Q (Value.bool true) s from⟨(fun x=>nomatch x),⟨.bl true,H,I,rfl,k⟩⟩)
noncomputable def rgs (i:Int) (n:Nat):List V:=(List.range n).map fun(k:Nat)=>V.int (i+(k:Int))
noncomputable def rRng:List V->Hp->VK->Prop:=fun xs H Q=>∃i j:Int,(xs=[.int i,.int j]\/(i=0/\xs=[.int j]))/\∀p,H p=none->Q (.ref p) (upd H p (.rng i j))
theorem call_rng:CallR X (.type "range") rRng:=by
 intro pins s σ H xs us Q I rv h
 obtain⟨i,j,hx,q⟩:=h
 have hn:H s.heap.objs.size=none:=I.hok.fresh (Nat.le_refl _)
 rcases hx with rfl|⟨rfl,rfl⟩
 .cases rv with
  |cons r1 rv=>
   cases rv with
   |cons r2 rv=>
    cases rv
    obtain⟨t,rfl⟩:=r1
    obtain⟨u,rfl⟩:=r2
    exact call_range_2 ⟨.ref s.heap.objs.size,_,I.laid (t':=s.toks+1) (fun _ _ e=>Heap.get?_push_of_some _ e) (Nat.le_refl _) (o:=.rng i j) ⟨t,u,s.toks,Heap.get?_push_size _ rfl⟩,rfl,q _ hn⟩
 .cases rv with
  |cons r1 rv=>
   cases rv
   obtain⟨t,rfl⟩:=r1
   exact call_range_1 ⟨.ref s.heap.objs.size,_,I.laid (t':=s.toks+1+1) (fun _ _ e=>Heap.get?_push_of_some _ e) (Nat.le_refl _) (o:=.rng 0 j) ⟨s.toks,t,s.toks+1,Heap.get?_push_size _ rfl⟩,rfl,q _ hn⟩
noncomputable def rLrg:List V->Hp->VK->Prop:=fun xs H Q=>∃r i j,xs=[.ref r]/\H r=some (.rng i j)/\(-(2 ^ 62)<=i/\i<2 ^ 62/\-(2 ^ 62)<=j/\j<2 ^ 62)/\(j-i).toNat<=sizeLine/\∀p,H p=none->Q (.ref p) (upd H p (.lst (rgs i (j-i).toNat)))
theorem call_lrg (hc:X.calm=true):CallR X (.type "list") rLrg:=by
 intro pins s σ H xs us Q I rv h
 obtain⟨r,i,j,rfl,hr,⟨h1,h2,h3,h4⟩,hz,q⟩:=h
 cases rv with
 |cons r1 rv=>
  cases rv
  cases r1
  obtain⟨t,u,v,e⟩:=(show ObjOk X.prog X.w H s.heap r (.rng i j) from I.hok r _ hr)
  refine call_list_range (n:=(j-i).toNat) (I.ok.hd hc) e (small_one h1 h2 h3 h4) (by rw[rangeSize_one];split<;>omega) hz fun h' tk' acc' c' hk hS hit=>?_
  obtain⟨hsz,hv⟩:=hit
  have hn:H s.heap.objs.size=none:=I.hok.fresh (Nat.le_refl _)
  have key:∀(n:Nat) (l:List Value) (f:Nat->Int),l.length=n->(∀k v,l[k]?=some v->∃t,v=Value.int (f k) t)->Vals ((List.range n).map fun k=>V.int (f k)) l:=by
   intro n
   induction n with
   |zero=>intro l f hl hv;have:l=[]:=List.length_eq_zero_iff.mp hl;subst this;exact .nil
   |succ n ih=>
    intro l f hl hv
    cases l with
    |nil=>cases hl
    |cons x r=>
     rw[List.range_succ_eq_map,List.map_cons,List.map_map]
     refine .cons (hv 0 x rfl) ?_
     exact ih r (fun k=>f (k+1)) (by simpa using hl) fun k v hk=>hv (k+1) v (by simpa using hk)
  refine⟨.ref s.heap.objs.size,_,I.laid (t':=tk') hk (Nat.le_refl _) (o:=.lst (rgs i (j-i).toNat)) ⟨by unfold rgs;rw[List.length_map,List.length_range];exact hz,acc'.toList,c',?_,hS⟩,rfl,q _ hn⟩
  refine key _ _ (fun k=>i+(k:Int)) (by rw[Array.length_toList];exact hsz) fun k v hk=>?_
  obtain⟨t,e⟩:=hv k v (by simpa using hk)
  exact⟨t,by rw[e];simp⟩
end
section
variable {X:Cx}
theorem op_mulW:OpR X (binaryOp .Mult) (rI IntMulOk fun i j=>.int (i*j)):=opI fun _ _ _ _ _ _ _ hc q=>mul_int q hc
noncomputable def isPl:V->Bool
 | .ty _=>false
 | .byt _=>false
 | .flt _=>false
 |_=>true
noncomputable def rIsB (neg:Bool):R2:=fun x y H Q=>∃b,y=.bl b/\isPl x=true/\Q (.bl (if neg then !decide (x=.bl b)else decide (x=.bl b))) H
theorem is_eq {x:V} {v:Value} {b:Bool} (r:RelV x v) (h:isPl x=true):plainIs v (.bool b)=true/\(v == Value.bool b)=decide (x=.bl b):=by
 cases x with
 |non=>cases r;exact⟨rfl,rfl⟩
 |bl a=>cases r;refine⟨rfl,?_⟩;cases a<;>cases b<;>rfl
 |int i=>obtain⟨t,rfl⟩:=r;exact⟨rfl,rfl⟩
 |str i=>obtain⟨t,rfl⟩:=r;exact⟨rfl,rfl⟩
 |ref a=>cases r;exact⟨rfl,rfl⟩
 |_=>cases h
theorem op_isB:OpR X (compareOp .Is) (rIsB false):=by
 intro pins s σ H x y v u Q I rx ry h
 obtain⟨b,rfl,hp,q⟩:=h
 cases ry
 obtain⟨h1,h2⟩:=is_eq (b:=b) rx hp
 exact wpAny_is_plain h1 ⟨.bl _,H,I,by rw[h2];rfl,q⟩
theorem op_isNotB:OpR X (compareOp .IsNot) (rIsB true):=by
 intro pins s σ H x y v u Q I rx ry h
 obtain⟨b,rfl,hp,q⟩:=h
 cases ry
 obtain⟨h1,h2⟩:=is_eq (b:=b) rx hp
 exact wpAny_isNot_plain h1 ⟨.bl _,H,I,by rw[h2];rfl,q⟩
theorem op_fdivW:OpR X (binaryOp .FloorDiv) (rI (fun _ j=>0<j/\j.natAbs.log2<9000) fun i j=>.int (i / j)):=opI fun i j _ _ _ _ _ hc q=>by
 refine floordiv_int (by omega) ?_ (.inl (PyProof.noPylong_of_log2 hc.2))
 rw[Int.fdiv_eq_ediv_of_nonneg i (by omega)]
 exact q
end
section
variable {κ:Type} [DecidableEq κ]
noncomputable def valV (kvs:List (κ×V)) (k:κ):Option V:=(kvs.find? fun kv=>decide (kv.1=k)).map (·.2)
noncomputable def putK (kvs:List (κ×V)) (k:κ) (v:V):List (κ×V):=
 if(kvs.any fun kv=>decide (kv.1=k))=true then kvs.map (fun kv=>if kv.1=k then(kv.1,v)else kv)else kvs++[(k,v)]
theorem valV_pos {p:κ×V} {r:List (κ×V)} {k:κ} (e:p.1=k):valV (p :: r) k=some p.2:=by simp[valV,List.find?_cons,e]
theorem valV_neg {p:κ×V} {r:List (κ×V)} {k:κ} (e:¬p.1=k):valV (p :: r) k=valV r k:=by simp[valV,List.find?_cons,e]
theorem valV_any (k:κ):∀kvs:List (κ×V),(kvs.any fun kv=>decide (kv.1=k))=(valV kvs k).isSome
 | []=>rfl
 |p :: r=>by
  rw[List.any_cons]
  by_cases e:p.1=k
  .simp only[valV_pos e,decide_eq_true e,Bool.true_or,Option.isSome_some]
  .rw[valV_neg e,decide_eq_false e,Bool.false_or];exact valV_any k r
theorem length_putK (kvs:List (κ×V)) (k:κ) (v:V):(putK kvs k v).length<=kvs.length+1:=by
 unfold putK
 split
 .rw[List.length_map];omega
 .rw[List.length_append,List.length_cons,List.length_nil];omega
theorem putK_new {kvs:List (κ×V)} {k:κ} (v:V) (h:valV kvs k=none):putK kvs k v=kvs++[(k,v)]:=by
 unfold putK
 rw[valV_any,h]
 exact if_neg (by decide)
theorem RelO.isSome_eq {o:Option V} {u:Option Value} (r:RelO o u):o.isSome=u.isSome:=by
 cases o with
 |none=>cases u with
  |none=>rfl
  |some _=>exact(show False from r).elim
 |some _=>cases u with
  |none=>exact(show False from r).elim
  |some _=>rfl
theorem RelO.getD {o:Option V} {u:Option Value} {d:V} {d':Value} (r:RelO o u) (rd:RelV d d'):RelV (o.getD d) (u.getD d'):=by
 cases o with
 |none=>cases u with
  |none=>exact rd
  |some _=>exact(show False from r).elim
 |some _=>cases u with
  |none=>exact(show False from r).elim
  |some _=>exact r
theorem KV.val {kvs:List (κ×V)} {vs:List (κ×Value)} (r:KV kvs vs) (k:κ):RelO (valV kvs k) (valueAt vs k):=by
 unfold KV at r
 induction r with
 |nil=>exact True.intro
 | @cons p q ps qs h t ih=>
  obtain⟨h1,h2⟩:=h
  by_cases e:p.1=k
  .have e':q.1=k:=h1.symm.trans e
   have b:valueAt (q :: qs) k=some q.2:=by simp[valueAt,List.find?_cons,e']
   rw[valV_pos e,b];exact h2
  .have e':¬q.1=k:=fun z=>e (h1.trans z)
   have b:valueAt (q :: qs) k=valueAt qs k:=by simp[valueAt,List.find?_cons,e']
   rw[valV_neg e,b];exact ih
theorem KV.any {kvs:List (κ×V)} {vs:List (κ×Value)} (r:KV kvs vs) (k:κ):(kvs.any fun kv=>decide (kv.1=k))=vs.any fun kv=>decide (kv.1=k):=by
 unfold KV at r
 induction r with
 |nil=>rfl
 |cons h t ih=>rw[List.any_cons,List.any_cons,ih,h.1]
theorem KV.repl {kvs:List (κ×V)} {vs:List (κ×Value)} (r:KV kvs vs) (k:κ) {y:V} {u:Value} (ry:RelV y u):
  KV (kvs.map fun kv=>if kv.1=k then(kv.1,y)else kv) (vs.map fun kv=>if kv.1=k then(kv.1,u)else kv):=by
 unfold KV at r ⊢
 induction r with
 |nil=>exact .nil
 | @cons p q ps qs h t ih=>
  rw[List.map_cons,List.map_cons]
  refine .cons ?_ ih
  obtain⟨h1,h2⟩:=h
  by_cases e:p.1=k
  .rw[if_pos e,if_pos (h1.symm.trans e)];exact⟨h1,ry⟩
  .rw[if_neg e,if_neg (fun z=>e (h1.trans z))];exact⟨h1,h2⟩
theorem KV.put {kvs:List (κ×V)} {vs:List (κ×Value)} (r:KV kvs vs) (k:κ) {y:V} {u:Value} (ry:RelV y u):KV (putK kvs k y) (stored vs k u):=by
 unfold putK stored
 rw[r.any k]
 by_cases e:(vs.any fun kv=>decide (kv.1=k))=true
 .rw[if_pos e,if_pos e];exact r.repl k ry
 .rw[if_neg e,if_neg e];exact Paired.snoc r ⟨rfl,ry⟩
theorem KV.keys {kvs:List (κ×V)} {vs:List (κ×Value)} (r:KV kvs vs):kvs.map (·.1)=vs.map (·.1):=by
 unfold KV at r
 induction r with
 |nil=>rfl
 |cons h t ih=>rw[List.map_cons,List.map_cons,ih,h.1]
theorem KV.length {kvs:List (κ×V)} {vs:List (κ×Value)} (r:KV kvs vs):kvs.length=vs.length:=Paired.length r
end
theorem kV_is {P:Program} {w:World} {k:Key} {u:Value} (r:RelV (kV k) u):(mixKind P w).is k u=true:=by
 cases k with
 |inl i=>obtain⟨t,e⟩:=(show ∃t,u=Value.int i t from r);subst e;exact mixKind_int P w i t
 |inr x=>obtain⟨t,e⟩:=(show ∃t,u=Value.str x t from r);subst e;exact mixKind_str P w x t
 |non=>obtain rfl:u=Value.none:=r;rfl
theorem items_are {P:Program} {w:World}:∀{ks:List Key} {us:List Value},Vals (ks.map kV) us->ItemsAre (mixKind P w) ks us
 | [],_,r=>by rw[List.map_nil]at r;cases r;exact .nil
 |k :: ks,_,r=>by
  rw[List.map_cons]at r
  cases r with
  |cons h t=>exact .cons (kV_is h) (items_are t)
noncomputable abbrev KT (H:Hp):List (List Key×V)->List (List Key×Addr×Value)->Prop:=Paired fun p q=>p.1=q.1/\H q.2.1=some (.tup (p.1.map kV))/\RelV p.2 q.2.2
theorem KT.val {H:Hp} {kvs:List (List Key×V)} {xs:List (List Key×Addr×Value)} (r:KT H kvs xs) (k:List Key):RelO (valV kvs k) ((atKey xs k).map (·.2)):=by
 induction r with
 |nil=>exact True.intro
 | @cons p q ps qs h t ih=>
  obtain⟨h1,_,h2⟩:=h
  by_cases e:p.1=k
  .have e':q.1=k:=h1.symm.trans e
   have b:atKey (q :: qs) k=some q.2:=by simp[atKey,List.find?_cons,e']
   rw[valV_pos e,b];exact h2
  .have e':¬q.1=k:=fun z=>e (h1.trans z)
   have b:atKey (q :: qs) k=atKey qs k:=by simp[atKey,List.find?_cons,e']
   rw[valV_neg e,b];exact ih
theorem KT.repl {H:Hp} {kvs:List (List Key×V)} {xs:List (List Key×Addr×Value)} (r:KT H kvs xs) (k:List Key) {y:V} {u:Value} (ry:RelV y u):
  KT H (kvs.map fun kv=>if kv.1=k then(kv.1,y)else kv) (xs.map (putAt k u)):=by
 induction r with
 |nil=>exact .nil
 | @cons p q ps qs h t ih=>
  rw[List.map_cons,List.map_cons]
  refine .cons ?_ ih
  obtain⟨h1,h2,h3⟩:=h
  unfold putAt
  by_cases e:p.1=k
  .rw[if_pos e,if_pos (h1.symm.trans e)];exact⟨h1,h2,ry⟩
  .rw[if_neg e,if_neg (fun z=>e (h1.trans z))];exact⟨h1,h2,h3⟩
theorem KT.put {H:Hp} {kvs:List (List Key×V)} {xs:List (List Key×Addr×Value)} (r:KT H kvs xs) (k:List Key) {b:Addr} {y:V} {u:Value} (hb:H b=some (.tup (k.map kV))) (ry:RelV y u):
  KT H (putK kvs k y) (storedH xs k b u):=by
 have e:(kvs.any fun kv=>decide (kv.1=k))=(atKey xs k).isSome:=by
  rw[valV_any,(r.val k).isSome_eq,Option.isSome_map]
 unfold putK storedH
 rw[e]
 by_cases q:(atKey xs k).isSome=true
 .rw[if_pos q,if_pos q];exact r.repl k ry
 .rw[if_neg q,if_neg q];exact Paired.snoc r ⟨rfl,hb,ry⟩
theorem KT.keeps {H H':Hp} {kvs:List (List Key×V)} {xs:List (List Key×Addr×Value)} (r:KT H kvs xs) (ht:∀b ys,H b=some (.tup ys)->H' b=some (.tup ys)):KT H' kvs xs:=
 Paired.mapP r fun _ _ z=>⟨z.1,ht _ _ z.2.1,z.2.2⟩
section
variable {P:Program} {w:World} {H:Hp} {h:Heap} {a:Addr}
theorem rd_of {u:HO} (ok:HOk P w H h) (e:Rd H a u):ObjOk P w H h a u:=e.ok ok
theorem dk_rd {kvs:List (Key×V)} (ok:HOk P w H h) (e:Rd H a (.dK kvs)):kvs.length<=sizeLine/\(a == sysModules)=false/\∃vs,KV kvs vs/\h.DictOf (mixKind P w) a vs:=
 show ObjOk P w H h a (.dK kvs) from rd_of ok e
theorem dk_of {kvs:List (Key×V)} (ok:HOk P w H h) (e:H a=some (.dK kvs)):kvs.length<=sizeLine/\(a == sysModules)=false/\∃vs,KV kvs vs/\h.DictOf (mixKind P w) a vs:=dk_rd ok (.inl e)
theorem key_of {ks:List Key} (ok:HOk P w H h) (e:H a=some (.tup (ks.map kV))):(tupleKind (mixKind P w)).is h ks a:=by
 obtain⟨_,its,r,o,h1,h2,⟨n,h3⟩,_⟩:=(show ObjOk P w H h a (.tup (ks.map kV)) from ok a _ e)
 exact⟨o,its.toArray,n,h1,h2,h3,by simpa using items_are r⟩
theorem dt_rd {kvs:List (List Key×V)} (ok:HOk P w H h) (e:Rd H a (.dT kvs)):kvs.length<=sizeLine/\(a == sysModules)=false/\
  ∃xs,KT H kvs xs/\h.DictOfH (tupleKind (mixKind P w)) a xs:=by
 obtain⟨z,y,xs,r,o,es,ep,h1,h2,h3,h4,h5⟩:=(show ObjOk P w H h a (.dT kvs) from rd_of ok e)
 refine⟨z,y,xs,r,o,es,ep,h1,h2,h3,h4,fun x hx=>?_,h5⟩
 have all:∀{l:List (List Key×V)} {m:List (List Key×Addr×Value)},KT H l m->∀x∈m,(tupleKind (mixKind P w)).is h x.1 x.2.1:=by
  intro l m q
  induction q with
  |nil=>intro x hx;exact nomatch hx
  | @cons p q ps qs hq t ih=>
   intro x hx
   rcases List.mem_cons.mp hx with e|hx
   .subst e
    exact key_of ok (by rw[<- hq.1];exact hq.2.1)
   .exact ih x hx
 exact all r x hx
theorem dt_of {kvs:List (List Key×V)} (ok:HOk P w H h) (e:H a=some (.dT kvs)):kvs.length<=sizeLine/\(a == sysModules)=false/\
  ∃xs,KT H kvs xs/\h.DictOfH (tupleKind (mixKind P w)) a xs:=dt_rd ok (.inl e)
end
def DGet (H:Hp) (a:Addr) (y:V) (r:Option V):Prop:=
 (∃kvs k,Rd H a (.dK kvs)/\y=kV k/\r=valV kvs k)\/∃kvs k b,Rd H a (.dT kvs)/\y=.ref b/\H b=some (.tup (k.map kV))/\r=valV kvs k
def DPut (H:Hp) (a:Addr) (y v:V) (H':Hp):Prop:=
 (∃kvs k,H a=some (.dK kvs)/\y=kV k/\kvs.length<sizeLine/\H'=upd H a (.dK (putK kvs k v)))\/
 ∃kvs k b,H a=some (.dT kvs)/\y=.ref b/\H b=some (.tup (k.map kV))/\kvs.length<sizeLine/\H'=upd H a (.dT (putK kvs k v))
theorem DGet.k {H:Hp} {a:Addr} {kvs:List (Key×V)} {k:Key} (e:H a=some (.dK kvs)):DGet H a (kV k) (valV kvs k):=.inl ⟨kvs,k,.inl e,rfl,rfl⟩
section
variable {X:Cx} {pins:List (Addr×Obj)} {σ:St} {H:Hp} {s:Shared} {a:Addr} {y v:V} {u r:Value} {o:Option V} {A:Around} {E:Value->Shared->Prop}
theorem Inv.big (I:Inv X pins σ H s):sysModules<s.heap.objs.size:=by
 have h:mainGlobals<s.heap.objs.size:=(I.mod.glob.keeps I.bk).lt
 exact Nat.lt_trans (by decide) h
theorem d_in {Q:Value->Shared->Prop} (hu:A.units+1<cLine) (I:Inv X pins σ H s) (g:DGet H a y o) (ry:RelV y u) (h:∀s',Inv X pins σ H s'->Q (.bool o.isSome) s'):
  wpAny (model X.prog X.w) A (compareOp .In u (.ref a)) Q E s:=by
 rcases g with⟨kvs,k,e,ey,l⟩|⟨kvs,k,b,e,ey,eb,l⟩
 .subst ey
  obtain⟨z,hd,vs,rel,dd⟩:=dk_rd I.hok e
  refine wpAny_in_of (kV_is ry) hd dd.mapOf ?_
  rw[<- (rel.val k).isSome_eq,<- l]
  exact h _ (I.tok _)
 .subst ey
  cases(show u=Value.ref b from ry)
  obtain⟨z,hd,xs,rel,dd⟩:=dt_rd I.hok e
  refine wpAny_in_heap (tupleKind_room_in1 hu) (key_of I.hok eb) hd dd ?_
  have q:=(rel.val k).isSome_eq
  rw[Option.isSome_map]at q
  rw[<- q,<- l]
  exact h _ (I.tok _)
theorem d_notIn {Q:Value->Shared->Prop} (hu:A.units+1<cLine) (I:Inv X pins σ H s) (g:DGet H a y o) (ry:RelV y u) (h:∀s',Inv X pins σ H s'->Q (.bool (!o.isSome)) s'):
  wpAny (model X.prog X.w) A (compareOp .NotIn u (.ref a)) Q E s:=by
 rcases g with⟨kvs,k,e,ey,l⟩|⟨kvs,k,b,e,ey,eb,l⟩
 .subst ey
  obtain⟨z,hd,vs,rel,dd⟩:=dk_rd I.hok e
  refine wpAny_notIn_of (kV_is ry) hd dd.mapOf ?_
  rw[<- (rel.val k).isSome_eq,<- l]
  exact h _ (I.tok _)
 .subst ey
  cases(show u=Value.ref b from ry)
  obtain⟨z,hd,xs,rel,dd⟩:=dt_rd I.hok e
  refine wpAny_notIn_heap (tupleKind_room_in1 hu) (key_of I.hok eb) hd dd ?_
  have q:=(rel.val k).isSome_eq
  rw[Option.isSome_map]at q
  rw[<- q,<- l]
  exact h _ (I.tok _)
theorem d_write {h':Heap} {t':Nat} {ob:HO} (I:Inv X pins σ H s) (mu:Mut (H a)) (hs:Heap.SameBut a s.heap h') (he:∃q,h'.get? a=some q) (new:ObjOk X.prog X.w (upd H a ob) h' a ob):
  Inv X pins σ (upd H a ob) { s with heap:=h',toks:=t' }:=
 I.write (x:=a) (e:=a) mu (.inl rfl) (fun b q hb z=>(hs.2 b hb).trans z) he new
theorem dk_new {P:Program} {w:World} {H':Hp} {h':Heap} {kvs:List (Key×V)} {vs:List (Key×Value)} (z:kvs.length<=sizeLine) (hd:(a == sysModules)=false) (rel:KV kvs vs) (dd:h'.DictOf (mixKind P w) a vs):
  ObjOk P w H' h' a (.dK kvs):=⟨z,hd,vs,rel,dd⟩
theorem d_setItem {H':Hp} {Q:Unit->Shared->Prop} (hu:A.units+1<cLine) (I:Inv X pins σ H s) (g:DPut H a y v H') (ry:RelV y u) (rv:RelV v r) (h:∀s',Inv X pins σ H' s'->Q () s'):
  wpAny (model X.prog X.w) A (setItem (.ref a) u r) Q E s:=by
 rcases g with⟨kvs,k,e,ey,l,eH⟩|⟨kvs,k,b,e,ey,eb,l,eH⟩
 .subst ey eH
  obtain⟨z,hd,vs,rel,dd⟩:=dk_of I.hok e
  have hz:vs.length<=sizeLine:=by rw[<- rel.length];exact z
  have hl:(putK kvs k v).length<=sizeLine:=by have:=length_putK kvs k v;omega
  refine wpAny_setItem_pairs (hsz:=hz) (kV_is ry) dd fun h' dd' hs=>h _ ?_
  have he:∃q,h'.get? a=some q:=let⟨q,_,_,hq,_⟩:=dd';⟨q,hq⟩
  exact d_write I (by rw[e];exact True.intro) hs he (dk_new hl hd (rel.put k rv) dd')
 .subst ey eH
  cases(show u=Value.ref b from ry)
  obtain⟨z,hd,xs,rel,dd⟩:=dt_of I.hok e
  have hz:xs.length<=sizeLine:=by rw[<- Paired.length rel];exact z
  have hl:(putK kvs k v).length<=sizeLine:=by have:=length_putK kvs k v;omega
  refine wpAny_setItem_heap (hsz:=hz) (tupleKind_room_in1 hu) (key_of I.hok eb) dd fun h' dd' hs=>h _ ?_
  obtain⟨q,es,ep,hq,h2,h3,h4,_,h5⟩:=dd'
  refine d_write I (by rw[e];exact True.intro) hs ⟨q,hq⟩ ⟨hl,hd,_,(rel.put k eb rv).keeps fun c ys ec=>?_,q,es,ep,hq,h2,h3,h4,h5⟩
  rw[upd_ne (ne_of ec e (fun z=>nomatch z))]
  exact ec
end
section
variable {X:Cx} {pins:List (Addr×Obj)} {σ:St} {H:Hp} {s:Shared} {a:Addr} {kvs:List (Key×V)} {k:Key} {u:Value} {A:Around} {E:Value->Shared->Prop}
theorem d_len {Q:Value->Shared->Prop} (I:Inv X pins σ H s) (e:Rd H a (.dK kvs)) (h:∀t s',Inv X pins σ H s'->Q (.int kvs.length t) s'):wpAny (model X.prog X.w) A (call (.builtin "len") [.ref a]) Q E s:=by
 obtain⟨z,hd,vs,rel,dd⟩:=dk_rd I.hok e
 refine call_len_dict hd dd (by rw[<- rel.length];rw[sizeLine_eq]at z;omega) ?_
 rw[<- rel.length]
 exact h _ _ (I.tok _)
end
noncomputable def sDPut (td ty tv:TE):TS:=fun D σ H=>tv σ H fun v H1=>td σ H1 fun x H2=>ty σ H2 fun y H3=>∃a H4,x=.ref a/\DPut H3 a y v H4/\D.nx σ H4
section
variable {X:Cx} {o i e value:Expr} {pos pos' tpos:Pos} {td ty tv:TE}
theorem ps_dput (hu:X.A.units+1<cLine) (ho:PE X o td) (hi:PE X i ty) (hv:PE X value tv) (hs:swapsWith value (some (.Subscript o i pos')) pos.line X.env=pure false):
  PS X (.Assign [.Subscript o i pos'] value pos) (sDPut td ty tv):=by
 intro pins s σ H D I h
 refine wpAny_Assign_Subscript (thn (hv pins s σ H _ I h) fun r s1 ⟨v,H1,I1,rv,q1⟩=>thn (ho pins s1 σ H1 _ I1 q1) fun u s2 ⟨x,H2,I2,rx,q2⟩=>thn (hi pins s2 σ H2 _ I2 q2) fun iv s3 ⟨y,H3,I3,ry,a,H4,ex,g,q3⟩=>?_) hs
 subst ex
 obtain rfl:u=Value.ref a:=rx
 exact d_setItem hu I3 g ry rv fun s4 I4=>⟨σ,H4,I4,q3⟩
end
theorem dk_empty {P:Program} {w:World} {H:Hp} (h:Heap) (hb:sysModules<h.objs.size):ObjOk P w H (h.push { cls:=.type "dict",data:=.dict #[] }) h.objs.size (.dK []):=
 ⟨Nat.zero_le _,beq_eq_false_iff_ne.mpr (Ne.symm (Nat.ne_of_lt hb)),[],.nil,Heap.DictOf.new h⟩
noncomputable def tDNewK:TE:=fun _ H Q=>∀p,H p=none->Q (.ref p) (upd H p (.dK []))
section
variable {X:Cx} {pos:Pos}
theorem pe_dnewK:PE X (.Dict [] [] pos) tDNewK:=fun pins s σ H Q I h=>
 wpAny_Dict_empty ⟨.ref s.heap.objs.size,_,I.laid (a:=s.heap.objs.size) (o:=.dK []) (t':=s.toks) (fun _ _ q=>Heap.get?_push_of_some _ q) (Nat.le_refl _) (dk_empty s.heap I.big),rfl,h _ (I.hok.fresh (Nat.le_refl _))⟩
end
structure M1 (X:Cx) (o:Expr) (m:Str) (apos:Pos) (e:Expr) (cpos:Pos):Prop where
 base:attributeBase o m X.env (eval o X.env)=eval o X.env
 few:((backTo cpos (starEach [e] X.env)).all (fun x=>!x.1)&&(backToKw cpos (keywordEach [] X.env)).all (fun x=>x.1.isSome)
  && decide (([e]:List Expr).length+([]:List Keyword).length+(if([]:List Keyword).isEmpty then 0 else 1)<30))=true
 line:(apos.endLine == cpos.line)=true
 trees:backTo cpos (starEach [e] X.env)=[(false,eval e X.env)]
structure M2 (X:Cx) (o:Expr) (m:Str) (apos:Pos) (e f:Expr) (cpos:Pos):Prop where
 base:attributeBase o m X.env (eval o X.env)=eval o X.env
 few:((backTo cpos (starEach [e,f] X.env)).all (fun x=>!x.1)&&(backToKw cpos (keywordEach [] X.env)).all (fun x=>x.1.isSome)
  && decide (([e,f]:List Expr).length+([]:List Keyword).length+(if([]:List Keyword).isEmpty then 0 else 1)<30))=true
 line:(apos.endLine == cpos.line)=true
 trees:backTo cpos (starEach [e,f] X.env)=[(false,eval e X.env),(false,eval f X.env)]
def IsD (H:Hp) (a:Addr):Prop:=(∃kvs,Rd H a (.dK kvs))\/∃kvs,Rd H a (.dT kvs)
theorem isD_at {X:Cx} {pins:List (Addr×Obj)} {σ:St} {H:Hp} {s:Shared} {a:Addr} (I:Inv X pins σ H s) (d:IsD H a):
  s.TypeIs (.ref a) "dict"/\(∀b,Value.ref a=.ref b->∃ob,s.heap.get? b=some ob/\ob.dict=none)/\(a == sysModules)=false:=by
 rcases d with⟨kvs,e⟩|⟨kvs,e⟩
 .obtain⟨_,hd,vs,_,dd⟩:=dk_rd I.hok e
  refine⟨dd.typeIs,fun b q=>?_,hd⟩
  cases q
  obtain⟨ob,_,_,h1,h2,_⟩:=dd
  exact⟨ob,h1,h2.2.1⟩
 .obtain⟨_,hd,xs,_,dd⟩:=dt_rd I.hok e
  refine⟨dd.typeIs,fun b q=>?_,hd⟩
  cases q
  obtain⟨ob,_,_,h1,h2,_⟩:=dd
  exact⟨ob,h1,h2.2.1⟩
section
variable {X:Cx} {pins:List (Addr×Obj)} {σ:St} {H:Hp} {s:Shared} {a:Addr} {y d:V} {u r:Value} {o:Option V} {A:Around} {E:Value->Shared->Prop}
theorem d_get2 {Q:Value->Shared->Prop} (hu:A.units+1<cLine) (I:Inv X pins σ H s) (g:DGet H a y o) (ry:RelV y u) (rd:RelV d r) (h:∀w' s',Inv X pins σ H s'->RelV (o.getD d) w'->Q w' s'):
  wpAny (model X.prog X.w) A (call (.builtin "dict.get") [.ref a,u,r]) Q E s:=by
 rcases g with⟨kvs,k,e,ey,l⟩|⟨kvs,k,b,e,ey,eb,l⟩
 .subst ey
  obtain⟨z,hd,vs,rel,dd⟩:=dk_rd I.hok e
  refine call_meetsIn PySem.F.slot_dict_get dd.typeIs PySem.F.entry_dict_get (PySem.F.args_dict_get_3 _ _ _) (meets_dict_get_default (mixKind X.prog X.w) a (kV_is ry) hd r) ⟨_,dd.mapOf,h _ _ (I.tok _) ?_⟩
  rw[l]
  exact(rel.val k).getD rd
 .subst ey
  cases(show u=Value.ref b from ry)
  obtain⟨z,hd,xs,rel,dd⟩:=dt_rd I.hok e
  refine call_meetsIn PySem.F.slot_dict_get dd.typeIs PySem.F.entry_dict_get (PySem.F.args_dict_get_3 _ _ _) (meetsH_dict_get_default (tupleKind (mixKind X.prog X.w)) a b hd r) ⟨tupleKind_room_in1 hu,k,xs,key_of I.hok eb,dd,h _ _ (I.tok _) ?_⟩
  rw[l]
  exact(rel.val k).getD rd
end
noncomputable def tDGet2 (td ty tx:TE):TE:=fun σ H Q=>td σ H fun x H1=>∃a,x=.ref a/\IsD H1 a/\ty σ H1 fun y H2=>tx σ H2 fun z H3=>∃o,DGet H3 a y o/\Q (o.getD z) H3
section
variable {X:Cx} {o e f:Expr} {apos cpos:Pos} {td ty tx:TE}
theorem pe_dget2 (hu:X.A.units+1<cLine) (ho:PE X o td) (he:PE X e ty) (hf:PE X f tx) (m:M2 X o "get" apos e f cpos):PE X (.Call (.Attribute o "get" apos) [e,f] [] cpos) (tDGet2 td ty tx):=by
 intro pins s σ H Q I h
 refine wpAny_Call_method m.base m.few m.line PySem.F.plainAttrs_dict PySem.F.slot_dict_get PySem.F.type_dict_get (thn (ho pins s σ H _ I h) fun u s1 ⟨x,H1,I1,rx,a,ex,d,q1⟩=>?_)
 subst ex
 obtain rfl:u=Value.ref a:=rx
 obtain⟨t1,t2,_⟩:=isD_at I1 d
 refine⟨t1,t2,?_⟩
 rw[m.trees]
 refine Calls.callWith_builtin rfl (Calls.evalArgs_plain (Calls.spliced_cons (thn (he pins s1 σ H1 _ I1 q1) fun iv s2 ⟨y,H2,I2,ry,q2⟩=>
  Calls.spliced_cons (thn (hf pins s2 σ H2 _ I2 q2) fun fv s3 ⟨z,H3,I3,rz,ov,g,q3⟩=>Calls.spliced_nil ?_))))
 exact d_get2 hu I3 g ry rz fun w' s4 I4 rw'=>⟨_,H3,I4,rw',q3⟩
end
section
variable {X:Cx} {pins:List (Addr×Obj)} {σ:St} {H:Hp} {s:Shared} {a:Addr} {kvs:List (Key×V)} {A:Around} {E:Value->Shared->Prop}
end
section
variable {X:Cx} {pins:List (Addr×Obj)} {σ:St} {H:Hp} {s:Shared} {a:Addr} {y:V} {u:Value} {A:Around} {E:Value->Shared->Prop}
end
section
variable {X:Cx}
theorem call_lenD:CallR X (.builtin "len") (fun xs H Q=>∃a kvs,xs=[V.ref a]/\H a=some (.dK kvs)/\Q (.int kvs.length) H):=by
 intro pins s σ H xs us Q I r h
 obtain⟨a,kvs,rfl,ha,q⟩:=h
 obtain⟨u,rfl,ru⟩:=vals1 r
 cases ru
 exact d_len I (.inl ha) fun t s' I'=>⟨.int kvs.length,H,I',⟨t,rfl⟩,q⟩
end
section
variable {κ:Type} [DecidableEq κ]
end
noncomputable def Itc (lo c:Int) (n:Nat):It:=⟨fun i _=>i<n,fun i H x H'=>H'=H/\x=.int (lo+i*c),fun i _=>n<=i⟩
theorem turn_rangeC {P:Program} {w:World} {K:W.Frag} {tg:Expr} (it:Addr) (lo c:Int) (n:Nat):Turn P w K tg (Itc lo c n) [it] it (fun i h=>IsRangeIter h it (lo+(i:Nat)*c) ((n:Int)-(i:Nat)) c) where
 mem:=by simp
 obj:=fun i h st b hb=>by
  have e:b=it:=by simpa using hb
  subst e
  exact⟨_,st,fun v z=>by
   have z':Data.fields _=Data.cell v:=z
   cases z'⟩
 keep:=fun i h h' st k=>k it (by simp) _ st
 item:=by
  intro X hP hw hK hc i pins s σ H E I hf st hg
  subst hP hw hK
  obtain⟨f0,f1,f2,f3,f4,f5⟩:=hf it (by simp)
  have W:=Walks.range (prog:=X.prog) (w:=X.w) (I.ok.hd hc) it lo c n
  refine W.item i s _ _ hg st fun v h' tk hv st' kk=>?_
  obtain⟨t,rfl⟩:=hv
  have I1:Inv X pins σ H { s with heap:=h',toks:=tk }:=I.turned (fun b o hb e=>kk b o (by simpa using hb) e) f0 f1 f3 f4 f5
  exact⟨_,rfl,go_of (s:={ s with heap:=h',toks:=tk }) (n:="range_iterator") st' rfl rfl (by decide) ⟨.int (lo+i*c),H,I1,⟨t,rfl⟩,⟨rfl,rfl⟩,st',fun b hb=>(hf b hb).1⟩⟩
 done:=by
  intro X hP hw hK hc i pins s σ H E I hf st hg
  subst hP hw hK
  obtain⟨f0,f1,f2,f3,f4,f5⟩:=hf it (by simp)
  exact wpAny_pyNext_range_end (I.ok.hd hc) st (by have:n<=i:=hg;omega) fun h' eb=>⟨rfl,I.turned (t':=s.toks) (fun b o hb e=>eb b o hb e) f0 f1 f3 f4 f5⟩
 self:=fun _ _ _ _ _ st h=>wpAny_pyIter_rangeiter st h
section
variable {prog:Program} {w:World} {A:Around} {E:Value->Shared->Prop} {s:Shared}
theorem call_range_reversed {r:Addr} {a b:Int} {t u v:Tok} {Q:Value->Shared->Prop} (hr:IsRange s.heap r a b 1 t u v) (h1:-(2 ^ 62)<=a) (h2:a<2 ^ 62) (h3:-(2 ^ 62)<=b) (h4:b<2 ^ 62)
  (h:Q (.ref s.heap.objs.size) { s with heap:=s.heap.push { cls:=.type "range_iterator",data:=.fields #[rawInt (a+(Builtin.Range.rangeSize a b 1-1)*1),rawInt (Builtin.Range.rangeSize a b 1),rawInt (-1)] } }):wpAny (model prog w) A (call (.builtin "range.__reversed__") [.ref r]) Q E s:=by
 have hT:s.TypeIs (.ref r) "range":=⟨_,hr,rfl⟩
 refine wpAny_call_entry F.slot_range_reversed hT F.entry_range_reversed ?_ (F.args_range_reversed_1 _)
 unfold Builtin.«range.__reversed__»
 refine wpAny_bind (wpAny_of_eq (a:=Value.ref r) rfl ?_)
 unfold Builtin.Range.rangeFields
 refine wpAny_bind (wpAny_bind (wpAny_field hr rfl (x:=.int a t) rfl ?_))
 refine wpAny_bind (wpAny_of_eq (a:=some a) rfl ?_)
 refine wpAny_bind (wpAny_field hr rfl (x:=.int b u) rfl ?_)
 refine wpAny_bind (wpAny_of_eq (a:=some b) rfl ?_)
 refine wpAny_bind (wpAny_field hr rfl (x:=.int 1 v) rfl ?_)
 refine wpAny_bind (wpAny_of_eq (a:=some 1) rfl ?_)
 refine wpAny_pure ?_
 dsimp only
 have hsz:Builtin.Range.rangeSize a b 1=if a<b then b-a else 0:=by rw[rangeSize_one]
 have hfit:(Builtin.Range.rangeFitsLong a&&Builtin.Range.rangeFitsLong b&&Builtin.Range.rangeFitsLong 1&&Builtin.Range.rangeFitsLong (-1)&&Builtin.Range.rangeFitsLong (a-1)&&Builtin.Range.rangeFitsLong (Builtin.Range.rangeSize a b 1))=true:=by
  rw[hsz]
  unfold Builtin.Range.rangeFitsLong
  split<;>simp<;>omega
 rw[hfit]
 simp only[Bool.not_true,Bool.false_eq_true,if_false,if_true]
 refine wpAny_bind ?_
 unfold newFields
 exact wpAny_newObj_type (wpAny_pure ⟨_,rfl,h⟩)
theorem code_reversed_range {r:Addr} {a b:Int} {t u v:Tok} {Q₁:Value->Shared->Prop} (hr:IsRange s.heap r a b 1 t u v) (h1:-(2 ^ 62)<=a) (h2:a<2 ^ 62) (h3:-(2 ^ 62)<=b) (h4:b<2 ^ 62)
  (h:Q₁ (.ref s.heap.objs.size) { s with heap:=s.heap.push { cls:=.type "range_iterator",data:=.fields #[rawInt (a+(Builtin.Range.rangeSize a b 1-1)*1),rawInt (Builtin.Range.rangeSize a b 1),rawInt (-1)] } }):
  codeAny (model prog w) A (.call (.builtin "reversed.__new__") ⟨[.type "reversed",.ref r],[]⟩) (wants Q₁ E) s:=by
 have hT:s.TypeIs (.ref r) "range":=⟨_,hr,rfl⟩
 refine codeAny_of_tree ?_
 show wpAny _ A.in1 (do checkBuiltinCall "reversed.__new__" ⟨[.type "reversed",.ref r],[]⟩;again (.builtin "reversed.__new__" ⟨[.type "reversed",.ref r],[]⟩)) _ _ s
 refine wpAny_bind (wpAny_of_eq (F.newCall_reversed_1 _) (wpAny_pure ⟨plainId_quiet F.plain_reversed_new _,codeAny_builtin F.entry_reversed_new ?_⟩))
 rw[Around.under_plainId F.plain_reversed_new _]
 unfold Builtin.«reversed.__new__»
 refine wpAny_bind (wpAny_of_eq (newClass_reversed _) ?_)
 try dsimp only
 refine wpAny_bind (wpAny_of_eq (a:=()) (by first|rfl|kernel_rfl) ?_)
 refine wpAny_bind (wpAny_of_eq (a:=()) (by first|rfl|kernel_rfl) ?_)
 try dsimp only
 refine wpAny_bind (wpAny_specialOf hT F.slot_range_reversed.lookup ?_)
 try dsimp only
 refine wpAny_bind (wpAny_of_eq (F.slot_range_reversed.bind _) ?_)
 try dsimp only
 first
 |rw[if_neg (show ¬((Value.builtin "range.__reversed__" == Value.none)=true) from Bool.false_ne_true)]
 |(show wpAny _ _ (if(Value.builtin "range.__reversed__" == Value.none)=true then _ else _) _ _ _;rw[if_neg (show ¬((Value.builtin "range.__reversed__" == Value.none)=true) from Bool.false_ne_true)])
 refine wpAny_bind (wpAny_rule ?_)
 refine wpAny_bind (m:=runValue (.call (.builtin "range.__reversed__") ⟨[.ref r],[]⟩)) (show wpAny _ _ (call (.builtin "range.__reversed__") [.ref r]) _ _ _ from call_range_reversed hr h1 h2 h3 h4 ?_)
 first
 |exact wpAny_pure h
 |exact wpAny_bind (wpAny_pure (wpAny_pure h))
theorem sub_rri_reversed:isSubtype (.type "range_iterator") (.type "reversed")=pure false:=by rw[isSubtype_type];kernel_rfl
theorem call_reversed_range {r:Addr} {a b:Int} {t u v:Tok} {Q:Value->Shared->Prop} (hr:IsRange s.heap r a b 1 t u v) (h1:-(2 ^ 62)<=a) (h2:a<2 ^ 62) (h3:-(2 ^ 62)<=b) (h4:b<2 ^ 62)
  (h:Q (.ref s.heap.objs.size) { s with heap:=s.heap.push { cls:=.type "range_iterator",data:=.fields #[rawInt (a+(Builtin.Range.rangeSize a b 1-1)*1),rawInt (Builtin.Range.rangeSize a b 1),rawInt (-1)] } }):
  wpAny (model prog w) A (call (.type "reversed") [.ref r]) Q E s:=by
 refine callType_other (U:="range_iterator") (Q₁:=fun obj s₁=>obj=.ref s.heap.objs.size/\s₁={ s with heap:=s.heap.push { cls:=.type "range_iterator",data:=.fields #[rawInt (a+(Builtin.Range.rangeSize a b 1-1)*1),rawInt (Builtin.Range.rangeSize a b 1),rawInt (-1)] } }) (by decide +kernel) F.create_reversed ⟨_,_,F.mro_reversed⟩ F.made_reversed sub_rri_reversed (F.typeCall_reversed_1 _) (code_reversed_range hr h1 h2 h3 h4 ⟨rfl,rfl⟩) ?_
 rintro obj s₁ ⟨rfl,rfl⟩
 exact⟨⟨_,Heap.get?_push_size _ rfl,rfl⟩,h⟩
end
noncomputable def Itlr (K:W.Frag) (a:Addr) (n:Nat):It:=
 ⟨fun i H=>i<n/\∃xs,SqL K H a xs/\xs.length=n,fun i H x H'=>H'=H/\∀xs,SqL K H a xs->xs[n-1-i]?=some x,fun i H=>n=i⟩
theorem turn_listRev {P:Program} {w:World} {K:W.Frag} {tg:Expr} (a it:Addr) (n:Nat):Turn P w K tg (Itlr K a n) [it] it (fun i h=>i<=n/\h.IsRevIter it a ((n:Int)-1-(i:Int))) where
 mem:=by simp
 obj:=fun i h st b hb=>by
  have e:b=it:=by simpa using hb
  subst e
  obtain⟨o,e,c,d⟩:=st.2
  exact⟨o,e,fun v z=>by rw[d]at z;cases z⟩
 keep:=fun i h h' st k=>⟨st.1,st.2.at fun o e=>k it (by simp) o e⟩
 item:=by
  intro X hP hw hK hc i pins s σ H E I hf st hg
  subst hP hw hK
  obtain⟨hi,xs,hq,hx⟩:=hg
  obtain⟨its,rv,p,hz⟩:=I.list hq
  have hg1:xs[n-1-i]?=some (xs[n-1-i]'(by omega)):=List.getElem?_eq_getElem _
  obtain⟨u,hu,ru⟩:=rv.get hg1
  obtain⟨f0,f1,f2,f3,f4,f5⟩:=hf it (by simp)
  have e:(n:Int)-1-(i:Int)=((n-1-i:Nat):Int):=by omega
  have st2:=st.2
  rw[e]at st2
  refine wpAny_pyNext_rev_item st2 p.isList (x:=u) (by simpa using hu) fun h' st' sb=>?_
  have I1:Inv X pins σ H { s with heap:=h' }:=I.turned (t':=s.toks) (fun b o hb e=>(sb.2 b hb).trans e) f0 f1 f3 f4 f5
  obtain⟨o,e1,c,d⟩:=id st'
  have e2:((n-1-i:Nat):Int)-1=(n:Int)-1-((i+1:Nat):Int):=by omega
  rw[e2]at st'
  exact⟨u,rfl,go_of (s:={ s with heap:=h' }) e1 c d (by decide) ⟨_,H,I1,ru,⟨rfl,fun ys hy=>by rw[I.list_inj hy hq];exact hg1⟩,⟨hi,st'⟩,fun b hb=>(hf b hb).1⟩⟩
 done:=by
  intro X hP hw hK hc i pins s σ H E I hf st hg
  subst hP hw hK
  have hg':n=i:=hg
  subst hg'
  obtain⟨f0,f1,f2,f3,f4,f5⟩:=hf it (by simp)
  have e:(n:Int)-1-(n:Int)=-1:=by omega
  have st2:=st.2
  rw[e]at st2
  exact wpAny_pyNext_rev_end (I.ok.hd hc) st2 fun h' eb=>⟨rfl,I.turned (t':=s.toks) (fun b o hb e=>eb b o hb e) f0 f1 f3 f4 f5⟩
 self:=fun _ _ _ _ _ st h=>wpAny_pyIter_revIter st.2 h
section
variable {X:Cx} {tg:Expr}
def RevV (K:W.Frag) (x:V) (H1:Hp) (R:It->Hp->Prop):Prop:=
 (∃p i j,x=.ref p/\H1 p=some (.rng i j)/\(-(2 ^ 62)<=i/\i<2 ^ 62/\-(2 ^ 62)<=j/\j<2 ^ 62)/\R (Itc (i+((j-i).toNat:Int)-1) (-1) (j-i).toNat) H1)\/∃a xs,x=.ref a/\SqL K H1 a xs/\R (Itlr K a xs.length) H1
noncomputable def iRev (K:W.Frag) (tl:TE):TI:=fun σ H R=>tCons tl tNil σ H fun vs H1=>∃x,vs=[x]/\RevV K x H1 R
theorem boot_reversed:bootBuiltins "reversed"=some (.type "reversed"):=by decide +kernel
theorem pi_rev {a:Expr} {tl:TE} {p pos:Pos} (hg:Gl X "reversed") (hm:X.mg "reversed"=none) (ha:PA X [a] (tCons tl tNil)) (hs:starEach [a] X.env=[(false,eval a X.env)]):
  PI X tg (.Call (.Name "reversed" p) [a] [] pos) (iRev X.K tl):=by
 intro pins s σ H R I h
 have h':tCons tl tNil σ H (fun vs H1=>∃x,vs=[x]/\RevV X.K x H1 R):=h
 refine Call_ (ld_blt I hg hm boot_reversed (PyProof.Rows.callWith_type1 (thn (ha pos pins s σ H _ I h') fun us s1 ⟨vs,H1,I1,r1,q1⟩=>?_) (by rw[hs];rfl) (by rfl)))
 obtain⟨x,e,q1⟩:=q1
 subst e
 cases r1 with
 |cons r rr=>
  cases rr
  rcases q1 with⟨p,i,j,rfl,hp,⟨h1,h2,h3,h4⟩,q⟩|⟨a,xs,rfl,hxs,q⟩
  .cases r
   obtain⟨t,u,v,hr⟩:=(show ObjOk X.prog X.w H1 s1.heap p (.rng i j) from I1.hok p _ hp)
   refine call_reversed_range hr h1 h2 h3 h4 ?_
   have e1:i+(Builtin.Range.rangeSize i j 1-1)*1=(i+((j-i).toNat:Int)-1)+((0:Nat):Int)*(-1):=by
    rw[rangeSize_one];split<;>omega
   have e2:Builtin.Range.rangeSize i j 1=(((j-i).toNat:Nat):Int)-((0:Nat):Int):=by rw[rangeSize_one];split<;>omega
   have it0:IsRangeIter (s1.heap.push { cls:=.type "range_iterator",data:=.fields #[rawInt (i+(Builtin.Range.rangeSize i j 1-1)*1),rawInt (Builtin.Range.rangeSize i j 1),rawInt (-1)] }) s1.heap.objs.size ((i+((j-i).toNat:Int)-1)+((0:Nat):Int)*(-1)) ((((j-i).toNat:Nat):Int)-((0:Nat):Int)) (-1):=by
    rw[<- e1,<- e2]
    exact Heap.get?_push_size _ rfl
   refine wpAny_pyIter_rangeiter it0 ?_
   refine⟨s1.heap.objs.size,[s1.heap.objs.size],_,_,H1,rfl,I1.kept (t':=s1.toks) (fun b o e=>Heap.get?_push_of_some _ e),turn_rangeC _ _ _ _,it0,fun b hb=>?_,q⟩
   have e:b=s1.heap.objs.size:=by simpa using hb
   subst e
   exact I1.fpOk (Nat.le_refl _) (I1.hok.fresh (Nat.le_refl _))
  .cases r
   obtain⟨its,rv,pl,hz⟩:=I1.list hxs
   refine call_reversed_list pl.isList ?_
   have hl:=rv.length
   have it0:(s1.heap.push (revObj a ((its.toArray.size:Int)-1))).IsRevIter s1.heap.objs.size a ((xs.length:Int)-1-((0:Nat):Int)):=by
    have e:(its.toArray.size:Int)-1=(xs.length:Int)-1-((0:Nat):Int):=by simp;omega
    rw[<- e]
    exact⟨_,Heap.get?_push_size _ rfl,rfl,rfl⟩
   refine wpAny_pyIter_revIter it0 ?_
   refine⟨s1.heap.objs.size,[s1.heap.objs.size],_,_,H1,rfl,I1.kept (t':=s1.toks) (fun b o e=>Heap.get?_push_of_some _ e),turn_listRev a _ xs.length,⟨Nat.zero_le _,it0⟩,fun b hb=>?_,q⟩
   have e:b=s1.heap.objs.size:=by simpa using hb
   subst e
   exact I1.fpOk (Nat.le_refl _) (I1.hok.fresh (Nat.le_refl _))
noncomputable def nStep (i j c:Int):Nat:=if i<j then((j-i-1) / c+1).toNat else 0
noncomputable def iRng3 (ta:TA):TI:=fun σ H R=>ta σ H fun vs H1=>∃i j c:Int,vs=[.int i,.int j,.int c]/\(-(2 ^ 60)<=i/\i<2 ^ 60/\-(2 ^ 60)<=j/\j<2 ^ 60/\0<c/\c<2 ^ 29)/\R (Itc i c (nStep i j c)) H1
theorem rangeSize_pos {i j c:Int} (hc:0<c):Builtin.Range.rangeSize i j c=(nStep i j c:Int):=by
 unfold Builtin.Range.rangeSize nStep
 rw[if_pos (show c > 0 from hc)]
 split
 .have:=Int.ediv_nonneg (a:=j-i-1) (b:=c) (by omega) (by omega)
  omega
 .rfl
theorem nStep_le {i j c:Int} (hc:0<c) (h:i<=j):(nStep i j c:Int)<=j-i:=by
 unfold nStep
 split
 .have h0:=Int.ediv_nonneg (a:=j-i-1) (b:=c) (by omega) (by omega)
  have h1:=Int.ediv_le_self (a:=j-i-1) c (by omega)
  omega
 .omega
theorem small_step {i j c:Int} (h1:-(2 ^ 60)<=i) (h2:i<2 ^ 60) (h3:-(2 ^ 60)<=j) (h4:j<2 ^ 60) (h5:0<c) (h6:c<2 ^ 29):Builtin.Range.small i j c=true:=by
 unfold Builtin.Range.small
 rw[rangeSize_pos h5,if_pos (show c > 0 from h5)]
 have hn:(nStep i j c:Int)<=2 ^ 62:=by
  rcases Int.lt_or_le i j with h|h
  .have:=nStep_le (i:=i) (j:=j) h5 (by omega);omega
  .have:nStep i j c=0:=by unfold nStep;rw[if_neg (by omega)]
   rw[this];decide
 unfold Builtin.Range.rangeFitsLong
 simp
 omega
theorem pi_range3 {a b c:Expr} {ta:TA} {p pos:Pos} (hg:Gl X "range") (hm:X.mg "range"=none) (ha:PA X [a,b,c] ta) (hs:starEach [a,b,c] X.env=[(false,eval a X.env),(false,eval b X.env),(false,eval c X.env)]) (hs2:starEach [b,c] X.env=[(false,eval b X.env),(false,eval c X.env)]):
  PI X tg (.Call (.Name "range" p) [a,b,c] [] pos) (iRng3 ta):=by
 intro pins s σ H R I h
 refine Call_ (ld_blt I hg hm boot_range (PyProof.Rows.callWith_type1 (thn (ha pos pins s σ H _ I h) fun us s1 ⟨vs,H1,I1,r1,q1⟩=>?_) (by rw[hs,hs2]) (by rw[hs2];rfl)))
 obtain⟨i,j,k,e,⟨q1,q2,q3,q4,q5,q6⟩,q⟩:=q1
 subst e
 cases r1 with
 |cons r rr=>
  cases rr with
  |cons r' rr=>
   cases rr with
   |cons r'' rr=>
    cases rr
    obtain⟨t,rfl⟩:=r
    obtain⟨t',rfl⟩:=r'
    obtain⟨t'',rfl⟩:=r''
    refine call_range_3 (by omega) ?_ (Or.inl (PyProof.noPylong_small (by omega)))
    refine wpAny_pyIter_range (IsRange.new ..) (small_step q1 q2 q3 q4 q5 q6) ?_
    have I2:Inv X pins σ H1 { s1 with heap:=s1.heap.push { cls:=.type "range",data:=.fields #[.int i t,.int j t',.int k t''] } }:=I1.kept (t':=s1.toks) fun b o e=>Heap.get?_push_of_some _ e
    refine⟨(s1.heap.push { cls:=.type "range",data:=.fields #[.int i t,.int j t',.int k t''] }).objs.size,[(s1.heap.push { cls:=.type "range",data:=.fields #[.int i t,.int j t',.int k t''] }).objs.size],_,_,H1,rfl,I2.kept (t':=s1.toks) (fun b o e=>Heap.get?_push_of_some _ e),turn_rangeC _ i k (nStep i j k),?_,fun b hb=>?_,q⟩
    .have e1:i+((0:Nat):Int)*k=i:=by simp
     have e2:((nStep i j k:Nat):Int)-((0:Nat):Int)=Builtin.Range.rangeSize i j k:=by rw[rangeSize_pos q5];omega
     show IsRangeIter _ _ (i+((0:Nat):Int)*k) (((nStep i j k:Nat):Int)-((0:Nat):Int)) k
     rw[e1,e2]
     exact Heap.get?_push_size _ rfl
    .have e:b=(s1.heap.push { cls:=.type "range",data:=.fields #[.int i t,.int j t',.int k t''] }).objs.size:=by simpa using hb
     subst e
     exact I2.fpOk (Nat.le_refl _) (I2.hok.fresh (Nat.le_refl _))
end
section
variable {X:Cx}
theorem and_one {i:Int} (h:0<=i):Builtin.bitAnd i 1=i % 2:=by
 rw[PyProof.Rows.bitAnd_pp h (by decide)]
 have e:(1:Int).toNat=1:=rfl
 rw[e,Nat.and_one_is_mod]
 omega
theorem op_and1:OpR X (binaryOp .BitAnd) (rI (fun i j=>0<=i/\j=1) fun i _=>.int (i % 2)):=by
 intro pins s σ H x y v u Q I rx ry h
 obtain⟨i,j,rfl,rfl,⟨h0,rfl⟩,q⟩:=h
 refine op_and pins s σ H _ _ v u Q I rx ry ⟨i,1,rfl,rfl,?_⟩
 have q':Q (.int (i % 2)) H:=q
 rw[<- and_one h0]at q'
 exact q'
noncomputable def inT (x y:Str):Bool:=!(Builtin.Str.occurrences x y 0 x.length 1).isEmpty
noncomputable def rInS (neg:Bool):R2:=fun x y H Q=>∃a b,x=.str a/\y=.str b/\Q (.bl (if neg then !inT b a else inT b a)) H
theorem op_inS:OpR X (compareOp .In) (rInS false):=by
 intro pins s σ H x y v u Q I rx ry h
 obtain⟨a,b,rfl,rfl,q⟩:=h
 obtain⟨t,rfl⟩:=rx
 obtain⟨t',rfl⟩:=ry
 exact in_str ⟨.bl _,H,I,rfl,q⟩
theorem op_notInS:OpR X (compareOp .NotIn) (rInS true):=by
 intro pins s σ H x y v u Q I rx ry h
 obtain⟨a,b,rfl,rfl,q⟩:=h
 obtain⟨t,rfl⟩:=rx
 obtain⟨t',rfl⟩:=ry
 have q':Q (.bl (!inT b a)) H:=q
 refine notIn_str ⟨.bl (!inT b a),H,I,?_,q'⟩
 show Value.bool _=Value.bool _
 simp[inT]
end
section
variable {X:Cx}
noncomputable def txGt (x y:Str):Bool:=decide (y.cps.toList<x.cps.toList)
noncomputable def rGtS:R2:=fun x y H Q=>∃a b,x=.str a/\y=.str b/\Q (.bl (txGt a b)) H
theorem op_gtS:OpR X (compareOp .Gt) rGtS:=by
 intro pins s σ H x y v u Q I rx ry h
 obtain⟨a,b,rfl,rfl,k⟩:=h
 obtain⟨t,rfl⟩:=rx
 obtain⟨t',rfl⟩:=ry
 exact PySem.P.gt_str ⟨.bl _,H,I,rfl,k⟩
noncomputable def dSc:V->Bool
 | .int _=>true
 | .str _=>true
 | .bl _=>true
 | .non=>true
 |_=>false
noncomputable def Dq (H:Hp):Nat->V->V->Prop
 |0,v,w=>v=w/\dSc v=true
 |n+1,v,w=>(v=w/\dSc v=true)\/∃a b xs ys,v=.ref a/\w=.ref b/\((H a=some (.lst xs)/\H b=some (.lst ys))\/(H a=some (.tup xs)/\H b=some (.tup ys)))/\xs.length=ys.length/\∀(i:Nat) x y,xs[i]?=some x->ys[i]?=some y->Dq H n x y
open PySem.SeqAt in
theorem dq_sc {A:Around} {s:Shared} {x:V} {u v:Value} (h:dSc x=true) (r1:RelV x u) (r2:RelV x v):EqAt A s u v true:=by
 have:=eqAt_of (A:=A) (s:=s) r1 r2 (.inl (by cases x<;>first|(cases h;done)|exact⟨rfl,fun b=>by intro z;cases z⟩))
 rw[decide_eq_true rfl]at this
 exact this
theorem all_true {n:Nat}:(List.range n).all (fun _=>true)=true:=by simp
theorem arr_at {its:List Value} {j:Nat} {u:Value} (e:its[j]?=some u) (h:j<its.toArray.size):its.toArray[j]=u:=by
 simp at h ⊢
 rw[List.getElem?_eq_getElem h]at e
 exact Option.some.inj e
open PySem.SeqAt in
theorem dq_items {n:Nat} {H:Hp} {A:Around} {s:Shared} {xs ys:List V} {its its2:List Value} (ih:∀x y u v,Dq H n x y->RelV x u->RelV y v->EqAt A.in1 s u v true) (hl:xs.length=ys.length) (r1:Vals xs its) (r2:Vals ys its2)
  (he:∀(i:Nat) x y,xs[i]?=some x->ys[i]?=some y->Dq H n x y):∀j (h1:j<its.toArray.size) (h2:j<its2.toArray.size),EqAt A.in1 s its.toArray[j] its2.toArray[j] ((fun _=>true) j):=by
 intro j h1 h2
 have l1:=r1.length
 have j1:j<xs.length:=by simp at h1;omega
 have j2:j<ys.length:=by omega
 have g1:xs[j]?=some xs[j]:=List.getElem?_eq_getElem j1
 have g2:ys[j]?=some ys[j]:=List.getElem?_eq_getElem j2
 obtain⟨u1,e1,ru1⟩:=r1.get g1
 obtain⟨u2,e2,ru2⟩:=r2.get g2
 rw[arr_at e1 h1,arr_at e2 h2]
 exact ih _ _ _ _ (he j _ _ g1 g2) ru1 ru2
open PySem.SeqAt in
theorem dq_at {pins:List (Addr×Obj)} {σ:L2.St} {H:Hp} {s:Shared} (I:Inv X pins σ H s):∀(n:Nat) (A:Around) (x y:V) (u v:Value),A.units+n<cLine->Dq H n x y->RelV x u->RelV y v->EqAt A s u v true:=by
 intro n
 induction n with
 |zero=>
  rintro A x y u v hu ⟨rfl,hs⟩ r1 r2
  exact dq_sc hs r1 r2
 |succ n ih=>
  rintro A x y u v hu h rx ry
  rcases h with⟨rfl,hs⟩|⟨a,b,xs,ys,rfl,rfl,hab,hl,he⟩
  .exact dq_sc hs rx ry
  cases rx
  cases ry
  by_cases hne:a=b
  .subst hne;exact EqAt.same _
  have ih':∀x y u v,Dq H n x y->RelV x u->RelV y v->EqAt A.in1 s u v true:=fun x y u v=>ih A.in1 x y u v (by show A.units+1+n<cLine;omega)
  rcases hab with⟨h1,h2⟩|⟨h1,h2⟩
  .obtain⟨its,r1,pl1,_⟩:=I.list (SqL.of h1)
   obtain⟨its2,r2,pl2,_⟩:=I.list (SqL.of h2)
   have l1:=r1.length
   have l2:=r2.length
   have:=RcAt.lists pl1.isList pl2.isList (by simp;omega) (by omega) (dq_items ih' hl r1 r2 he)
   rw[all_true]at this
   exact EqAt.of_refs hne this
  .obtain⟨its,r1,pl1,_⟩:=I.tuple (SqT.of h1)
   obtain⟨its2,r2,pl2,_⟩:=I.tuple (SqT.of h2)
   have l1:=r1.length
   have l2:=r2.length
   have:=RcAt.tuples pl1 pl2 (by omega) (dq_items ih' hl r1 r2 he)
   rw[all_true]at this
   have e:(true&&its.toArray.size == its2.toArray.size)=true:=by simp;omega
   rw[e]at this
   exact EqAt.of_refs hne this
noncomputable def rEqD (neg:Bool):R2:=fun x y H Q=>∃n,n<=8/\Dq H n x y/\(∃a b,x=.ref a/\y=.ref b)/\Q (.bl (!neg)) H
theorem Dq.open {H:Hp} {n:Nat} {a b:Addr} (h:Dq H n (.ref a) (.ref b)):∃m xs ys,n=m+1/\((H a=some (.lst xs)/\H b=some (.lst ys))\/(H a=some (.tup xs)/\H b=some (.tup ys)))/\xs.length=ys.length/\∀(i:Nat) x y,xs[i]?=some x->ys[i]?=some y->Dq H m x y:=by
 cases n with
 |zero=>exact absurd h.2 (by simp[dSc])
 |succ m=>
  rcases h with⟨_,hs⟩|⟨a',b',xs,ys,e1,e2,hab,hl,he⟩
  .cases hs
  .cases e1;cases e2;exact⟨m,xs,ys,rfl,hab,hl,he⟩
open PySem.SeqAt in
theorem op_eqD (hu:X.A.units+64<cLine):OpR X (compareOp .Eq) (rEqD false):=by
 intro pins s σ H x y v u Q I rx ry h
 obtain⟨n,hn,hd,⟨a,b,rfl,rfl⟩,k⟩:=h
 cases rx
 cases ry
 obtain⟨m,xs,ys,rfl,hab,hl,he⟩:=hd.open
 have ih':∀x y u v,Dq H m x y->RelV x u->RelV y v->EqAt X.A.in1 s u v true:=fun x y u v=>dq_at I m X.A.in1 x y u v (by show X.A.units+1+m<cLine;omega)
 rcases hab with⟨h1,h2⟩|⟨h1,h2⟩
 .obtain⟨its,r1,pl1,_⟩:=I.list (SqL.of h1)
  obtain⟨its2,r2,pl2,_⟩:=I.list (SqL.of h2)
  have l1:=r1.length
  have l2:=r2.length
  refine eq_listAt pl1.isList pl2.isList (by simp;omega) (by omega) (dq_items ih' hl r1 r2 he) ?_
  rw[all_true]
  exact⟨.bl true,H,I,rfl,k⟩
 .obtain⟨its,r1,pl1,_⟩:=I.tuple (SqT.of h1)
  obtain⟨its2,r2,pl2,_⟩:=I.tuple (SqT.of h2)
  have l1:=r1.length
  have l2:=r2.length
  refine eq_tupleAt pl1 pl2 (by omega) (dq_items ih' hl r1 r2 he) ?_
  have e:(true&&its.toArray.size == its2.toArray.size)=true:=by simp;omega
  rw[all_true,e]
  exact⟨.bl true,H,I,rfl,k⟩
open PySem.SeqAt in
theorem op_neD (hu:X.A.units+64<cLine):OpR X (compareOp .NotEq) (rEqD true):=by
 intro pins s σ H x y v u Q I rx ry h
 obtain⟨n,hn,hd,⟨a,b,rfl,rfl⟩,k⟩:=h
 cases rx
 cases ry
 obtain⟨m,xs,ys,rfl,hab,hl,he⟩:=hd.open
 have ih':∀x y u v,Dq H m x y->RelV x u->RelV y v->EqAt X.A.in1 s u v true:=fun x y u v=>dq_at I m X.A.in1 x y u v (by show X.A.units+1+m<cLine;omega)
 have hend:EP X pins σ Q (Value.bool false) s:=⟨.bl false,H,I,rfl,k⟩
 rcases hab with⟨h1,h2⟩|⟨h1,h2⟩
 .obtain⟨its,r1,pl1,_⟩:=I.list (SqL.of h1)
  obtain⟨its2,r2,pl2,_⟩:=I.list (SqL.of h2)
  have l1:=r1.length
  have l2:=r2.length
  obtain⟨⟨cls,dd,data,sl⟩,ho,hc,n1,hd1⟩:=pl1.isList
  obtain⟨⟨cls2,dd2,data2,sl2⟩,ho2,hc2,n2,hd2⟩:=pl2.isList
  simp only at hc hd1 hc2 hd2
  subst hc hd1 hc2 hd2
  refine richCompare_meets_room (op:=.NotEq) ⟨_,ho,rfl⟩ ⟨_,ho2,rfl⟩ F.slot_list_ne F.entry_list_ne (F.args_list_ne_2 _ _) (list_neAt a b its.toArray its2.toArray n1 n2 dd dd2 sl sl2 (by simp;omega) (fun _=>true)) ⟨ho,ho2,dq_items ih' hl r1 r2 he,?_⟩ (by omega)
  rw[all_true]
  exact(show Value.bool false≠Value.notImplemented/\EP X pins σ Q (Value.bool false) s from⟨(fun x=>nomatch x),hend⟩)
 .obtain⟨its,r1,pl1,_⟩:=I.tuple (SqT.of h1)
  obtain⟨its2,r2,pl2,_⟩:=I.tuple (SqT.of h2)
  have l1:=r1.length
  have l2:=r2.length
  obtain⟨⟨cls,dd,data,sl⟩,ho,hc,n1,hd1⟩:=id pl1
  obtain⟨⟨cls2,dd2,data2,sl2⟩,ho2,hc2,n2,hd2⟩:=id pl2
  simp only at hc hd1 hc2 hd2
  subst hc hd1 hc2 hd2
  refine richCompare_meets_room (op:=.NotEq) ⟨_,ho,rfl⟩ ⟨_,ho2,rfl⟩ F.slot_tuple_ne F.entry_tuple_ne (F.args_tuple_ne_2 _ _) (tuple_neAt a b its.toArray its2.toArray n1 n2 dd dd2 sl sl2 (fun _=>true)) ⟨ho,ho2,dq_items ih' hl r1 r2 he,?_⟩ (by omega)
  have e:(true&&its.toArray.size == its2.toArray.size)=true:=by simp;omega
  rw[all_true,e]
  exact(show Value.bool false≠Value.notImplemented/\EP X pins σ Q (Value.bool false) s from⟨(fun x=>nomatch x),hend⟩)
end
end L2
namespace HT
open PySem PyProof.Rows
open PySem.SeqAt
open PySem.MeetsSeq PySem.MeetsSeq2 PySem.MeetsSeq3
section
variable {prog:Program} {w:World} {A:Around} {E:Value->Shared->Prop} {s:Shared}
theorem cat_tup0 {t b:Addr} {ws:List Value} {Q:Value->Shared->Prop} (ht:IsTup s.heap t #[]) (hb:IsTup s.heap b ws.toArray) (h0:Q (.ref b) s):wpAny (model prog w) A (binaryOp .Add (.ref t) (.ref b)) Q E s:=by
 obtain⟨⟨cls,dd,data,sl⟩,ho,hc,n,hd⟩:=id ht
 obtain⟨⟨cls2,dd2,data2,sl2⟩,ho2,hc2,n2,hd2⟩:=id hb
 simp only at hc hd hc2 hd2
 subst hc hd hc2 hd2
 exact concat_meets ⟨_,ho,rfl⟩ ⟨_,ho2,rfl⟩ noFill_tuple_add seq_tuple_add PySem.F.slot_tuple_add PySem.F.entry_tuple_add (PySem.F.args_tuple_add_2 _ _)
  (tuple_addW0 t b #[] ws.toArray n n2 dd dd2 sl sl2 rfl) ⟨ho,ho2,h0⟩
end
end HT
namespace L2
open PySem PySem.Spec PyProof.Rows
section
variable {X:Cx}
noncomputable def rCatT0 (K:W.Frag):R2:=fun x y H Q=>∃a b ys,x=.ref a/\y=.ref b/\SqT K H a []/\SqT K H b ys/\Q (.ref b) H
theorem op_catT0:OpR X (binaryOp .Add) (rCatT0 X.K):=by
 intro pins s σ H x y v u Q I rx ry h
 obtain⟨a,b,ys,rfl,rfl,ha,hb,q⟩:=h
 cases rx
 cases ry
 obtain⟨its,r1,p1,_⟩:=I.tuple ha
 obtain⟨its2,r2,p2,_⟩:=I.tuple hb
 have e:its=[]:=r1.nil_iff.mpr rfl
 subst e
 exact HT.cat_tup0 p1 p2 ⟨.ref b,H,I,rfl,q⟩
end
end L2
namespace L2
open PySem PySem.Spec PyProof.Rows PySem.Calls PySem.NumText
def B2 (x:PySem.Str) (n:Int):Prop:=(x.cps.all (· < 128))=true/\(x.cps.toList.takeWhile (· != 0)).length<=640/\(int_private% "readNumeral") 0 2 (x.cps.toList.takeWhile (· != 0))=(int_private% "Numeral.value") n/\((x.cps.toList.takeWhile (· != 0)).length == x.cps.toList.length)=true
theorem wp_text2 {M:Model} {A:Around} {E:Value->Shared->Prop} {s:Shared} {Q:Value->Shared->Prop} {v:Value} {text:List Nat} {n:Int}
  (hs:(text.takeWhile (· != 0)).length<=640) (hr:(int_private% "readNumeral") 0 2 (text.takeWhile (· != 0))=(int_private% "Numeral.value") n)
  (ha:((text.takeWhile (· != 0)).length == text.length)=true) (h:Q (.int n s.toks) { s with toks:=s.toks+1 }):
  wpAny M A ((int_private% "intFromText") v text 2) Q E s:=by
 obtain⟨hp,g,d,tk,os⟩:=s
 repeat (any_goals (first
  |assumption
  |(with_reducible refine wpAny_ite_true (decide_eq_true hs) ?_)
  |(with_reducible refine wpAny_ite_true (decide_eq_true ha) ?_)
  |wp_step))
 all_goals (try rw[hr])
 all_goals (try dsimp only)
 repeat (any_goals (first
  |assumption
  |(with_reducible refine wpAny_ite_true (decide_eq_true hs) ?_)
  |(with_reducible refine wpAny_ite_true (decide_eq_true ha) ?_)
  |wp_step))
set_option maxHeartbeats 4000000 in
theorem gives_text2 {x:PySem.Str} {u v:Tok} {n:Int} (hb:B2 x n):Gives (Builtin.«int.__new__» ⟨[.type "int",.str x u,.int 2 v],[]⟩) (.int n):=
 .of_wp fun M A E s Q h=>by
  obtain⟨hp,g,d,tk,os⟩:=s
  have f1:=F.conv_sub_int
  have f2:=F.madeHere_int
  have f6:typeOf (.str x u)=pure (.type "str"):=rfl
  have hk:=W.KIN.Hid.mk hb
  clear hb
  repeat (any_goals (first
   |assumption
   |((with_reducible show wpAny _ _ ((int_private% "intFromText") _ _ _) _ _ _);rw[if_pos hk.out.1];refine wp_text2 hk.out.2.1 hk.out.2.2.1 hk.out.2.2.2 ?_)
   |wp_step))
  all_goals first|exact⟨_,rfl,h⟩|skip
theorem typeCall_int_2 (a b:Value):checkTypeCall "int" ⟨[a,b],[]⟩=pure ():=by kernel_rfl
theorem newCall_int_2 (a b:Value):checkBuiltinCall "int.__new__" ⟨[.type "int",a,b],[]⟩=pure ():=by kernel_rfl
section
variable {X:Cx}
noncomputable def rInt2:List V->Hp->VK->Prop:=fun xs H Q=>∃x n,xs=[.str x,.int 2]/\B2 x n/\Q (.int n) H
theorem call_int2:CallR X (.type "int") rInt2:=by
 intro pins s σ H xs us Q I r h
 obtain⟨x,n,rfl,hb,q⟩:=h
 obtain⟨u,v,rfl,⟨t,rfl⟩,⟨t',rfl⟩⟩:=vals2 r
 exact callType_new F.called_int F.newNe_int (typeCall_int_2 _ _) (newCall_int_2 _ _) (fun obj=>F.args_object_init_3 obj _ _) F.entry_int_new (gives_text2 hb).meets (show(Made.int n).post _ s from⟨rfl,⟨.int n,H,I.tok _,⟨_,rfl⟩,q⟩⟩)
theorem call_intB:CallR X (.type "int") (fun xs H Q=>rInt xs H Q\/rInt2 xs H Q):=call_intA.or call_int2
end
section
variable {X:Cx}
end
end L2
namespace PySem
open PyProof.Rows
def Heap.IsRvd (h:Heap) (a t:Addr) (i:Int):Prop:=∃o,h.get? a=some o/\o.cls=.type "reversed"/\o.data=.fields #[.ref t,rawInt i]
theorem Heap.IsRvd.at {h h':Heap} {a t:Addr} {i:Int} (x:h.IsRvd a t i) (e:∀o,h.get? a=some o->h'.get? a=some o):h'.IsRvd a t i:=let⟨o,ho,r⟩:=x;⟨o,e _ ho,r⟩
section
variable {prog:Program} {w:World} {A:Around} {E:Value->Shared->Prop} {s:Shared}
theorem Heap.IsRvd.typeIs {a t:Addr} {i:Int} (x:s.heap.IsRvd a t i):s.TypeIs (.ref a) "reversed":=let⟨o,ho,hc,_⟩:=x;⟨o,ho,hc⟩
end
theorem tup_at {h h':Heap} {t:Addr} {items:Array Value} (x:IsTup h t items) (k:∀o,h.get? t=some o->h'.get? t=some o):IsTup h' t items:=let⟨o,ho,r⟩:=x;⟨o,k o ho,r⟩
section
variable {prog:Program} {w:World} {A:Around} {E:Value->Shared->Prop} {s:Shared}
end
section
variable {prog:Program} {w:World} {A:Around} {E:Value->Shared->Prop} {s:Shared}
end
end PySem
namespace L2
open PySem PySem.Spec PyProof.Rows
section
variable {X:Cx}
end
end L2
namespace HT
open PySem PyProof.Rows
section
variable {prog:Program} {w:World} {A:Around} {E:Value->Shared->Prop} {s:Shared}
theorem getItem_tuple_whole {t sl:Addr} {items:Array Value} {vl vu:Value} {lo hi:Option Int} {Q:Value->Shared->Prop} (ht:IsTup s.heap t items) (hs:s.heap.IsSliceOf sl vl vu .none) (pl:IsPart vl lo) (pu:IsPart vu hi)
  (hw:sIx items.size 0 lo=0/\sIx items.size items.size hi=items.size)
  (h:Q (.ref t) s):wpAny (model prog w) A (getItem (.ref t) (.ref sl)) Q E s:=by
 obtain⟨os,hos,hcs,hds⟩:=id hs
 have hTs:s.TypeIs (.ref sl) "slice":=⟨os,hos,hcs⟩
 unfold getItem
 try with_reducible refine wpAny_holding ?_
 first|refine wpAny_bind (wpAny_pure ?_)|skip
 refine wpAny_bind (wpAny_sequenceKey ht.typeIs (by decide) ?_)
 refine wpAny_bind (wpAny_callSpecial?_slot (name:=Str.ofString "__getitem__") ht.typeIs PyProof.Rows.slot_tuple_getitem
  (wpAny_call_entry PyProof.Rows.slot_tuple_getitem ht.typeIs entry_tuple_getitem ?_ (args_tuple_getitem _ _)))
 show wpAny _ _ (Builtin.Tuple.tupleItemsOf (.ref t) >>= _) _ _ s
 refine wpAny_bind (tupleItemsOf_ ht ?_)
 refine wpAny_bind (wpAny_typeOf hTs ?_)
 rw[if_pos (by decide)]
 refine wpAny_bind (sliceApplied_gen hs pl pu ?_)
 have hyes:(((sIx items.size 0 lo:Nat):Int) == 0&&(1:Int) == 1&&(sIx items.size items.size hi-sIx items.size 0 lo) == items.size)=true:=by
  rw[hw.1,hw.2]
  simp
 show wpAny _ _ (if(((sIx items.size 0 lo:Nat):Int) == 0&&(1:Int) == 1&&(sIx items.size items.size hi-sIx items.size 0 lo) == items.size)=true then _ else _) _ _ s
 rw[if_pos hyes]
 obtain⟨ot,hot,hct,nt,hdt⟩:=id ht
 refine wpAny_bind (wpAny_mono (Q:=fun b s'=>b=true/\s'=s) (E:=E) ?_ ?_ (fun _ _ z=>z))
 .unfold Builtin.Tuple.tupleIsExact
  exact wpAny_bind (wpAny_typeOf ht.typeIs (wpAny_pure ⟨rfl,rfl⟩))
 .rintro b s' ⟨rfl,rfl⟩
  rw[if_pos rfl]
  exact wpAny_bind (wpAny_rule (wpAny_pure ⟨_,rfl,wpAny_pure h⟩))
end
end HT
namespace L2
open PySem PySem.Spec PyProof.Rows
section
variable {X:Cx}
noncomputable def rSlW (K:W.Frag):V->Option Int->Option Int->Hp->VK->Prop:=fun x lo hi H Q=>∃a xs,x=.ref a/\SqT K H a xs/\(HT.sIx xs.length 0 lo=0/\HT.sIx xs.length xs.length hi=xs.length)/\Q (.ref a) H
theorem sl_whole:SlR X (rSlW X.K):=by
 intro pins s σ H x v vl vu lo hi sl Q I rx hs pl pu h
 obtain⟨a,xs,rfl,hx,hw,q⟩:=h
 cases rx
 obtain⟨its,r,ht,hz⟩:=I.tuple hx
 have hlen:its.toArray.size=xs.length:=by rw[List.size_toArray];exact r.length.symm
 refine⟨"tuple",_,PyProof.Rows.slot_tuple_getitem.lookup,ht.typeIs,?_⟩
 exact HT.getItem_tuple_whole ht hs pl pu (by rw[hlen];exact hw) ⟨.ref a,H,I,rfl,q⟩
end
section
variable {X:Cx} {pins:List (Addr×Obj)} {σ:St} {H:Hp} {s:Shared}
variable {X:Cx}
end
end L2
namespace HT
open PySem PyProof.Rows
section
variable {prog:Program} {w:World} {A:Around} {E:Value->Shared->Prop} {s:Shared}
end
end HT
namespace L2
open PySem PySem.Spec PyProof.Rows
section
variable {X:Cx} {e st:Expr} {te:TE} {p2 pos:Pos}
end
section
variable {prog:Program} {w:World} {A:Around} {E:Value->Shared->Prop} {s:Shared} {b0:Array Keyed} {κ:PyProof.Rows.KeyKind}
end
section
variable {X:Cx}
end
end L2
namespace L2
open PySem PySem.Spec PyProof.Rows PySem.SeqAt
def Ls1 (H:Hp) (v:V) (ns:List Int):Prop:=∃p,v=.ref p/\H p=some (.lst (ns.map V.int))
def LL (H:Hp) (a:Addr) (L:List (List Int)):Prop:=∃vs,H a=some (.lst vs)/\vs.length=L.length/\∀(i:Nat) v ns,vs[i]?=some v->L[i]?=some ns->Ls1 H v ns
section
variable {X:Cx} {pins:List (Addr×Obj)} {σ:L2.St} {H:Hp} {s:Shared}
noncomputable def rEqB (neg:Bool):R2:=fun x y H Q=>∃a b L M,x=.ref a/\y=.ref b/\LL H a L/\LL H b M/\Q (.bl (decide (L=M))) H
noncomputable def rNinB:R2:=fun x y H Q=>∃b L ns,Ls1 H x ns/\y=.ref b/\LL H b L/\Q (.bl (!decide (ns∈L))) H
end
section
variable {X:Cx}
end
section
variable {X:Cx} {env:Env}
def Fr {α:Type} (t:Sem α):Prop:=∀(M:Model) (Γ:PySem.Ctx) (Q:α->Pos->Shared->Prop) (E:Value->Pos->Shared->Prop) (p:Pos) (s:Shared),Sem.wp M Γ t Q E p s->Sem.wp M Γ t (fun a p' s'=>1<=s'.toks/\Q a p' s') E p s
theorem Fr.bindL {α β:Type} {m:Sem α} {f:α->Sem β} (h:Fr m):Fr (m >>= f):=by
 intro M Γ Q E p s q
 rw[Sem.wp_bind']at q ⊢
 refine Sem.wp_mono M Γ m (fun a p' s' z=>?_) (fun _ _ _ z=>z) p s (h M Γ _ E p s q)
 exact Sem.wp_mono M Γ (f a) (fun _ _ _ z=>z) (fun _ _ _ z=>z.2) p' s' (Sem.wp_toks M Γ 1 (f a) Q E p' s' z.1 z.2)
theorem Fr.hold {α:Type} {vs:List Value} {m:Sem α} (h:Fr m):Fr (holding vs m):=by
 intro M Γ Q E p s q
 rw[Sem.wp_holding]at q ⊢
 exact h M Γ Q E p s q
theorem Fr.any {α:Type} {M:Model} {A:Around} {t:Sem α} {Q:α->Shared->Prop} {E:Value->Shared->Prop} {s:Shared} (h:Fr t) (q:wpAny M A t Q E s):wpAny M A t (fun a s'=>1<=s'.toks/\Q a s') E s:=fun Γ p hΓ=>h M Γ _ _ p s (q Γ p hΓ)
end
theorem kV_of {P:Program} {w:World} {k:Key} {u:Value} (h:(mixKind P w).is k u=true):RelV (kV k) u:=by
 rcases keyIs_shape (show keyIs k u=true from h)with⟨i,t,rfl,rfl⟩|⟨x,t,rfl,rfl⟩|⟨rfl,rfl⟩
 .exact⟨t,rfl⟩
 .exact⟨t,rfl⟩
 .exact rfl
theorem vals_at:∀{xs:List V} {us:List Value},xs.length=us.length->(∀(i:Nat) x u,xs[i]?=some x->us[i]?=some u->RelV x u)->Vals xs us
 | [],[],_,_=>.nil
 |x :: xs,u :: us,hl,h=>.cons (h 0 x u rfl rfl) (vals_at (by simpa using hl) fun i x' u' h1 h2=>h (i+1) x' u' (by simpa using h1) (by simpa using h2))
 | [],_ :: _,hl,_=>by simp at hl
 |_ :: _,[],hl,_=>by simp at hl
theorem kv_at {kvs:List (Key×V)} {vs:List (Key×Value)} (r:KV kvs vs):∀{i:Nat} {kv:Key×V} {p:Key×Value},kvs[i]?=some kv->vs[i]?=some p->kv.1=p.1/\RelV kv.2 p.2:=by
 induction r with
 |nil=>intro i kv p h;simp at h
 |cons h r ih=>
  intro i kv p h1 h2
  cases i with
  |zero=>cases h1;cases h2;exact h
  |succ i=>exact ih (by simpa using h1) (by simpa using h2)
section
variable {X:Cx}
noncomputable def rListD:List V->Hp->VK->Prop:=fun xs H Q=>∃(a:Addr) (kvs:List (Key×V)),xs=[.ref a]/\H a=some (.dK kvs)/\∀l,H l=none->Q (.ref l) (upd H l (.lst (kvs.map fun kv=>kV kv.1)))
theorem call_listD (hc:X.calm=true):CallR X (.type "list") rListD:=by
 intro pins s σ H xs us Q I rv h
 obtain⟨a,kvs,rfl,hH,q⟩:=h
 obtain⟨u,rfl,r1⟩:=vals1 rv
 cases r1
 obtain⟨z,hd,vs,rel,dd⟩:=dk_of I.hok hH
 obtain⟨ep,hat⟩:=dd.dictAt
 have hlen:=rel.length
 refine W.kdl_call (W.kdl_dict (knd:=mixKind X.prog X.w) hd) (I.ok.hd hc) hat (by rw[<- hlen];exact z) fun h' tk acc c hk hS hacc=>?_
 have hn:H s.heap.objs.size=none:=I.hok.fresh (Nat.le_refl _)
 refine⟨.ref s.heap.objs.size,_,I.laid (a:=s.heap.objs.size) (o:=.lst (kvs.map fun kv=>kV kv.1)) (h':=h') (t':=tk) (fun b o e=>hk b o e) (Nat.le_refl _) ⟨by rw[List.length_map];exact z,acc.toList,c,vals_at (by rw[List.length_map,hlen];exact hacc.1.symm.trans Array.length_toList.symm) fun i x v hx hv=>?_,by rw[hS]⟩,rfl,q _ hn⟩
 rw[List.getElem?_map]at hx
 obtain⟨kv,hkv,rfl⟩:=Option.map_eq_some_iff.mp hx
 obtain⟨k,y,hp,hi⟩:=hacc.2 i v (by rw[<- Array.getElem?_toList];exact hv)
 have e:=(kv_at rel hkv hp).1
 rw[e]
 exact kV_of hi
noncomputable def VwO (v d:Addr):HO:=.ext fun h=>h.IsValuesView v d
noncomputable def rValues:V->List V->Hp->VK->Prop:=fun x xs H Q=>∃(a:Addr) (kvs:List (Key×V)),x=.ref a/\xs=[]/\H a=some (.dK kvs)/\∀v,H v=none->Q (.ref v) (upd H v (VwO v a))
theorem mt_values:MtR X "dict.values" rValues:=by
 intro pins s σ H x xs v us Q I rx rv h
 obtain⟨a,kvs,rfl,rfl,hH,q⟩:=h
 cases rx
 have hus:=rv.zero
 subst hus
 obtain⟨z,hd,vs,rel,dd⟩:=dk_of I.hok hH
 refine call_meetsIn PySem.F.slot_dict_values dd.typeIs PySem.F.entry_dict_values (PySem.F.args_dict_values_1 _) (meets_dict_values (mixKind X.prog X.w) a hd) ⟨⟨vs,dd⟩,?_⟩
 have hn:H s.heap.objs.size=none:=I.hok.fresh (Nat.le_refl _)
 have hp:(s.heap.push { cls:=.type "dict_values",data:=.fields #[.ref a] }).get? s.heap.objs.size=some { cls:=.type "dict_values",data:=.fields #[.ref a] }:=Heap.get?_push_size _ rfl
 refine⟨.ref s.heap.objs.size,_,I.laid (a:=s.heap.objs.size) (o:=VwO s.heap.objs.size a) (t':=s.toks) (fun b o e=>Heap.get?_push_of_some _ e) (Nat.le_refl _) ⟨⟨_,hp,rfl,rfl⟩,⟨_,hp⟩,fun h1 h2 x k=>let⟨o,ho,r⟩:=x;⟨o,k o ho,r⟩⟩,rfl,q _ hn⟩
noncomputable def rListV:List V->Hp->VK->Prop:=fun xs H Q=>∃(v a:Addr) (kvs:List (Key×V)),xs=[.ref v]/\H v=some (VwO v a)/\H a=some (.dK kvs)/\∀l,H l=none->Q (.ref l) (upd H l (.lst (kvs.map (·.2))))
theorem call_listV (hc:X.calm=true):CallR X (.type "list") rListV:=by
 intro pins s σ H xs us Q I rv h
 obtain⟨v,a,kvs,rfl,hv,hH,q⟩:=h
 obtain⟨u,rfl,r1⟩:=vals1 rv
 cases r1
 obtain⟨z,hd,vs,rel,dd⟩:=dk_of I.hok hH
 obtain⟨ep,hat⟩:=dd.dictAt
 have hlen:=rel.length
 have hvw:s.heap.IsValuesView v a:=(show ObjOk X.prog X.w H s.heap v (VwO v a) from I.hok v _ hv).1
 refine W.kdl_call (W.kdl_values (knd:=mixKind X.prog X.w)) (I.ok.hd hc) ⟨hvw,hat⟩ (by rw[<- hlen];exact z) fun h' tk acc c hk hS hacc=>?_
 have hn:H s.heap.objs.size=none:=I.hok.fresh (Nat.le_refl _)
 refine⟨.ref s.heap.objs.size,_,I.laid (a:=s.heap.objs.size) (o:=.lst (kvs.map (·.2))) (h':=h') (t':=tk) (fun b o e=>hk b o e) (Nat.le_refl _) ⟨by rw[List.length_map];exact z,acc.toList,c,vals_at (by rw[List.length_map,hlen];exact hacc.1.symm.trans Array.length_toList.symm) fun i x w' hx hw=>?_,by rw[hS]⟩,rfl,q _ hn⟩
 rw[List.getElem?_map]at hx
 obtain⟨kv,hkv,rfl⟩:=Option.map_eq_some_iff.mp hx
 obtain⟨k,hp⟩:=hacc.2 i w' (by rw[<- Array.getElem?_toList];exact hw)
 exact(kv_at rel hkv hp).2
noncomputable def rLenD:List V->Hp->VK->Prop:=fun xs H Q=>∃a kvs,xs=[V.ref a]/\H a=some (.dK kvs)/\Q (.int kvs.length) H
theorem call_lenD':CallR X (.builtin "len") rLenD:=call_lenD
end
end L2
namespace PySem
def Rsn (xs:Array Nat):Prop:=xs.toList.Pairwise (· < ·)
theorem rsn_lt {xs:Array Nat} (hr:Rsn xs) {i j:Nat} (hij:i<j) (hj:j<xs.size):xs[i]'(by omega)<xs[j]:=by
 have:=List.pairwise_iff_getElem.mp hr i j (by rw[Array.length_toList];omega) (by rw[Array.length_toList];omega) hij
 simpa using this
theorem below_go {xs:Array Nat} (hr:Rsn xs) (j:Nat):∀(f lo hi:Nat),lo<=hi->hi<=xs.size->hi-lo<=f->(∀i (h:i<xs.size),i<lo->xs[i]<j)->(∀i (h:i<xs.size),hi<=i->j<=xs[i])->
  SetTable.below.go xs j f lo hi<=xs.size/\(∀i (h:i<xs.size),i<SetTable.below.go xs j f lo hi->xs[i]<j)/\(∀i (h:i<xs.size),SetTable.below.go xs j f lo hi<=i->j<=xs[i])
 |0,lo,hi,h1,h2,h3,a,b=>by
  have e:lo=hi:=by omega
  subst e
  exact⟨h2,a,b⟩
 |f+1,lo,hi,h1,h2,h3,a,b=>by
  unfold SetTable.below.go
  by_cases hl:lo<hi
  .rw[if_pos hl]
   dsimp only
   have hm:(lo+hi) / 2<xs.size:=by omega
   have eg:xs.getD ((lo+hi) / 2) j=xs[(lo+hi) / 2]:=by simp[Array.getD,hm]
   rw[eg]
   by_cases hx:xs[(lo+hi) / 2]<j
   .rw[if_pos hx]
    refine below_go hr j f _ _ (by omega) h2 (by omega) (fun i h hi'=>?_) b
    by_cases e:i=(lo+hi) / 2
    .subst e;exact hx
    .exact Nat.lt_trans (rsn_lt hr (by omega) hm) hx
   .rw[if_neg hx]
    refine below_go hr j f _ _ (by omega) (by omega) (by omega) a fun i h hi'=>?_
    by_cases e:i=(lo+hi) / 2
    .subst e;omega
    .have:=rsn_lt hr (i:=(lo+hi) / 2) (j:=i) (by omega) h
     omega
  .rw[if_neg hl]
   have e:lo=hi:=by omega
   subst e
   exact⟨h2,a,b⟩
theorem below_at {xs:Array Nat} (hr:Rsn xs) (j:Nat):SetTable.below xs j<=xs.size/\(∀i (h:i<xs.size),i<SetTable.below xs j->xs[i]<j)/\(∀i (h:i<xs.size),SetTable.below xs j<=i->j<=xs[i]):=
 below_go hr j _ _ _ (Nat.zero_le _) (Nat.le_refl _) (Nat.le_refl _) (fun _ _ z=>absurd z (Nat.not_lt_zero _)) fun i h z=>absurd h (by omega)
theorem below_no {xs:Array Nat} (hr:Rsn xs) {j:Nat} (h:xs[SetTable.below xs j]?≠some j):j∉xs.toList:=by
 intro hm
 obtain⟨i,hi,e⟩:=List.mem_iff_getElem.mp hm
 rw[Array.length_toList]at hi
 rw[Array.getElem_toList]at e
 obtain⟨h1,h2,h3⟩:=below_at hr j
 have hle:SetTable.below xs j<=i:=Nat.le_of_not_lt fun z=>by have:=h2 i hi z;omega
 by_cases hq:SetTable.below xs j=i
 .rw[hq]at h
  exact h (by rw[Array.getElem?_eq_getElem hi,e])
 .have:=rsn_lt hr (i:=SetTable.below xs j) (j:=i) (by omega) hi
  have:=h3 _ (by omega) (Nat.le_refl (SetTable.below xs j))
  omega
theorem rsn_insert {xs:Array Nat} (hr:Rsn xs) {j:Nat} (h:xs[SetTable.below xs j]?≠some j):Rsn (SetTable.insertAt xs (SetTable.below xs j) j):=by
 obtain⟨h1,h2,h3⟩:=below_at hr j
 have hn:=below_no hr h
 unfold Rsn
 rw[SetTable.toList_insertAt]
 first
 |rw[List.append_assoc,List.singleton_append]
 |skip
 rw[List.pairwise_append,List.pairwise_cons]
 have hT:∀a∈xs.toList.take (SetTable.below xs j),a<j:=by
  intro a ha
  obtain⟨i,hi,e⟩:=List.mem_iff_getElem.mp ha
  rw[List.length_take,Array.length_toList]at hi
  rw[List.getElem_take,Array.getElem_toList]at e
  have:=h2 i (by omega) (by omega)
  omega
 have hD:∀b∈xs.toList.drop (SetTable.below xs j),j<b:=by
  intro b hb
  obtain⟨i,hi,e⟩:=List.mem_iff_getElem.mp hb
  rw[List.length_drop,Array.length_toList]at hi
  rw[List.getElem_drop,Array.getElem_toList]at e
  have:=h3 (SetTable.below xs j+i) (by omega) (by omega)
  have hne:b≠j:=fun z=>hn (z ▸ List.mem_of_mem_drop hb)
  omega
 refine⟨hr.sublist (List.take_sublist _ _),⟨hD,hr.sublist (List.drop_sublist _ _)⟩,fun a ha b hb=>?_⟩
 rcases List.mem_cons.mp hb with rfl|hb
 .exact hT a ha
 .exact Nat.lt_trans (hT a ha) (hD b hb)
theorem probe_go (t:SetTable) (hat:Nat->Int) (h:Int):∀(f:Nat) (p:SetTable.Probe) (j:Nat) (d:Option Nat),(∀x,p.dummy=some x->t.place[SetTable.below t.place x]?≠some x)->
  SetTable.probe.go t hat h f p=some (.empty j d)->t.place[SetTable.below t.place (d.getD j)]?≠some (d.getD j)
 |0,p,j,d,hp,e=>by unfold SetTable.probe.go at e;cases e
 |f+1,p,j,d,hp,e=>by
  unfold SetTable.probe.go at e
  have key:∀x,t.slot x≠.live (SetTable.below t.place x)->t.place[SetTable.below t.place x]?≠some x:=by
   intro x hx z
   apply hx
   unfold SetTable.slot
   simp[z]
  have adv:∀q:SetTable.Probe,(t.advance q).dummy=q.dummy:=by
   intro q
   unfold SetTable.advance
   split<;>rfl
  cases hs:t.slot p.j with
  |empty=>
   rw[hs]at e
   injection e with e
   injection e with e1 e2
   subst e1;subst e2
   cases hd:p.dummy with
   |none=>exact key _ (by show t.slot p.j≠_;rw[hs];exact fun z=>nomatch z)
   |some x=>exact hp x hd
  |dummy=>
   rw[hs]at e
   dsimp only at e
   refine probe_go t hat h f _ j d (fun x hx=>?_) e
   rw[adv]at hx
   injection hx with hx
   subst hx
   exact key _ (by rw[hs];exact fun z=>nomatch z)
  |live i=>
   rw[hs]at e
   dsimp only at e
   by_cases hq:(hat i == h)=true
   .rw[if_pos hq]at e
    injection e with e
    cases e
   .rw[if_neg hq]at e
    refine probe_go t hat h f _ j d (fun x hx=>?_) e
    rw[adv]at hx
    exact hp x hx
theorem free_no {t:SetTable} {h:Int} {slot:Nat} {b:Bool} (e:t.freeSlot h=some (slot,b)):t.place[SetTable.below t.place slot]?≠some slot:=by
 unfold SetTable.freeSlot at e
 split at e
 .rename_i j d hm
  injection e with e
  injection e with e1 e2
  subst e1
  unfold SetTable.probe at hm
  exact probe_go t _ h _ _ j d (fun x hx=>by unfold SetTable.probeStart at hx;cases hx) hm
 .cases e
theorem rsn_standIn (t:SetTable) (n:Nat):Rsn (t.standIn n).place:=by
 unfold SetTable.standIn Rsn
 simp only[Array.toList_range]
 exact List.pairwise_lt_range
def TOk (bt:Bool) (t:SetTable):Prop:=bt=true\/t.led=true/\Rsn t.place
theorem tok_orStandIn {bt:Bool} {t:SetTable} {n:Nat} (h:TOk bt t):TOk bt (t.orStandIn n):=by
 unfold SetTable.orStandIn
 split
 .exact h
 .rcases h with h|⟨h1,_⟩
  .exact .inl h
  .exact .inr ⟨h1,rsn_standIn t n⟩
theorem tok_layNew {bt:Bool} {t:SetTable} (es:Array (Int×Value)) (hh:Int) (x:Value) (h:TOk bt t):TOk bt (layNew t es hh x).2.1:=by
 unfold layNew
 split
 .rename_i slot wd e
  refine tok_orStandIn ?_
  rcases h with h|⟨h1,h2⟩
  .exact .inl h
  .exact .inr ⟨h1,rsn_insert h2 (free_no e)⟩
 .rcases h with h|⟨h1,_⟩
  .exact .inl h
  .exact .inr ⟨h1,rsn_standIn t _⟩
theorem tok_relay {bt:Bool} {t:SetTable} (es:Array (Int×Value)) (wd:Nat) (h:TOk bt t):TOk bt (relayAll t es wd).2.1:=by
 have hs:∀n,TOk bt (t.standIn n):=fun n=>by
  rcases h with h|⟨h1,_⟩
  .exact .inl h
  .exact .inr ⟨h1,rsn_standIn t n⟩
 unfold relayAll
 split
 .rename_i t' order e
  dsimp only
  split
  .unfold SetTable.relaid SetTable.laid at e
   cases ho:SetTable.layClean (SetTable.sizeAbove wd-1) (es.map fun x=>x.1)with
   |none=>rw[ho]at e;cases e
   |some owner=>
    rw[ho]at e
    injection e with e
    injection e with e1 e2
    subst e1
    rcases h with h|⟨h1,_⟩
    .exact .inl h
    .refine .inr ⟨h1,?_⟩
     unfold Rsn
     show List.Pairwise _ (List.map _ _)
     rw[List.pairwise_map]
     refine List.Pairwise.filterMap (R:=(· < ·)) _ (fun a a' haa b hb b' hb'=>?_) List.pairwise_lt_range
     cases hx:owner.getD a none with
     |none=>simp[hx]at hb
     |some u=>
      cases hy:owner.getD a' none with
      |none=>simp[hy]at hb'
      |some u'=>
       simp[hx]at hb
       simp[hy]at hb'
       subst hb;subst hb'
       exact haa
  .exact hs _
 .exact hs _
end PySem
namespace PySem
section
variable {prog:Program} {w:World} {K:Type} [DecidableEq K] (knd:KeyKind prog w K)
def Dst (es:List (Int×Value)):Prop:=es.Pairwise fun a b=>∀k,knd.is k a.2=true->knd.is k b.2=true->False
def Obj.SetIt (o:Obj) (S:K->Bool) (n:Nat):Prop:=
 ∃es ep t,o.ExactSet/\o.data=.set es ep t/\ElemsOf knd es.toList/\(∀k,S k=true↔∃e∈es.toList,knd.is k e.2=true)/\es.size<scanBound/\t.fits es.size=true/\es.size=n
  /\ Dst knd es.toList/\TOk (w.params.followText "set-order") t
variable {knd}
variable {A:Around} {E:Value->Shared->Prop} {s:Shared}
theorem dst_push {es es1:List (Int×Value)} {k:K} {hh:Int} {x:Value} (hd:Dst knd es) (hk:knd.is k x=true) (hel:ElemsOf knd es) (hno:∀e∈es,knd.is k e.2=false) (p:List.Perm es1 (es++[(hh,x)])):Dst knd es1:=by
 have h2:Dst knd (es++[(hh,x)]):=by
  unfold Dst
  rw[List.pairwise_append]
  refine⟨hd,List.pairwise_singleton _ _,fun a ha b hb k' q1 q2=>?_⟩
  rw[List.mem_singleton]at hb
  subst hb
  have e:=knd.inj x k' k q2 hk
  subst e
  rw[hno a ha]at q1
  cases q1
 exact(List.Perm.pairwise_iff (fun {a b} z k q1 q2=>z k q2 q1) p).mpr h2
theorem setIt_store {h:Heap} {a:Addr} {o:Obj} {es:Array (Int×Value)} {ep:Nat} {t:SetTable} (ho:h.get? a=some o) (hx:o.ExactSet) (hd:o.data=.set es ep t) {es1:Array (Int×Value)} {t1:SetTable} {S1:K->Bool} {n:Nat}
  (e1:ElemsOf knd es1.toList) (e2:∀k,S1 k=true↔∃e∈es1.toList,knd.is k e.2=true) (e3:es1.size<scanBound) (e4:t1.fits es1.size=true) (e5:es1.size=n) (e6:Dst knd es1.toList) (e7:TOk (w.params.followText "set-order") t1):
  ∃o1,(h.update a (Obj.putSet es1 t1)).get? a=some o1/\o1.ExactSet/\o1.data=.set es1 (ep+1) t1/\o1.SetIt knd S1 n:=by
 have eo:=putSet_of es1 t1 hd
 have hg:=Heap.get?_update_self (Obj.putSet es1 t1) ho (by rw[eo];rfl)
 rw[eo]at hg
 exact⟨_,hg,hx,rfl,es1,ep+1,t1,hx,rfl,e1,e2,e3,e4,e5,e6,e7⟩
theorem add_setIt {a:Addr} {o:Obj} {S:K->Bool} {n:Nat} {k:K} {x:Value} {Q:Bool->Shared->Prop} (hkey:knd.is k x=true) (hsc:x.scannable=true) (ho:s.heap.get? a=some o) (hS:o.SetIt knd S n) (hroom:n+1<scanBound)
  (h:∀h' o',Heap.SameBut a s.heap h'->h'.get? a=some o'->o'.SetIt knd (fun j=>S j || decide (j=k)) (if S k then n else n+1)->Q (!S k) { s with heap:=h' }):
  wpAny (model prog w) A (setAddHashed a x (knd.hash k)) Q E s:=by
 obtain⟨es,ep,t,hex,hd,hel,hmem,hb,hf,hn,hdst,htk⟩:=id hS
 unfold setAddHashed setAddHashedIn
 refine wpAny_holding (wpAny_bind (wpAny_setState_of ho hd hf ?_))
 dsimp only
 rw[byScan_of hsc hb hel,if_pos rfl]
 unfold setAddByScan
 refine wpAny_bind (wpAny_bind (wpAny_rule (wpAny_bind (wpAny_setScan_of hkey ho hd hf hel ?_))))
 cases hr:List.findIdx? (fun e=>knd.is k e.2) es.toList with
 |some j=>
  dsimp only
  obtain⟨hj,hpj,_⟩:=List.findIdx?_eq_some_iff_getElem.mp hr
  have hSk:S k=true:=(hmem k).mpr ⟨_,List.getElem_mem hj,hpj⟩
  refine wpAny_pure (wpAny_pure ?_)
  have z:=h s.heap o (Heap.SameBut.refl a s.heap) ho ⟨es,ep,t,hex,hd,hel,fun k'=>by
   rw[Bool.or_eq_true,decide_eq_true_eq,<- hmem k']
   exact⟨fun q=>q.elim id fun q=>q ▸ hSk,.inl⟩,hb,hf,by rw[hSk];exact hn,hdst,htk⟩
  rw[hSk]at z
  exact z
 |none=>
  dsimp only
  have hno:∀e∈es.toList,knd.is k e.2=false:=fun e he=>by simpa using List.findIdx?_eq_none_iff.mp hr e he
  have hSk:S k=false:=by
   cases hk:S k with
   |false=>rfl
   |true=>obtain⟨e,he,hp⟩:=(hmem k).mp hk;rw[hno e he]at hp;cases hp
  have hp:=layNew_perm t es (knd.hash k) x
  have hfit:=layNew_fits t es (knd.hash k) x
  have htk1:=tok_layNew es (knd.hash k) x htk
  rw[Array.toList_push]at hp
  generalize layNew t es (knd.hash k) x=Y at hp hfit htk1 ⊢
  obtain⟨es1,t1,wd,gv⟩:=Y
  dsimp only at hp hfit htk1 ⊢
  have el1:ElemsOf knd es1.toList:=(hel.push hkey hsc).perm hp
  have me1:∀k',(S k' || decide (k'=k))=true↔∃e∈es1.toList,knd.is k' e.2=true:=mem_push_iff hkey hmem hp
  have sz1:es1.size=n+1:=by rw[<- Array.length_toList,hp.length_eq,List.length_append,Array.length_toList,hn];rfl
  have d1:Dst knd es1.toList:=dst_push hdst hkey hel hno hp
  have fin:∀h' o',Heap.SameBut a s.heap h'->h'.get? a=some o'->o'.SetIt knd (fun j=>S j || decide (j=k)) (n+1)->Q true { s with heap:=h' }:=by
   intro h' o' z1 z2 z3
   have z:=h h' o' z1 z2
   rw[hSk]at z
   exact z z3
  have way:∀t2:SetTable,t2.fits es1.size=true->TOk (w.params.followText "set-order") t2->wpAny (model prog w) A (do
    storeSet a es1 t2
    if(!wd&&t2.tooFull)=true then do
      (match (relayAll t2 es1 (SetTable.grown es1.size)).2.2 with|true=>rule "set.scan.the-table-gave-way" | false=>pure ())
      storeSet a (relayAll t2 es1 (SetTable.grown es1.size)).1 (relayAll t2 es1 (SetTable.grown es1.size)).2.1
      pure (some true)
     else pure (some true)) (fun r s'=>r=some true/\Q true s') E s:=by
   intro t2 f2 k2
   refine wpAny_bind (wpAny_storeSet_of ho hd ?_ (fits_of_scanBound (by rw[sz1];exact hroom)))
   obtain⟨o1,g1,x1,dt1,i1⟩:=setIt_store (knd:=knd) ho hex hd el1 me1 (by rw[sz1];exact hroom) f2 sz1 d1 k2
   have b1:=Heap.SameBut.update s.heap a (Obj.putSet es1 t2)
   split
   .have hp2:=relayAll_perm t2 es1 (SetTable.grown es1.size)
    have hf2:=relayAll_fits t2 es1 (SetTable.grown es1.size)
    have hk2:=tok_relay es1 (SetTable.grown es1.size) k2
    generalize relayAll t2 es1 (SetTable.grown es1.size)=Z at hp2 hf2 hk2 ⊢
    obtain⟨es2,t3,gv2⟩:=Z
    dsimp only at hp2 hf2 hk2 ⊢
    have sz2:es2.size=n+1:=by rw[<- Array.length_toList,hp2.length_eq,Array.length_toList,sz1]
    have stp:∀(X:Sem Unit),(∀Q':Unit->Shared->Prop,∀s1,Q' () s1->wpAny (model prog w) A X Q' E s1)->∀s1 Q',Q' () s1->wpAny (model prog w) A X Q' E s1:=fun X hX s1 Q' q=>hX Q' s1 q
    refine wpAny_bind (stp _ (fun Q' s1 q=>by cases gv2<;>first|exact wpAny_pure q|exact wpAny_rule q) _ _ ?_)
    refine wpAny_bind (wpAny_storeSet_of g1 dt1 ?_ (fits_of_scanBound (by rw[sz2];exact hroom)))
    obtain⟨o2,g2,x2,dt2,i2⟩:=setIt_store (knd:=knd) g1 x1 dt1 (el1.perm hp2) (fun k'=>(me1 k').trans ⟨fun⟨e,he,q⟩=>⟨e,hp2.mem_iff.mpr he,q⟩,fun⟨e,he,q⟩=>⟨e,hp2.mem_iff.mp he,q⟩⟩) (by rw[sz2];exact hroom) hf2 sz2
     ((List.Perm.pairwise_iff (fun {a b} z k q1 q2=>z k q2 q1) hp2).mpr d1) hk2
    exact wpAny_pure ⟨rfl,fin _ o2 (b1.trans (Heap.SameBut.update _ a _)) g2 i2⟩
   .exact wpAny_pure ⟨rfl,fin _ o1 b1 g1 i1⟩
  have hgw:∀(b:Bool) {s1:Shared} {Q':Unit->Shared->Prop},Q' () s1->wpAny (model prog w) A (match b with|true=>rule "set.scan.the-table-gave-way" | false=>pure ()) Q' E s1:=
   fun b s1 Q' q=>by cases b<;>first|exact wpAny_pure q|exact wpAny_rule q
  refine wpAny_bind (hgw gv ?_)
  split
  .rw[hashByValue_scannable 8 hsc]
   refine wpAny_bind (wpAny_pure ?_)
   refine wpAny_mono (way _ ?_ ?_) (fun r s' q=>?_) fun _ _ z=>z
   .split
    .exact hfit
    .exact SetTable.fits_plain_off hfit
   .split
    .exact htk1
    .rcases htk1 with z|⟨z1,z2⟩
     .exact .inl z
     .exact .inr ⟨z1,z2⟩
   .obtain⟨rfl,q⟩:=q
    exact wpAny_pure q
  .refine wpAny_bind (wpAny_pure ?_)
   rw[if_pos rfl]
   refine wpAny_mono (way _ hfit htk1) (fun r s' q=>?_) fun _ _ z=>z
   obtain⟨rfl,q⟩:=q
   exact wpAny_pure q
end
end PySem
namespace L2
open PySem PySem.Spec PyProof.Rows
def ExcT (h:Heap) (e:Addr) (cls:Value) (T:Addr):Prop:=∃oe vs oT ts a0,h.get? e=some oe/\(oe.cls=cls/\vs[0]?=some a0)/\oe.data=.fields vs/\vs[1]?=some (.ref T)/\T≠e/\h.get? T=some oT/\oT.data=.fields ts/\ts[3]?=some .none
structure LeftX (F S:List Addr) (e:Addr) (cls:Value) (h h':Heap):Prop where
 keep:∀b o,b∉F->b∉S->h.get? b=some o->h'.get? b=some o
 slot:∀b o,b∈F->h.get? b=some o->∃sl,h'.get? b=some { o with slots:=sl }
 there:∀b o,b∉S->h.get? b=some o->∃o',h'.get? b=some o'
 exc:∃T,(h.get? T=none\/T∈S)/\ExcT h' e cls T
section
variable {M:Model} {A:Around} {E:Value->Shared->Prop} {s:Shared}
end
structure FnCx (X:Cx):Prop where
 ex:X.ex=[]
 fn:∀x,X.fn x=true
 stk:X.stack=X.env :: X.outer
 fr:X.env.frame=some X.env.locals
theorem FnCx.frs {X:Cx} (F:FnCx X):L2.frs X.stack=X.env.locals :: X.fs:=by
 rw[F.stk]
 show List.filterMap _ _=_
 rw[List.filterMap_cons,F.fr]
 rfl
section
variable {X:Cx} {pins:List (Addr×Obj)} {σ:St} {H:Hp} {s:Shared}
theorem Inv.left {S:List Addr} {e:Addr} {cls:Value} {h2:Heap} (I:Inv X pins σ H s) (F:FnCx X) (L:LeftX (frs X.stack) S e cls s.heap h2)
  (hS:∀b∈S,H b=none/\X.s₀.heap.get? b=none/\(∀p∈X.pn++pins,p.1≠b)/\∃o vs,s.heap.get? b=some o/\o.data=.fields vs):Inv X pins σ H { s with heap:=h2 }:=by
 have hF:=F.frs
 have nfs:∀{b:Addr},b≠X.env.locals->b∉X.fs->b∉frs X.stack:=fun {b} h1 h2 hb=>by
  rw[hF]at hb
  rcases List.mem_cons.mp hb with z|z
  .exact h1 z
  .exact h2 z
 have cell_ok:∀x c oc v,X.env.cells.lookup x=some c->s.heap.get? c=some oc->oc.data=.cell v->h2.get? c=some oc:=fun x c oc v hx ho hd=>by
  refine L.keep c oc (nfs (I.cne x c hx) fun hb=>?_) (fun hb=>?_) ho
  .obtain⟨_,o,eo,_⟩:=I.ok.funs.mem hb
   exact Nat.lt_irrefl _ (Nat.lt_of_lt_of_le (Heap.lt_size eo) (I.ok.cab x c (F.fn x) hx))
  .obtain⟨_,_,_,o,vs,eo,ed⟩:=hS c hb
   rw[ho]at eo;cases eo
   rw[hd]at ed;cases ed
 refine⟨I.ok,I.os,I.bare,⟨fun b o e0 n hb hx=>?_,fun b o e0 n hb hx=>?_,I.base.free,fun b o e0 hx=>?_,I.base.tups,I.base.frzs,I.base.tbls⟩,?_,fun x c hx=>?_,I.free,I.freeC,fun p hp=>?_,fun b u e=>?_,I.len⟩
 .have e1:=I.base.keep b o e0 n hb hx
  refine L.keep b o (nfs (Nat.ne_of_lt (Nat.lt_of_lt_of_le (Heap.lt_size e0) I.ok.above)) hb) (fun z=>?_) e1
  rw[(hS b z).2.1]at e0;cases e0
 .obtain⟨sl,e1⟩:=I.base.slot b o e0 n hb hx
  obtain⟨sl2,e2⟩:=L.slot b _ (by rw[hF];exact List.mem_cons_of_mem _ hb) e1
  exact⟨sl2,e2⟩
 .obtain⟨o',e1⟩:=I.base.there b o e0 hx
  exact L.there b o' (fun z=>by rw[(hS b z).2.1]at e0;cases e0) e1
 .obtain⟨m,⟨o,es,ep,ho,hd,r⟩,hl⟩:=I.loc
  obtain⟨sl,e2⟩:=L.slot X.env.locals o (by rw[hF];exact List.mem_cons_self) ho
  refine⟨m,⟨_,es,ep,e2,hd,r⟩,fun i x v h1 h2 h3=>?_⟩
  obtain⟨u,ru,q⟩:=hl i x v h1 h2 h3
  refine⟨u,ru,?_⟩
  rcases q with q|⟨k,c,hc,oc,ho,hd⟩
  .exact .inl q
  .exact .inr ⟨k,c,hc,oc,cell_ok x c oc _ hc ho hd,hd⟩
 .obtain⟨v,oc,ho,hd⟩:=I.cell x c hx
  exact⟨v,oc,cell_ok x c oc v hx ho hd,hd⟩
 .obtain⟨e,n,ne,nf,d⟩:=I.pin p hp
  exact⟨L.keep p.1 p.2 (nfs ne nf) (fun z=>(hS p.1 z).2.2.1 p hp rfl) e,n,ne,nf,d⟩
 .refine(I.hok b u e).stay (fun c v hc q=>?_) (fun _ q=>q) fun _ _ q=>q
  have tr:∃u',H c=some u':=by
   rcases hc with z|z
   .exact⟨u,by rw[z];exact e⟩
   .exact⟨_,z⟩
  obtain⟨u',hu⟩:=tr
  refine L.keep c v (fun hb=>?_) (fun hb=>?_) q
  .rw[I.stkFree c hb]at hu;cases hu
  .rw[(hS c hb).1]at hu;cases hu
noncomputable def CX1 (P:Program) (w:World) (mg:Str->Option Value):CXT:=fun outer H s E e s'=>∃(ea T Ca:Addr) (nm:Str) (H':Hp),e=.ref ea/\mg nm=some (.ref Ca)/\s'.os=s.os/\AllBare s'.gens/\Un (frs outer) [] H H' s.heap s'.heap/\HOk P w H' s'.heap/\
 ExcT s'.heap ea (.ref Ca) T/\H' ea=none/\H' T=none/\s.heap.get? ea=none/\s.heap.get? T=none/\E (.str nm 0) none H'
end
def bmV:List Value:=[.type "ValueError",.type "Exception",.type "BaseException",.type "object"]
section
variable {X:Cx}
end
section
variable {X:Cx} {pins:List (Addr×Obj)} {σ:St} {H:Hp} {s:Shared} {D:Ends} {hs:List ExceptHandler}
noncomputable def Cx.inX (X:Cx) (e:Addr):Cx:={ X with A:=X.A.mark (some (.ref e)),calm:=false,xe:=fun _ _=>False }
def ExcObj (e Ca:Addr) (h:Heap):Prop:=∃o vs,h.get? e=some o/\o.cls=.ref Ca/\o.data=.fields vs
noncomputable def ExcO (e Ca:Addr):HO:=.ext (ExcObj e Ca)
end
end L2
namespace L2
open PySem PySem.Spec PyProof.Rows PySem.W
structure XCls (K:Frag) (C:Addr):Prop where
 ga:findIn K (.ref C) "__getattribute__"=some (some (.builtin "BaseException.__getattribute__"))
 gt:findIn K (.ref C) "__getattr__"=some none
 cl:findIn K (.ref C) "__class__"=some (some (.builtin "object.__class__"))
 be:subIn K (.ref C) (.type "BaseException")=some true
 ob:subIn K (.ref C) (.type "object")=some true
 is:(clsIn K C).isSome=true
section
variable {prog:Program} {w:World} {A:Around} {E:Value->Shared->Prop} {K:Frag} {h:Heap} {g:Array GenState} {d:Drawn} {t:Nat} {os:OsState} {a C:Addr} {o:Obj}
end
end L2
namespace L2
open PySem PySem.Spec PyProof.Rows PySem.W
section
variable {X:Cx}
end
noncomputable def okIs:Option Int->Value->Bool
 |some k,v=>Value.isInt k v
 |none,.none=>true
 |none,_=>false
theorem okIs_shape:∀{k:Option Int} {v:Value},okIs k v=true->(∃i t,k=some i/\v=Value.int i t)\/(k=none/\v=Value.none)
 |some i,v,h=>by
  obtain⟨t,e⟩:=Value.isInt_shape (k:=i) (v:=v) h
  exact .inl ⟨i,t,rfl,e⟩
 |none,v,h=>by cases v<;>first|exact .inr ⟨rfl,rfl⟩|cases h
noncomputable def okH:Option Int->Int
 |some k=>hashInt k
 |none=>0xFCA86420
noncomputable def oKind (prog:Program) (w:World):PySem.KeyKind prog w (Option Int) where
 is:=okIs
 hash:=okH
 inj:=fun v a b ha hb=>by
  rcases okIs_shape ha with⟨i,t,rfl,rfl⟩|⟨rfl,rfl⟩
  .rcases okIs_shape hb with⟨j,u,rfl,e⟩|⟨rfl,e⟩
   .injection e with e1 _;rw[e1]
   .exact nomatch e
  .rcases okIs_shape hb with⟨j,u,rfl,e⟩|⟨rfl,e⟩
   .exact nomatch e
   .rfl
 byValue:=fun k v h=>by
  rcases okIs_shape h with⟨i,t,rfl,rfl⟩|⟨rfl,rfl⟩<;>rfl
 pyHash:=fun hv h=>by
  rcases okIs_shape hv with⟨i,t,rfl,rfl⟩|⟨rfl,rfl⟩
  .exact wpAny_pyHash_int h
  .exact hash_none h
 eqBool:=fun {A E s a b u v Q} hu hv h=>by
  rcases okIs_shape hu with⟨i,t,rfl,rfl⟩|⟨rfl,rfl⟩
  .rcases okIs_shape hv with⟨j,u,rfl,rfl⟩|⟨rfl,rfl⟩
   .have e:decide ((some i:Option Int)=some j)=(i == j):=by
     by_cases q:i=j
     .subst q;simp
     .rw[decide_eq_false (fun z=>q (Option.some.inj z)),(beq_eq_false_iff_ne.mpr q)]
    rw[e]at h
    exact wpAny_eqBool_int h
   .exact SeqAt.EqAt.int_none i t _ _ _ _ h
  .rcases okIs_shape hv with⟨j,u,rfl,rfl⟩|⟨rfl,rfl⟩
   .exact SeqAt.EqAt.none_int j u _ _ _ _ h
   .exact SeqAt.EqAt.same .none _ _ _ _ h
 «strs»:=fun k x t v h=>by
  rcases okIs_shape h with⟨i,u,rfl,e⟩|⟨rfl,e⟩<;>exact nomatch e
end L2
namespace PySem
open PyProof.Rows
section
variable {prog:Program} {w:World} {K:Type} [DecidableEq K] {knd:KeyKind prog w K}
noncomputable def Vmem (val:Nat->K) (i:Nat) (k:K):Bool:=(List.range i).any fun j=>decide (k=val j)
theorem vmem_succ (val:Nat->K) (i:Nat):(fun k=>Vmem val i k || decide (k=val i))=Vmem val (i+1):=by
 funext k
 unfold Vmem
 rw[List.range_succ,List.any_append]
 simp
theorem setIt_kept {h h':Heap} {a:Addr} {S:K->Bool} {m:Nat} (x:∃o n,h.get? a=some o/\n<=m/\o.SetIt knd S n) (e:∀o,h.get? a=some o->h'.get? a=some o):∃o n,h'.get? a=some o/\n<=m/\o.SetIt knd S n:=let⟨o,n,ho,r⟩:=x;⟨o,n,e o ho,r⟩
variable {A:Around} {R:Result->Shared->Prop} {I:Addr} {fp wr:List Addr} {G:Array GenState->Array GenState->Prop} {n:Nat} {P:Nat->Value->Prop} {St:Nat->Shared->Prop}
theorem fill_loop (W:WalksS prog w A.in1 I fp wr G n P St) (D:Addr) (hD:D∉fp) (val:Nat->K) (hv:∀i v,P i v->knd.is (val i) v=true/\v.scannable=true) (hb:n+1<scanBound):
  ∀(k i:Nat) (s:Shared),n-i=k->i<=n->St i s->(∃o m,s.heap.get? D=some o/\m<=i/\o.SetIt knd (Vmem val i) m)->
   (∀s',Moved (D :: wr) G s s'->(∃o m,s'.heap.get? D=some o/\m<=n/\o.SetIt knd (Vmem val n) m)->R (.ok (.ret .none)) s')->
   codeAny (model prog w) A (.builtin "set.update.loop" ⟨[.ref D,.ref I],[]⟩) R s:=by
 have hw:D∉wr:=fun z=>hD (W.sub _ z)
 have sb:∀b∈wr,b∈D :: wr:=fun b z=>List.mem_cons_of_mem _ z
 intro k
 induction k with
 |zero=>
  intro i s hk hi hst hS hR
  obtain rfl:i=n:=by omega
  refine codeAny_builtin F.entry_set_update_loop ?_
  rw[Around.under_plainId F.plain_set_update_loop _]
  show wpAny _ A.in1 (pyNext (.ref I) >>= _) _ _ s
  exact wpAny_bind (W.done s _ _ hst fun s' hm=>wpAny_pure (hR s' (hm.mono sb) (setIt_kept hS fun o e=>hm.heap D _ hw e)))
 |succ k ih=>
  intro i s hk hi hst hS hR
  have hlt:i<n:=by omega
  refine codeAny_builtin F.entry_set_update_loop ?_
  rw[Around.under_plainId F.plain_set_update_loop _]
  show wpAny _ A.in1 (pyNext (.ref I) >>= _) _ _ s
  refine wpAny_bind (W.item i s _ _ hlt hst fun v s' hP hst' hm=>?_)
  obtain⟨hk1,hk2⟩:=hv i v hP
  obtain⟨o,m,ho,hmi,hS'⟩:=setIt_kept hS fun o e=>hm.heap D _ hw e
  show wpAny _ A.in1 (holding [v] (setAdd D v) >>= _) _ _ s'
  refine wpAny_bind (wpAny_holding ?_)
  unfold setAdd
  refine wpAny_holding (wpAny_bind (knd.pyHash hk1 ?_))
  refine add_setIt (s:={ s' with toks:=s'.toks+1 }) hk1 hk2 ho hS' (by omega) fun h' o' z1 z2 z3=>?_
  rw[vmem_succ]at z3
  refine wpAny_pure ⟨plainId_quiet F.plain_set_update_loop _,ih (i+1) _ (by omega) hlt (W.frame _ s' _ _ hst' (Nat.le_succ _) fun b hb' o e=>?_) ⟨o',_,z2,?_,z3⟩ fun s'' m'' i''=>?_⟩
  .rw[z1.2 b fun q:b=D=>hD (q ▸ hb')];exact e
  .split<;>omega
  .refine hR s'' (Moved.trans W.gtrans ((hm.mono sb).then_heap (Nat.le_succ _) fun b o hb' e=>?_) m'') i''
   rw[z1.2 b fun q:b=D=>hb' (q ▸ List.mem_cons_self)];exact e
end
section
variable {prog:Program} {w:World} {K:Type} [DecidableEq K] {knd:KeyKind prog w K} {A:Around} {E:Value->Shared->Prop} {s:Shared}
noncomputable def emptySet (led:Bool):Obj:={ cls:=.type "set",dict:=none,data:=.set #[] 0 (.fresh 0 0 led) }
theorem setIt_empty:(emptySet (!(w.params.followText "set-order"))).SetIt knd (fun _=>false) 0:=
 ⟨#[],0,_,⟨rfl,rfl,rfl⟩,rfl,fun e he=>by simp at he,fun k=>by simp,by decide,by rfl,rfl,by simp[Dst],by
  cases h:w.params.followText "set-order" with
  |true=>exact .inl rfl
  |false=>exact .inr ⟨rfl,by unfold Rsn;exact List.Pairwise.nil⟩⟩
theorem made_setIt (a:Value) {Q1:Value->Shared->Prop} (h:Q1 (.ref s.heap.objs.size) { s with heap:=s.heap.push (emptySet (!(w.params.followText "set-order"))) }):
  codeAny (model prog w) A (.call (.builtin "set.__new__") ⟨[.type "set",a],[]⟩) (wants Q1 E) s:=by
 refine codeAny_of_tree ?_
 show wpAny _ A.in1 (checkBuiltinCall "set.__new__" ⟨[.type "set",a],[]⟩ >>= fun _=>again (.builtin "set.__new__" ⟨[.type "set",a],[]⟩)) _ _ s
 refine wpAny_bind (wpAny_of_eq (F.newCall_set_1 a) (wpAny_pure ⟨plainId_quiet F.plain_set_new _,codeAny_builtin F.entry_set_new ?_⟩))
 rw[Around.under_plainId F.plain_set_new _]
 unfold Builtin.«set.__new__» Builtin.Frozenset.newClass
 have hsub:=sub_set_self
 obtain⟨hp,g,d,tk,os⟩:=s
 dsimp only
 wp_walk
 refine wpAny_askSetting (wpAny_pure ?_)
 dsimp only
 simp only[newObj]
 exact wpAny_bind (wpAny_alloc (wpAny_pure (wpAny_pure h)))
set_option maxHeartbeats 3200000 in
theorem call_setIt {l:Addr} {its:Array Value} {Q:Value->Shared->Prop} (val:Nat->K) (hh:A.handled=none) (hl:s.heap.IsList l its) (hv:∀i v,its[i]?=some v->knd.is (val i) v=true/\v.scannable=true) (hb:its.size+1<scanBound)
  (h:∀(h':Heap) (tk:Nat),(∃o m,h'.get? s.heap.objs.size=some o/\m<=its.size/\o.SetIt knd (Vmem val its.size) m)->(∀b o,b<s.heap.objs.size->s.heap.get? b=some o->h'.get? b=some o)->s.heap.objs.size<h'.objs.size->Q (.ref s.heap.objs.size) { s with heap:=h',toks:=tk }):
  wpAny (model prog w) A (call (.type "set") [.ref l]) Q E s:=by
 obtain⟨c,tl,hmro⟩:=F.called_set.mro
 have hmade:=F.called_set.made
 have hsub:=F.called_set.sub
 refine wpAny_call (codeAny_of_tree ?_)
 show wpAny _ _ (callAny (.type "set") _) _ _ _
 refine wpAny_pure ⟨Code.quiet_builtin _ (by decide +kernel),codeAny_builtin F.entry_type_call ?_⟩
 rw[Around.under_plain (weight_type_call_type "set" [.ref l] []) rfl]
 have h1:=F.called_set.notType
 have h2:=F.called_set.canCreate
 have hct:=F.typeCall_set_1 (.ref l)
 repeat (any_goals (first|assumption|wp_step))
 refine codeAny_mono (made_setIt (.ref l) (E:=E) (Q1:=fun v s1=>v=.ref s.heap.objs.size/\s1={ s with heap:=s.heap.push (emptySet (!(w.params.followText "set-order"))) }) ⟨rfl,rfl⟩) fun r s1 hr=>?_
 have hsi:(emptySet (!(w.params.followText "set-order"))).SetIt knd (fun _=>false) 0:=setIt_empty
 generalize (!(w.params.followText "set-order"))=led at hr hsi
 cases r with
 |error e=>exact hr
 |ok fl=>
  cases fl with
  |ret v=>
   obtain⟨rfl,rfl⟩:=hr
   have hS:(s.heap.push (emptySet led)).get? s.heap.objs.size=some (emptySet led):=Heap.get?_push_size _ rfl
   have hT:Shared.TypeIs { s with heap:=s.heap.push (emptySet led) } (.ref s.heap.objs.size) "set":=⟨_,hS,rfl⟩
   have hli:=F.called_set.init.lookup
   have hbi:=F.called_set.init.bind (.ref s.heap.objs.size)
   repeat (any_goals (first|assumption|wp_step))
   refine codeAny_mono (codeAny_call_builtin (R:=wants (fun r s2=>r=.none/\∃h' tk,s2={ s with heap:=h',toks:=tk }/\(∃o m,h'.get? s.heap.objs.size=some o/\m<=its.size/\o.SetIt knd (Vmem val its.size) m)/\
     ∀b o,b<s.heap.objs.size->s.heap.get? b=some o->h'.get? b=some o) E) F.called_set.init.plain F.entry_set_init (check_set_init_1 hT ?_)) fun r2 s2 hr2=>?_
   .obtain⟨ol,hol,hcl,nl,hdl⟩:=hl
    obtain⟨oc,od,odt,osl⟩:=ol
    simp only at hcl hdl
    subst hcl;subst hdl
    have hol':(s.heap.push (emptySet led)).get? l=some { cls:=.type "list",dict:=od,data:=.seq its nl,slots:=osl }:=Heap.get?_push_of_some _ hol
    have q1:=F.sub_list_set
    have q2:=F.sub_list_frozenset
    have q3:(Value.type "list" == Value.type "dict")=false:=by decide
    have hl1:(s.heap.push (emptySet led)).IsList l its:=⟨_,hol',rfl,nl,rfl⟩
    unfold Builtin.«set.__init__» noKeywords Builtin.Frozenset.updateFrom
    unfold emptySet at *
    generalize hPI:pyIter=PI
    wp_walk
    subst hPI
    refine wpAny_pyIter_list hl1 ?_
    refine wpAny_bind (wpAny_runValue ?_)
    have hlS:l<s.heap.objs.size:=Heap.lt_size hol
    have hh3:A.in1.in1.in1.handled=none:=by simp[hh]
    have n1:l≠(s.heap.push (emptySet led)).objs.size:=by rw[Heap.size_push];exact Nat.ne_of_lt (Nat.lt_succ_of_lt hlS)
    have n2:s.heap.objs.size∉[(s.heap.push (emptySet led)).objs.size,l]:=by
     rw[Heap.size_push]
     simp only[List.mem_cons,List.not_mem_nil,or_false,not_or]
     exact⟨Nat.ne_of_lt (Nat.lt_succ_self _),Nat.ne_of_gt hlS⟩
    refine fill_loop (knd:=knd) ((Walks.list hh3 _ l n1 its).toS) s.heap.objs.size n2 val (fun i v z=>hv i v z) hb (its.size-0) 0 _ (by omega) (Nat.zero_le _) ⟨⟨_,Heap.get?_push_size _ rfl,rfl,rfl⟩,hl1.push _⟩
     ⟨_,0,Heap.get?_push_of_some _ hS,Nat.le_refl _,hsi⟩ fun s' hm hi'=>?_
    obtain⟨h',g',d',tk',os'⟩:=s'
    have eg:g'=s.gens:=hm.gens
    have ed:d'=s.drawn:=hm.drawn
    have eo:os'=s.os:=hm.os
    subst eg;subst ed;subst eo
    refine wpAny_pure ?_
    show wpAny _ _ (ret Value.none) _ _ _
    refine wpAny_pure ⟨rfl,h',tk',rfl,hi',fun b o hb' e=>?_⟩
    refine hm.heap b o ?_ (Heap.get?_push_of_some _ (Heap.get?_push_of_some _ e))
    simp only[List.mem_cons,List.not_mem_nil,or_false,not_or]
    rw[Heap.size_push]
    exact⟨Nat.ne_of_lt hb',Nat.ne_of_lt (Nat.lt_succ_of_lt hb')⟩
   .cases r2 with
    |error e=>exact hr2
    |ok fl2=>
     cases fl2 with
     |ret r=>
      obtain⟨rfl,h',tk,rfl,hS',hk'⟩:=hr2
      repeat (any_goals (first|assumption|wp_step))
      exact h _ _ hS' hk' (by obtain⟨o,m,ho,_⟩:=hS';exact Heap.lt_size ho)
     |_=>exact hr2.elim
  |_=>exact hr.elim
end
end PySem
namespace PySem
open PyProof.Rows
namespace F
theorem owner_sti:Manifest.owners.lookup (String.ofList ['r','o','t','a','r','e','t','i','_','t','e','s'].reverse)=some Manifest.sig_set_iterator:=by kernel_rfl
theorem slot_sti_next:Slot "set_iterator" "__next__" "set_iterator.__next__":=
 .of (owner:="set_iterator") (n:="__next__") (by rw[typeLookup_type,builtinLookup_eq_fast];kernel_rfl) (by decide +kernel) (by decide +kernel) (by decide +kernel)
  (by first|exact .inl (by decide +kernel)|exact .inr (by decide +kernel)) (by rw[isSubtype_type];kernel_rfl)
theorem entry_sti_next:entryFor table "set_iterator.__next__"=some Builtin.«set_iterator.__next__»:=entryFor_of_tree (by kernel_rfl)
theorem slot_sti_iter:Slot "set_iterator" "__iter__" "set_iterator.__iter__":=
 .of (owner:="set_iterator") (n:="__iter__") (by rw[typeLookup_type,builtinLookup_eq_fast];kernel_rfl) (by decide +kernel) (by decide +kernel) (by decide +kernel)
  (by first|exact .inl (by decide +kernel)|exact .inr (by decide +kernel)) (by rw[isSubtype_type];kernel_rfl)
theorem entry_sti_iter:entryFor table "set_iterator.__iter__"=some Builtin.«dict_keyiterator.__iter__»:=
 entryFor_alias (id':="dict_keyiterator.__iter__") (by kernel_rfl) (by first|rfl|decide +kernel|(unfold String.splitOn;simp +decide [String.splitOnAux])) (by decide +kernel) (by kernel_rfl)
theorem args_sti_next_1 (a:Value):argsOk "set_iterator.__next__" ⟨[a],[]⟩:=by
 unfold argsOk;rw[signature?_of (id:="set_iterator.__next__") (n:=['_','_','t','x','e','n','_','_']) (o:=['r','o','t','a','r','e','t','i','_','t','e','s']) (by kernel_rfl) owner_sti];kernel_rfl
theorem args_sti_iter_1 (a:Value):argsOk "set_iterator.__iter__" ⟨[a],[]⟩:=by
 unfold argsOk;rw[signature?_of (id:="set_iterator.__iter__") (n:=['_','_','r','e','t','i','_','_']) (o:=['r','o','t','a','r','e','t','i','_','t','e','s']) (by kernel_rfl) owner_sti];kernel_rfl
theorem entry_set_iter':entryFor table "set.__iter__"=some Builtin.«frozenset.__iter__»:=
 entryFor_alias (id':="frozenset.__iter__") (by kernel_rfl) (by first|rfl|decide +kernel|(unfold String.splitOn;simp +decide [String.splitOnAux])) (by decide +kernel) (by kernel_rfl)
end F
def Heap.IsSti (h:Heap) (a d:Addr) (f:Value) (i n ep:Nat):Prop:=∃o,h.get? a=some o/\o.cls=.type "set_iterator"/\o.data=.fields #[f,rawInt i,.ref d,rawInt n,rawInt ep]
theorem Heap.IsSti.at {h h':Heap} {a d:Addr} {f:Value} {i n ep:Nat} (x:h.IsSti a d f i n ep) (e:∀o,h.get? a=some o->h'.get? a=some o):h'.IsSti a d f i n ep:=let⟨o,ho,r⟩:=x;⟨o,e _ ho,r⟩
def Ord (bt:Bool) (w:World) (d ep:Nat) (es:Array (Int×Value)) (t:SetTable) (xs:Array Value) (h:Heap) (f:Value) (i:Nat):Prop:=
 (bt=true/\f=rawInt 0/\xs=(pickOrder (w.params.setOrder d ep) es).map (·.2))\/
 (bt=false/\(!t.plain&&decide (es.size > 1))=false/\Rsn t.place/\f=rawInt (if i=0 then 0 else((t.place.getD (i-1) 0+1:Nat):Int))/\xs=es.map (·.2))\/
 (bt=false/\∃(T:Addr) (pl:Array Nat),f=.ref T/\IsTup h T (pl.map fun(j:Nat)=>rawInt j)/\xs.size=pl.size/\∀(j p:Nat),pl[j]?=some p->∃x:Int×Value,es[p]?=some x/\xs[j]?=some x.2)
section
variable {prog:Program} {w:World} {A:Around} {E:Value->Shared->Prop} {s:Shared}
theorem Heap.IsSti.typeIs {a d:Addr} {f:Value} {i n ep:Nat} (x:s.heap.IsSti a d f i n ep):s.TypeIs (.ref a) "set_iterator":=let⟨o,ho,hc,_⟩:=x;⟨o,ho,hc⟩
theorem iter_sti {it d:Addr} {f:Value} {i n ep:Nat} {Q:Value->Shared->Prop} (hit:s.heap.IsSti it d f i n ep) (h:Q (.ref it) s):wpAny (model prog w) A (pyIter (.ref it)) Q E s:=by
 refine wpAny_pyIter_slot hit.typeIs F.slot_sti_iter (wpAny_call_entry F.slot_sti_iter hit.typeIs F.entry_sti_iter ?_ (F.args_sti_iter_1 _))
 show wpAny _ _ (ret (.ref it)) _ _ s
 exact wpAny_pure ⟨_,rfl,"set_iterator",_,hit.typeIs,F.slot_sti_next.lookup,h⟩
theorem place_next {xs:Array Nat} (hr:Rsn xs) {i:Nat} (hi:i<=xs.size):SetTable.below xs (Int.toNat (if i=0 then 0 else((xs.getD (i-1) 0+1:Nat):Int)))=i:=by
 by_cases h0:i=0
 .subst h0
  rw[if_pos rfl]
  obtain⟨h1,h2,h3⟩:=below_at hr (Int.toNat 0)
  by_cases hz:SetTable.below xs (Int.toNat 0)=0
  .exact hz
  .exact absurd (h2 0 (by omega) (by omega)) (by simp)
 .rw[if_neg h0,Int.toNat_natCast]
  have hg:xs.getD (i-1) 0=xs[i-1]'(by omega):=by simp[Array.getD,show i-1<xs.size by omega]
  rw[hg]
  obtain⟨h1,h2,h3⟩:=below_at hr (xs[i-1]'(by omega)+1)
  refine Nat.le_antisymm (Nat.le_of_not_lt fun z=>?_) (Nat.le_of_not_lt fun z=>?_)
  .have q1:=h2 i (by omega) z
   have q2:=rsn_lt hr (i:=i-1) (j:=i) (by omega) (by omega)
   omega
  .have q1:=h3 (i-1) (by omega) (by omega)
   omega
theorem out_perm {α:Type}:∀(l:List α) (i:Nat) (h:i<l.length),(l[i] :: l.eraseIdx i).Perm l
 |a :: l,0,h=>List.Perm.refl _
 |a :: l,i+1,h=>by
  rw[List.eraseIdx_cons_succ,List.getElem_cons_succ]
  exact(List.Perm.swap a _ _).trans ((out_perm l i (by simpa using h)).cons a)
theorem pick_go {α:Type} (f:Nat->Nat):∀(n k:Nat) (l:List α) (out:Array α),n=l.length->(pickOrder.go f n k l out).toList.Perm (out.toList++l)
 |0,k,l,out,e=>by
  have:l=[]:=List.length_eq_zero_iff.mp e.symm
  subst this
  unfold pickOrder.go
  simp
 |n+1,k,l,out,e=>by
  unfold pickOrder.go
  have hl:f k % l.length<l.length:=Nat.mod_lt _ (by omega)
  rw[List.getElem?_eq_getElem hl]
  dsimp only
  refine(pick_go f n (k+1) _ _ (by rw[List.length_eraseIdx_of_lt hl];omega)).trans ?_
  rw[Array.toList_push,List.append_assoc]
  refine List.Perm.append_left _ ?_
  rw[List.singleton_append]
  exact out_perm l _ hl
theorem pick_perm {α:Type} (f:Nat->Nat) (xs:Array α):(pickOrder f xs).toList.Perm xs.toList:=by
 have:=pick_go f xs.size 0 xs.toList #[] (by simp)
 simpa[pickOrder]using this
theorem next_sti {it d:Addr} {o:Obj} {f:Value} {i ep:Nat} {es:Array (Int×Value)} {t:SetTable} {xs:Array Value} {v:Value} {Q:Option Value->Shared->Prop} (hit:s.heap.IsSti it d f i es.size ep) (hne:d≠it) (hT:∀T,f=.ref T->T≠it) (ho:s.heap.get? d=some o) (hd:o.data=.set es ep t)
  (hf:t.fits es.size=true) (htk:TOk (w.params.followText "set-order") t) (hor:Ord (w.params.followText "set-order") w d ep es t xs s.heap f i) (hx:xs[i]?=some v)
  (hQ:∀h' f',h'.IsSti it d f' (i+1) es.size ep->Heap.SameBut it s.heap h'->Ord (w.params.followText "set-order") w d ep es t xs h' f' (i+1)->(∀T,f'=.ref T->f=.ref T)->Q (some v) { s with heap:=h' }):wpAny (model prog w) A (pyNext (.ref it)) Q E s:=by
 obtain⟨oi,hoi,hci,hdi⟩:=id hit
 have hfz:t.place.size=es.size:=by
  simp only[SetTable.fits,Bool.and_eq_true,beq_iff_eq]at hf
  exact hf.1
 unfold pyNext
 refine wpAny_bind (wpAny_attempt (wpAny_callSpecial?_slot (name:=Str.ofString "__next__") hit.typeIs F.slot_sti_next (wpAny_call_entry F.slot_sti_next hit.typeIs F.entry_sti_next ?_ (F.args_sti_next_1 _))))
 unfold Builtin.«set_iterator.__next__»
 refine wpAny_bind (wpAny_of_eq (a:=(Value.ref it,[])) rfl ?_)
 dsimp only
 refine wpAny_bind (wpAny_fieldsOf hoi hdi ?_)
 dsimp only[rawInt]
 refine wpAny_bind (wpAny_setEntries_of ho hd hf ?_)
 rw[if_neg (by simp)]
 have k1:∀(f1:Value) (h1:Heap),h1=(s.heap.update it (Obj.mapFields fun x=>x.setIfInBounds 0 f1)).update it (Obj.mapFields fun x=>x.setIfInBounds 1 (rawInt ((i:Int)+1)))->h1.IsSti it d f1 (i+1) es.size ep/\Heap.SameBut it s.heap h1:=by
  intro f1 h1 e
  subst e
  have g1:=Heap.get?_update_self (Obj.mapFields fun x=>x.setIfInBounds 0 f1) hoi (Obj.isFreed_of_fields (Obj.data_mapFields hdi _))
  have g2:=Heap.get?_update_self (Obj.mapFields fun x=>x.setIfInBounds 1 (rawInt ((i:Int)+1))) g1 (Obj.isFreed_of_fields (Obj.data_mapFields (Obj.data_mapFields hdi _) _))
  exact⟨⟨_,g2,(Obj.cls_mapFields ..).trans ((Obj.cls_mapFields ..).trans hci),by rw[Obj.data_mapFields (Obj.data_mapFields hdi _)];simp[rawInt]⟩,(Heap.SameBut.update ..).trans (Heap.SameBut.update ..)⟩
 rcases id hor with⟨hb,rfl,hxs⟩|⟨hb,hdr,hrs,rfl,hxs⟩|⟨hb,T,pl,rfl,htp,hsz,hpl⟩
 .dsimp only[rawInt]
  unfold setNext
  refine wpAny_bind (wpAny_bind (wpAny_setState_of ho hd hf ?_))
  dsimp only
  unfold setsByText
  refine wpAny_bind (wpAny_bind (wpAny_askSetting (wpAny_pure ?_)))
  show wpAny _ _ (if w.params.followText "set-order"=true then _ else _) _ _ _
  rw[if_pos hb]
  rw[if_neg (by simp)]
  unfold setWalk
  refine wpAny_bind (wpAny_bind (wpAny_setState_of ho hd hf ?_))
  dsimp only
  unfold setsByText
  refine wpAny_bind (wpAny_bind (wpAny_askSetting (wpAny_pure ?_)))
  show wpAny _ _ (if w.params.followText "set-order"=true then _ else _) _ _ _
  rw[if_pos hb]
  refine wpAny_bind (wpAny_askSetting (wpAny_pure ?_))
  have hv:(pickOrder (w.params.setOrder d ep) es)[i]?.map (·.2)=some v:=by
   rw[hxs,Array.getElem?_map]at hx
   exact hx
  obtain⟨p,hp,rfl⟩:∃p,(pickOrder (w.params.setOrder d ep) es)[i]?=some p/\p.2=v:=by
   cases hq:(pickOrder (w.params.setOrder d ep) es)[i]? with
   |none=>rw[hq]at hv;cases hv
   |some p=>rw[hq]at hv;exact⟨p,rfl,by injection hv⟩
  show wpAny _ _ (pure (Option.map (fun e=>(e.2,(0:Int).toNat)) (pickOrder (w.params.setOrder d ep) es)[(i:Int).toNat]?)) _ _ _
  rw[Int.toNat_natCast,hp]
  refine wpAny_pure ?_
  dsimp only[Option.map]
  refine wpAny_bind (wpAny_setField hoi hdi (by simp) ?_)
  have g1:=Heap.get?_update_self (Obj.mapFields fun x=>x.setIfInBounds 0 (rawInt ((0:Int).toNat:Int))) hoi (Obj.isFreed_of_fields (Obj.data_mapFields hdi _))
  refine wpAny_bind (wpAny_setField g1 (Obj.data_mapFields hdi _) (by simp) ?_)
  obtain⟨z1,z2⟩:=k1 (rawInt ((0:Int).toNat:Int)) _ rfl
  exact wpAny_pure ⟨_,rfl,wpAny_pure (hQ _ _ z1 z2 (.inl ⟨hb,rfl,hxs⟩) fun T z=>nomatch z)⟩
 .dsimp only[rawInt]
  have hi:i<es.size:=by
   rw[hxs]at hx
   have:=(Array.getElem?_eq_some_iff.mp hx).1
   rwa [Array.size_map]at this
  have hv:es[i].2=v:=by
   rw[hxs,Array.getElem?_map,Array.getElem?_eq_getElem hi]at hx
   injection hx
  unfold setNext
  refine wpAny_bind (wpAny_bind (wpAny_setState_of ho hd hf ?_))
  dsimp only
  unfold setsByText
  refine wpAny_bind (wpAny_bind (wpAny_askSetting (wpAny_pure ?_)))
  show wpAny _ _ (if w.params.followText "set-order"=true then _ else _) _ _ _
  rw[if_neg (by rw[hb];exact Bool.false_ne_true)]
  show wpAny _ _ (if(!t.plain&&decide (es.size > 1))=true then _ else _) _ _ _
  rw[if_neg (by rw[hdr];exact Bool.false_ne_true)]
  have hled:t.led=true:=by
   rcases htk with z|z
   .rw[hb]at z;cases z
   .exact z.1
  refine wpAny_bind ?_
  show wpAny _ _ (if(!t.led&&!es.isEmpty)=true then _ else _) _ _ _
  rw[if_neg (by rw[hled];simp)]
  refine wpAny_pure ?_
  rw[place_next hrs (by omega)]
  rw[Array.getElem?_eq_getElem hi,Array.getElem?_eq_getElem (show i<t.place.size by omega)]
  refine wpAny_pure ?_
  dsimp only
  refine wpAny_bind (wpAny_setField hoi hdi (by simp) ?_)
  have g1:=Heap.get?_update_self (Obj.mapFields fun x=>x.setIfInBounds 0 (rawInt ((t.place[i]'(by omega)+1:Nat):Int))) hoi (Obj.isFreed_of_fields (Obj.data_mapFields hdi _))
  refine wpAny_bind (wpAny_setField g1 (Obj.data_mapFields hdi _) (by simp) ?_)
  obtain⟨z1,z2⟩:=k1 (rawInt ((t.place[i]'(by omega)+1:Nat):Int)) _ rfl
  subst hv
  refine wpAny_pure ⟨_,rfl,wpAny_pure (hQ _ _ z1 z2 (.inr (.inl ⟨hb,hdr,hrs,?_,hxs⟩)) fun T z=>nomatch z)⟩
  rw[if_neg (by omega)]
  simp[Array.getD,show i<t.place.size by omega]
 .have hi:i<pl.size:=by
   have:=(Array.getElem?_eq_some_iff.mp hx).1
   omega
  dsimp only[rawInt]
  obtain⟨x,ex,exs⟩:=hpl i _ (Array.getElem?_eq_getElem hi)
  rw[exs]at hx
  injection hx with hx
  subst hx
  obtain⟨oT,hoT,hcT,nT,hdT⟩:=id htp
  refine wpAny_bind ?_
  show wpAny _ _ (load T >>= _) _ _ _
  refine wpAny_bind (wpAny_load hoT ?_)
  rw[hdT]
  refine wpAny_pure ?_
  dsimp only
  have hg:(pl.map fun(j:Nat)=>rawInt j)[(i:Int).toNat]?=some (rawInt (pl[i]:Nat)):=by rw[Int.toNat_natCast,Array.getElem?_map,Array.getElem?_eq_getElem hi];rfl
  rw[hg]
  dsimp only[rawInt]
  unfold setNextDrawn
  refine wpAny_bind (wpAny_bind (wpAny_setState_of ho hd hf ?_))
  dsimp only
  rw[if_neg (by simp)]
  rw[Int.toNat_natCast,ex]
  refine wpAny_pure ?_
  refine wpAny_bind (wpAny_setField hoi hdi (by simp) ?_)
  have hsb:=Heap.SameBut.update s.heap it (Obj.mapFields fun x=>x.setIfInBounds 1 (rawInt ((i:Int)+1)))
  refine wpAny_pure ⟨_,rfl,wpAny_pure (hQ _ (.ref T) ⟨_,Heap.get?_update_self _ hoi (Obj.isFreed_of_fields (Obj.data_mapFields hdi _)),(Obj.cls_mapFields ..).trans hci,by rw[Obj.data_mapFields hdi];simp[rawInt]⟩ hsb (.inr (.inr ⟨hb,T,pl,rfl,tup_at htp fun o e=>(hsb.2 T (hT T rfl)).trans e,hsz,hpl⟩)) fun T' z=>z)⟩
end
end PySem
namespace PySem
open PyProof.Rows
section
variable {prog:Program} {w:World} {A:Around} {E:Value->Shared->Prop} {s:Shared}
theorem end_sti {it d:Addr} {o:Obj} {f:Value} {ep:Nat} {es:Array (Int×Value)} {t:SetTable} {xs:Array Value} {Q:Option Value->Shared->Prop} (hh:A.handled=none) (hit:s.heap.IsSti it d f es.size es.size ep) (ho:s.heap.get? d=some o) (hd:o.data=.set es ep t)
  (hf:t.fits es.size=true) (htk:TOk (w.params.followText "set-order") t) (hor:Ord (w.params.followText "set-order") w d ep es t xs s.heap f es.size) (hsx:xs.size=es.size)
  (hQ:∀h',Heap.ExtBut it s.heap h'->Q none { s with heap:=h' }):wpAny (model prog w) A (pyNext (.ref it)) Q E s:=by
 obtain⟨oi,hoi,hci,hdi⟩:=id hit
 have hfz:t.place.size=es.size:=by
  simp only[SetTable.fits,Bool.and_eq_true,beq_iff_eq]at hf
  exact hf.1
 unfold pyNext
 refine wpAny_bind (wpAny_attempt (wpAny_callSpecial?_slot (name:=Str.ofString "__next__") hit.typeIs F.slot_sti_next (wpAny_call_entry F.slot_sti_next hit.typeIs F.entry_sti_next ?_ (F.args_sti_next_1 _))))
 unfold Builtin.«set_iterator.__next__»
 refine wpAny_bind (wpAny_of_eq (a:=(Value.ref it,[])) rfl ?_)
 dsimp only
 refine wpAny_bind (wpAny_fieldsOf hoi hdi ?_)
 dsimp only[rawInt]
 refine wpAny_bind (wpAny_setEntries_of ho hd hf ?_)
 rw[if_neg (by simp)]
 rcases id hor with⟨hb,rfl,hxs⟩|⟨hb,hdr,hrs,rfl,hxs⟩|⟨hb,T,pl,rfl,htp,hsz,hpl⟩
 .dsimp only[rawInt]
  unfold setNext
  refine wpAny_bind (wpAny_bind (wpAny_setState_of ho hd hf ?_))
  dsimp only
  unfold setsByText
  refine wpAny_bind (wpAny_bind (wpAny_askSetting (wpAny_pure ?_)))
  show wpAny _ _ (if w.params.followText "set-order"=true then _ else _) _ _ _
  rw[if_pos hb]
  rw[if_neg (by simp)]
  unfold setWalk
  refine wpAny_bind (wpAny_bind (wpAny_setState_of ho hd hf ?_))
  dsimp only
  unfold setsByText
  refine wpAny_bind (wpAny_bind (wpAny_askSetting (wpAny_pure ?_)))
  show wpAny _ _ (if w.params.followText "set-order"=true then _ else _) _ _ _
  rw[if_pos hb]
  refine wpAny_bind (wpAny_askSetting (wpAny_pure ?_))
  have hp:(pickOrder (w.params.setOrder d ep) es)[es.size]?=none:=by
   rw[hxs,Array.size_map]at hsx
   exact Array.getElem?_eq_none_iff.mpr (Nat.le_of_eq hsx)
  show wpAny _ _ (pure (Option.map (fun e=>(e.2,(0:Int).toNat)) (pickOrder (w.params.setOrder d ep) es)[(es.size:Int).toNat]?)) _ _ _
  rw[Int.toNat_natCast,hp]
  refine wpAny_pure ?_
  dsimp only[Option.map]
  refine wpAny_bind (wpAny_setField hoi hdi (by simp) ?_)
  have k:Heap.ExtBut it s.heap (s.heap.update it (Obj.mapFields fun x=>x.setIfInBounds 2 Value.none)):=(Heap.SameBut.update ..).extBut
  refine wpAny_bind ?_
  simp only[newExc,newTuple]
  refine wpAny_bind (wpAny_newObj_type ?_ (by size_fits))
  refine wpAny_bind (m:=firstArgMember _ _) (wpAny_of_eq (a:=Value.none) (by first|rfl|(simp only[firstArgMember];rfl)) ?_)
  refine wpAny_newObj_type ?_ (by size_fits)
  simp only[raiseNew]
  refine wpAny_bind (wpAny_handled ?_)
  first|rw[show A.in1.handled=none from hh]|rw[hh]
  refine wpAny_bind (wpAny_pure (wpAny_throw ?_))
  refine wpAny_bind (wpAny_isInstance (T:="StopIteration") (b:=true) ⟨_,Heap.get?_push_size _ rfl,rfl⟩ isSubtype_stop ?_)
  exact wpAny_pure (hQ _ fun b o hb e=>((Heap.ExtBut.refl _ _).push _ |>.push _) b o hb (k b o hb e))
 .dsimp only[rawInt]
  unfold setNext
  refine wpAny_bind (wpAny_bind (wpAny_setState_of ho hd hf ?_))
  dsimp only
  unfold setsByText
  refine wpAny_bind (wpAny_bind (wpAny_askSetting (wpAny_pure ?_)))
  show wpAny _ _ (if w.params.followText "set-order"=true then _ else _) _ _ _
  rw[if_neg (by rw[hb];exact Bool.false_ne_true)]
  show wpAny _ _ (if(!t.plain&&decide (es.size > 1))=true then _ else _) _ _ _
  rw[if_neg (by rw[hdr];exact Bool.false_ne_true)]
  have hled:t.led=true:=by
   rcases htk with z|z
   .rw[hb]at z;cases z
   .exact z.1
  refine wpAny_bind ?_
  show wpAny _ _ (if(!t.led&&!es.isEmpty)=true then _ else _) _ _ _
  rw[if_neg (by rw[hled];simp)]
  refine wpAny_pure ?_
  rw[show(if es.size=0 then(0:Int)else((t.place.getD (es.size-1) 0+1:Nat):Int))=(if t.place.size=0 then(0:Int)else((t.place.getD (t.place.size-1) 0+1:Nat):Int)) by rw[hfz]]
  rw[place_next hrs (Nat.le_refl _),hfz]
  rw[Array.getElem?_eq_none_iff.mpr (Nat.le_refl es.size)]
  refine wpAny_pure ?_
  dsimp only
  refine wpAny_bind (wpAny_setField hoi hdi (by simp) ?_)
  have k:Heap.ExtBut it s.heap (s.heap.update it (Obj.mapFields fun x=>x.setIfInBounds 2 Value.none)):=(Heap.SameBut.update ..).extBut
  refine wpAny_bind ?_
  simp only[newExc,newTuple]
  refine wpAny_bind (wpAny_newObj_type ?_ (by size_fits))
  refine wpAny_bind (m:=firstArgMember _ _) (wpAny_of_eq (a:=Value.none) (by first|rfl|(simp only[firstArgMember];rfl)) ?_)
  refine wpAny_newObj_type ?_ (by size_fits)
  simp only[raiseNew]
  refine wpAny_bind (wpAny_handled ?_)
  first|rw[show A.in1.handled=none from hh]|rw[hh]
  refine wpAny_bind (wpAny_pure (wpAny_throw ?_))
  refine wpAny_bind (wpAny_isInstance (T:="StopIteration") (b:=true) ⟨_,Heap.get?_push_size _ rfl,rfl⟩ isSubtype_stop ?_)
  exact wpAny_pure (hQ _ fun b o hb e=>((Heap.ExtBut.refl _ _).push _ |>.push _) b o hb (k b o hb e))
 .dsimp only[rawInt]
  obtain⟨oT,hoT,hcT,nT,hdT⟩:=id htp
  refine wpAny_bind ?_
  show wpAny _ _ (load T >>= _) _ _ _
  refine wpAny_bind (wpAny_load hoT ?_)
  rw[hdT]
  refine wpAny_pure ?_
  dsimp only
  have hg:(pl.map fun(j:Nat)=>rawInt j)[(es.size:Int).toNat]?=none:=by rw[Int.toNat_natCast];exact Array.getElem?_eq_none_iff.mpr (by rw[Array.size_map];omega)
  rw[hg]
  dsimp only
  refine wpAny_bind (wpAny_setField hoi hdi (by simp) ?_)
  refine wpAny_bind (wpAny_setField (Heap.get?_update_self _ hoi (Obj.isFreed_of_fields (Obj.data_mapFields hdi _))) (Obj.data_mapFields hdi _) (by simp) ?_)
  have k:Heap.ExtBut it s.heap ((s.heap.update it (Obj.mapFields fun x=>x.setIfInBounds 0 (rawInt 0))).update it (Obj.mapFields fun x=>x.setIfInBounds 2 Value.none)):=fun b o hb e=>
   (Heap.SameBut.update ..).extBut b o hb ((Heap.SameBut.update ..).extBut b o hb e)
  refine wpAny_bind ?_
  simp only[newExc,newTuple]
  refine wpAny_bind (wpAny_newObj_type ?_ (by size_fits))
  refine wpAny_bind (m:=firstArgMember _ _) (wpAny_of_eq (a:=Value.none) (by first|rfl|(simp only[firstArgMember];rfl)) ?_)
  refine wpAny_newObj_type ?_ (by size_fits)
  simp only[raiseNew]
  refine wpAny_bind (wpAny_handled ?_)
  first|rw[show A.in1.handled=none from hh]|rw[hh]
  refine wpAny_bind (wpAny_pure (wpAny_throw ?_))
  refine wpAny_bind (wpAny_isInstance (T:="StopIteration") (b:=true) ⟨_,Heap.get?_push_size _ rfl,rfl⟩ isSubtype_stop ?_)
  exact wpAny_pure (hQ _ fun b o hb e=>((Heap.ExtBut.refl _ _).push _ |>.push _) b o hb (k b o hb e))
theorem draw_perm {α:Type}:∀(n:Nat) (l:List α) (s:Shared) (Q:List α->Shared->Prop),n=l.length->(∀l' d,l'.Perm l->Q l' { s with drawn:=d })->wpAny (model prog w) A (drawOrder n l) Q E s
 |0,l,s,Q,e,h=>by
  have:l=[]:=List.length_eq_zero_iff.mp e.symm
  subst this
  unfold drawOrder
  exact wpAny_pure (h [] s.drawn (List.Perm.refl _))
 |n+1,[],s,Q,e,h=>by simp at e
 |n+1,x :: l,s,Q,e,h=>by
  unfold drawOrder
  have hch:∀(k:Nat->Sem (List α)),(∀i,i<(x :: l).length->∀d,wpAny (model prog w) A (k i) Q E { s with drawn:=d })->wpAny (model prog w) A (choose .order (x :: l).length >>= k) Q E s:=by
   intro k hk Γ p hΓ
   show Sem.wp _ Γ (.choose .order (x :: l).length fun i=>k i) _ _ p s
   rw[Sem.wp_choose]
   exact⟨by simp,hk _ (Nat.mod_lt _ (by simp)) _ Γ p hΓ⟩
  refine hch _ fun i hi d=>?_
  rw[List.getElem?_eq_getElem hi]
  dsimp only
  refine wpAny_bind (draw_perm n _ _ _ (by rw[List.length_eraseIdx_of_lt hi];omega) fun l' d' hp=>wpAny_pure ?_)
  exact h _ d' ((hp.cons _).trans (out_perm _ _ hi))
end
end PySem
namespace PySem
open PyProof.Rows
theorem ord_kept {bt:Bool} {w:World} {d ep:Nat} {es:Array (Int×Value)} {t:SetTable} {xs:Array Value} {h h':Heap} {f:Value} {i:Nat} (x:Ord bt w d ep es t xs h f i) (k:∀T,f=.ref T->∀o,h.get? T=some o->h'.get? T=some o):Ord bt w d ep es t xs h' f i:=by
 rcases x with z|z|⟨z,T,pl,e,ht,r⟩
 .exact .inl z
 .exact .inr (.inl z)
 .exact .inr (.inr ⟨z,T,pl,e,tup_at ht (k T e),r⟩)
section
variable {prog:Program} {w:World}
def StSti (w:World) (I D:Addr) (o:Obj) (TL:List Addr) (es:Array (Int×Value)) (ep:Nat) (t:SetTable) (xs:Array Value) (i:Nat) (s:Shared):Prop:=
 s.heap.get? D=some o/\∃f,s.heap.IsSti I D f i es.size ep/\Ord (w.params.followText "set-order") w D ep es t xs s.heap f i/\∀T,f=.ref T->T∈TL
theorem walks_sti {A:Around} (hh:A.handled=none) {I D:Addr} {o:Obj} {TL:List Addr} {es:Array (Int×Value)} {ep:Nat} {t:SetTable} {xs:Array Value} (hne:D≠I) (hTL:I∉TL) (hd:o.data=.set es ep t) (hf:t.fits es.size=true) (htk:TOk (w.params.followText "set-order") t) (hsx:xs.size=es.size):
  WalksS prog w A I (I :: D :: TL) [I] Eq es.size (fun i v=>xs[i]?=some v) (StSti w I D o TL es ep t xs) where
 sub:=fun b hb=>by simp at hb;simp[hb]
 grefl:=fun _=>rfl
 gtrans:=fun _ _ _=>Eq.trans
 frame:=fun _ _ _ _ x _ hk=>by
  obtain⟨ho,f,hi,hor,hT⟩:=x
  exact⟨hk D (by simp) o ho,f,hi.at fun o e=>hk I (by simp) o e,ord_kept hor fun T e o eo=>hk T (by simp[hT T e]) o eo,hT⟩
 item:=fun i s Q E hi x hQ=>by
  obtain⟨ho,f,hit,hor,hT⟩:=x
  have hx:xs[i]?=some (xs[i]'(by omega)):=Array.getElem?_eq_getElem (by omega)
  refine next_sti hit hne (fun T e z=>hTL (z ▸ hT T e)) ho hd hf htk hor hx fun h' f' hit' hs' hor' hff=>?_
  exact hQ _ _ hx ⟨(hs'.2 D hne).trans ho,f',hit',hor',fun T e=>hT T (hff T e)⟩ ⟨fun b o hb eo=>hs'.extBut b o (fun z=>hb (by simp[z])) eo,rfl,rfl,rfl,Nat.le_refl _⟩
 done:=fun s Q E x hQ=>by
  obtain⟨ho,f,hit,hor,hT⟩:=x
  exact end_sti hh hit ho hd hf htk hor hsx fun h' he'=>hQ _ ⟨fun b o hb eo=>he' b o (fun z=>hb (by simp[z])) eo,rfl,rfl,rfl,Nat.le_refl _⟩
 self:=fun _ _ _ _ x hQ=>by
  obtain⟨ho,f,hit,hor,hT⟩:=x
  exact iter_sti hit hQ
variable {A:Around} {E:Value->Shared->Prop} {s:Shared}
theorem iter_setIt {D:Addr} {o:Obj} {es:Array (Int×Value)} {ep:Nat} {t:SetTable} {Q:Value->Shared->Prop} (ho:s.heap.get? D=some o) (hc:o.ExactSet) (hd:o.data=.set es ep t) (hf:t.fits es.size=true) (htk:TOk (w.params.followText "set-order") t) (hz:es.size<=sizeLine)
  (hQ:∀s' I TL xs,(∀b o,s.heap.get? b=some o->s'.heap.get? b=some o)->s'.gens=s.gens->s'.os=s.os->s.toks<=s'.toks->s.heap.objs.size<=s'.heap.objs.size->(∀b∈I :: TL,s.heap.objs.size<=b/\b<s'.heap.objs.size)->I∉TL->xs.size=es.size->xs.toList.Perm (es.toList.map (·.2))->StSti w I D o TL es ep t xs 0 s'->Q (.ref I) s'):
  wpAny (model prog w) A (pyIter (.ref D)) Q E s:=by
 have hT:s.TypeIs (.ref D) "set":=⟨o,ho,hc.1⟩
 have hlD:D<s.heap.objs.size:=Heap.lt_size ho
 refine wpAny_pyIter_slot hT F.slot_set_iter (wpAny_call_entry F.slot_set_iter hT F.entry_set_iter' ?_ (F.args_set_iter_1 _))
 unfold Builtin.«frozenset.__iter__»
 refine wpAny_bind (wpAny_of_eq (a:=D) rfl ?_)
 dsimp only
 refine wpAny_bind ?_
 unfold Builtin.Frozenset.sizeOf
 refine wpAny_bind (wpAny_setEntries_of ho hd hf (wpAny_pure ?_))
 unfold setDrawn
 refine wpAny_bind (wpAny_bind (wpAny_setState_of ho hd hf ?_))
 dsimp only
 unfold setsByText
 refine wpAny_bind (wpAny_bind (wpAny_askSetting (wpAny_pure (wpAny_pure ?_))))
 have tail:∀(f:Value) (s1:Shared) (TL:List Addr) (xs:Array Value) (Q':Fin->Shared->Prop),s1.heap.get? D=some o->(∀b o,s.heap.get? b=some o->s1.heap.get? b=some o)->s1.gens=s.gens->s1.os=s.os->s1.toks=s.toks->s.heap.objs.size<=s1.heap.objs.size->(∀b∈TL,s.heap.objs.size<=b/\b<s1.heap.objs.size)->
   xs.size=es.size->xs.toList.Perm (es.toList.map (·.2))->Ord (w.params.followText "set-order") w D ep es t xs s1.heap f 0->(∀T,f=.ref T->T∈TL)->
   (∀v s',Q v s'->s'.TypeIs v "set_iterator"->Q' (.done (.ret v)) s')->
   wpAny (model prog w) A.in1 (do ret (<- newFields "set_iterator" [f,rawInt 0,.ref D,rawInt es.size,rawInt (<- setEpoch D)])) Q' E s1:=by
  intro f s1 TL xs Q' h1 h2 h3 h4 h5 h6 h7 h8 h9 h10 h11 h12
  refine wpAny_bind (wpAny_setEpoch_of h1 hd hf ?_)
  unfold newFields
  refine wpAny_bind (wpAny_newObj_type ?_ (by size_fits))
  refine wpAny_pure (h12 _ _ ?_ ⟨_,Heap.get?_push_size _ rfl,rfl⟩)
  refine hQ _ s1.heap.objs.size TL xs (fun b o e=>Heap.get?_push_of_some _ (h2 b o e)) h3 h4 (Nat.le_of_eq h5.symm) (by show _<=(s1.heap.push _).objs.size;rw[Heap.size_push];exact Nat.le_succ_of_le h6) (fun b hb=>?_) (fun z=>Nat.lt_irrefl _ (h7 _ z).2) h8 h9 ⟨Heap.get?_push_of_some _ h1,f,⟨_,Heap.get?_push_size _ rfl,rfl,rfl⟩,ord_kept h10 fun T e o eo=>Heap.get?_push_of_some _ eo,h11⟩
  show _/\b<(s1.heap.push _).objs.size
  rw[Heap.size_push]
  rcases List.mem_cons.mp hb with rfl|hb
  .exact⟨h6,Nat.lt_succ_self _⟩
  .exact⟨(h7 b hb).1,Nat.lt_succ_of_lt (h7 b hb).2⟩
 show wpAny _ _ (if(!(w.params.followText "set-order")&&(!t.plain&&decide (es.size > 1)))=true then _ else _) _ _ _
 cases hb:w.params.followText "set-order" with
 |true=>
  rw[if_neg (by simp)]
  refine wpAny_bind (wpAny_pure ?_)
  refine tail (rawInt 0) s [] ((pickOrder (w.params.setOrder D ep) es).map (·.2)) _ ho (fun _ _ e=>e) rfl rfl rfl (Nat.le_refl _) (fun b z=>nomatch z) ?_ ?_ ?_ (fun T z=>nomatch z) fun v s' q ty=>⟨_,rfl,"set_iterator",_,ty,F.slot_sti_next.lookup,q⟩
  .rw[Array.size_map,<- Array.length_toList,(pick_perm _ _).length_eq,Array.length_toList]
  .rw[Array.toList_map]
   exact(pick_perm _ _).map _
  .rw[hb]
   exact .inl ⟨rfl,rfl,rfl⟩
 |false=>
  cases hdr:(!t.plain&&decide (es.size > 1))with
  |false=>
   rw[if_neg (by simp)]
   refine wpAny_bind (wpAny_pure ?_)
   refine tail (rawInt 0) s [] (es.map (·.2)) _ ho (fun _ _ e=>e) rfl rfl rfl (Nat.le_refl _) (fun b z=>nomatch z) ?_ ?_ ?_ (fun T z=>nomatch z) fun v s' q ty=>⟨_,rfl,"set_iterator",_,ty,F.slot_sti_next.lookup,q⟩
   .rw[Array.size_map]
   .rw[Array.toList_map]
   .rw[hb]
    refine .inr (.inl ⟨rfl,hdr,?_,rfl,rfl⟩)
    rcases htk with z|z
    .rw[hb]at z;cases z
    .exact z.2
  |true=>
   rw[if_pos (by simp)]
   refine wpAny_bind (draw_perm _ _ _ _ (by simp) fun l' d hp=>?_)
   unfold newTuple
   refine wpAny_bind ?_
   refine wpAny_newObj_type ?_ (by show(List.map _ l').toArray.size<=_;rw[List.size_toArray,List.length_map,hp.length_eq,List.length_range];exact hz)
   have hin:∀p∈l',p<es.size:=fun p z=>List.mem_range.mp (hp.mem_iff.mp z)
   have hln:l'.length=es.size:=by rw[hp.length_eq,List.length_range]
   let xs:List Value:=l'.map fun p=>(es.getD p (0,.none)).2
   refine tail (.ref s.heap.objs.size) _ [s.heap.objs.size] xs.toArray _ (Heap.get?_push_of_some _ ho) (fun _ _ e=>Heap.get?_push_of_some _ e) rfl rfl rfl ?_ (fun b z=>?_) ?_ ?_ ?_ (fun T z=>by injection z with z;simp[z]) fun v s' q ty=>⟨_,rfl,"set_iterator",_,ty,F.slot_sti_next.lookup,q⟩
   .show _<=(s.heap.push _).objs.size
    rw[Heap.size_push]
    exact Nat.le_succ _
   .rw[List.mem_singleton]at z
    subst z
    show _/\_<(s.heap.push _).objs.size
    rw[Heap.size_push]
    exact⟨Nat.le_refl _,Nat.lt_succ_self _⟩
   .rw[List.size_toArray,List.length_map,hln]
   .show(l'.map fun p=>(es.getD p (0,.none)).2).Perm _
    refine(hp.map _).trans (List.Perm.of_eq ?_)
    apply List.ext_getElem?
    intro j
    rw[List.getElem?_map,List.getElem?_map]
    by_cases hj:j<es.size
    .rw[List.getElem?_range hj,List.getElem?_eq_getElem (show j<es.toList.length by rw[Array.length_toList];exact hj)]
     simp[Array.getD,hj]
    .rw[List.getElem?_eq_none (by simpa using hj),List.getElem?_eq_none (by rw[Array.length_toList];omega)]
     rfl
   .rw[hb]
    refine .inr (.inr ⟨rfl,s.heap.objs.size,l'.toArray,rfl,⟨_,Heap.get?_push_size _ rfl,rfl,0,?_⟩,?_,fun j p e=>?_⟩)
    .show Data.seq _ _=_
     congr 1
     simp
    .rw[List.size_toArray,List.size_toArray,List.length_map]
    .rw[List.getElem?_toArray]at e
     have hp':=hin p (List.mem_of_getElem? e)
     refine⟨_,Array.getElem?_eq_getElem hp',?_⟩
     rw[List.getElem?_toArray]
     show(List.map _ l')[j]?=_
     rw[List.getElem?_map,e]
     simp[Array.getD,hp']
theorem collect_setIt {D:Addr} {o:Obj} {es:Array (Int×Value)} {ep:Nat} {t:SetTable} {Q:List Value->Shared->Prop} (hh:A.handled=none) (ho:s.heap.get? D=some o) (hc:o.ExactSet) (hd:o.data=.set es ep t) (hf:t.fits es.size=true) (htk:TOk (w.params.followText "set-order") t) (hz:es.size<=sizeLine)
  (hQ:∀s' xs,(∀b o,s.heap.get? b=some o->s'.heap.get? b=some o)->s'.gens=s.gens->s'.os=s.os->s.toks<=s'.toks->s.heap.objs.size<=s'.heap.objs.size->xs.Perm (es.toList.map (·.2))->Q xs s'):wpAny (model prog w) A (collect (.ref D)) Q E s:=by
 have hlD:D<s.heap.objs.size:=Heap.lt_size ho
 have hSD:s.heap.objs.size≠D:=Nat.ne_of_gt hlD
 unfold collect
 refine wpAny_bind (wpAny_runValue (codeAny_builtin F.entry_proto_collect ?_))
 rw[Around.under_plainId F.plain_proto_collect _]
 show wpAny _ A.in1 (newList [] >>= fun l=>again (.builtin "list.__iadd__" ⟨[l,.ref D],[]⟩)) _ _ s
 refine wpAny_bind (wpAny_newObj_type ?_)
 refine wpAny_pure ⟨plainId_quiet F.plain_list_iadd _,codeAny_builtin F.entry_list_iadd ?_⟩
 rw[Around.under_plainId F.plain_list_iadd _]
 generalize hlo:({ cls:=.type "list",data:=.seq ([]:List Value).toArray }:Obj)=lo
 have hT1:Shared.TypeIs { s with heap:=s.heap.push lo } (.ref D) "set":=⟨o,Heap.get?_push_of_some _ ho,hc.1⟩
 have hS1:(s.heap.push lo).get? s.heap.objs.size=some lo:=Heap.get?_push_size _ (by rw[<- hlo];rfl)
 have h1:Builtin.List.listSameRef (.ref s.heap.objs.size) (.ref D)=false:=by simp[Builtin.List.listSameRef,hSD]
 show wpAny _ A.in1 (Builtin.List.listExtendWith (.ref s.heap.objs.size) (.ref D) (.ref s.heap.objs.size)) _ _ _
 unfold Builtin.List.listExtendWith
 refine wpAny_bind (wpAny_typeOf hT1 ?_)
 rw[if_neg (by rw[h1];decide)]
 refine wpAny_bind (iter_setIt (s:={ s with heap:=s.heap.push lo }) (Heap.get?_push_of_some _ ho) hc hd hf htk hz fun s1 I TL xs k1 k2 k3 k4 k5 k6 k7 k8 k9 k10=>?_)
 have hT2:s1.TypeIs (.ref D) "set":=⟨o,k1 D o (Heap.get?_push_of_some _ ho),hc.1⟩
 refine wpAny_bind (wpAny_holding ?_)
 unfold Builtin.List.listLengthHint
 refine wpAny_bind (wpAny_specialOf hT2 F.slot_set_len.lookup ?_)
 dsimp only
 (generalize hid:("set.__len__":String)=id0;(fail_if_success (clear hid id0));rw[show splitId id0=some ("set","__len__") from by subst hid;decide +kernel];subst hid)
 dsimp only
 refine wpAny_bind (wpAny_isInstance (b:=true) hT2 (by rw[isSubtype_type];kernel_rfl) ?_)
 rw[if_neg (by decide),if_pos (by decide +kernel)]
 refine wpAny_bind (wpAny_typeOf hT2 (wpAny_pure ?_))
 rw[if_pos (by decide)]
 refine wpAny_bind (wpAny_rule ?_)
 refine wpAny_bind ?_
 have hSs:s1.heap.get? s.heap.objs.size=some lo:=k1 _ _ hS1
 have hsq:lo.data=.seq #[] 0:=by rw[<- hlo]
 have hsz1:(s.heap.push lo).objs.size=s.heap.objs.size+1:=Heap.size_push ..
 show wpAny _ A.in1 (updateSeq s.heap.objs.size (·.push .none) >>= fun _=>updateSeq s.heap.objs.size (·.pop)) _ _ _
 refine wpAny_bind (wpAny_updateSeq hSs hsq ?_)
 have hS2:=Heap.get?_update_self (Obj.mapSeq (·.push Value.none)) hSs (by rw[<- hlo];rfl)
 refine wpAny_updateSeq hS2 (by rw[<- hlo];rfl) ?_
 have hS3:=Heap.get?_update_self (Obj.mapSeq (·.pop)) hS2 (by rw[<- hlo];rfl)
 have oth:∀b o,b≠s.heap.objs.size->s1.heap.get? b=some o->((s1.heap.update s.heap.objs.size (Obj.mapSeq (·.push Value.none))).update s.heap.objs.size (Obj.mapSeq (·.pop))).get? b=some o:=
  fun b o hb e=>(Heap.get?_update_other _ _ (Ne.symm hb)).trans ((Heap.get?_update_other _ _ (Ne.symm hb)).trans e)
 have k6':∀b∈I :: TL,s.heap.objs.size<b:=fun b hb=>by
  have:=(k6 b hb).1
  rw[show(Shared.heap { s with heap:=s.heap.push lo }).objs.size=s.heap.objs.size+1 from hsz1]at this
  exact this
 have hID:D≠I:=fun e=>Nat.lt_irrefl _ (Nat.lt_trans hlD (e ▸ k6' I (by simp)))
 have hfp:s.heap.objs.size∉I :: D :: TL:=fun hm=>by
  have big:∀b∈I :: TL,s.heap.objs.size≠b:=fun b hb e=>Nat.lt_irrefl _ (e ▸ k6' b hb)
  simp only[List.mem_cons]at hm
  rcases hm with e|e|e
  .exact big I (by simp) e
  .exact hSD e
  .exact big _ (List.mem_cons_of_mem _ e) rfl
 have W:WalksS prog w A.in1 I (I :: D :: TL) [I] Eq es.size (fun i v=>xs[i]?=some v) (StSti w I D o TL es ep t xs):=walks_sti (A:=A.in1) hh hID k7 hd hf htk k8
 have k11:=W.frame 0 s1 _ s1.toks k10 (Nat.le_refl _) fun b hb o e=>oth b o (fun z=>hfp (z ▸ hb)) e
 refine wpAny_pure ⟨plainId_quiet F.plain_extend_loop _,codeAny_extend_loopS W hz _ hfp _ es.size 0 _ _ _ rfl (Nat.zero_le _) k11 (by rw[hS3,<- hlo];rfl) (ItemsOf.nil _) fun s' acc' c' hm hS' hacc=>?_⟩
 show wpAny _ A (load s.heap.objs.size >>= _) _ _ s'
 refine wpAny_bind (wpAny_load hS' (wpAny_pure ?_))
 have eacc:acc'.toList=xs.toList:=by
  obtain⟨hl,hp⟩:=hacc
  apply List.ext_getElem?
  intro j
  by_cases hj:j<es.size
  .have h2:acc'[j]?=some (acc'[j]'(by omega)):=Array.getElem?_eq_getElem (by omega)
   rw[Array.getElem?_toList,Array.getElem?_toList,h2,<- hp j _ h2]
  .rw[List.getElem?_eq_none (by rw[Array.length_toList];omega),List.getElem?_eq_none (by rw[Array.length_toList];omega)]
 have hlt:s.heap.objs.size<s'.heap.objs.size:=Heap.lt_size hS'
 refine hQ s' _ (fun b o e=>?_) ?_ ?_ ?_ (Nat.le_of_lt hlt) (by rw[eacc];exact k9)
 .have hb:b≠s.heap.objs.size:=Nat.ne_of_lt (Heap.lt_size e)
  refine hm.heap b o ?_ (oth b o hb (k1 b o (Heap.get?_push_of_some _ e)))
  simp only[List.mem_cons,List.not_mem_nil,or_false,not_or]
  refine⟨hb,fun z=>?_⟩
  exact Nat.lt_irrefl _ (Nat.lt_trans (Heap.lt_size e) (z ▸ k6' I (by simp)))
 .have:=hm.gens;exact this.symm.trans k2
 .exact hm.os.trans k3
 .exact Nat.le_trans k4 hm.toks
end
end PySem
namespace L2
open PySem PySem.Spec PyProof.Rows
noncomputable def tCompG {α:Type} (own:List Nat) (wi:TI) (g:TG) (tc:TT) (rest:TL α) (a0:α) (ho:Addr->α->HO) (ok:α->Hp->Prop):TE:=fun σ H Q=>wi σ H fun J H1=>tClause own g tc rest J σ a0 H1 fun xs H2=>ok xs H2/\∀p,H2 p=none->Q (.ref p) (upd H2 p (ho p xs))
structure CompInG {α:Type} (Is:α->Obj->Prop) (X:Cx) (e:Expr) (scope:Scope) (tg:Expr) (iter:Expr) (ifs:List Expr) (nx:Addr->Env->Sem Unit) (g:TG) (tc:TT) (rest:TL α) (own:List Nat):Prop where
 sc:CompSc X scope
 ow:∀i x,X.N[i]?=some x->(scope.names.lookup x=some .local\/scope.names.lookup x=some .cell)->i∈own
 cl:∃gs,clausesOf e=⟨tg,iter,ifs,0⟩ :: gs
 fs:∀x,foldedSetIterable iter X.env x=pure x
 calm:X.calm=true
 q:∀it D env,(Code.compLoop e 0 it (.ref D) env).quiet=true/\(Code.compStart e 0 it (.ref D) env).quiet=true
 u:∀A it D env,Around.under A (Code.compLoop e 0 it (.ref D) env)=A/\Around.under A (Code.compStart e 0 it (.ref D) env)=A
 T:∀P w it D env,(model P w).den (.compLoop e 0 it (.ref D) env)=(turnCode e 0 tg iter ifs (nx D env) it (.ref D) env).onRaise (fun x=>do noteFrame x env;theTreesLotGoes x)
 S:∀P w it D env,(model P w).den (.compStart e 0 it (.ref D) env)=(compStart e 0 it (.ref D) env).onRaise (fun x=>do noteFrame x env;standAt theWindowsPlace)
 ge:GExt own g
 inn:∀s0 H0 ex D,PG (X.comp scope s0 H0 ex) tg g/\PTs (X.comp scope s0 H0 ex) ifs tc/\∃ws',(∀j∈ws',j∈own)/\CompRun (X.comp scope s0 H0 ex) D Is ws' (nx D (X.comp scope s0 H0 ex).env) rest
section
variable {X:Cx} {e:Expr} {scope:Scope} {tg iter:Expr} {ifs:List Expr} {nx:Addr->Env->Sem Unit} {g:TG} {tc:TT} {α:Type} {Is:α->Obj->Prop} {rest:TL α} {own:List Nat} {wi:TI} {a0:α} {o0:Bool->Obj} {newAcc:Sem Value} {ho:Addr->α->HO} {ok:α->Hp->Prop}
theorem comp_allG (hnew:∀(s:Shared) (Q:Value->Shared->Prop),(∀led,Q (.ref s.heap.objs.size) { s with heap:=s.heap.push (o0 led) })->wpAny (model X.prog X.w) X.A newAcc Q X.xe s) (hfr:∀led,(o0 led).isFreed=false) (ha0:∀led,Is a0 (o0 led)) (hda:∀(a:α) (o:Obj),Is a o->∀v:Option Value,o.data≠.cell v) (C:CompInG Is X e scope tg iter ifs nx g tc rest own) (hi:PI X tg iter wi) {pins:List (Addr×Obj)} {s:Shared} {σ:St} {H:Hp} {R:V->Hp->Prop} (I:Inv X pins σ H s) (hw:tCompG own wi g tc rest a0 ho ok σ H R)
  {use:Option (Value->Sem Unit)} {Q:Value->Shared->Prop} {pos:Pos}
  (fin:∀(s3 s':Shared) (H0 H':Hp) (ex:List Addr) (D:Addr) (xs:α) (o:Obj) (σ':St),Inv X pins σ H0 s3->(∀b∈ex,FpOk X pins H0 b)->Inv (X.comp scope s3 H0 ex) [] σ' H' s'->s'.heap.get? D=some o->D<s3.heap.objs.size->X.s₀.heap.objs.size<=D->FpOk X pins H0 D->(D == sysModules)=false->Is xs o->H' D=none->ok xs H'->R (.ref D) (upd H' D (ho D xs))->
   compPost (model X.prog X.w) X.A X.xe use Q (.ref D) s3.heap.objs.size (.ok .next) s'):
  wpAny (model X.prog X.w) X.A (comprehension e scope X.env pos newAcc false (eval iter X.env) use) Q X.xe s:=by
 obtain⟨gs,hcl⟩:=C.cl
 refine wpAny_comprehension_free hcl C.fs (closFor fun n hn=>I.ok.has n (C.sc.free n hn)) C.sc.kind C.sc.names ?_
 refine thn (hi pins s σ H _ I hw) fun v s1 h1=>thn h1 fun itv s2 h2=>?_
 obtain⟨it,fp,tn,J,H2,rfl,I2,T,st2,f2,hc⟩:=h2
 refine hnew _ _ fun led=>wpAny_compEnv ?_
 have keep:∀b o,s2.heap.get? b=some o->(s2.heap.push (o0 led)).get? b=some o:=fun b o e=>Heap.get?_push_of_some _ e
 have I3:Inv X pins σ H2 { s2 with heap:=s2.heap.push (o0 led) }:=I2.kept (t':=s2.toks) keep
 have hsz:(s2.heap.push (o0 led)).objs.size=s2.heap.objs.size+1:=Heap.size_push ..
 have fD:FpOk X pins H2 s2.heap.objs.size:=I2.fpOk (Nat.le_refl _) (I2.hok.fresh (Nat.le_refl _))
 have hlt:∀b∈fp,b<s2.heap.objs.size:=fun b hb=>by
  obtain⟨o,e,_⟩:=T.obj _ _ st2 b hb
  exact Heap.lt_size e
 have hDf:s2.heap.objs.size∉fp:=fun z=>Nat.lt_irrefl _ (hlt _ z)
 have hex:∀b∈s2.heap.objs.size :: fp,FpOk X pins H2 b:=fun b hb=>by
  rcases List.mem_cons.mp hb with rfl|hb
  .exact fD
  .exact f2 b hb
 generalize hs3:({ s2 with heap:=s2.heap.push (o0 led) }:Shared)=s3 at *
 have hs3s:s3.heap.objs.size=s2.heap.objs.size+1:=by rw[<- hs3];exact hsz
 have hlt3:∀b∈s2.heap.objs.size :: fp,b<s3.heap.objs.size:=fun b hb=>by
  rw[hs3s]
  rcases List.mem_cons.mp hb with rfl|hb
  .exact Nat.lt_succ_self _
  .exact Nat.lt_succ_of_lt (hlt b hb)
 have J0:=comp_start (own:=own) I3 hex hlt3 C.sc C.ow
 obtain⟨c1,c2,ws',c4,c5⟩:=C.inn s3 H2 (s2.heap.objs.size :: fp) s2.heap.objs.size
 have kp:∀b o,s2.heap.get? b=some o->(compHeap s3.heap scope.names).get? b=some o:=fun b o e=>pushCells_keeps _ _ b o (Heap.get?_push_of_some _ (by rw[<- hs3];exact keep b o e))
 have oD:(compHeap s3.heap scope.names).get? s2.heap.objs.size=some (o0 led):=pushCells_keeps _ _ _ _ (Heap.get?_push_of_some _ (by rw[<- hs3];exact Heap.get?_push_size _ (hfr led)))
 have stat:∀b∈s2.heap.objs.size :: fp,FpOk (X.comp scope s3 H2 (s2.heap.objs.size :: fp)) [] H2 b:=fun b hb=>
  ⟨(hex b hb).1,(J0.ok.exf b hb).1,J0.ok.exfs b hb,.inl hb,(J0.ok.exf b hb).2,fun p hp=>absurd (show p∈([]:List (Addr×Obj)) from hp) (by simp)⟩
 have T':Turn (X.comp scope s3 H2 (s2.heap.objs.size :: fp)).prog (X.comp scope s3 H2 (s2.heap.objs.size :: fp)).w (X.comp scope s3 H2 (s2.heap.objs.size :: fp)).K tg J fp it tn:=T
 have hc':tClause own g tc rest J (clr own σ) a0 H2 (fun xs H2=>ok xs H2/\∀p,H2 p=none->R (.ref p) (upd H2 p (ho p xs))):=by
  obtain⟨W,w0,turn⟩:=hc
  refine⟨W,w0,?_⟩
  rw[clr_idem]
  exact turn
 have st3:tn 0 ({ s3 with heap:=compHeap s3.heap scope.names }:Shared).heap:=T.keep _ _ _ st2 fun b hb o e=>kp b o e
 have L:=comp_loop (X:=X.comp scope s3 H2 (s2.heap.objs.size :: fp)) (Is:=Is) (D:=s2.heap.objs.size) rfl C.calm (C.q _ _ _).1 (C.u _ _ _ _).1 (C.T _ _ _ _ _) T' c1 C.ge c2 c5 c4 hda hDf J0
  (fun b hb=>stat b (List.mem_cons_of_mem _ hb)) (stat _ List.mem_cons_self) oD (ha0 led) st3 hc'
 have L2:=start_ok (C.q _ _ _).2 (C.u _ _ _ _).2 (fun it'=>(C.q it' _ _).1) (C.S _ _ _ _ _) ⟨_,by rw[hcl];rfl,rfl⟩ L (fun E=>T.self _ 0 _ _ E st3 ⟨rfl,rfl⟩)
 refine codeAny_mono L2 fun r s' h=>?_
 obtain⟨rfl,xs,o',H',J',e',is',n',hN⟩:=h
 exact fin s3 s' H2 H' _ _ xs o' _ I3 hex J' e' (hlt3 _ List.mem_cons_self) I2.sz fD (beq_eq_false_iff_ne.mpr (Nat.ne_of_gt I2.big)) is' n' hN.1 (hN.2 _ n')
end
section
variable {X:Cx} {e:Expr} {scope:Scope} {tg iter:Expr} {ifs:List Expr} {nx:Addr->Env->Sem Unit} {g:TG} {tc:TT} {α:Type} {Is:α->Obj->Prop} {rest:TL α} {own:List Nat} {wi:TI} {a0:α} {o0:Bool->Obj} {newAcc:Sem Value} {ho:Addr->α->HO} {ok:α->Hp->Prop}
theorem pe_compG (hnew:∀(s:Shared) (Q:Value->Shared->Prop),(∀led,Q (.ref s.heap.objs.size) { s with heap:=s.heap.push (o0 led) })->wpAny (model X.prog X.w) X.A newAcc Q X.xe s) (hfr:∀led,(o0 led).isFreed=false) (ha0:∀led,Is a0 (o0 led)) (hda:∀(a:α) (o:Obj),Is a o->∀v:Option Value,o.data≠.cell v)
  (hfin:∀(a:α) (o:Obj) (D:Addr) (H:Hp) (h:Heap),Is a o->h.get? D=some o->(D == sysModules)=false->H D=none->ok a H->HOk X.prog X.w H h->ObjOk X.prog X.w (upd H D (ho D a)) h D (ho D a)) (C:CompInG Is X e scope tg iter ifs nx g tc rest own) (hi:PI X tg iter wi) {pos:Pos} (he:eval e X.env=comprehension e scope X.env pos newAcc false (eval iter X.env)):PE X e (tCompG own wi g tc rest a0 ho ok):=by
 intro pins s σ H Q I hw
 rw[he]
 refine comp_allG hnew hfr ha0 hda C hi I hw fun s3 s' H0 H' ex D xs o σ' I3 hex J e' hlt h0 fD sy is' n' hok' hR=>?_
 obtain⟨m,hn,_⟩:=J.loc
 refine⟨m,hn,fun h' hs=>?_⟩
 have J2:=comp_end I3 hex J hs
 have neC:D≠s3.heap.objs.size:=Nat.ne_of_lt hlt
 refine⟨.ref D,upd H' D (ho D xs),J2.track (o:=ho D xs) ⟨n',fD.2⟩ h0 (hfin xs o D H' _ is' ((hs.2 D neC).trans e') sy n' hok' J2.hok),rfl,hR⟩
end
noncomputable def kO:Option Int->V
 |some i=>.int i
 |none=>.non
theorem kO_is {P:Program} {w:World} {k:Option Int} {u:Value} (r:RelV (kO k) u):(oKind P w).is k u=true/\u.scannable=true:=by
 cases k with
 |none=>cases r;exact⟨rfl,rfl⟩
 |some i=>
  obtain⟨t,rfl⟩:=r
  exact⟨by show Value.isInt i (.int i t)=true;simp[Value.isInt],rfl⟩
def IsS (a:(Option Int->Bool)×Nat) (o:Obj):Prop:=a.2<=4000/\(∃es ep t,o.data=.set es ep t)/\∃m,m<=a.2/\∀(P:Program) (w:World),o.SetObjOf (oKind P w) a.1 m
noncomputable def SetO (D:Addr) (S:Option Int->Bool) (n:Nat):HO:=.ext fun h=>∃o,h.get? D=some o/\IsS (S,n) o
section
variable {X:Cx}
theorem isS_at {s:Shared} {D:Addr} {a:(Option Int->Bool)×Nat} {o:Obj} (e:s.heap.get? D=some o) (i:IsS a o):∃m,m<=a.2/\s.heap.SetOf (oKind X.prog X.w) D a.1 m:=by
 obtain⟨hn,_,m,hm,h⟩:=i
 exact⟨m,hm,(h X.prog X.w).setOf e (Nat.lt_of_le_of_lt (Nat.le_trans hm hn) (by decide))⟩
noncomputable def rInO (neg:Bool):R2:=fun x y H Q=>∃k D S n,x=kO k/\y=.ref D/\H D=some (SetO D S n)/\Q (.bl (if neg then !(S k)else S k)) H
theorem op_inO:OpR X (compareOp .In) (rInO false):=by
 intro pins s σ H x y v u Q I rx ry h
 obtain⟨k,D,S,n,rfl,rfl,hD,q⟩:=h
 cases ry
 obtain⟨o,e,i⟩:=(show ObjOk X.prog X.w H s.heap D (SetO D S n) from I.hok D _ hD).1
 obtain⟨m,_,hS⟩:=isS_at (X:=X) e i
 exact wpAny_inSet_of (kO_is rx).1 (kO_is (P:=X.prog) (w:=X.w) rx).2 hS ⟨.bl (S k),H,I.tok _,rfl,q⟩
theorem op_notInO:OpR X (compareOp .NotIn) (rInO true):=by
 intro pins s σ H x y v u Q I rx ry h
 obtain⟨k,D,S,n,rfl,rfl,hD,q⟩:=h
 cases ry
 obtain⟨o,e,i⟩:=(show ObjOk X.prog X.w H s.heap D (SetO D S n) from I.hok D _ hD).1
 obtain⟨m,_,hS⟩:=isS_at (X:=X) e i
 exact wpAny_notInSet_of (kO_is rx).1 (kO_is (P:=X.prog) (w:=X.w) rx).2 hS ⟨.bl (!S k),H,I.tok _,rfl,q⟩
noncomputable def tEmitS (te:TE):TL ((Option Int->Bool)×Nat):=fun σ a H N=>te σ H fun v H'=>∃k,v=kO k/\a.2<4000/\N (fun j=>a.1 j || decide (j=k),a.2+1) H'
end
noncomputable abbrev NH:Int:=0xFCA86420
section
variable {prog:Program} {w:World} {A:Around} {E:Value->Shared->Prop} {s:Shared}
end
theorem pairs_mem {P:Program} {w:World} {k:Key}:∀{es:List DictEntry} {vs:List (Key×Value)} {en:DictEntry},Pairs (mixKind P w) es vs->en∈es->(mixKind P w).is k en.key=true->k∈vs.map (·.1)
 |_,_,_,.nil,h,_=>by cases h
 |_,_,en,.cons (e:=e) (kv:=kv) h1 h2 r,h,hk=>by
  rcases List.mem_cons.mp h with rfl|h
  .rw[(mixKind P w).inj _ _ _ hk h1]
   exact List.mem_cons_self
  .exact List.mem_cons_of_mem _ (pairs_mem r h hk)
theorem paired_mem_r {α β:Type} {F:α->β->Prop}:∀{xs:List α} {ys:List β} {y:β},Paired F xs ys->y∈ys->∃x∈xs,F x y
 |_,_,_,.nil,h=>by cases h
 |_,_,y,.cons h1 r,h=>by
  rcases List.mem_cons.mp h with rfl|h
  .exact⟨_,List.mem_cons_self,h1⟩
  .obtain⟨x,hx,hf⟩:=paired_mem_r r h
   exact⟨x,List.mem_cons_of_mem _ hx,hf⟩
def NoN (H:Hp) (a:Addr):Prop:=(∃kvs,H a=some (.dK kvs)/\∀kv∈kvs,∃i:Int,kv.1=.inl i/\hashInt i≠NH)\/
 ∃kvs,H a=some (.dT kvs)/\∀kv∈kvs,∃is:List Int,kv.1=is.map Key.inl/\reduceHash (Builtin.Tuple.tupleHashOf (is.map hashInt))≠NH
theorem NoN.at {X:Cx} {pins:List (Addr×Obj)} {σ:St} {H:Hp} {s:Shared} {a:Addr} (I:Inv X pins σ H s) (h:NoN H a):(a == sysModules)=false/\s.TypeIs (.ref a) "dict"/\∃o es ep,s.heap.get? a=some o/\o.data=.dict es ep/\∀e∈es.toList,e.hash≠NH:=by
 rcases h with⟨kvs,e,hk⟩|⟨kvs,e,hk⟩
 .obtain⟨z,hd,vs,rel,dd⟩:=dk_of I.hok e
  refine⟨hd,dd.typeIs,?_⟩
  obtain⟨o,es,ep,h1,_,h3,h4,h5,_⟩:=dd
  refine⟨o,es,ep,h1,h3,fun en hen=>?_⟩
  obtain⟨k,hk1,hk2⟩:=h4 en (Array.mem_toList_iff.mp hen)
  have hin:k∈kvs.map (·.1):=by
   rw[rel.keys]
   exact pairs_mem h5 hen hk1
  obtain⟨kv,hkv,rfl⟩:=List.mem_map.mp hin
  obtain⟨i,ei,hi⟩:=hk kv hkv
  rw[hk2,ei]
  exact hi
 .obtain⟨z,hd,xs,rel,dd⟩:=dt_of I.hok e
  refine⟨hd,dd.typeIs,?_⟩
  obtain⟨o,es,ep,h1,_,h3,h4,_⟩:=dd
  refine⟨o,es,ep,h1,h3,fun en hen=>?_⟩
  rw[h4]at hen
  obtain⟨x,hx,rfl⟩:=List.mem_map.mp hen
  obtain⟨kv,hkv,hp⟩:=paired_mem_r rel hx
  obtain⟨is,ei,hi⟩:=hk kv hkv
  show(tupleKind (mixKind X.prog X.w)).hash x.1≠NH
  rw[<- hp.1,ei]
  show reduceHash (Builtin.Tuple.tupleHashOf ((is.map Key.inl).map (mixKind X.prog X.w).hash))≠NH
  rw[List.map_map]
  exact hi
def IsDK (P:Program) (w:World) (kvs:List (Key×V)) (o:Obj):Prop:=kvs.length<=sizeLine/\∃vs es ep,KV kvs vs/\o.ExactDict/\o.data=.dict es ep/\KeysOf (mixKind P w) es/\Pairs (mixKind P w) es.toList vs/\(vs.map (·.1)).Nodup
theorem isDK_data {P:Program} {w:World} (a:List (Key×V)) (o:Obj) (h:IsDK P w a o) (v:Option Value):o.data≠.cell v:=by
 obtain⟨_,_,es,ep,_,_,hd,_⟩:=h
 rw[hd]
 exact fun z=>nomatch z
theorem new_dict {X:Cx} {A:Around} {E:Value->Shared->Prop} (s:Shared) (Q:Value->Shared->Prop) (h:∀_led:Bool,Q (.ref s.heap.objs.size) { s with heap:=s.heap.push { cls:=.type "dict",dict:=none,data:=.dict #[] } }):wpAny (model X.prog X.w) A newDict Q E s:=wpAny_newObj_type (h true)
theorem new_dictK {P:Program} {w:World} (_led:Bool):IsDK P w [] { cls:=.type "dict",dict:=none,data:=.dict #[] }:=
 ⟨Nat.zero_le _,[],#[],0,.nil,⟨rfl,rfl,rfl⟩,rfl,fun e he=>by simp at he,.nil,List.nodup_nil⟩
theorem dk_fin {P:Program} {w:World} (a:List (Key×V)) (o:Obj) (D:Addr) (H:Hp) (h:Heap) (i:IsDK P w a o) (e:h.get? D=some o) (sy:(D == sysModules)=false) (_:H D=none) (_:True) (_:HOk P w H h):ObjOk P w (upd H D (.dK a)) h D (.dK a):=by
 obtain⟨z,vs,es,ep,h1,h2,h3,h4,h5,h6⟩:=i
 exact⟨z,sy,vs,h1,o,es,ep,e,h2,h3,h4,h5,h6⟩
section
variable {X:Cx}
noncomputable def tEmitK (tk tv:TE):TL (List (Key×V)):=fun σ a H N=>tk σ H fun y H1=>tv σ H1 fun v H2=>∃k,y=kV k/\a.length<sizeLine/\N (putK a k v) H2
theorem run_emitK {D:Addr} {ke ve:Expr} {tk tv:TE} (hxe:X.xe=fun _ _=>False) (hk:PE X ke tk) (hv:PE X ve tv):CompRun X D (IsDK X.prog X.w) [] (do
   let kv <- eval ke X.env
   let vv <- holding [kv] (eval ve X.env)
   match Value.ref D with
   | .ref d=>do
    standAt { ke.pos with endLine:=ve.pos.endLine,endCol:=ve.pos.endCol }
    holding [kv,vv] (dictSet d kv vv)
   |_=>unsupported "internal:dictcomp") (tEmitK tk tv):=by
 intro pins s σ H a o N I hD ho hi hq
 have pinD:∀{s1:Shared} {pins1:List (Addr×Obj)} {H1:Hp},Inv X pins1 σ H1 s1->FpOk X pins1 H1 D->s1.heap.get? D=some o->Inv X (pins1++pinsAt [D] s1.heap) σ H1 s1:=fun J f e=>J.pinned (fun b hb=>by
  have z:b=D:=by simpa using hb
  subst z
  exact f) (fun b hb=>by
  have z:b=D:=by simpa using hb
  subst z
  exact⟨o,e,isDK_data _ _ hi⟩)
 have h1:=hk _ s σ H _ (pinD I hD ho) hq
 rw[hxe]at h1
 refine wpAny_bind (thn h1 fun u s1 ⟨y,H1,J1,r1,hq1⟩=>?_)
 have q1:=J1.pin (D,o) (List.mem_append_right _ (List.mem_append_right _ (mem_pinsAt (by simp) ho)))
 have h2:=hv _ s1 σ H1 _ J1 hq1
 rw[hxe]at h2
 refine wpAny_bind (wpAny_holding (thn h2 fun u2 s2 ⟨v,H2,J2,r2,k,ek,z2,n2⟩=>?_))
 subst ek
 have q2:=J2.pin (D,o) (List.mem_append_right _ (List.mem_append_right _ (mem_pinsAt (by simp) ho)))
 obtain⟨z,vs,es,ep,g1,g2,g3,g4,g5,g6⟩:=hi
 have dd:s2.heap.DictOf (mixKind X.prog X.w) D vs:=⟨o,es,ep,q2.1,g2,g3,g4,g5,g6⟩
 refine wpAny_bind (wpAny_standAt (wpAny_holding (wpAny_dictSet_pairs (hsz:=by rw[<- g1.length];exact z) (kV_is r1) dd fun h' dd' hs=>?_)))
 obtain⟨_,f1,f2,f3,f4,f5⟩:=hD
 obtain⟨o',es',ep',d1,d2,d3,d4,d5,d6⟩:=dd'
 have J3:Inv X pins σ H2 { s2 with heap:=h',toks:=s2.toks+1 }:=J2.unpinned.turned (it:=D) (t':=s2.toks+1) (fun b o hb e=>(hs.2 b hb).trans e) q2.2.1 f1 f3 f4 f5
 exact⟨σ,_,o',H2,J3,Ext.refl,d1,⟨Nat.le_trans (length_putK a k v) z2,_,es',ep',g1.put k r2,d2,d3,d4,d5,d6⟩,q2.2.1,n2⟩
end
noncomputable abbrev KTL:=List (List Key×Addr×V)
def okT (a:KTL) (H:Hp):Prop:=∀x∈a,H x.2.1=some (.tup (x.1.map kV))
noncomputable def plT (a:KTL):List (List Key×V):=a.map fun x=>(x.1,x.2.2)
section
variable {X:Cx}
noncomputable def tEmitT (tk tv:TE):TL KTL:=fun σ a H N=>tk σ H fun y H1=>tv σ H1 fun v H2=>∃(k:List Key) (b:Addr),y=.ref b/\H2 b=some (.tup (k.map kV))/\okT a H2/\(∀x∈a,x.1≠k)/\a.length<sizeLine/\N (a++[(k,b,v)]) H2
end
noncomputable def tInX (neg:Bool) (ty td:TE):TE:=fun σ H Q=>ty σ H fun y H1=>td σ H1 fun x H2=>(∃a o,x=.ref a/\DGet H2 a y o/\Q (.bl (if neg then !o.isSome else o.isSome)) H2)\/rInO neg y x H2 Q
section
variable {X:Cx} {o e f i:Expr} {apos cpos:Pos} {td ty tx:TE}
theorem pc_inX (hu:X.A.units+1<cLine) (hi:PE X i ty) (ho:PE X o td):PC X .In i o (tInX false ty td):=by
 intro pins s σ H Q I h
 refine thn (hi pins s σ H _ I h) fun iv s1 ⟨y,H1,I1,ry,q1⟩=>thn (ho pins s1 σ H1 _ I1 q1) fun u s2 ⟨x,H2,I2,rx,q2⟩=>?_
 rcases q2 with⟨a,ov,ex,g,q2⟩|q2
 .subst ex
  obtain rfl:u=Value.ref a:=rx
  exact d_in hu I2 g ry fun s3 I3=>⟨.bl ov.isSome,H2,I3,rfl,q2⟩
 .exact op_inO pins s2 σ H2 y x iv u Q I2 ry rx q2
theorem pc_notInX (hu:X.A.units+1<cLine) (hi:PE X i ty) (ho:PE X o td):PC X .NotIn i o (tInX true ty td):=by
 intro pins s σ H Q I h
 refine thn (hi pins s σ H _ I h) fun iv s1 ⟨y,H1,I1,ry,q1⟩=>thn (ho pins s1 σ H1 _ I1 q1) fun u s2 ⟨x,H2,I2,rx,q2⟩=>?_
 rcases q2 with⟨a,ov,ex,g,q2⟩|q2
 .subst ex
  obtain rfl:u=Value.ref a:=rx
  exact d_notIn hu I2 g ry fun s3 I3=>⟨.bl (!ov.isSome),H2,I3,rfl,q2⟩
 .exact op_notInO pins s2 σ H2 y x iv u Q I2 ry rx q2
end
noncomputable abbrev tDctK (own:List Nat) (wi:TI) (g:TG) (tc:TT) (tk tv:TE):TE:=tCompG own wi g tc (tEmitK tk tv) [] (fun _ a=>.dK a) fun _ _=>True
section
variable {X:Cx} {e:Expr} {scope:Scope} {tg iter:Expr} {ifs:List Expr} {nx:Addr->Env->Sem Unit} {g:TG} {tc:TT} {own:List Nat} {wi:TI}
end
noncomputable def iOf:Value->Int
 | .int i _=>i
 |_=>0
theorem ints_of:∀{vs:List Value},(∀v∈vs,∃i t,v=.int i t)->IntsAre vs (vs.map iOf)
 | [],_=>.nil
 |v :: vs,h=>by
  obtain⟨i,t,rfl⟩:=h v (by simp)
  exact .cons i t (ints_of fun v hv=>h v (by simp[hv]))
theorem vals_of_ints:∀{ns:List Int} {us:List Value},IntsAre us ns->Vals (ns.map V.int) us
 |_,_,.nil=>.nil
 |_,_,.cons y t r=>.cons ⟨t,rfl⟩ (vals_of_ints r)
theorem nd_le:∀{l b:List Int},l.Nodup->(∀i∈l,i∈b)->l.length<=b.length
 | [],_,_,_=>Nat.zero_le _
 |a :: l,b,h,hs=>by
  have ha:a∈b:=hs a (by simp)
  have:=nd_le (l:=l) (b:=b.erase a) (List.nodup_cons.mp h).2 fun i hi=>by
   have hne:i≠a:=fun e=>(List.nodup_cons.mp h).1 (by rw[<- e];exact hi)
   exact(List.mem_erase_of_ne hne).mpr (hs i (by simp[hi]))
  rw[List.length_erase_of_mem ha]at this
  have:=List.length_pos_of_mem ha
  rw[List.length_cons]
  omega
section
variable {prog:Program} {w:World} {A:Around} {E:Value->Shared->Prop} {s:Shared}
theorem sorted_setIt {D:Addr} {o:Obj} {S:Option Int->Bool} {n:Nat} {Q:Value->Shared->Prop} (hh:A.handled=none) (ho:s.heap.get? D=some o) (hS:o.SetIt (oKind prog w) S n) (hno:S none=false) (h64:∃b:List Int,b.length<64/\∀i,S (some i)=true->i∈b)
  (h:∀(s':Shared) (l:Addr) (us:List Int) (vs:Array Value) (e:Nat),(∀b o,s.heap.get? b=some o->s'.heap.get? b=some o)->s'.gens=s.gens->s'.os=s.os->s.heap.objs.size<=l->s'.heap.get? l=some (seqObj "list" vs e)->IntsAre vs.toList us->us.Pairwise (· < ·)->(∀i,i∈us↔S (some i)=true)->us.length=n->Q (.ref l) s'):
  wpAny (model prog w) A (call (.builtin "sorted") [.ref D]) Q E s:=by
 obtain⟨es,ep,t,hex,hd,hel,hmem,hb,hf,hn,hdst,htk⟩:=hS
 refine Calls.call_function_entry kind_sorted plain_sorted entry_sorted (args_sorted1 _) ?_
 unfold Builtin.«sorted»
 refine wpAny_bind (m:=checkCount "sorted" 1 1 _) (wpAny_pure (wpAny_bind (collect_setIt (A:=A.in1) hh ho hex hd hf htk (fits_of_scanBound hb) fun s1 xs k1 k2 k3 k4 k5 k6=>wpAny_bind (wpAny_newList ?_ (by rw[k6.length_eq,List.length_map,Array.length_toList];exact fits_of_scanBound hb)))))
 have hint:∀e∈es.toList,∃i t,e.2=.int i t/\S (some i)=true:=by
  intro e he
  obtain⟨⟨k,hk,_⟩,_⟩:=hel e he
  have hSk:=(hmem k).mpr ⟨e,he,hk⟩
  rcases okIs_shape hk with⟨i,t,rfl,q⟩|⟨rfl,_⟩
  .exact⟨i,t,q,hSk⟩
  .rw[hno]at hSk;cases hSk
 have hxi:∀v∈xs,∃i t,v=.int i t:=by
  intro v hv
  obtain⟨e,he,rfl⟩:=List.mem_map.mp (k6.mem_iff.mp hv)
  obtain⟨i,t,q,_⟩:=hint e he
  exact⟨i,t,q⟩
 have hI:=ints_of hxi
 have hln:xs.length=n:=by rw[k6.length_eq,List.length_map,Array.length_toList,hn]
 have hnd:(xs.map iOf).Nodup:=by
  have h1:(es.toList.map (·.2)).Pairwise fun a b=>iOf a≠iOf b:=by
   rw[List.pairwise_map]
   refine List.Pairwise.imp_of_mem (fun {a b} ha hb' z q=>?_) hdst
   obtain⟨i,t,e1,_⟩:=hint a ha
   obtain⟨j,u,e2,_⟩:=hint b hb'
   rw[e1,e2]at q
   have q':i=j:=q
   subst q'
   exact z (some i) (by rw[e1];show Value.isInt i (.int i t)=true;simp[Value.isInt]) (by rw[e2];show Value.isInt i (.int i u)=true;simp[Value.isInt])
  rw[List.Nodup,List.pairwise_map]
  exact(List.Perm.pairwise_iff (fun {a b} z=>Ne.symm z) k6).mpr h1
 have hxl:xs.length<64:=by
  obtain⟨b,hb1,hb2⟩:=h64
  have:=nd_le (b:=b) hnd fun i hi=>by
   obtain⟨v,hv,rfl⟩:=List.mem_map.mp hi
   obtain⟨e,he,rfl⟩:=List.mem_map.mp (k6.mem_iff.mp hv)
   obtain⟨i,t,q,z⟩:=hint e he
   rw[q]
   exact hb2 i z
  rw[List.length_map]at this
  omega
 have hoL:(s1.heap.push (seqObj "list" xs.toArray 0)).get? s1.heap.objs.size=some (seqObj "list" xs.toArray 0):=Heap.get?_push_size _ rfl
 refine wpAny_bind (wpAny_holding (wpAny_call_entry slot_list_sort ⟨_,hoL,rfl⟩ entry_list_sort (list_sort_tree hoL hI hxl fun out us a1 a2 a3=>⟨_,rfl,wpAny_pure ⟨_,rfl,?_⟩⟩) (args_list_sort _)))
 obtain⟨e',he'⟩:=sortedHeap_at (out:=out) hoL
 refine h _ s1.heap.objs.size us out e' (fun b o eb=>?_) k2 k3 k5 he' a1 ?_ (fun i=>?_) (by rw[a2.length_eq,List.length_map,hln])
 .have hlt:=Heap.lt_size (k1 b o eb)
  rw[sortedHeap_old (Nat.ne_of_lt hlt) (by rw[size_push'];exact Nat.lt_succ_of_lt hlt)]
  exact Heap.get?_push_of_some _ (k1 b o eb)
 .have hn2:us.Nodup:=a2.nodup_iff.mpr hnd
  exact(List.Pairwise.and a3 hn2).imp fun {a b} z=>by
   have:=z.1
   have:=z.2
   omega
 .rw[a2.mem_iff,List.mem_map]
  constructor
  .rintro⟨v,hv,rfl⟩
   obtain⟨e,he,rfl⟩:=List.mem_map.mp (k6.mem_iff.mp hv)
   obtain⟨i,t,q,z⟩:=hint e he
   rw[q]
   exact z
  .intro z
   obtain⟨e,he,hk⟩:=(hmem (some i)).mp z
   obtain⟨u,eu⟩:=Value.isInt_shape hk
   exact⟨e.2,k6.mem_iff.mpr (List.mem_map_of_mem he),by rw[eu];rfl⟩
end
section
variable {X:Cx}
theorem Inv.other {pins:List (Addr×Obj)} {σ:List (Option V)} {H:Hp} {s s':Shared} (I:Inv X pins σ H s) (h1:s'.heap=s.heap) (h2:s'.gens=s.gens) (h3:s'.os=s.os):Inv X pins σ H s':=by
 obtain⟨hp,g,d,t,os⟩:=s'
 cases h1;cases h2;cases h3
 exact⟨I.ok,I.os,I.bare,I.base,I.loc,I.cell,I.free,I.freeC,I.pin,I.hok,I.len⟩
theorem Inv.ints {pins:List (Addr×Obj)} {σ:List (Option V)} {H:Hp} {s s':Shared} {l:Addr} {us:List Int} {vs:Array Value} {e:Nat} (I:Inv X pins σ H s) (k1:∀b o,s.heap.get? b=some o->s'.heap.get? b=some o) (k2:s'.gens=s.gens) (k3:s'.os=s.os) (k4:s.heap.objs.size<=l) (k5:s'.heap.get? l=some (seqObj "list" vs e)) (k6:IntsAre vs.toList us) (k7:us.length<=sizeLine):
  Inv X pins σ (upd H l (.lst (us.map V.int))) s':=by
 have J:=I.laid (a:=l) (o:=.lst (us.map V.int)) (h':=s'.heap) (t':=s.toks) k1 k4 ⟨by rw[List.length_map];exact k7,vs.toList,e,vals_of_ints k6,by rw[k5]⟩
 exact J.other rfl k2 k3
noncomputable def tSst (K:W.Frag) (te:TE):TE:=fun σ H Q=>te σ H fun x H1=>∃(a:Addr) (ns:List Int),x=.ref a/\SqL K H1 a (ns.map V.int)/\ns.length<=3999/\(∃b:List Int,b.length<64/\∀i∈ns,i∈b)/\∀(l:Addr) (us:List Int),H1 l=none->us.Pairwise (· < ·)->(∀i:Int,i∈us↔i∈ns)->Q (.ref l) (upd H1 l (.lst (us.map V.int)))
theorem pe_sst {e:Expr} {te:TE} {p p2 pos pos2:Pos} (hc:X.calm=true) (hg1:Gl X "sorted") (hm1:X.mg "sorted"=none) (hg2:Gl X "set") (hm2:X.mg "set"=none) (he:PE X e te) (hs:starEach [e] X.env=[(false,eval e X.env)]):
  PE X (.Call (.Name "sorted" p) [.Call (.Name "set" p2) [e] [] pos2] [] pos) (tSst X.K te):=by
 intro pins s σ H Q I h
 refine wpAny_Call_Name_kw (ld_blt I hg1 hm1 (u:=.builtin "sorted") rfl ?_)
 refine PyProof.Rows.callWith_builtin1 ?_
 show wpAny _ _ (spliced [(false,eval (.Call (.Name "set" p2) [e] [] pos2) X.env)]) _ _ s
 refine Calls.spliced_cons ?_
 refine wpAny_Call_Name_kw (ld_blt I hg2 hm2 (u:=.type "set") rfl ?_)
 refine PyProof.Rows.callWith_type1 ?_ (by rw[hs];rfl) rfl
 rw[hs]
 show wpAny _ _ (spliced [(false,eval e X.env)]) _ _ s
 refine Calls.spliced_cons (thn (he pins s σ H _ I h) fun u s1 ⟨x,H1,I1,rx,a,ns,ex,hx,hl,hb,q⟩=>Calls.spliced_nil ?_)
 subst ex
 obtain rfl:u=Value.ref a:=rx
 obtain⟨its,r,pl,hz⟩:=I1.list hx
 have hI:=intsAre_of r
 have hlen:=r.length
 rw[List.length_map]at hlen
 refine call_setIt (knd:=oKind X.prog X.w) (its:=its.toArray) (fun i=>some (ns.getD i 0)) (I.ok.hd hc) pl.isList (fun i v hv=>?_) (by rw[List.size_toArray,<- hlen];exact Nat.lt_of_le_of_lt (Nat.succ_le_succ hl) (by decide)) fun h' tk hi' hk hsz=>Calls.spliced_nil ?_
 .obtain⟨t,rfl⟩:=IntsAre.int_at hI i v (by rw[<- hv];simp)
  exact⟨by show Value.isInt _ (.int _ t)=true;simp[Value.isInt],rfl⟩
 .obtain⟨o,m,ho,hm,hS⟩:=hi'
  rw[List.size_toArray,<- hlen]at hm hS
  refine sorted_setIt (s:={ s1 with heap:=h',toks:=tk }) (I.ok.hd hc) ho hS ?_ ?_ fun s' l us vs e' k1 k2 k3 k4 k5 k6 k7 k8 k9=>?_
  .unfold Vmem
   rw[List.any_eq_false]
   intro j _
   simp
  .obtain⟨b,hb1,hb2⟩:=hb
   refine⟨b,hb1,fun i z=>?_⟩
   unfold Vmem at z
   obtain⟨j,hj,z⟩:=List.any_eq_true.mp z
   rw[List.mem_range]at hj
   have z':i=ns.getD j 0:=by simpa using z
   refine hb2 i ?_
   rw[z',List.getD_eq_getElem?_getD,List.getElem?_eq_getElem hj]
   exact List.getElem_mem hj
  .have hle:s1.heap.objs.size<=l:=Nat.le_of_lt (Nat.lt_of_lt_of_le hsz k4)
   refine⟨.ref l,_,I1.ints (s':=s') (fun b o eb=>k1 b o (hk b o (Heap.lt_size eb) eb)) k2 k3 hle k5 k6 (by rw[k9];exact Nat.le_trans hm (Nat.le_trans hl (by decide))),rfl,q l us (I1.hok.fresh hle) k7 fun i=>?_⟩
   rw[k8]
   unfold Vmem
   rw[List.any_eq_true]
   constructor
   .rintro⟨j,hj,z⟩
    rw[List.mem_range]at hj
    have z':i=ns.getD j 0:=by simpa using z
    rw[z',List.getD_eq_getElem?_getD,List.getElem?_eq_getElem hj]
    exact List.getElem_mem hj
   .intro z
    obtain⟨j,hj,ej⟩:=List.mem_iff_getElem.mp z
    refine⟨j,List.mem_range.mpr hj,?_⟩
    show decide (some i=some (ns.getD j 0))=true
    rw[List.getD_eq_getElem?_getD,List.getElem?_eq_getElem hj]
    simp[ej]
variable {e:Expr} {scope:Scope} {tg iter:Expr} {ifs:List Expr} {nx:Addr->Env->Sem Unit} {g:TG} {tc:TT} {rest:TL ((Option Int->Bool)×Nat)} {own:List Nat} {wi:TI}
end
section
variable {prog:Program} {w:World} {A:Around} {E:Value->Shared->Prop} {s:Shared}
end
section
variable {X:Cx}
end
section
variable {prog:Program} {w:World} {A:Around} {E:Value->Shared->Prop} {s:Shared}
end
section
variable {X:Cx}
end
end L2
namespace R3
open PySem PySem.Spec PyProof.Rows L2
inductive Bf where
 |len|abs|int|str|isinstance|all|any|min|list|tuple|range|listD|listV|lenD
 deriving DecidableEq
inductive Mf where
 |append|join|values
 deriving DecidableEq
inductive Xf where
 |eqT|inR|notInR
 deriving DecidableEq
inductive Zf where
 |eqB|ninB
 deriving DecidableEq
inductive Yf where
 |strd|ltx
 deriving DecidableEq
mutual
inductive Ce where
 |var (i:Nat)|int (n:Int)|bl (b:Bool)|non|str (x:Str)|ty (n:String)
 |bin (op:Operator) (a b:Ce)
 |neg (a:Ce)
 |and (a b:Ce)|or (a b:Ce)
 |cmp (op:CmpOp) (a b:Ce)
 |tup (es:Ces)|lst (es:Ces)
 |idx (a b:Ce)
 |cut (a:Ce) (lo hi:Co)
 |call (f:Str) (es:Ces)
 |blt (f:Bf) (es:Ces)
 |met (m:Mf) (o:Ce) (es:Ces)
 |comp (elt:Ce) (own:List Nat) (t:Ct) (it:Ci) (q:Cqo) (r:Cc)
 |dnew|din (neg:Bool) (a b:Ce)|dg2 (a b c:Ce)|sst (a:Ce)
 |dcx (k v:Ce) (own:List Nat) (t:Ct) (it:Ci) (q:Cqo)
inductive Ces where
 |nil|cons (e:Ce) (r:Ces)
inductive Cq where
 |val (e:Ce)|and (a b:Cq)|or (a b:Cq)|cmp (op:CmpOp) (a b:Ce)|din (neg:Bool) (a b:Ce)
inductive Cqo where
 |none|some (q:Cq)
inductive Co where
 |none|some (e:Ce)
inductive Ci where
 |val (e:Ce)|range1 (a:Ce)|enum (a:Ce)|range3 (a b c:Ce)|rev (a:Ce)
inductive Ct where
 |name (i:Nat)|tup (ts:Cts)|sub (o i:Ce)
inductive Cts where
 |nil|cons (t:Ct) (r:Cts)
inductive Cc where
 |nil|cons (ws:List Nat) (t:Ct) (it:Ci) (q:Cqo) (r:Cc)
end
mutual
inductive Cs where
 |expr (e:Ce)|ret (e:Ce)|asg (t:Ct) (e:Ce)|par (i j:Nat) (a b:Ce)|aug (i:Nat) (sub:Bool) (e:Ce)
 |ite (q:Cq) (a b:Css)|whl (q:Cq) (b:Css)|for_ (t:Ct) (it:Ci) (b:Css)|brk|dput (o i e:Ce)
inductive Css where
 |nil|cons (s:Cs) (r:Css)
end
def CShl (i j:Int):Prop:=0<=j/\j<=1000000/\i.natAbs<2 ^ 100
def CDivW (_ j:Int):Prop:=0<j/\(j<1073741824\/j.natAbs.log2<9000)
def CMulW (i j:Int):Prop:=(-(2 ^ 64)<i/\i<2 ^ 64)\/(-(2 ^ 64)<j/\j<2 ^ 64)\/IntMulOk i j
section
variable (K:W.Frag)
noncomputable def rBin:Operator->R2
 | .Add=>fun x y H Q=>match x,y with
  | .int i,.int j=>Q (.int (i+j)) H
  | .str i,.str j=>i.length+j.length<=sizeLine/\Q (.str (i++j)) H
  |x,y=>rCat x y H Q\/rCatT K x y H Q\/rCatT0 K x y H Q
 | .Sub=>rI0 fun i j=>.int (i-j)
 | .Mult=>fun x y H Q=>match x,y with
  | .int i,.int j=>CMulW i j/\Q (.int (i*j)) H
  | .str a,.int n=>-1000000<=n/\n<=1000000/\a.length*n.toNat<=1000000/\Q (.str (Txt.mul a n)) H
  |x,y=>rRep x y H Q
 | .Mod=>rI (fun _ j=>0<j) fun i j=>.int (i % j)
 | .FloorDiv=>rI CDivW fun i j=>.int (i / j)
 | .Pow=>rI CPow fun i j=>.int (i ^ j.toNat)
 | .LShift=>rI CShl fun i j=>.int (i*2 ^ j.toNat)
 | .RShift=>rI (fun _ j=>0<=j) fun i j=>.int (i / 2 ^ j.toNat)
 | .BitAnd=>rI (fun i j=>0<=i/\j=1) fun i _=>.int (i % 2)
 |_=>fun _ _ _ _=>False
noncomputable def rCmp:CmpOp->R2
 | .Eq=>fun x y H Q=>match x,y with
  | .ref a,.ref b=>rEqL K false (.ref a) (.ref b) H Q\/rEqD false (.ref a) (.ref b) H Q
  |x,y=>rEq x y H Q
 | .NotEq=>fun x y H Q=>match x,y with
  | .ref a,.ref b=>rEqL K true (.ref a) (.ref b) H Q\/rEqD true (.ref a) (.ref b) H Q
  |x,y=>rNe x y H Q
 | .Lt=>rI0 fun i j=>.bl (decide (i<j))
 | .LtE=>rI0 fun i j=>.bl (decide (i<=j))
 | .Gt=>fun x y H Q=>match x with
  | .str a=>rGtS (.str a) y H Q
  |x=>rI0 (fun i j=>.bl (decide (j<i))) x y H Q
 | .GtE=>rI0 fun i j=>.bl (decide (j<=i))
 | .Is=>fun x y H Q=>match y with
  | .bl b=>rIsB false x (.bl b) H Q
  |y=>y=.non/\Q (.bl (decide (x=.non))) H
 | .IsNot=>fun x y H Q=>match y with
  | .bl b=>rIsB true x (.bl b) H Q
  |y=>y=.non/\Q (.bl (!decide (x=.non))) H
 | .In=>fun x y H Q=>match y with
  | .str b=>rInS false x (.str b) H Q
  |y=>rIn K false x y H Q
 | .NotIn=>fun x y H Q=>match y with
  | .str b=>rInS true x (.str b) H Q
  |y=>rIn K true x y H Q
noncomputable def rBlt:Bf->List V->Hp->VK->Prop
 | .len=>fun xs H Q=>∃x n,xs=[x]/\LenV K x H n/\Q (.int n) H
 | .abs=>fun xs H Q=>∃i,xs=[.int i]/\Q (.int (if i<0 then -i else i)) H
 | .int=>fun xs H Q=>match xs with
  | [.int i]=>Q (.int i) H
  | [.bl k]=>Q (.int (if k then 1 else 0)) H
  | [.str x]=>∃n,PySem.intText? x=some n/\x.length<=640/\Q (.int n) H
  | [.str x,.int j]=>j=2/\∃n,B2 x n/\Q (.int n) H
  |_=>False
 | .str=>fun xs H Q=>∃i,xs=[.int i]/\i.natAbs.log2<1920/\Q (.str (toString i)) H
 | .isinstance=>fun xs H Q=>rIsi xs H Q\/False
 | .all=>rAll K false
 | .any=>rAll K true
 | .min=>fun xs H Q=>match xs with
  | [.int i,.int j]=>Q (.int (if j<i then j else i)) H
  |xs=>rBest K false xs H Q
 | .list=>fun xs H Q=>(∃p ys,xs=[.ref p]/\(SqL K H p ys\/SqT K H p ys)/\∀l,H l=none->Q (.ref l) (upd H l (.lst ys)))\/rLrg xs H Q
 | .range=>rRng
 | .listD=>rListD
 | .listV=>rListV
 | .lenD=>rLenD
 | .tuple=>fun xs H Q=>∃p ys,xs=[.ref p]/\((SqL K H p ys/\∀l,H l=none->Q (.ref l) (upd H l (.tup ys)))\/(SqT K H p ys/\Q (.ref p) H))
noncomputable def rMet:Mf->V->List V->Hp->VK->Prop
 | .append=>rAppend
 | .join=>rJoin K
 | .values=>rValues
noncomputable def metTy:Mf->String
 | .join=>"str"
 | .values=>"dict"
 |_=>"list"
noncomputable def metName:Mf->Str
 | .append=>"append"
 | .join=>"join"
 | .values=>"values"
noncomputable def bltName:Bf->Str
 | .len=>"len"
 | .abs=>"abs"
 | .int=>"int"
 | .str=>"str"
 | .isinstance=>"isinstance"
 | .all=>"all"
 | .any=>"any"
 | .min=>"min"
 | .list=>"list"
 | .tuple=>"tuple"
 | .range=>"range"
 | .listD=>"list"
 | .listV=>"list"
 | .lenD=>"len"
noncomputable def rIxM:R2:=fun x y H Q=>match x,y with
 | .str z,.int i=>z.length<=sizeLine/\∃c,atI z.cps.toList i=some c/\Q (.str ⟨#[c]⟩) H
 |x,y=>rIxL K x y H Q\/rIxT K x y H Q
noncomputable def rSl:V->Option Int->Option Int->Hp->VK->Prop:=fun x lo hi H Q=>match x with
 | .str a=>a.length<=sizeLine/\Q (.str (Txt.slice a lo hi)) H
 |x=>rSlL K x lo hi H Q\/rSlT K x lo hi H Q\/rSlW K x lo hi H Q
end
noncomputable def rZf:Zf->R2
 | .eqB=>rEqB false
 | .ninB=>rNinB
structure Rc where
 N:List Str
 B:List Str
 K:W.Frag
 fs:Str->Option Sp
 xk:L2.St->XK:=fun _=>E0
 cl:Str->Option Addr:=fun _=>none
noncomputable def tDinB (neg:Bool) (ty td:TE):TE:=tInX neg ty td
noncomputable def lenTs:Cts->Nat
 | .nil=>0
 | .cons _ r=>lenTs r+1
mutual
noncomputable def tE (C:Rc):Ce->TE
 | .var i=>tVar i
 | .int n=>tC (.int n)
 | .bl b=>tC (.bl b)
 | .non=>tC .non
 | .str x=>tC (.str x)
 | .ty n=>tC (.ty n)
 | .bin op a b=>tOp (rBin C.K op) (tE C a) (tE C b)
 | .neg a=>tUn (rU fun i=>.int (-i)) (tE C a)
 | .and a b=>tAndV (tE C a) (tE C b)
 | .or a b=>tOrV (tE C a) (tE C b)
 | .cmp op a b=>tOp (rCmp C.K op) (tE C a) (tE C b)
 | .tup es=>tTup (tA C es)
 | .lst es=>tLst (tA C es)
 | .idx a b=>tOp (rIxM C.K) (tE C a) (tE C b)
 | .cut a lo hi=>tSl (rSl C.K) (tE C a) (tO C lo) (tO C hi)
 | .call f es=>fun σ H Q=>match C.fs f with
  |some sp=>tCall sp [] (C.xk σ) (tA C es) σ H Q
  |none=>False
 | .blt f es=>tCB (rBlt C.K f) (tA C es)
 | .met m o es=>tBM C.K (metTy m) (rMet C.K m) (tE C o) (tA C es)
 | .dnew=>tDNewK
 | .din neg a b=>tDinB neg (tE C a) (tE C b)
 | .dg2 a b c=>tDGet2 (tE C a) (tE C b) (tE C c)
 | .sst a=>tSst C.K (tE C a)
 | .dcx k v own t it q=>tDctK own (tI C it) (tG C t) (tQo C q) (tE C k) (tE C v)
 | .comp elt own t it q r=>tComp own (tI C it) (tG C t) (tQo C q) (tR C r (tEmit (tE C elt)))
noncomputable def tA (C:Rc):Ces->TA
 | .nil=>tNil
 | .cons e r=>tCons (tE C e) (tA C r)
noncomputable def tQ (C:Rc):Cq->TT
 | .val e=>fun σ H Q=>tE C e σ H fun x H'=>∃k,TruV C.K x H' k/\Q k H'
 | .and a b=>tAnd (tQ C a) (tQ C b)
 | .or a b=>tOr (tQ C a) (tQ C b)
 | .cmp op a b=>tTest (tOp (rCmp C.K op) (tE C a) (tE C b))
 | .din neg a b=>tTest (tDinB neg (tE C a) (tE C b))
noncomputable def tQo (C:Rc):Cqo->TT
 | .none=>fun _ H Q=>Q true H
 | .some q=>tQ C q
noncomputable def tO (C:Rc):Co->TO
 | .none=>tNoPart
 | .some e=>tPart (tE C e)
noncomputable def tI (C:Rc):Ci->TI
 | .val e=>iVal C.K (tE C e)
 | .range1 a=>iRng1 (tCons (tE C a) tNil)
 | .enum a=>iEnum C.K (tE C a)
 | .range3 a b c=>iRng3 (tCons (tE C a) (tCons (tE C b) (tCons (tE C c) tNil)))
 | .rev a=>iRev C.K (tE C a)
noncomputable def tG (C:Rc):Ct->TG
 | .name i=>gName i
 | .tup ts=>gTup C.K (lenTs ts) (tGs C ts)
 | .sub o i=>gSub (tE C o) (tE C i) rSetL
noncomputable def tGs (C:Rc):Cts->TGs
 | .nil=>gNil
 | .cons t r=>gCons (tG C t) (tGs C r)
noncomputable def tR (C:Rc):Cc->TL (List V)->TL (List V)
 | .nil,em=>em
 | .cons ws t it q r,em=>tNest (tI C it) (tClause ws (tG C t) (tQo C q) (tR C r em))
end
mutual
noncomputable def tS (C:Rc):Cs->TS
 | .expr e=>tDrop (tE C e)
 | .ret e=>tRet (tE C e)
 | .asg t e=>tAsg (tE C e) (tG C t)
 | .par i j a b=>tPar i j (tCons (tE C a) (tCons (tE C b) tNil))
 | .aug i sub e=>tAug i (tE C e) (ipI fun i j=>if sub then i-j else i+j)
 | .ite q a b=>tIfS (tQ C q) (tSs C a) (tSs C b)
 | .whl q b=>tWhile (tQ C q) (tSs C b)
 | .for_ t it b=>tFor (tI C it) (tG C t) (tSs C b)
 | .dput o i e=>sDPut (tE C o) (tE C i) (tE C e)
 | .brk=>tBreak
noncomputable def tSs (C:Rc):Css->TS
 | .nil=>tNext
 | .cons s r=>tSeq (tS C s) (tSs C r)
end
noncomputable def vis (sc:Scope) (x:Str):Bool:=match sc.names.lookup x with
 |some .local=>true
 |some .cell=>true
 |some .free=>true
 |_=>false
noncomputable def locb (sc:Scope) (x:Str):Bool:=match sc.names.lookup x with
 |some .local=>true
 |some .cell=>true
 |_=>false
noncomputable def glb (sc:Scope) (x:Str):Bool:=decide (sc.names.lookup x=some .globalImplicit)
noncomputable def nameOk (N:List Str) (i:Nat) (x:Str):Bool:=decide (N[i]?=some x)&&!(x == ("__debug__":Str))&&!(x == ("__classdict__":Str))
noncomputable def notStar:Expr->Bool
 | .Starred ..=>false
 |_=>true
noncomputable def okIter:Expr->Bool
 | .Set ..=>false
 |_=>true
noncomputable def notSlice:Expr->Bool
 | .Slice ..=>false
 |_=>true
noncomputable def baseOk:Expr->Bool
 | .Call _ [] _ _=>false
 |_=>true
noncomputable def plainT:Expr->Bool
 | .UnaryOp .Not _ _=>false
 | .BoolOp ..=>false
 | .IfExp ..=>false
 | .Compare ..=>false
 |_=>true
noncomputable def typeNames:List String:=["list","tuple","str","bool","int","dict","ValueError"]
noncomputable def scOk (N:List Str) (sc scope:Scope) (own:List Nat):Bool:=
 decide (scope.kind=.function)&&
 scope.names.all (fun x=>(decide (x.2≠.local) || decide (scope.names.lookup x.1=some .local))&&(decide (x.2≠.cell) || decide (scope.names.lookup x.1=some .cell))&&
  (decide (x.2≠.free) || decide (sc.names.lookup x.1=some .cell) || decide (sc.names.lookup x.1=some .free)))&&
 (List.range N.length).all (fun i=>match N[i]? with
  |some x=>(decide (scope.names.lookup x≠some .local)&&decide (scope.names.lookup x≠some .cell)) || decide (i∈own)
  |none=>true)
noncomputable def zipT:Ci->Expr->Bool
 | .enum _,.Tuple ..=>true
 | .enum _,_=>false
 |_,_=>true
mutual
noncomputable def tOwn (own:List Nat):Ct->Bool
 | .name i=>decide (i∈own)
 | .tup ts=>tOwns own ts
 | .sub _ _=>false
noncomputable def tOwns (own:List Nat):Cts->Bool
 | .nil=>true
 | .cons t r=>tOwn own t&&tOwns own r
end
noncomputable def tld (B:List Str):Bool:=decide (("~":Str)∈B)
noncomputable def hat (B:List Str):Bool:=decide (("^":Str)∈B)
noncomputable def pct (B:List Str):Bool:=decide (("%":Str)∈B)
noncomputable def bang (x:Str):Str:=⟨#[33]++x.cps⟩
theorem no_tt {P:Prop} (h:false=true):P:=(Bool.false_ne_true h).elim
theorem band {a b:Bool} (h:(a&&b)=true):a=true/\b=true:=by
 cases a with
 |true=>exact⟨rfl,h⟩
 |false=>exact no_tt h
noncomputable def vAnd (e:Expr) (f:Expr->Expr->Bool):Bool:=match e with
 | .BoolOp .And [x,y] _=>f x y
 | .BoolOp .And (x :: y :: z :: r) pos=>f x (.BoolOp .And (y :: z :: r) pos)
 |_=>false
theorem vAnd_of {e:Expr} {f:Expr->Expr->Bool} (h:vAnd e f=true):(∃x y pos,e=.BoolOp .And [x,y] pos/\f x y=true)\/∃x y z r pos,e=.BoolOp .And (x :: y :: z :: r) pos/\f x (.BoolOp .And (y :: z :: r) pos)=true:=by
 cases e with
 |BoolOp o vs pos=>
  cases o with
  |And=>
   cases vs with
   |nil=>exact no_tt h
   |cons x r=>
    cases r with
    |nil=>exact no_tt h
    |cons y r=>
     cases r with
     |nil=>exact .inl ⟨x,y,pos,rfl,h⟩
     |cons z r=>exact .inr ⟨x,y,z,r,pos,rfl,h⟩
  |_=>exact no_tt h
 |_=>exact no_tt h
noncomputable def vOr (e:Expr) (f:Expr->Expr->Bool):Bool:=match e with
 | .BoolOp .Or [x,y] _=>f x y
 | .BoolOp .Or (x :: y :: z :: r) pos=>f x (.BoolOp .Or (y :: z :: r) pos)
 |_=>false
theorem vOr_of {e:Expr} {f:Expr->Expr->Bool} (h:vOr e f=true):(∃x y pos,e=.BoolOp .Or [x,y] pos/\f x y=true)\/∃x y z r pos,e=.BoolOp .Or (x :: y :: z :: r) pos/\f x (.BoolOp .Or (y :: z :: r) pos)=true:=by
 cases e with
 |BoolOp o vs pos=>
  cases o with
  |Or=>
   cases vs with
   |nil=>exact no_tt h
   |cons x r=>
    cases r with
    |nil=>exact no_tt h
    |cons y r=>
     cases r with
     |nil=>exact .inl ⟨x,y,pos,rfl,h⟩
     |cons z r=>exact .inr ⟨x,y,z,r,pos,rfl,h⟩
  |_=>exact no_tt h
 |_=>exact no_tt h
noncomputable def w_nil {α:Type} (z:List α) (f:Bool):Bool:=match z with
 | []=>f
 |_=>false
theorem w_nil_of {α:Type} {z:List α} {f:Bool} (h:w_nil z f=true):z=[]/\f=true:=by
 cases z with
 |nil=>exact⟨rfl,h⟩
 |_=>exact no_tt h
noncomputable def w_cons {α:Type} (z:List α) (f:α->List α->Bool):Bool:=match z with
 |x :: r=>f x r
 |_=>false
theorem w_cons_of {α:Type} {z:List α} {f:α->List α->Bool} (h:w_cons z f=true):∃x r,z=x :: r/\f x r=true:=by
 cases z with
 |cons x r=>exact⟨x,r,rfl,h⟩
 |_=>exact no_tt h
noncomputable def w_none {α:Type} (z:Option α) (f:Bool):Bool:=match z with
 |none=>f
 |_=>false
theorem w_none_of {α:Type} {z:Option α} {f:Bool} (h:w_none z f=true):z=none/\f=true:=by
 cases z with
 |none=>exact⟨rfl,h⟩
 |_=>exact no_tt h
noncomputable def w_some {α:Type} (z:Option α) (f:α->Bool):Bool:=match z with
 |some x=>f x
 |_=>false
theorem w_some_of {α:Type} {z:Option α} {f:α->Bool} (h:w_some z f=true):∃x,z=some x/\f x=true:=by
 cases z with
 |some x=>exact⟨x,rfl,h⟩
 |_=>exact no_tt h
noncomputable def w_gen (z:Comprehension) (f:Expr->Expr->List Expr->Int->Bool):Bool:=f z.target z.iter z.ifs z.is_async
theorem w_gen_of {z:Comprehension} {f:Expr->Expr->List Expr->Int->Bool} (h:w_gen z f=true):∃a b c d,z=⟨a,b,c,d⟩/\f a b c d=true:=by
 cases z
 exact⟨_,_,_,_,rfl,h⟩
noncomputable def wE_Name (z:Expr) (f:Str->Pos->Bool):Bool:=match z with
 | .Name x0 x1=>f x0 x1
 |_=>false
theorem wE_Name_of {z f} (h:wE_Name z f=true):∃x0 x1,z=.Name x0 x1/\f x0 x1=true:=by
 cases z with
 |Name x0 x1=>exact⟨x0,x1,rfl,h⟩
 |_=>exact no_tt h
noncomputable def wE_Constant (z:Expr) (f:Const->Nat->Pos->Bool):Bool:=match z with
 | .Constant x0 x1 x2=>f x0 x1 x2
 |_=>false
theorem wE_Constant_of {z f} (h:wE_Constant z f=true):∃x0 x1 x2,z=.Constant x0 x1 x2/\f x0 x1 x2=true:=by
 cases z with
 |Constant x0 x1 x2=>exact⟨x0,x1,x2,rfl,h⟩
 |_=>exact no_tt h
noncomputable def wC_int (z:Const) (f:Int->Bool):Bool:=match z with
 | .int x0=>f x0
 |_=>false
theorem wC_int_of {z f} (h:wC_int z f=true):∃x0,z=.int x0/\f x0=true:=by
 cases z with
 |int x0=>exact⟨x0,rfl,h⟩
 |_=>exact no_tt h
noncomputable def wC_bool (z:Const) (f:Bool->Bool):Bool:=match z with
 | .bool x0=>f x0
 |_=>false
theorem wC_bool_of {z f} (h:wC_bool z f=true):∃x0,z=.bool x0/\f x0=true:=by
 cases z with
 |bool x0=>exact⟨x0,rfl,h⟩
 |_=>exact no_tt h
noncomputable def wC_none (z:Const) (f:Bool):Bool:=match z with
 | .none=>f
 |_=>false
theorem wC_none_of {z f} (h:wC_none z f=true):z=.none/\f=true:=by
 cases z with
 |none=>exact⟨rfl,h⟩
 |_=>exact no_tt h
noncomputable def wC_str (z:Const) (f:Str->Bool):Bool:=match z with
 | .str x0=>f x0
 |_=>false
theorem wC_str_of {z f} (h:wC_str z f=true):∃x0,z=.str x0/\f x0=true:=by
 cases z with
 |str x0=>exact⟨x0,rfl,h⟩
 |_=>exact no_tt h
noncomputable def wE_BinOp (z:Expr) (f:Expr->Operator->Expr->Pos->Bool):Bool:=match z with
 | .BinOp x0 x1 x2 x3=>f x0 x1 x2 x3
 |_=>false
theorem wE_BinOp_of {z f} (h:wE_BinOp z f=true):∃x0 x1 x2 x3,z=.BinOp x0 x1 x2 x3/\f x0 x1 x2 x3=true:=by
 cases z with
 |BinOp x0 x1 x2 x3=>exact⟨x0,x1,x2,x3,rfl,h⟩
 |_=>exact no_tt h
noncomputable def wE_UnaryOp (z:Expr) (f:UnaryOp->Expr->Pos->Bool):Bool:=match z with
 | .UnaryOp x0 x1 x2=>f x0 x1 x2
 |_=>false
theorem wE_UnaryOp_of {z f} (h:wE_UnaryOp z f=true):∃x0 x1 x2,z=.UnaryOp x0 x1 x2/\f x0 x1 x2=true:=by
 cases z with
 |UnaryOp x0 x1 x2=>exact⟨x0,x1,x2,rfl,h⟩
 |_=>exact no_tt h
noncomputable def wU_USub (z:UnaryOp) (f:Bool):Bool:=match z with
 | .USub=>f
 |_=>false
theorem wU_USub_of {z f} (h:wU_USub z f=true):z=.USub/\f=true:=by
 cases z with
 |USub=>exact⟨rfl,h⟩
 |_=>exact no_tt h
noncomputable def wE_Compare (z:Expr) (f:Expr->List CmpOp->List Expr->Pos->Bool):Bool:=match z with
 | .Compare x0 x1 x2 x3=>f x0 x1 x2 x3
 |_=>false
theorem wE_Compare_of {z f} (h:wE_Compare z f=true):∃x0 x1 x2 x3,z=.Compare x0 x1 x2 x3/\f x0 x1 x2 x3=true:=by
 cases z with
 |Compare x0 x1 x2 x3=>exact⟨x0,x1,x2,x3,rfl,h⟩
 |_=>exact no_tt h
noncomputable def wE_Tuple (z:Expr) (f:List Expr->Nat->Pos->Bool):Bool:=match z with
 | .Tuple x0 x1 x2=>f x0 x1 x2
 |_=>false
theorem wE_Tuple_of {z f} (h:wE_Tuple z f=true):∃x0 x1 x2,z=.Tuple x0 x1 x2/\f x0 x1 x2=true:=by
 cases z with
 |Tuple x0 x1 x2=>exact⟨x0,x1,x2,rfl,h⟩
 |_=>exact no_tt h
noncomputable def wE_List (z:Expr) (f:List Expr->Pos->Bool):Bool:=match z with
 | .List x0 x1=>f x0 x1
 |_=>false
theorem wE_List_of {z f} (h:wE_List z f=true):∃x0 x1,z=.List x0 x1/\f x0 x1=true:=by
 cases z with
 |List x0 x1=>exact⟨x0,x1,rfl,h⟩
 |_=>exact no_tt h
noncomputable def wE_Subscript (z:Expr) (f:Expr->Expr->Pos->Bool):Bool:=match z with
 | .Subscript x0 x1 x2=>f x0 x1 x2
 |_=>false
theorem wE_Subscript_of {z f} (h:wE_Subscript z f=true):∃x0 x1 x2,z=.Subscript x0 x1 x2/\f x0 x1 x2=true:=by
 cases z with
 |Subscript x0 x1 x2=>exact⟨x0,x1,x2,rfl,h⟩
 |_=>exact no_tt h
noncomputable def wE_Slice (z:Expr) (f:Option Expr->Option Expr->Option Expr->Pos->Bool):Bool:=match z with
 | .Slice x0 x1 x2 x3=>f x0 x1 x2 x3
 |_=>false
theorem wE_Slice_of {z f} (h:wE_Slice z f=true):∃x0 x1 x2 x3,z=.Slice x0 x1 x2 x3/\f x0 x1 x2 x3=true:=by
 cases z with
 |Slice x0 x1 x2 x3=>exact⟨x0,x1,x2,x3,rfl,h⟩
 |_=>exact no_tt h
noncomputable def wE_Call (z:Expr) (f:Expr->List Expr->List Keyword->Pos->Bool):Bool:=match z with
 | .Call x0 x1 x2 x3=>f x0 x1 x2 x3
 |_=>false
theorem wE_Call_of {z f} (h:wE_Call z f=true):∃x0 x1 x2 x3,z=.Call x0 x1 x2 x3/\f x0 x1 x2 x3=true:=by
 cases z with
 |Call x0 x1 x2 x3=>exact⟨x0,x1,x2,x3,rfl,h⟩
 |_=>exact no_tt h
noncomputable def wE_Attribute (z:Expr) (f:Expr->Str->Pos->Bool):Bool:=match z with
 | .Attribute x0 x1 x2=>f x0 x1 x2
 |_=>false
theorem wE_Attribute_of {z f} (h:wE_Attribute z f=true):∃x0 x1 x2,z=.Attribute x0 x1 x2/\f x0 x1 x2=true:=by
 cases z with
 |Attribute x0 x1 x2=>exact⟨x0,x1,x2,rfl,h⟩
 |_=>exact no_tt h
noncomputable def wE_Dict (z:Expr) (f:List (Option Expr)->List Expr->Pos->Bool):Bool:=match z with
 | .Dict x0 x1 x2=>f x0 x1 x2
 |_=>false
theorem wE_Dict_of {z f} (h:wE_Dict z f=true):∃x0 x1 x2,z=.Dict x0 x1 x2/\f x0 x1 x2=true:=by
 cases z with
 |Dict x0 x1 x2=>exact⟨x0,x1,x2,rfl,h⟩
 |_=>exact no_tt h
noncomputable def wE_DictComp (z:Expr) (f:Expr->Expr->List Comprehension->Scope->Pos->Bool):Bool:=match z with
 | .DictComp x0 x1 x2 x3 x4=>f x0 x1 x2 x3 x4
 |_=>false
theorem wE_DictComp_of {z f} (h:wE_DictComp z f=true):∃x0 x1 x2 x3 x4,z=.DictComp x0 x1 x2 x3 x4/\f x0 x1 x2 x3 x4=true:=by
 cases z with
 |DictComp x0 x1 x2 x3 x4=>exact⟨x0,x1,x2,x3,x4,rfl,h⟩
 |_=>exact no_tt h
noncomputable def wE_ListComp (z:Expr) (f:Expr->List Comprehension->Scope->Pos->Bool):Bool:=match z with
 | .ListComp x0 x1 x2 x3=>f x0 x1 x2 x3
 |_=>false
theorem wE_ListComp_of {z f} (h:wE_ListComp z f=true):∃x0 x1 x2 x3,z=.ListComp x0 x1 x2 x3/\f x0 x1 x2 x3=true:=by
 cases z with
 |ListComp x0 x1 x2 x3=>exact⟨x0,x1,x2,x3,rfl,h⟩
 |_=>exact no_tt h
noncomputable def wS_Expr (z:Stmt) (f:Expr->Pos->Bool):Bool:=match z with
 | .Expr x0 x1=>f x0 x1
 |_=>false
theorem wS_Expr_of {z f} (h:wS_Expr z f=true):∃x0 x1,z=.Expr x0 x1/\f x0 x1=true:=by
 cases z with
 |Expr x0 x1=>exact⟨x0,x1,rfl,h⟩
 |_=>exact no_tt h
noncomputable def wS_Return (z:Stmt) (f:Option Expr->Pos->Bool):Bool:=match z with
 | .Return x0 x1=>f x0 x1
 |_=>false
theorem wS_Return_of {z f} (h:wS_Return z f=true):∃x0 x1,z=.Return x0 x1/\f x0 x1=true:=by
 cases z with
 |Return x0 x1=>exact⟨x0,x1,rfl,h⟩
 |_=>exact no_tt h
noncomputable def wS_Assign (z:Stmt) (f:List Expr->Expr->Pos->Bool):Bool:=match z with
 | .Assign x0 x1 x2=>f x0 x1 x2
 |_=>false
theorem wS_Assign_of {z f} (h:wS_Assign z f=true):∃x0 x1 x2,z=.Assign x0 x1 x2/\f x0 x1 x2=true:=by
 cases z with
 |Assign x0 x1 x2=>exact⟨x0,x1,x2,rfl,h⟩
 |_=>exact no_tt h
noncomputable def wS_AugAssign (z:Stmt) (f:Expr->Operator->Expr->Pos->Bool):Bool:=match z with
 | .AugAssign x0 x1 x2 x3=>f x0 x1 x2 x3
 |_=>false
theorem wS_AugAssign_of {z f} (h:wS_AugAssign z f=true):∃x0 x1 x2 x3,z=.AugAssign x0 x1 x2 x3/\f x0 x1 x2 x3=true:=by
 cases z with
 |AugAssign x0 x1 x2 x3=>exact⟨x0,x1,x2,x3,rfl,h⟩
 |_=>exact no_tt h
noncomputable def wS_If (z:Stmt) (f:Expr->List Stmt->List Stmt->Pos->Bool):Bool:=match z with
 | .If x0 x1 x2 x3=>f x0 x1 x2 x3
 |_=>false
theorem wS_If_of {z f} (h:wS_If z f=true):∃x0 x1 x2 x3,z=.If x0 x1 x2 x3/\f x0 x1 x2 x3=true:=by
 cases z with
 |If x0 x1 x2 x3=>exact⟨x0,x1,x2,x3,rfl,h⟩
 |_=>exact no_tt h
noncomputable def wS_While (z:Stmt) (f:Expr->List Stmt->List Stmt->Pos->Bool):Bool:=match z with
 | .While x0 x1 x2 x3=>f x0 x1 x2 x3
 |_=>false
theorem wS_While_of {z f} (h:wS_While z f=true):∃x0 x1 x2 x3,z=.While x0 x1 x2 x3/\f x0 x1 x2 x3=true:=by
 cases z with
 |While x0 x1 x2 x3=>exact⟨x0,x1,x2,x3,rfl,h⟩
 |_=>exact no_tt h
noncomputable def wS_For (z:Stmt) (f:Expr->Expr->List Stmt->List Stmt->Pos->Bool):Bool:=match z with
 | .For x0 x1 x2 x3 x4=>f x0 x1 x2 x3 x4
 |_=>false
theorem wS_For_of {z f} (h:wS_For z f=true):∃x0 x1 x2 x3 x4,z=.For x0 x1 x2 x3 x4/\f x0 x1 x2 x3 x4=true:=by
 cases z with
 |For x0 x1 x2 x3 x4=>exact⟨x0,x1,x2,x3,x4,rfl,h⟩
 |_=>exact no_tt h
noncomputable def wS_Break (z:Stmt) (f:Pos->Bool):Bool:=match z with
 | .Break x0=>f x0
 |_=>false
theorem wS_Break_of {z f} (h:wS_Break z f=true):∃x0,z=.Break x0/\f x0=true:=by
 cases z with
 |Break x0=>exact⟨x0,rfl,h⟩
 |_=>exact no_tt h
noncomputable def v1 (zz:Expr) (f:Str->Bool):Bool:=wE_Name zz fun y1 y2=>f y1
theorem v1_k {zz f} {P:Prop} (h:v1 zz f=true) (k:∀x w1,zz=.Name x w1->f x=true->P):P:=by
 obtain⟨y1,y2,e0,h⟩:=wE_Name_of h
 exact k y1 y2 (by rw[e0]) h
noncomputable def v2 (zz:Expr) (f:Int->Bool):Bool:=wE_Constant zz fun y1 y2 y3=>wC_int y1 fun y4=>f y4
theorem v2_k {zz f} {P:Prop} (h:v2 zz f=true) (k:∀m w1 w2,zz=.Constant (.int m) w1 w2->f m=true->P):P:=by
 obtain⟨y1,y2,y3,e0,h⟩:=wE_Constant_of h
 obtain⟨y4,e1,h⟩:=wC_int_of h
 exact k y4 y2 y3 (by rw[e0,e1]) h
noncomputable def v3 (zz:Expr) (f:Bool->Bool):Bool:=wE_Constant zz fun y1 y2 y3=>wC_bool y1 fun y4=>f y4
theorem v3_k {zz f} {P:Prop} (h:v3 zz f=true) (k:∀c w1 w2,zz=.Constant (.bool c) w1 w2->f c=true->P):P:=by
 obtain⟨y1,y2,y3,e0,h⟩:=wE_Constant_of h
 obtain⟨y4,e1,h⟩:=wC_bool_of h
 exact k y4 y2 y3 (by rw[e0,e1]) h
noncomputable def v4 (zz:Expr) (f:Bool):Bool:=wE_Constant zz fun y1 y2 y3=>wC_none y1 (f)
theorem v4_k {zz f} {P:Prop} (h:v4 zz f=true) (k:∀w1 w2,zz=.Constant .none w1 w2->f=true->P):P:=by
 obtain⟨y1,y2,y3,e0,h⟩:=wE_Constant_of h
 obtain⟨e1,h⟩:=wC_none_of h
 exact k y2 y3 (by rw[e0,e1]) h
noncomputable def v5 (zz:Expr) (f:Str->Bool):Bool:=wE_Constant zz fun y1 y2 y3=>wC_str y1 fun y4=>f y4
theorem v5_k {zz f} {P:Prop} (h:v5 zz f=true) (k:∀y w1 w2,zz=.Constant (.str y) w1 w2->f y=true->P):P:=by
 obtain⟨y1,y2,y3,e0,h⟩:=wE_Constant_of h
 obtain⟨y4,e1,h⟩:=wC_str_of h
 exact k y4 y2 y3 (by rw[e0,e1]) h
noncomputable def v6 (zz:Expr) (f:Expr->Operator->Expr->Bool):Bool:=wE_BinOp zz fun y1 y2 y3 y4=>f y1 y2 y3
theorem v6_k {zz f} {P:Prop} (h:v6 zz f=true) (k:∀ea op' eb w1,zz=.BinOp ea op' eb w1->f ea op' eb=true->P):P:=by
 obtain⟨y1,y2,y3,y4,e0,h⟩:=wE_BinOp_of h
 exact k y1 y2 y3 y4 (by rw[e0]) h
noncomputable def v7 (zz:Expr) (f:Expr->Bool):Bool:=wE_UnaryOp zz fun y1 y2 y3=>wU_USub y1 (f y2)
theorem v7_k {zz f} {P:Prop} (h:v7 zz f=true) (k:∀ea w1,zz=.UnaryOp .USub ea w1->f ea=true->P):P:=by
 obtain⟨y1,y2,y3,e0,h⟩:=wE_UnaryOp_of h
 obtain⟨e1,h⟩:=wU_USub_of h
 exact k y2 y3 (by rw[e0,e1]) h
noncomputable def v9 (zz:Expr) (f:Expr->CmpOp->Expr->Bool):Bool:=wE_Compare zz fun y1 y2 y3 y4=>w_cons y2 fun y5 y6=>w_nil y6 (w_cons y3 fun y7 y8=>w_nil y8 (f y1 y5 y7))
theorem v9_k {zz f} {P:Prop} (h:v9 zz f=true) (k:∀ea op' eb w1,zz=.Compare ea (op' :: []) (eb :: []) w1->f ea op' eb=true->P):P:=by
 obtain⟨y1,y2,y3,y4,e0,h⟩:=wE_Compare_of h
 obtain⟨y5,y6,e1,h⟩:=w_cons_of h
 obtain⟨e2,h⟩:=w_nil_of h
 obtain⟨y7,y8,e3,h⟩:=w_cons_of h
 obtain⟨e4,h⟩:=w_nil_of h
 exact k y1 y5 y7 y4 (by rw[e0,e1,e2,e3,e4]) h
noncomputable def v12 (zz:Expr) (f:List Expr->Bool):Bool:=wE_Tuple zz fun y1 y2 y3=>f y1
theorem v12_k {zz f} {P:Prop} (h:v12 zz f=true) (k:∀xs w1 w2,zz=.Tuple xs w1 w2->f xs=true->P):P:=by
 obtain⟨y1,y2,y3,e0,h⟩:=wE_Tuple_of h
 exact k y1 y2 y3 (by rw[e0]) h
noncomputable def v13 (zz:Expr) (f:List Expr->Bool):Bool:=wE_List zz fun y1 y2=>f y1
theorem v13_k {zz f} {P:Prop} (h:v13 zz f=true) (k:∀xs w1,zz=.List xs w1->f xs=true->P):P:=by
 obtain⟨y1,y2,e0,h⟩:=wE_List_of h
 exact k y1 y2 (by rw[e0]) h
noncomputable def v14 (zz:Expr) (f:Expr->Expr->Bool):Bool:=wE_Subscript zz fun y1 y2 y3=>f y1 y2
theorem v14_k {zz f} {P:Prop} (h:v14 zz f=true) (k:∀ea eb w1,zz=.Subscript ea eb w1->f ea eb=true->P):P:=by
 obtain⟨y1,y2,y3,e0,h⟩:=wE_Subscript_of h
 exact k y1 y2 y3 (by rw[e0]) h
noncomputable def v15 (zz:Expr) (f:Expr->Option Expr->Option Expr->Bool):Bool:=wE_Subscript zz fun y1 y2 y3=>wE_Slice y2 fun y4 y5 y6 y7=>w_none y6 (f y1 y4 y5)
theorem v15_k {zz f} {P:Prop} (h:v15 zz f=true) (k:∀ea l h w1 w2,zz=.Subscript ea (.Slice l h none w1) w2->f ea l h=true->P):P:=by
 obtain⟨y1,y2,y3,e0,h⟩:=wE_Subscript_of h
 obtain⟨y4,y5,y6,y7,e1,h⟩:=wE_Slice_of h
 obtain⟨e2,h⟩:=w_none_of h
 exact k y1 y4 y5 y7 y3 (by rw[e0,e1,e2]) h
noncomputable def v16 (zz:Expr) (f:Str->Expr->List Expr->Bool):Bool:=wE_Call zz fun y1 y2 y3 y4=>wE_Name y1 fun y5 y6=>w_cons y2 fun y7 y8=>w_nil y3 (f y5 y7 y8)
theorem v16_k {zz f} {P:Prop} (h:v16 zz f=true) (k:∀x w1 e r w2,zz=.Call (.Name x w1) (e :: r) [] w2->f x e r=true->P):P:=by
 obtain⟨y1,y2,y3,y4,e0,h⟩:=wE_Call_of h
 obtain⟨y5,y6,e1,h⟩:=wE_Name_of h
 obtain⟨y7,y8,e2,h⟩:=w_cons_of h
 obtain⟨e3,h⟩:=w_nil_of h
 exact k y5 y6 y7 y8 y4 (by rw[e0,e1,e2,e3]) h
noncomputable def v17 (zz:Expr) (f:Expr->Str->Pos->List Expr->Pos->Bool):Bool:=wE_Call zz fun y1 y2 y3 y4=>wE_Attribute y1 fun y5 y6 y7=>w_nil y3 (f y5 y6 y7 y2 y4)
theorem v17_k {zz f} {P:Prop} (h:v17 zz f=true) (k:∀eo nm apos args pos,zz=.Call (.Attribute eo nm apos) args [] pos->f eo nm apos args pos=true->P):P:=by
 obtain⟨y1,y2,y3,y4,e0,h⟩:=wE_Call_of h
 obtain⟨y5,y6,y7,e1,h⟩:=wE_Attribute_of h
 obtain⟨e2,h⟩:=w_nil_of h
 exact k y5 y6 y7 y2 y4 (by rw[e0,e1,e2]) h
noncomputable def v18 (zz:Expr) (f:Bool):Bool:=wE_Dict zz fun y1 y2 y3=>w_nil y1 (w_nil y2 (f))
theorem v18_k {zz f} {P:Prop} (h:v18 zz f=true) (k:∀w1,zz=.Dict [] [] w1->f=true->P):P:=by
 obtain⟨y1,y2,y3,e0,h⟩:=wE_Dict_of h
 obtain⟨e1,h⟩:=w_nil_of h
 obtain⟨e2,h⟩:=w_nil_of h
 exact k y3 (by rw[e0,e1,e2]) h
noncomputable def v21 (zz:Expr) (f:Expr->Str->Pos->Expr->Expr->Pos->Bool):Bool:=wE_Call zz fun y1 y2 y3 y4=>wE_Attribute y1 fun y5 y6 y7=>w_cons y2 fun y8 y9=>w_cons y9 fun y10 y11=>w_nil y11 (w_nil y3 (f y5 y6 y7 y8 y10 y4))
theorem v21_k {zz f} {P:Prop} (h:v21 zz f=true) (k:∀eo nm apos y z pos,zz=.Call (.Attribute eo nm apos) (y :: (z :: [])) [] pos->f eo nm apos y z pos=true->P):P:=by
 obtain⟨y1,y2,y3,y4,e0,h⟩:=wE_Call_of h
 obtain⟨y5,y6,y7,e1,h⟩:=wE_Attribute_of h
 obtain⟨y8,y9,e2,h⟩:=w_cons_of h
 obtain⟨y10,y11,e3,h⟩:=w_cons_of h
 obtain⟨e4,h⟩:=w_nil_of h
 obtain⟨e5,h⟩:=w_nil_of h
 exact k y5 y6 y7 y8 y10 y4 (by rw[e0,e1,e2,e3,e4,e5]) h
noncomputable def v22 (zz:Expr) (f:Str->Str->Expr->Bool):Bool:=wE_Call zz fun y1 y2 y3 y4=>wE_Name y1 fun y5 y6=>w_cons y2 fun y7 y8=>wE_Call y7 fun y9 y10 y11 y12=>wE_Name y9 fun y13 y14=>w_cons y10 fun y15 y16=>w_nil y16 (w_nil y11 (w_nil y8 (w_nil y3 (f y5 y13 y15))))
theorem v22_k {zz f} {P:Prop} (h:v22 zz f=true) (k:∀n1 w1 n2 w2 y w3 w4,zz=.Call (.Name n1 w1) ((.Call (.Name n2 w2) (y :: []) [] w3) :: []) [] w4->f n1 n2 y=true->P):P:=by
 obtain⟨y1,y2,y3,y4,e0,h⟩:=wE_Call_of h
 obtain⟨y5,y6,e1,h⟩:=wE_Name_of h
 obtain⟨y7,y8,e2,h⟩:=w_cons_of h
 obtain⟨y9,y10,y11,y12,e3,h⟩:=wE_Call_of h
 obtain⟨y13,y14,e4,h⟩:=wE_Name_of h
 obtain⟨y15,y16,e5,h⟩:=w_cons_of h
 obtain⟨e6,h⟩:=w_nil_of h
 obtain⟨e7,h⟩:=w_nil_of h
 obtain⟨e8,h⟩:=w_nil_of h
 obtain⟨e9,h⟩:=w_nil_of h
 exact k y5 y6 y13 y14 y15 y12 y4 (by rw[e0,e1,e2,e3,e4,e5,e6,e7,e8,e9]) h
noncomputable def v23 (zz:Expr) (f:Str->Expr->Bool):Bool:=wE_Call zz fun y1 y2 y3 y4=>wE_Name y1 fun y5 y6=>w_cons y2 fun y7 y8=>w_nil y8 (w_nil y3 (f y5 y7))
theorem v23_k {zz f} {P:Prop} (h:v23 zz f=true) (k:∀x w1 y w2,zz=.Call (.Name x w1) (y :: []) [] w2->f x y=true->P):P:=by
 obtain⟨y1,y2,y3,y4,e0,h⟩:=wE_Call_of h
 obtain⟨y5,y6,e1,h⟩:=wE_Name_of h
 obtain⟨y7,y8,e2,h⟩:=w_cons_of h
 obtain⟨e3,h⟩:=w_nil_of h
 obtain⟨e4,h⟩:=w_nil_of h
 exact k y5 y6 y7 y4 (by rw[e0,e1,e2,e3,e4]) h
noncomputable def v25 (zz:Expr) (f:Expr->Expr->Expr->Expr->List Expr->Int->Scope->Bool):Bool:=wE_DictComp zz fun y1 y2 y3 y4 y5=>w_cons y3 fun y6 y7=>w_gen y6 fun y8 y9 y10 y11=>w_nil y7 (f y1 y2 y8 y9 y10 y11 y4)
theorem v25_k {zz f} {P:Prop} (h:v25 zz f=true) (k:∀ke ve tg iter ifs a scope w1,zz=.DictComp ke ve (⟨tg,iter,ifs,a⟩ :: []) scope w1->f ke ve tg iter ifs a scope=true->P):P:=by
 obtain⟨y1,y2,y3,y4,y5,e0,h⟩:=wE_DictComp_of h
 obtain⟨y6,y7,e1,h⟩:=w_cons_of h
 obtain⟨y8,y9,y10,y11,e2,h⟩:=w_gen_of h
 obtain⟨e3,h⟩:=w_nil_of h
 exact k y1 y2 y8 y9 y10 y11 y4 y5 (by rw[e0,e1,e2,e3]) h
noncomputable def v26 (zz:Expr) (f:Expr->Expr->Expr->List Expr->Int->Scope->Bool):Bool:=wE_ListComp zz fun y1 y2 y3 y4=>w_cons y2 fun y5 y6=>w_gen y5 fun y7 y8 y9 y10=>w_nil y6 (f y1 y7 y8 y9 y10 y3)
theorem v26_k {zz f} {P:Prop} (h:v26 zz f=true) (k:∀ee tg iter ifs a scope w1,zz=.ListComp ee (⟨tg,iter,ifs,a⟩ :: []) scope w1->f ee tg iter ifs a scope=true->P):P:=by
 obtain⟨y1,y2,y3,y4,e0,h⟩:=wE_ListComp_of h
 obtain⟨y5,y6,e1,h⟩:=w_cons_of h
 obtain⟨y7,y8,y9,y10,e2,h⟩:=w_gen_of h
 obtain⟨e3,h⟩:=w_nil_of h
 exact k y1 y7 y8 y9 y10 y3 y4 (by rw[e0,e1,e2,e3]) h
noncomputable def v29 (zz:List Expr) (f:Bool):Bool:=w_nil zz (f)
theorem v29_k {zz f} {P:Prop} (h:v29 zz f=true) (k:zz=[]->f=true->P):P:=by
 obtain⟨e0,h⟩:=w_nil_of h
 exact k (by rw[e0]) h
noncomputable def v30 (zz:List Expr) (f:Expr->List Expr->Bool):Bool:=w_cons zz fun y1 y2=>f y1 y2
theorem v30_k {zz f} {P:Prop} (h:v30 zz f=true) (k:∀x xs,zz=(x :: xs)->f x xs=true->P):P:=by
 obtain⟨y1,y2,e0,h⟩:=w_cons_of h
 exact k y1 y2 (by rw[e0]) h
noncomputable def v31 (zz:List Expr) (f:Expr->Bool):Bool:=w_cons zz fun y1 y2=>w_nil y2 (f y1)
theorem v31_k {zz f} {P:Prop} (h:v31 zz f=true) (k:∀e,zz=(e :: [])->f e=true->P):P:=by
 obtain⟨y1,y2,e0,h⟩:=w_cons_of h
 obtain⟨e1,h⟩:=w_nil_of h
 exact k y1 (by rw[e0,e1]) h
noncomputable def v32 (zz:Option Expr) (f:Bool):Bool:=w_none zz (f)
theorem v32_k {zz f} {P:Prop} (h:v32 zz f=true) (k:zz=none->f=true->P):P:=by
 obtain⟨e0,h⟩:=w_none_of h
 exact k (by rw[e0]) h
noncomputable def v33 (zz:Option Expr) (f:Expr->Bool):Bool:=w_some zz fun y1=>f y1
theorem v33_k {zz f} {P:Prop} (h:v33 zz f=true) (k:∀y,zz=(some y)->f y=true->P):P:=by
 obtain⟨y1,e0,h⟩:=w_some_of h
 exact k y1 (by rw[e0]) h
noncomputable def v35 (zz:Expr) (f:Str->Expr->Expr->Expr->Bool):Bool:=wE_Call zz fun y1 y2 y3 y4=>wE_Name y1 fun y5 y6=>w_cons y2 fun y7 y8=>w_cons y8 fun y9 y10=>w_cons y10 fun y11 y12=>w_nil y12 (w_nil y3 (f y5 y7 y9 y11))
theorem v35_k {zz f} {P:Prop} (h:v35 zz f=true) (k:∀n w1 y z u w2,zz=.Call (.Name n w1) (y :: (z :: (u :: []))) [] w2->f n y z u=true->P):P:=by
 obtain⟨y1,y2,y3,y4,e0,h⟩:=wE_Call_of h
 obtain⟨y5,y6,e1,h⟩:=wE_Name_of h
 obtain⟨y7,y8,e2,h⟩:=w_cons_of h
 obtain⟨y9,y10,e3,h⟩:=w_cons_of h
 obtain⟨y11,y12,e4,h⟩:=w_cons_of h
 obtain⟨e5,h⟩:=w_nil_of h
 obtain⟨e6,h⟩:=w_nil_of h
 exact k y5 y6 y7 y9 y11 y4 (by rw[e0,e1,e2,e3,e4,e5,e6]) h
noncomputable def v36 (zz:Stmt) (f:Expr->Bool):Bool:=wS_Expr zz fun y1 y2=>f y1
theorem v36_k {zz f} {P:Prop} (h:v36 zz f=true) (k:∀x w1,zz=.Expr x w1->f x=true->P):P:=by
 obtain⟨y1,y2,e0,h⟩:=wS_Expr_of h
 exact k y1 y2 (by rw[e0]) h
noncomputable def v37 (zz:Stmt) (f:Expr->Bool):Bool:=wS_Return zz fun y1 y2=>w_some y1 fun y3=>f y3
theorem v37_k {zz f} {P:Prop} (h:v37 zz f=true) (k:∀x w1,zz=.Return (some x) w1->f x=true->P):P:=by
 obtain⟨y1,y2,e0,h⟩:=wS_Return_of h
 obtain⟨y3,e1,h⟩:=w_some_of h
 exact k y3 y2 (by rw[e0,e1]) h
noncomputable def v39 (zz:Stmt) (f:Expr->Expr->Bool):Bool:=wS_Assign zz fun y1 y2 y3=>w_cons y1 fun y4 y5=>w_nil y5 (f y4 y2)
theorem v39_k {zz f} {P:Prop} (h:v39 zz f=true) (k:∀tg x w1,zz=.Assign (tg :: []) x w1->f tg x=true->P):P:=by
 obtain⟨y1,y2,y3,e0,h⟩:=wS_Assign_of h
 obtain⟨y4,y5,e1,h⟩:=w_cons_of h
 obtain⟨e2,h⟩:=w_nil_of h
 exact k y4 y2 y3 (by rw[e0,e1,e2]) h
noncomputable def v43 (zz:Stmt) (f:Str->Pos->Str->Pos->Expr->Expr->Bool):Bool:=wS_Assign zz fun y1 y2 y3=>w_cons y1 fun y4 y5=>wE_Tuple y4 fun y6 y7 y8=>w_cons y6 fun y9 y10=>wE_Name y9 fun y11 y12=>w_cons y10 fun y13 y14=>wE_Name y13 fun y15 y16=>w_nil y14 (w_nil y5 (wE_Tuple y2 fun y17 y18 y19=>w_cons y17 fun y20 y21=>w_cons y21 fun y22 y23=>w_nil y23 (f y11 y12 y15 y16 y20 y22)))
theorem v43_k {zz f} {P:Prop} (h:v43 zz f=true) (k:∀x px y py w1 w2 ea eb w3 w4 w5,zz=.Assign ((.Tuple ((.Name x px) :: ((.Name y py) :: [])) w1 w2) :: []) (.Tuple (ea :: (eb :: [])) w3 w4) w5->f x px y py ea eb=true->P):P:=by
 obtain⟨y1,y2,y3,e0,h⟩:=wS_Assign_of h
 obtain⟨y4,y5,e1,h⟩:=w_cons_of h
 obtain⟨y6,y7,y8,e2,h⟩:=wE_Tuple_of h
 obtain⟨y9,y10,e3,h⟩:=w_cons_of h
 obtain⟨y11,y12,e4,h⟩:=wE_Name_of h
 obtain⟨y13,y14,e5,h⟩:=w_cons_of h
 obtain⟨y15,y16,e6,h⟩:=wE_Name_of h
 obtain⟨e7,h⟩:=w_nil_of h
 obtain⟨e8,h⟩:=w_nil_of h
 obtain⟨y17,y18,y19,e9,h⟩:=wE_Tuple_of h
 obtain⟨y20,y21,e10,h⟩:=w_cons_of h
 obtain⟨y22,y23,e11,h⟩:=w_cons_of h
 obtain⟨e12,h⟩:=w_nil_of h
 exact k y11 y12 y15 y16 y7 y8 y20 y22 y18 y19 y3 (by rw[e0,e1,e2,e3,e4,e5,e6,e7,e8,e9,e10,e11,e12]) h
noncomputable def v48 (zz:Stmt) (f:Expr->Expr->Expr->Bool):Bool:=wS_Assign zz fun y1 y2 y3=>w_cons y1 fun y4 y5=>wE_Subscript y4 fun y6 y7 y8=>w_nil y5 (f y6 y7 y2)
theorem v48_k {zz f} {P:Prop} (h:v48 zz f=true) (k:∀eo ei w1 ee w2,zz=.Assign ((.Subscript eo ei w1) :: []) ee w2->f eo ei ee=true->P):P:=by
 obtain⟨y1,y2,y3,e0,h⟩:=wS_Assign_of h
 obtain⟨y4,y5,e1,h⟩:=w_cons_of h
 obtain⟨y6,y7,y8,e2,h⟩:=wE_Subscript_of h
 obtain⟨e3,h⟩:=w_nil_of h
 exact k y6 y7 y8 y2 y3 (by rw[e0,e1,e2,e3]) h
noncomputable def v49 (zz:Stmt) (f:Str->Operator->Expr->Bool):Bool:=wS_AugAssign zz fun y1 y2 y3 y4=>wE_Name y1 fun y5 y6=>f y5 y2 y3
theorem v49_k {zz f} {P:Prop} (h:v49 zz f=true) (k:∀x w1 op ee w2,zz=.AugAssign (.Name x w1) op ee w2->f x op ee=true->P):P:=by
 obtain⟨y1,y2,y3,y4,e0,h⟩:=wS_AugAssign_of h
 obtain⟨y5,y6,e1,h⟩:=wE_Name_of h
 exact k y5 y6 y2 y3 y4 (by rw[e0,e1]) h
noncomputable def v50 (zz:Stmt) (f:Expr->List Stmt->List Stmt->Bool):Bool:=wS_If zz fun y1 y2 y3 y4=>f y1 y2 y3
theorem v50_k {zz f} {P:Prop} (h:v50 zz f=true) (k:∀x ss rs w1,zz=.If x ss rs w1->f x ss rs=true->P):P:=by
 obtain⟨y1,y2,y3,y4,e0,h⟩:=wS_If_of h
 exact k y1 y2 y3 y4 (by rw[e0]) h
noncomputable def v51 (zz:Stmt) (f:Expr->List Stmt->Bool):Bool:=wS_While zz fun y1 y2 y3 y4=>w_nil y3 (f y1 y2)
theorem v51_k {zz f} {P:Prop} (h:v51 zz f=true) (k:∀x ss w1,zz=.While x ss [] w1->f x ss=true->P):P:=by
 obtain⟨y1,y2,y3,y4,e0,h⟩:=wS_While_of h
 obtain⟨e1,h⟩:=w_nil_of h
 exact k y1 y2 y4 (by rw[e0,e1]) h
noncomputable def v52 (zz:Stmt) (f:Expr->Expr->List Stmt->Bool):Bool:=wS_For zz fun y1 y2 y3 y4 y5=>w_nil y4 (f y1 y2 y3)
theorem v52_k {zz f} {P:Prop} (h:v52 zz f=true) (k:∀tg iter ss w1,zz=.For tg iter ss [] w1->f tg iter ss=true->P):P:=by
 obtain⟨y1,y2,y3,y4,y5,e0,h⟩:=wS_For_of h
 obtain⟨e1,h⟩:=w_nil_of h
 exact k y1 y2 y3 y5 (by rw[e0,e1]) h
noncomputable def v53 (zz:Stmt) (f:Bool):Bool:=wS_Break zz fun y1=>f
theorem v53_k {zz f} {P:Prop} (h:v53 zz f=true) (k:∀w1,zz=.Break w1->f=true->P):P:=by
 obtain⟨y1,e0,h⟩:=wS_Break_of h
 exact k y1 (by rw[e0]) h
noncomputable def v56 (zz:List Stmt) (f:Bool):Bool:=w_nil zz (f)
theorem v56_k {zz f} {P:Prop} (h:v56 zz f=true) (k:zz=[]->f=true->P):P:=by
 obtain⟨e0,h⟩:=w_nil_of h
 exact k (by rw[e0]) h
noncomputable def v57 (zz:List Stmt) (f:Stmt->List Stmt->Bool):Bool:=w_cons zz fun y1 y2=>f y1 y2
theorem v57_k {zz f} {P:Prop} (h:v57 zz f=true) (k:∀x xs,zz=(x :: xs)->f x xs=true->P):P:=by
 obtain⟨y1,y2,e0,h⟩:=w_cons_of h
 exact k y1 y2 (by rw[e0]) h
mutual
noncomputable def mE (N B:List Str) (sc:Scope):Ce->Expr->Bool
 | .var i,e=>v1 e fun x=>nameOk N i x&&vis sc x
 | .int n,e=>v2 e fun m=>decide (n=m)
 | .bl b,e=>v3 e fun c=>decide (b=c)
 | .non,e=>v4 e (true)
 | .str x,e=>v5 e fun y=>decide (x=y)
 | .ty n,e=>v1 e fun x=>decide (x=Str.ofString n)&&glb sc x&&typeNames.contains n&&decide (x∈B)
 | .bin op a b,e=>v6 e fun ea op' eb=>decide (op=op')&&mE N B sc a ea&&mE N B sc b eb
 | .neg a,e=>v7 e fun ea=>mE N B sc a ea
 | .and a b,e=>vAnd e fun x y=>mE N B sc a x&&mE N B sc b y
 | .or a b,e=>vOr e fun x y=>mE N B sc a x&&mE N B sc b y
 | .cmp op a b,e=>v9 e fun ea op' eb=>decide (op=op')&&mE N B sc a ea&&mE N B sc b eb&&okIter eb
 | .tup es,e=>v12 e fun xs=>mA N B sc es xs
 | .lst es,e=>v13 e fun xs=>mA N B sc es xs
 | .idx a b,e=>v14 e fun ea eb=>mE N B sc a ea&&mE N B sc b eb&&notSlice eb
 | .cut a lo hi,e=>v15 e fun ea l h=>mE N B sc a ea&&mO N B sc lo l&&mO N B sc hi h
 | .call f es,e=>v16 e fun x e r=>decide (x=f)&&glb sc x&&mA N B sc es (e :: r)&&!(x == ("__debug__":Str))&&!(hat B)&&!(tld B&&decide (bang x∈B))
 | .blt f es,e=>v16 e fun x e r=>decide (x=bltName f)&&glb sc x&&mA N B sc es (e :: r)&&decide (x∈B)&&(!(hat B) || decide (f=.isinstance))
 | .met m o es,e=>v17 e fun eo nm apos args pos=>decide (nm=metName m)&&mE N B sc o eo&&baseOk eo&&(apos.endLine == pos.line)&&mA N B sc es args&&decide (args.length<28)
 | .dnew,e=>v18 e (true)
 | .din neg a b,e=>v9 e fun ea op' eb=>decide (op'=if neg then .NotIn else .In)&&mE N B sc a ea&&mE N B sc b eb&&okIter eb
 | .dg2 a b c,e=>v21 e fun eo nm apos y z pos=>decide (nm="get")&&mE N B sc a eo&&baseOk eo&&(apos.endLine == pos.line)&&mE N B sc b y&&notStar y&&mE N B sc c z&&notStar z
 | .sst a,e=>v22 e fun n1 n2 y=>decide (n1="sorted")&&decide (n2="set")&&glb sc n1&&decide (n1∈B)&&glb sc n2&&decide (n2∈B)&&mE N B sc a y&&notStar y&&!(hat B)
 | .dcx k v own t it q,e=>v25 e fun ke ve tg iter ifs a scope=>!(hat B)&&scOk N sc scope own&&mE N ("~" :: B) scope k ke&&mE N ("~" :: B) scope v ve&&tOwn own t&&decide (a=0)&&mI N B sc it iter&&zipT it tg&&okIter iter&&mT N ("~" :: B) scope t tg&&mQo N ("~" :: B) scope q ifs
 | .comp elt own t it q .nil,e=>v26 e fun ee tg iter ifs a scope=>!(hat B)&&scOk N sc scope own&&mE N ("~" :: B) scope elt ee&&tOwn own t&&decide (a=0)&&mI N B sc it iter&&zipT it tg&&okIter iter&&mT N ("~" :: B) scope t tg&&mQo N ("~" :: B) scope q ifs
 | .comp _ _ _ _ _ (.cons _ _ _ _ _),_=>false
noncomputable def mA (N B:List Str) (sc:Scope):Ces->List Expr->Bool
 | .nil,es=>v29 es (true)
 | .cons e r,es=>v30 es fun x xs=>mE N B sc e x&&notStar x&&mA N B sc r xs
noncomputable def mQ (N B:List Str) (sc:Scope):Cq->Expr->Bool
 | .val e,x=>mE N B sc e x&&plainT x
 | .and a b,e=>vAnd e fun x y=>mQ N B sc a x&&mQ N B sc b y
 | .or a b,e=>vOr e fun x y=>mQ N B sc a x&&mQ N B sc b y
 | .cmp op a b,e=>v9 e fun ea op' eb=>decide (op=op')&&mE N B sc a ea&&mE N B sc b eb&&okIter eb
 | .din neg a b,e=>v9 e fun ea op' eb=>decide (op'=if neg then .NotIn else .In)&&mE N B sc a ea&&mE N B sc b eb&&okIter eb
noncomputable def mQo (N B:List Str) (sc:Scope):Cqo->List Expr->Bool
 | .none,es=>v29 es (true)
 | .some q,es=>v31 es fun e=>mQ N B sc q e
noncomputable def mO (N B:List Str) (sc:Scope):Co->Option Expr->Bool
 | .none,x=>v32 x (true)
 | .some e,x=>v33 x fun y=>mE N B sc e y
noncomputable def mI (N B:List Str) (sc:Scope):Ci->Expr->Bool
 | .val e,x=>mE N B sc e x
 | .range1 a,x=>v23 x fun n y=>decide (n="range")&&glb sc n&&decide (n∈B)&&mE N B sc a y&&notStar y
 | .enum a,x=>v23 x fun n y=>decide (n="enumerate")&&glb sc n&&decide (n∈B)&&mE N B sc a y&&notStar y
 | .range3 a b c,x=>v35 x fun n y z u=>decide (n="range")&&glb sc n&&decide (n∈B)&&mE N B sc a y&&notStar y&&mE N B sc b z&&notStar z&&mE N B sc c u&&notStar u
 | .rev a,x=>v23 x fun n y=>decide (n="reversed")&&glb sc n&&decide (n∈B)&&mE N B sc a y&&notStar y
noncomputable def mT (N B:List Str) (sc:Scope):Ct->Expr->Bool
 | .name i,e=>v1 e fun x=>nameOk N i x&&locb sc x
 | .tup ts,e=>v12 e fun es=>mTs N B sc ts es&&!(hat B)
 | .sub o i,e=>v14 e fun eo ei=>mE N B sc o eo&&mE N B sc i ei&&notSlice ei
noncomputable def mTs (N B:List Str) (sc:Scope):Cts->List Expr->Bool
 | .nil,es=>v29 es (true)
 | .cons t r,es=>v30 es fun x xs=>mT N B sc t x&&notStar x&&mTs N B sc r xs
end
noncomputable def isDcx:Ce->Bool
 | .dcx _ _ _ _ _ _=>true
 |_=>false
mutual
noncomputable def mS (N B:List Str) (sc:Scope):Cs->Stmt->Bool
 | .expr e,s=>v36 s fun x=>mE N B sc e x&&(match e with | .comp ..=>false|_=>true)&&!isDcx e
 | .ret e,s=>v37 s fun x=>mE N B sc e x
 | .asg t e,s=>v39 s fun tg x=>mE N B sc e x&&!isDcx e&&mT N B sc t tg&&notStar tg&&(match tg,x with
   | .Tuple ..,.Tuple vs _ _=>vs.all (foldedForSure 8)
   | .Tuple ..,.ListComp ..=>false
   |_,_=>true)
 | .par i j a b,s=>v43 s fun x px y py ea eb=>nameOk N i x&&nameOk N j y&&decide (i≠j)&&decide (sc.names.lookup x=some .local)&&decide (sc.names.lookup y=some .local)&&
    mE N B sc a ea&&mE N B sc b eb&&notStar ea&&notStar eb&&(px.line == py.line)&&(!(foldedForSure 8 ea&&foldedForSure 8 eb))&&(!(constantsAlone 8 ea&&constantsAlone 8 eb))&&!(hat B)
 | .dput o i e,s=>v48 s fun eo ei ee=>mE N B sc o eo&&mE N B sc i ei&&notSlice ei&&mE N B sc e ee&&(match ee with
   | .ListComp ..=>false
   | .SetComp ..=>false
   | .DictComp ..=>false
   |_=>true)
 | .aug i sub e,s=>v49 s fun x op ee=>nameOk N i x&&locb sc x&&mE N B sc e ee&&decide (op=if sub then .Sub else .Add)
 | .ite q a b,s=>v50 s fun x ss rs=>mQ N B sc q x&&mSs N B sc a ss&&mSs N B sc b rs
 | .whl q b,s=>v51 s fun x ss=>mQ N B sc q x&&mSs N B sc b ss
 | .for_ t it b,s=>v52 s fun tg iter ss=>mI N B sc it iter&&zipT it tg&&okIter iter&&mT N B sc t tg&&mSs N B sc b ss&&!(hat B)
 | .brk,s=>v53 s (true)
noncomputable def mSs (N B:List Str) (sc:Scope):Css->List Stmt->Bool
 | .nil,ss=>v56 ss (true)
 | .cons s r,ss=>v57 ss fun x xs=>mS N B sc s x&&mSs N B sc r xs
end
def PassS (CX:CXT) (X:Cx) (xk:L2.St->XK):Prop:=∀(pins:List (Addr×Obj)) (σ:L2.St) (H:Hp) (s:Shared) (e:Value) (s':Shared),Inv X pins σ H s->CX X.stack H s (xk σ) e s'->X.xe e s'
theorem passS0 {X:Cx} {xk:L2.St->XK}:PassS CX0 X xk:=fun _ _ _ _ _ _ _ h=>h.elim
structure Rok (C:Rc) (B:List Str) (X:Cx) (sc:Scope):Prop where
 hN:X.N=C.N
 nd:C.N.Nodup
 hK:X.K=C.K
 own:PassesOwn (model X.prog X.w) X.A X.env X.xe
 calm:hat B=false->X.calm=true
 hu:X.A.units+64<cLine
 gd:X.A.guards=some []
 loc:∀x,sc.names.lookup x=some .local->X.env.scope.names.lookup x=some .local
 cel:∀x,sc.names.lookup x=some .cell->X.env.scope.names.lookup x=some .cell/\X.fn x=true
 fre:∀x,sc.names.lookup x=some .free->X.env.scope.names.lookup x=some .cell\/X.env.scope.names.lookup x=some .free
 glo:∀x,sc.names.lookup x=some .globalImplicit->X.env.kindOf x=some .globalImplicit
 fn:∀x sp,C.fs x=some sp->hat B=false->(tld B=true->bang x∉B)->∃f fd ps k CX,FnOk X.prog X.w X.K X.mg X.base CX k f fd ps sp/\Room k X.A/\X.mg x=some (.ref f)/\W.keepIn X.K (.ref f)=true/\Binds X.K fd ps []/\(CX=CX0\/CX=CX1 X.prog X.w X.mg/\bang x∈B)/\PassS CX X C.xk
 blt:∀x∈B,X.mg x=none
 mrk:X.mg "~"=none/\X.mg "^"=none/\X.mg "%"=none
 cls:∀c Ca,C.cl c=some Ca->X.mg c=some (.ref Ca)/\W.nsIn X.K mainGlobals c=some (some (.ref Ca))
 fx:tld B=false->FnCx X
 nohat:tld B=false->hat B=false
 xr:tld B=false->pct B=false->∀nm Ca pins σ H s e t,C.cl nm=some Ca->Inv X pins σ H s->H e=none->X.s₀.heap.get? e=none->(∀p∈X.pn++pins,p.1≠e)->s.heap.get? e=some { cls:=.ref Ca,data:=.fields #[.ref t,.none,.none,.none,.bool false,.none] }->C.xk σ (.str nm 0) none H->X.xe (.ref e) s
theorem Rok.hu1 {C:Rc} {B:List Str} {X:Cx} {sc:Scope} (R:Rok C B X sc):X.A.units+1<cLine:=by have:=R.hu;omega
section
variable {C:Rc} {B:List Str} {X:Cx} {sc:Scope}
theorem Rok.vis (R:Rok C B X sc) {x:Str} (h:R3.vis sc x=true):Vis X.env.scope x:=by
 unfold R3.vis at h
 split at h
 .rename_i e;exact .inl (R.loc x e)
 .rename_i e;exact .inr (.inl (R.cel x e).1)
 .rename_i e
  rcases R.fre x e with q|q
  .exact .inr (.inl q)
  .exact .inr (.inr q)
 .cases h
theorem Rok.locb (R:Rok C B X sc) {x:Str} (h:R3.locb sc x=true):Loc X.env.scope x/\(X.fn x=true\/X.env.scope.names.lookup x=some .local):=by
 unfold R3.locb at h
 split at h
 .rename_i e;exact⟨.inl (R.loc x e),.inr (R.loc x e)⟩
 .rename_i e;exact⟨.inr (R.cel x e).1,.inl (R.cel x e).2⟩
 .cases h
theorem Rok.glb (R:Rok C B X sc) {x:Str} (h:R3.glb sc x=true):Gl X x:=R.glo x (of_decide_eq_true h)
theorem nameOk_of {N:List Str} {i:Nat} {x:Str} (h:nameOk N i x=true):N[i]?=some x/\(x == ("__debug__":Str))=false/\(x == ("__classdict__":Str))=false:=by
 unfold nameOk at h
 simp only[Bool.and_eq_true,decide_eq_true_eq,Bool.not_eq_true']at h
 exact⟨h.1.1,h.1.2,h.2⟩
theorem star_cons {e:Expr} {es:List Expr} {env:Env} (h:notStar e=true):starEach (e :: es) env=(false,eval e env) :: starEach es env:=by
 cases e<;>first|rfl|cases h
theorem mA_star {N B:List Str} {sc:Scope} {env:Env} {pos:Pos}:∀{es:Ces} {xs:List Expr},mA N B sc es xs=true->(backTo pos (starEach xs env)).any (·.1)=false
 | .nil,xs,h=>by
  refine v29_k h fun e0 g=>?_
  clear h
  subst e0
  revert g
  intro h
  rfl
 | .cons e r,xs,h=>by
  refine v30_k h fun x xs e0 g=>?_
  clear h
  subst e0
  revert g
  intro h
  simp only[Bool.and_eq_true]at h
  rw[star_cons h.1.2]
  have ih:=mA_star (env:=env) (pos:=pos) (es:=r) h.2
  exact ih
theorem folded_ok {e:Expr} {env:Env} (h:okIter e=true) (x:Value):foldedSetIterable e env x=pure x:=by
 cases e<;>first|rfl|cases h
theorem marks_ok {op:CmpOp} {e:Expr} (h:okIter e=true):behindInMarks op e=false:=by
 cases e<;>first|rfl|cases h
theorem ix_plain {e:Expr} (h:notSlice e=true):PlainIx e:=by
 intro o i
 cases e<;>first|rfl|cases h
theorem base_ok {e:Expr} {f:Str} {env:Env} {w:Sem Value} (h:baseOk e=true):attributeBase e f env w=w:=by
 cases e with
 |Call g args kw pos=>
  cases args with
  |nil=>cases h
  |cons a r=>cases g<;>rfl
 |_=>rfl
theorem plainT_ok {e:Expr} {env:Env} (h:plainT e=true) (w:Sem Value):isTrue e env w=(do let v <- w;standAt e.pos;holding [v] (truthy v)):=by
 cases e with
 |UnaryOp op a p=>cases op<;>first|rfl|cases h
 |_=>first|rfl|cases h
theorem OpR.imp {f:Value->Value->Sem Value} {r r':R2} (h:OpR X f r) (i:∀x y H Q,r' x y H Q->r x y H Q):OpR X f r':=fun pins s σ H x y v u Q I rx ry q=>h pins s σ H x y v u Q I rx ry (i _ _ _ _ q)
theorem CallR.imp {f:Value} {r r':List V->Hp->VK->Prop} (h:CallR X f r) (i:∀xs H Q,r' xs H Q->r xs H Q):CallR X f r':=fun pins s σ H xs us Q I rv q=>h pins s σ H xs us Q I rv (i _ _ _ q)
theorem ixM:IxR X (rIxM X.K):=by
 intro value slice pins s σ H x y v u Q I rx ry q hp
 refine ix_seq value slice pins s σ H x y v u Q I rx ry ?_ hp
 unfold rIxM at q
 split at q
 .obtain⟨z,c,hc,q⟩:=q
  exact .inr (.inr ⟨_,_,c,rfl,rfl,z,hc,q⟩)
 .rcases q with q|q
  .exact .inl q
  .exact .inr (.inl q)
theorem run_at {CX:CXT} {k:Nat} {f:Addr} {fd:FuncData} {ps:List Str} {sp:Sp} {dvs:List V} {ds:List Value} {E:XK} {pins:List (Addr×Obj)} {σ:L2.St} {H:Hp} {s:Shared} {Q:VK} {us:List Value} {vs:List V} (F:FnOk X.prog X.w X.K X.mg X.base CX k f fd ps sp) (hr:Room k X.A) (hb:Binds X.K fd ps ds) (hd:Vals dvs ds)
  (hx:∀e s',CX X.stack H s E e s'->X.xe e s') (I:Inv X pins σ H s) (r:Vals vs us) (h:sp (vs++dvs) H Q E):wpAny (model X.prog X.w) X.A (call (.ref f) us) (EP X pins σ Q) X.xe s:=by
 have r2:=r.append hd
 have hl:(us++ds).length=ps.length:=r2.length ▸ F.len _ _ _ _ h
 have go:=F.run X.A X.stack s H ⟨us,[]⟩ (us++ds) (vs++dvs) Q E hr I.env0 (hb s us I.kIn hl) r2 h
 refine wpAny_call (codeAny_mono go fun r s' hq=>?_)
 match r,hq with
 | .error e,hq=>exact hx e s' hq
 | .ok (.ret u),hq=>exact I.after hq
theorem pe_callS {CX:CXT} {k:Nat} {f:Addr} {fd:FuncData} {ps:List Str} {sp:Sp} {dvs:List V} {ds:List Value} {xk:L2.St->XK} {x:Str} {p pos:Pos} {e:Expr} {es:List Expr} {t:TA} (F:FnOk X.prog X.w X.K X.mg X.base CX k f fd ps sp) (hr:Room k X.A) (hg:Gl X x) (hm:X.mg x=some (.ref f)) (hk:W.keepIn X.K (.ref f)=true) (hb:Binds X.K fd ps ds) (hd:Vals dvs ds) (hx:PassS CX X xk)
  (ha:PA X (e :: es) t) (hdb:(x == ("__debug__":Str))=false) (he:starEach (e :: es) X.env=(false,eval e X.env) :: starEach es X.env) (hpl:(backTo pos (starEach es X.env)).any (·.1)=false):
  PE X (.Call (.Name x p) (e :: es) [] pos) (fun σ H Q=>tCall sp dvs (xk σ) t σ H Q):=by
 intro pins s σ H Q I h
 refine wpAny_Call_Name_kw (ld_glob I hg hm ?_ hdb)
 exact W.callWith_K (h₀:=X.base) I.ok.mod.kin hk (thn (ha pos pins s σ H _ I h) fun us s1 ⟨vs,H1,I1,r,q⟩=>⟨I1.kIn,run_at F hr hb hd (fun e s' c=>hx pins σ H1 s1 e s' I1 c) I1 r q⟩) he hpl
theorem bits100 {a:Int} (h:a.natAbs<2 ^ 100):(Builtin.Int.intBits a:Int)<=100:=by
 unfold Builtin.Int.intBits
 by_cases h0:a.natAbs=0
 .rw[if_pos (by simpa using h0)];decide
 .rw[if_neg (by simpa using h0)]
  have:=(Nat.log2_lt h0).mpr h
  omega
theorem op_shlX {X:Cx}:OpR X (binaryOp .LShift) (rI CShl fun i j=>.int (i*2 ^ j.toNat)):=opI fun _ _ _ _ _ _ _ hc q=>lshift_int hc.1 (by have:=bits100 hc.2.2;have:=hc.2.1;omega) q
theorem bin_ok (op:Operator):OpR X (binaryOp op) (rBin X.K op):=by
 cases op with
 |Add=>
  refine OpR.imp ((op_add.or op_add_str).or (op_cat.or (op_catT.or op_catT0))) fun x y H Q q=>?_
  unfold rBin at q
  dsimp only at q
  split at q
  .exact .inl (.inl ⟨_,_,rfl,rfl,q⟩)
  .exact .inl (.inr ⟨_,_,rfl,rfl,q.1,q.2⟩)
  .exact .inr q
 |Sub=>exact op_sub
 |Mult=>
  refine OpR.imp (op_mulW.or (op_mul_str.or op_rep)) fun x y H Q q=>?_
  unfold rBin at q
  dsimp only at q
  split at q
  .refine .inl ⟨_,_,rfl,rfl,?_,q.2⟩
   rcases q.1 with h|h|h
   .exact CMul.ok (.inl h)
   .exact CMul.ok (.inr h)
   .exact h
  .exact .inr (.inl ⟨_,_,rfl,rfl,q.1,q.2.1,q.2.2.1,q.2.2.2⟩)
  .exact .inr (.inr q)
 |Mod=>exact op_mod
 |FloorDiv=>
  refine OpR.imp (op_fdiv.or op_fdivW) fun x y H Q q=>?_
  obtain⟨i,j,h1,h2,⟨h3,h4⟩,q⟩:=q
  rcases h4 with h4|h4
  .exact .inl ⟨i,j,h1,h2,⟨h3,h4⟩,q⟩
  .exact .inr ⟨i,j,h1,h2,⟨h3,h4⟩,q⟩
 |Pow=>exact op_pow
 |LShift=>exact op_shlX
 |RShift=>exact op_shr
 |MatMult=>exact fun _ _ _ _ _ _ _ _ _ _ _ _ h=>h.elim
 |Div=>exact fun _ _ _ _ _ _ _ _ _ _ _ _ h=>h.elim
 |BitOr=>exact fun _ _ _ _ _ _ _ _ _ _ _ _ h=>h.elim
 |BitXor=>exact fun _ _ _ _ _ _ _ _ _ _ _ _ h=>h.elim
 |BitAnd=>exact op_and1
theorem cmp_ok (hu':X.A.units+64<cLine) (op:CmpOp):OpR X (compareOp op) (rCmp X.K op):=by
 cases op with
 |Eq=>
  refine OpR.imp (op_eq.or ((op_eqL (by omega)).or (op_eqD hu'))) fun x y H Q q=>?_
  unfold rCmp at q
  dsimp only at q
  split at q
  .exact .inr q
  .exact .inl q
 |NotEq=>
  refine OpR.imp (op_ne.or ((op_neL (by omega)).or (op_neD hu'))) fun x y H Q q=>?_
  unfold rCmp at q
  dsimp only at q
  split at q
  .exact .inr q
  .exact .inl q
 |Lt=>exact op_lt
 |LtE=>exact op_le
 |Gt=>
  refine OpR.imp (op_gt.or op_gtS) fun x y H Q q=>?_
  unfold rCmp at q
  dsimp only at q
  split at q
  .exact .inr q
  .exact .inl q
 |GtE=>exact op_ge
 |Is=>
  refine OpR.imp (op_isN.or op_isB) fun x y H Q q=>?_
  unfold rCmp at q
  dsimp only at q
  split at q
  .exact .inr q
  .exact .inl q
 |IsNot=>
  refine OpR.imp (op_notN.or op_isNotB) fun x y H Q q=>?_
  unfold rCmp at q
  dsimp only at q
  split at q
  .exact .inr q
  .exact .inl q
 |In=>
  refine OpR.imp (op_inS.or op_in_seq) fun x y H Q q=>?_
  unfold rCmp at q
  dsimp only at q
  split at q
  .exact .inl q
  .exact .inr q
 |NotIn=>
  refine OpR.imp (op_notInS.or op_notIn_seq) fun x y H Q q=>?_
  unfold rCmp at q
  dsimp only at q
  split at q
  .exact .inl q
  .exact .inr q
theorem sl_ok:SlR X (rSl X.K):=by
 intro pins s σ H x v vl vu lo hi sl Q I rx hs pl pu q
 refine(sl_list.or (sl_tup.or (sl_whole.or sl_str))) pins s σ H x v vl vu lo hi sl Q I rx hs pl pu ?_
 unfold rSl at q
 split at q
 .exact .inr (.inr (.inr ⟨_,rfl,q.1,q.2⟩))
 .rcases q with q|q|q
  .exact .inl q
  .exact .inr (.inl q)
  .exact .inr (.inr (.inl q))
inductive BltIs:Bf->Prop where
 |fn (f:Bf) (id:String) (hv:bootBuiltins (bltName f)=some (.builtin id)) (h:∀X:Cx,(X.calm=true\/f=.isinstance)->CallR X (.builtin id) (rBlt X.K f)):BltIs f
 |ty (f:Bf) (T:String) (hv:bootBuiltins (bltName f)=some (.type T)) (h:∀X:Cx,(X.calm=true\/f=.isinstance)->CallR X (.type T) (rBlt X.K f)):BltIs f
theorem blt_is (f:Bf):BltIs f:=by
 cases f with
 |len=>exact .fn _ "len" (by decide +kernel) fun X _=>call_len
 |abs=>exact .fn _ "abs" (by decide +kernel) fun X _=>call_abs
 |int=>
  refine .ty _ "int" (by decide +kernel) fun X _=>CallR.imp call_intB fun xs H Q q=>?_
  unfold rBlt at q
  dsimp only at q
  split at q
  .exact .inl (.inl (.inl ⟨_,rfl,q⟩))
  .exact .inl (.inl (.inr ⟨_,rfl,q⟩))
  .obtain⟨n,h1,h2,q⟩:=q
   exact .inl (.inr ⟨_,n,rfl,h1,h2,q⟩)
  .obtain⟨rfl,n,h1,q⟩:=q
   exact .inr ⟨_,n,rfl,h1,q⟩
  .exact q.elim
 |str=>exact .ty _ "str" (by decide +kernel) fun X _=>call_str_int
 |listD=>exact .ty _ "list" (by decide +kernel) fun X c0=>have c:X.calm=true:=c0.resolve_right (fun z=>by cases z);call_listD c
 |listV=>exact .ty _ "list" (by decide +kernel) fun X c0=>have c:X.calm=true:=c0.resolve_right (fun z=>by cases z);call_listV c
 |lenD=>exact .fn _ "len" (by decide +kernel) fun X _=>call_lenD'
 |isinstance=>exact .fn _ "isinstance" (by decide +kernel) fun X _=>CallR.imp call_isi fun _ _ _ q=>q.resolve_right id
 |all=>exact .fn _ "all" (by decide +kernel) fun X c0=>have c:X.calm=true:=c0.resolve_right (fun z=>by cases z);call_allL c
 |any=>exact .fn _ "any" (by decide +kernel) fun X c0=>have c:X.calm=true:=c0.resolve_right (fun z=>by cases z);call_anyL c
 |min=>
  refine .fn _ "min" (by decide +kernel) fun X c0=>have c:X.calm=true:=c0.resolve_right (fun z=>by cases z);CallR.imp ((call_min2 c).or (call_minL c)) fun xs H Q q=>?_
  unfold rBlt at q
  dsimp only at q
  split at q
  .exact .inl ⟨_,_,rfl,q⟩
  .exact .inr q
 |list=>exact .ty _ "list" (by decide +kernel) fun X c0=>have c:X.calm=true:=c0.resolve_right (fun z=>by cases z);call_list_of.or (call_lrg c)
 |range=>exact .ty _ "range" (by decide +kernel) fun X _=>call_rng
 |tuple=>exact .ty _ "tuple" (by decide +kernel) fun X _=>call_tuple_of
structure MetIs (m:Mf) (id:String):Prop where
 pa:PlainAttrs (metTy m)
 slot:Slot (metTy m) (metName m) id
 ty:typeOf (.builtin id)=pure (.type "method_descriptor")
 h:∀X:Cx,MtR X id (rMet X.K m)
theorem met_is (m:Mf):∃id,MetIs m id:=by
 cases m with
 |append=>exact⟨_,F.plainAttrs_list,F.slot_list_append,F.type_list_append,fun _=>mt_append⟩
 |join=>exact⟨_,F.plainAttrs_str,F.slot_str_join,F.type_str_join,fun _=>mt_join⟩
 |values=>exact⟨_,F.plainAttrs_dict,F.slot_dict_values,F.type_dict_values,fun _=>mt_values⟩
end
theorem scOk_of {N:List Str} {sc scope:Scope} {own:List Nat} (h:scOk N sc scope own=true):scope.kind=.function/\(∀x∈scope.names,x.2=.local->scope.names.lookup x.1=some .local)/\(∀n,(n,NameKind.cell)∈scope.names->scope.names.lookup n=some .cell)/\
  (∀n,(n,NameKind.free)∈scope.names->sc.names.lookup n=some .cell\/sc.names.lookup n=some .free)/\∀(i:Nat) (x:Str),N[i]?=some x->(scope.names.lookup x=some .local\/scope.names.lookup x=some .cell)->i∈own:=by
 unfold scOk at h
 simp only[Bool.and_eq_true,decide_eq_true_eq,List.all_eq_true,Bool.or_eq_true]at h
 obtain⟨⟨hk,hn⟩,ho⟩:=h
 refine⟨hk,fun x hx e=>?_,fun n hn'=>?_,fun n hn'=>?_,fun i x e hx=>?_⟩
 .exact(hn x hx).1.1.resolve_left fun q=>q e
 .exact(hn _ hn').1.2.resolve_left fun q=>q rfl
 .rcases(hn _ hn').2 with(q|q)|q
  .exact absurd rfl q
  .exact .inl q
  .exact .inr q
 .have:=ho i (List.mem_range.mpr (List.getElem?_eq_some_iff.mp e).1)
  rw[e]at this
  simp only[Bool.or_eq_true,Bool.and_eq_true,decide_eq_true_eq]at this
  rcases this with⟨q1,q2⟩|q
  .rcases hx with z|z
   .exact absurd z q1
   .exact absurd z q2
  .exact q
theorem Rok.compSc {C:Rc} {B:List Str} {X:Cx} {sc scope:Scope} {own:List Nat} (R:Rok C B X sc) (h:scOk C.N sc scope own=true):CompSc X scope:=by
 obtain⟨h1,h2,h3,h4,h5⟩:=scOk_of h
 refine⟨h1,h2,h3,fun n hn=>?_⟩
 rcases h4 n hn with q|q
 .exact .inl (R.cel n q).1
 .exact R.fre n q
theorem tld_cons {B:List Str}:tld ("~" :: B)=true:=decide_eq_true (List.mem_cons_self)
theorem Rok.comp {C:Rc} {B:List Str} {X:Cx} {sc scope:Scope} {own:List Nat} (R:Rok C B X sc) (hh:hat B=false) (h:scOk C.N sc scope own=true) (s0:Shared) (H0:Hp) (ex:List Addr):Rok C ("~" :: B) (X.comp scope s0 H0 ex) scope:=by
 refine⟨R.hN,R.nd,R.hK,PassesOwn.never,fun _=>R.calm hh,R.hu,R.gd,fun x e=>lookup_relabel_local e,fun x e=>⟨?_,?_⟩,fun x e=>?_,fun x e=>?_,fun x sp e _ ht=>?_,fun x hx=>?_,R.mrk,R.cls,(fun z=>by rw[tld_cons]at z;cases z),(fun z=>by rw[tld_cons]at z;cases z),(fun z=>by rw[tld_cons]at z;cases z)⟩
 .obtain⟨k',e1,e2⟩:=relabel_lookup' (env:=X.env) e
  rcases e2 with rfl|⟨q,_⟩
  .exact e1
  .cases q
 .exact W.cellsFrom_some _ _ _ (.inl e)
 .obtain⟨k',e1,e2⟩:=relabel_lookup' (env:=X.env) e
  rcases e2 with rfl|⟨_,rfl⟩
  .exact .inr e1
  .exact .inl e1
 .obtain⟨k',e1,e2⟩:=relabel_lookup' (env:=X.env) e
  rcases e2 with rfl|⟨q,_⟩
  .exact e1
  .cases q
 .have hb:bang x∉B:=fun z=>ht tld_cons (List.mem_cons_of_mem _ z)
  obtain⟨f,fd,ps,k,CX,h1,h2,h3,h4,h5,h6,_⟩:=R.fn x sp e hh fun _=>hb
  rcases h6 with rfl|⟨_,z⟩
  .exact⟨f,fd,ps,k,CX0,h1,h2,h3,h4,h5,.inl rfl,passS0⟩
  .exact absurd z hb
 .rcases List.mem_cons.mp hx with rfl|hx
  .exact R.mrk.1
  .exact R.blt x hx
mutual
theorem gmono_of (C:Rc) (own:List Nat):∀(t:Ct),tOwn own t=true->∀(x:V) (σ:L2.St) (H:Hp) (Q Q':L2.St->Hp->Prop),tG C t x σ H Q->(∀σ2 H2,Q σ2 H2->Ext own σ σ2->Q' σ2 H2)->tG C t x σ H Q'
 | .name i,h,x,σ,H,Q,Q',q,m=>by
  simp only[tOwn,decide_eq_true_eq]at h
  simp only[tG]at q ⊢
  obtain⟨q1,q2⟩:=gext_name h x σ H Q q
  exact m _ _ q1 q2
 | .tup ts,h,x,σ,H,Q,Q',q,m=>by
  simp only[tOwn]at h
  simp only[tG]at q ⊢
  obtain⟨a,xs,e,hs,hl,q⟩:=q
  exact⟨a,xs,e,hs,hl,gmonos_of C own ts h xs σ H Q Q' q m⟩
 | .sub _ _,h,_,_,_,_,_,_,_=>by simp[tOwn]at h
theorem gmonos_of (C:Rc) (own:List Nat):∀(ts:Cts),tOwns own ts=true->∀(xs:List V) (σ:L2.St) (H:Hp) (Q Q':L2.St->Hp->Prop),tGs C ts xs σ H Q->(∀σ2 H2,Q σ2 H2->Ext own σ σ2->Q' σ2 H2)->tGs C ts xs σ H Q'
 | .nil,h,xs,σ,H,Q,Q',q,m=>by
  simp only[tGs,gNil]at q ⊢
  exact⟨q.1,m _ _ q.2 Ext.refl⟩
 | .cons t r,h,xs,σ,H,Q,Q',q,m=>by
  simp only[tOwns,Bool.and_eq_true]at h
  simp only[tGs,gCons]at q ⊢
  obtain⟨v,vr,e,q⟩:=q
  exact⟨v,vr,e,gmono_of C own t h.1 v σ H _ _ q fun σ2 H2 q2 x2=>gmonos_of C own r h.2 vr σ2 H2 _ _ q2 fun σ3 H3 q3 x3=>m _ _ q3 (x2.trans x3)⟩
end
theorem gext_of {C:Rc} {own:List Nat} {t:Ct} (h:tOwn own t=true):GExt own (tG C t):=fun x σ H Q q=>gmono_of C own t h x σ H Q _ q fun _ _ q x=>⟨q,x⟩
theorem assign_star:∀{ts:Cts} {es:List Expr} {N B:List Str} {sc:Scope} {env:Env},mTs N B sc ts es=true->(assignEach es env).length=lenTs ts/\(assignEach es env).findIdx? (·.1)=none
 | .nil,es,N,B,sc,env,h=>by
  refine v29_k h fun e0 g=>?_
  clear h
  subst e0
  revert g
  intro h
  exact⟨rfl,rfl⟩
 | .cons t r,es,N,B,sc,env,h=>by
  refine v30_k h fun x xs e0 g=>?_
  clear h
  subst e0
  revert g
  intro h
  simp only[Bool.and_eq_true]at h
  obtain⟨h1,h2⟩:=assign_star (env:=env) h.2
  have e:assignEach (x :: xs) env=(false,assign x env) :: assignEach xs env:=by
   have hs:=h.1.2
   cases x<;>first|rfl|cases hs
  rw[e]
  refine⟨by rw[List.length_cons,h1];rfl,?_⟩
  rw[List.findIdx?_cons,h2]
  rfl
theorem assign_each {x:Expr} {xs:List Expr} {env:Env} (hs:notStar x=true):(assignEach (x :: xs) env).map (·.2)=assign x env :: (assignEach xs env).map (·.2):=by
 cases x<;>first|rfl|cases hs
theorem asg_sub {o i:Expr} {pos:Pos} {env:Env} (h:notSlice i=true) (v:Value):assign (.Subscript o i pos) env v=(do
   let ov <- holding [v] (eval o env)
   let iv <- holding [v,ov] (eval i env)
   standAt pos
   holding [v,ov,iv] (setItem ov iv v)
   release [v,ov,iv] []):=by
 cases i<;>first|rfl|cases h
noncomputable def CompX (C:Rc) (X:Cx) (e:Expr):Ce->Prop
 | .comp elt own t it q r=>∃tg iter ifs nx scope pos,CompIn X e scope tg iter ifs nx (tG C t) (tQo C q) (tR C r (tEmit (tE C elt))) own/\PI X tg iter (tI C it)/\
   eval e X.env=comprehension e scope X.env pos (newList []) false (eval iter X.env)/\(∀u,evalThenUse e X.env u=(do let _ <- comprehension e scope X.env pos (newList []) false (eval iter X.env) (some u)))/\
   ∀y py line,∃b,swapsWith e (some (.Name y py)) line X.env=pure b
 |_=>True
noncomputable def emitD (ke ve:Expr) (D:Addr) (env:Env):Sem Unit:=do
 let kv <- eval ke env
 let vv <- holding [kv] (eval ve env)
 match Value.ref D with
 | .ref d=>do
  standAt { ke.pos with endLine:=ve.pos.endLine,endCol:=ve.pos.endCol }
  holding [kv,vv] (dictSet d kv vv)
 |_=>unsupported "internal:dictcomp"
theorem inv1 {N B:List Str} {sc:Scope} {elt:Ce} {own:List Nat} {t:Ct} {it:Ci} {q:Cqo} {e:Expr} (h:mE N B sc (.comp elt own t it q .nil) e=true):∃ee tg iter ifs scope pos,e=.ListComp ee [⟨tg,iter,ifs,0⟩] scope pos/\
  hat B=false/\scOk N sc scope own=true/\mE N ("~" :: B) scope elt ee=true/\tOwn own t=true/\mI N B sc it iter=true/\zipT it tg=true/\okIter iter=true/\mT N ("~" :: B) scope t tg=true/\mQo N ("~" :: B) scope q ifs=true:=by
 refine v26_k h fun ee tg iter ifs a scope w1 e0 g=>?_
 clear h
 subst e0
 revert g
 intro h
 simp only[Bool.and_eq_true,decide_eq_true_eq,Bool.not_eq_true']at h
 obtain⟨⟨⟨⟨⟨⟨⟨⟨⟨hh,hsc⟩,helt⟩,hown⟩,rfl⟩,h1⟩,h2⟩,h3⟩,h4⟩,h5⟩:=h
 exact⟨_,_,_,_,_,_,rfl,hh,hsc,helt,hown,h1,h2,h3,h4,h5⟩
theorem inv4 {N B:List Str} {sc:Scope} {elt:Ce} {own:List Nat} {t:Ct} {it:Ci} {q:Cqo} {ws:List Nat} {t2:Ct} {it2:Ci} {q2:Cqo} {r4:Cc} {e:Expr} (h:mE N B sc (.comp elt own t it q (.cons ws t2 it2 q2 r4)) e=true):False:=by
 exact no_tt h
set_option maxHeartbeats 4000000
mutual
theorem sE0 {C:Rc}:∀(c:Ce) {B:List Str} {X:Cx} {sc:Scope} {e:Expr},Rok C B X sc->mE C.N B sc c e=true->PE X e (tE C c)/\CompX C X e c
 | .var i,B,X,sc,e,R,h=>by
  refine⟨?_,trivial⟩
  refine v1_k h fun x w1 e0 g=>?_
  clear h
  subst e0
  revert g
  intro h
  simp only[Bool.and_eq_true]at h
  obtain⟨h1,h2,h3⟩:=nameOk_of h.1
  simp only[tE]
  exact pe_var (by rw[R.hN];exact h1) (R.vis h.2) h2 h3
 | .int n,B,X,sc,e,R,h=>by
  refine⟨?_,trivial⟩
  refine v2_k h fun m w1 w2 e0 g=>?_
  clear h
  subst e0
  revert g
  intro h
  cases of_decide_eq_true h
  simp only[tE]
  exact pe_int
 | .bl n,B,X,sc,e,R,h=>by
  refine⟨?_,trivial⟩
  refine v3_k h fun c w1 w2 e0 g=>?_
  clear h
  subst e0
  revert g
  intro h
  cases of_decide_eq_true h
  simp only[tE]
  exact pe_bl
 | .non,B,X,sc,e,R,h=>by
  refine⟨?_,trivial⟩
  refine v4_k h fun w1 w2 e0 g=>?_
  clear h
  subst e0
  revert g
  intro h
  simp only[tE]
  exact pe_non
 | .str n,B,X,sc,e,R,h=>by
  refine⟨?_,trivial⟩
  refine v5_k h fun y w1 w2 e0 g=>?_
  clear h
  subst e0
  revert g
  intro h
  cases of_decide_eq_true h
  simp only[tE]
  exact pe_str
 | .ty n,B,X,sc,e,R,h=>by
  refine⟨?_,trivial⟩
  refine v1_k h fun x w1 e0 g=>?_
  clear h
  subst e0
  revert g
  intro h
  simp only[Bool.and_eq_true,decide_eq_true_eq]at h
  obtain⟨⟨⟨rfl,h2⟩,h3⟩,h4⟩:=h
  simp only[tE]
  have hb:bootBuiltins (Str.ofString n)=some (.type n)/\Str.ofString n≠"__name__"/\(Str.ofString n == ("__debug__":Str))=false:=by
   simp only[typeNames,List.contains_iff_mem,List.mem_cons,List.not_mem_nil,or_false]at h3
   rcases h3 with rfl|rfl|rfl|rfl|rfl|rfl|rfl<;>decide +kernel
  exact pe_bltn (v:=.ty n) (R.glb h2) (R.blt _ h4) hb.1 rfl hb.2.1 hb.2.2
 | .bin op a b,B,X,sc,e,R,h=>by
  refine⟨?_,trivial⟩
  refine v6_k h fun ea op' eb w1 e0 g=>?_
  clear h
  subst e0
  revert g
  intro h
  simp only[Bool.and_eq_true,decide_eq_true_eq]at h
  obtain⟨⟨rfl,h1⟩,h2⟩:=h
  simp only[tE]
  rw[<- R.hK]
  exact pe_op (bin_ok _) ((sE0 a R h1).1) ((sE0 b R h2).1)
 | .neg a,B,X,sc,e,R,h=>by
  refine⟨?_,trivial⟩
  refine v7_k h fun ea w1 e0 g=>?_
  clear h
  subst e0
  revert g
  intro h
  simp only[tE]
  exact pe_un un_neg ((sE0 a R h).1)
 | .and a b,B,X,sc,e,R,h=>by
  refine⟨?_,trivial⟩
  replace h:=vAnd_of h
  rcases h with⟨x,y,pos,rfl,h⟩|⟨x,y,z,r,pos,rfl,h⟩
  .simp only[Bool.and_eq_true]at h
   simp only[tE]
   exact pe_and ((sE0 a R h.1).1) (pe_one ((sE0 b R h.2).1))
  .simp only[Bool.and_eq_true]at h
   simp only[tE]
   exact pe_and ((sE0 a R h.1).1) ((sE0 b R h.2).1)
 | .or a b,B,X,sc,e,R,h=>by
  refine⟨?_,trivial⟩
  replace h:=vOr_of h
  rcases h with⟨x,y,pos,rfl,h⟩|⟨x,y,z,r,pos,rfl,h⟩
  .simp only[Bool.and_eq_true]at h
   simp only[tE]
   exact pe_or ((sE0 a R h.1).1) (pe_one ((sE0 b R h.2).1))
  .simp only[Bool.and_eq_true]at h
   simp only[tE]
   exact pe_or ((sE0 a R h.1).1) ((sE0 b R h.2).1)
 | .cmp op a b,B,X,sc,e,R,h=>by
  refine⟨?_,trivial⟩
  refine v9_k h fun ea op' eb w1 e0 g=>?_
  clear h
  subst e0
  revert g
  intro h
  simp only[Bool.and_eq_true,decide_eq_true_eq]at h
  obtain⟨⟨⟨rfl,h1⟩,h2⟩,h3⟩:=h
  simp only[tE]
  rw[<- R.hK]
  exact pe_cmpR (cmp_ok R.hu _) ((sE0 a R h1).1) ((sE0 b R h2).1) (marks_ok h3)
 | .tup es,B,X,sc,e,R,h=>by
  refine⟨?_,trivial⟩
  refine v12_k h fun xs w1 w2 e0 g=>?_
  clear h
  subst e0
  revert g
  intro h
  simp only[tE]
  exact pe_tup (sA es R h)
 | .lst es,B,X,sc,e,R,h=>by
  refine⟨?_,trivial⟩
  refine v13_k h fun xs w1 e0 g=>?_
  clear h
  subst e0
  revert g
  intro h
  simp only[tE]
  exact pe_lst (sA es R h)
 | .idx a b,B,X,sc,e,R,h=>by
  refine⟨?_,trivial⟩
  refine v14_k h fun ea eb w1 e0 g=>?_
  clear h
  subst e0
  revert g
  intro h
  simp only[Bool.and_eq_true]at h
  simp only[tE]
  rw[<- R.hK]
  exact pe_ix ixM ((sE0 a R h.1.1).1) ((sE0 b R h.1.2).1) (ix_plain h.2)
 | .cut a lo hi,B,X,sc,e,R,h=>by
  refine⟨?_,trivial⟩
  refine v15_k h fun ea l h_ w1 w2 e0 g=>?_
  clear h
  subst e0
  revert g
  intro h
  simp only[Bool.and_eq_true]at h
  simp only[tE]
  rw[<- R.hK]
  exact pe_slice sl_ok ((sE0 a R h.1.1).1) (sO lo R h.1.2) (sO hi R h.2)
 | .call f es,B,X,sc,e,R,h=>by
  refine⟨?_,trivial⟩
  refine v16_k h fun x w1 e r pos e0 g=>?_
  clear h
  subst e0
  revert g
  intro h
  simp only[Bool.and_eq_true,decide_eq_true_eq,Bool.not_eq_true']at h
  obtain⟨⟨⟨⟨⟨rfl,h1⟩,h2⟩,h3⟩,hh⟩,h6⟩:=h
  simp only[tE]
  have ht:tld B=true->bang x∉B:=fun t m=>by rw[t,decide_eq_true m]at h6;cases h6
  cases hf:C.fs x with
  |none=>exact fun _ _ _ _ _ _ q=>q.elim
  |some sp=>
   obtain⟨f,fd,ps,k,CX,F,hr,hm,hk,hb,_,hx⟩:=R.fn x sp hf hh ht
   have hs:notStar e=true:=by
    cases es with
    |nil=>exact no_tt h2
    |cons c r=>exact(band (band h2).1).2
   have hp:(backTo pos (starEach r X.env)).any (·.1)=false:=by
    have q:=mA_star (env:=X.env) (pos:=pos) h2
    rw[star_cons hs]at q
    exact q
   exact pe_callS F hr (R.glb h1) hm hk hb .nil hx (sA es R h2) h3 (star_cons hs) hp
 | .blt f es,B,X,sc,e,R,h=>by
  refine⟨?_,trivial⟩
  refine v16_k h fun x w1 e r pos e0 g=>?_
  clear h
  subst e0
  revert g
  intro h
  simp only[Bool.and_eq_true,decide_eq_true_eq,Bool.or_eq_true,Bool.not_eq_true']at h
  obtain⟨⟨⟨⟨rfl,h1⟩,h2⟩,h4⟩,h5⟩:=h
  have hcc:X.calm=true\/f=.isinstance:=h5.imp R.calm id
  simp only[tE]
  have hs:notStar e=true:=by
   cases es with
   |nil=>exact no_tt h2
   |cons c r=>exact(band (band h2).1).2
  have hp:(backTo pos (starEach r X.env)).any (·.1)=false:=by
   have q:=mA_star (env:=X.env) (pos:=pos) h2
   rw[star_cons hs]at q
   exact q
  rw[<- R.hK]
  have hn:bltName f≠"__name__"/\(bltName f == ("__debug__":Str))=false:=by cases f<;>decide +kernel
  cases blt_is f with
  |fn id hv hc=>exact pe_callB (hc X hcc) (R.glb h1) (R.blt _ h4) hv (sA es R h2) hn.1 hn.2 (star_cons hs) hp
  |ty T hv hc=>exact pe_callTy (hc X hcc) (R.glb h1) (R.blt _ h4) hv (sA es R h2) hn.1 hn.2 (star_cons hs) hp
 | .dnew,B,X,sc,e,R,h=>by
  refine⟨?_,trivial⟩
  refine v18_k h fun w1 e0 g=>?_
  clear h
  subst e0
  revert g
  intro h
  simp only[tE];exact pe_dnewK
 | .din neg a b,B,X,sc,e,R,h=>by
  refine⟨?_,trivial⟩
  refine v9_k h fun ea op' eb w1 e0 g=>?_
  clear h
  subst e0
  revert g
  intro h
  simp only[Bool.and_eq_true,decide_eq_true_eq]at h
  obtain⟨⟨⟨rfl,h1⟩,h2⟩,h3⟩:=h
  simp only[tE]
  cases neg with
  |true=>exact pe_cmp (pc_notInX R.hu1 (sE0 a R h1).1 (sE0 b R h2).1) (marks_ok h3)
  |false=>exact pe_cmp (pc_inX R.hu1 (sE0 a R h1).1 (sE0 b R h2).1) (marks_ok h3)
 | .dg2 a b c,B,X,sc,e,R,h=>by
  refine⟨?_,trivial⟩
  refine v21_k h fun eo nm apos y z pos e0 g=>?_
  clear h
  subst e0
  revert g
  intro h
  simp only[Bool.and_eq_true,decide_eq_true_eq]at h
  obtain⟨⟨⟨⟨⟨⟨⟨rfl,h1⟩,h2⟩,h3⟩,h4⟩,h5⟩,h6⟩,h7⟩:=h
  simp only[tE]
  have e2:starEach [y,z] X.env=[(false,eval y X.env),(false,eval z X.env)]:=by rw[star_cons h5,star_cons h7];rfl
  refine pe_dget2 R.hu1 (sE0 a R h1).1 (sE0 b R h4).1 (sE0 c R h6).1 ⟨base_ok h2,?_,h3,?_⟩
  .rw[e2];rfl
  .rw[e2];rfl
 | .met m o es,B,X,sc,e,R,h=>by
  refine⟨?_,trivial⟩
  refine v17_k h fun eo nm apos args pos e0 g=>?_
  clear h
  subst e0
  revert g
  intro h
  simp only[Bool.and_eq_true,decide_eq_true_eq]at h
  obtain⟨⟨⟨⟨⟨rfl,h1⟩,h2⟩,h3⟩,h4⟩,h5⟩:=h
  simp only[tE]
  rw[<- R.hK]
  obtain⟨id,M⟩:=met_is m
  cases args with
  |nil=>
   cases es with
   |cons c r=>exact no_tt h4
   |nil=>
    simp only[tA]
    exact pe_bm0 M.pa M.slot M.ty (M.h X) ((sE0 o R h1).1) (base_ok h2) h3
  |cons a r=>
   have hs:notStar a=true:=by
    cases es with
    |nil=>exact no_tt h4
    |cons c r=>exact(band (band h4).1).2
   have hq:=mA_star (env:=X.env) (pos:=pos) h4
   have hp:(backTo pos (starEach r X.env)).any (·.1)=false:=by
    rw[star_cons hs]at hq
    exact hq
   refine pe_bm M.pa M.slot M.ty (M.h X) ((sE0 o R h1).1) (sA es R h4) (base_ok h2) ?_ h3 (star_cons hs) hp
   have e1:(backTo pos (starEach (a :: r) X.env)).all (fun x=>!x.1)=true:=by
    rw[List.all_eq_true]
    intro x hx
    rw[List.any_eq_false]at hq
    simpa using hq x hx
   rw[e1]
   show(true&&true&&decide ((a :: r).length+0+0<30))=true
   simp only[Bool.true_and,decide_eq_true_eq]
   omega
 | .sst a,B,X,sc,e,R,h=>by
  refine⟨?_,trivial⟩
  refine v22_k h fun n1 w1 n2 w2 y w3 w4 e0 g=>?_
  clear h
  subst e0
  revert g
  intro h
  simp only[Bool.and_eq_true,decide_eq_true_eq,Bool.not_eq_true']at h
  obtain⟨⟨⟨⟨⟨⟨⟨⟨rfl,rfl⟩,h1⟩,h2⟩,h3⟩,h4⟩,h5⟩,h6⟩,h7⟩:=h
  simp only[tE]
  rw[<- R.hK]
  exact pe_sst (R.calm h7) (R.glb h1) (R.blt _ h2) (R.glb h3) (R.blt _ h4) (sE0 a R h5).1 (star_cons (es:=[]) h6)
 | .dcx k v own t it q,B,X,sc,e,R,h=>by
  refine⟨?_,trivial⟩
  refine v25_k h fun ke ve tg iter ifs a scope p2 e0 g=>?_
  clear h
  subst e0
  revert g
  intro h
  simp only[Bool.and_eq_true,decide_eq_true_eq,Bool.not_eq_true']at h
  obtain⟨⟨⟨⟨⟨⟨⟨⟨⟨⟨hh,hsc⟩,hke⟩,hve⟩,hown⟩,rfl⟩,h1⟩,h2⟩,h3⟩,h4⟩,h5⟩:=h
  simp only[tE]
  refine pe_compG (Is:=IsDK X.prog X.w) (nx:=fun D env=>emitD ke ve D env) new_dict (fun _=>rfl) new_dictK isDK_data dk_fin ⟨R.compSc hsc,?_,⟨[],rfl⟩,folded_ok h3,R.calm hh,fun _ _ _=>⟨rfl,rfl⟩,fun _ _ _ _=>⟨rfl,rfl⟩,fun _ _ _ _ _=>rfl,fun _ _ _ _ _=>rfl,gext_of hown,?_⟩ (sI it R h1 h2) rfl
  .rw[R.hN];exact(scOk_of hsc).2.2.2.2
  .intro s0 H0 ex D
   have R':=R.comp hh hsc s0 H0 ex
   exact⟨sG t R' h4,sQo q R' h5,[],by simp,run_emitK rfl (sE0 k R' hke).1 (sE0 v R' hve).1⟩
 | .comp elt own t it q .nil,B,X,sc,e,R,h=>by
  have D:CompX C X e (.comp elt own t it q .nil):=by
   obtain⟨ee,tg,iter,ifs,scope,pos,rfl,hh,hsc,helt,hown,h1,h2,h3,h4,h5⟩:=inv1 h
   refine⟨tg,iter,ifs,fun D env=>do let _ <- call (.builtin "list.append") [.ref D,<- eval ee env],scope,_,⟨R.compSc hsc,?_,⟨[],rfl⟩,folded_ok h3,R.calm hh,fun _ _ _=>⟨rfl,rfl⟩,fun _ _ _ _=>⟨rfl,rfl⟩,fun _ _ _ _ _=>rfl,fun _ _ _ _ _=>rfl,gext_of hown,?_⟩,sI it R h1 h2,rfl,fun _=>rfl,fun _ _ _=>⟨_,rfl⟩⟩
   .rw[R.hN];exact(scOk_of hsc).2.2.2.2
   .intro s0 H0 ex D
    have R':=R.comp hh hsc s0 H0 ex
    refine⟨sG t R' h4,sQo q R' h5,[],by simp,?_⟩
    simp only[tR]
    exact run_emit rfl (sE0 elt R' helt).1
  refine⟨?_,D⟩
  obtain⟨tg,iter,ifs,nx,scope,pos,D,hi,he,_⟩:=D
  simp only[tE]
  exact pe_comp D hi he
 | .comp elt own t it q (.cons _ _ _ _ _),B,X,sc,e,R,h=>(inv4 h).elim
termination_by structural c=>c
theorem sA {C:Rc}:∀(es:Ces) {B:List Str} {X:Cx} {sc:Scope} {xs:List Expr},Rok C B X sc->mA C.N B sc es xs=true->PA X xs (tA C es)
 | .nil,B,X,sc,xs,R,h=>by
  refine v29_k h fun e0 g=>?_
  clear h
  subst e0
  revert g
  intro h
  simp only[tA]
  exact pa_nil
 | .cons e r,B,X,sc,xs,R,h=>by
  refine v30_k h fun x xs e0 g=>?_
  clear h
  subst e0
  revert g
  intro h
  simp only[Bool.and_eq_true]at h
  simp only[tA]
  exact pa_cons ((sE0 e R h.1.1).1) (sA r R h.2) (star_cons h.1.2)
termination_by structural c=>c
theorem sQ {C:Rc}:∀(q:Cq) {B:List Str} {X:Cx} {sc:Scope} {e:Expr},Rok C B X sc->mQ C.N B sc q e=true->PT X e (tQ C q)/\((∃op vs pos,e=.BoolOp op vs pos)->PW X e (tQ C q))
 | .val c,B,X,sc,e,R,h=>by
  replace h:=band h
  refine⟨?_,fun⟨op,vs,pos,z⟩=>?_⟩
  .simp only[tQ]
   rw[<- R.hK]
   exact pt_truth (sE0 c R h.1).1 (plainT_ok h.2)
  .subst z;exact absurd h.2 (by simp[plainT])
 | .din neg a b,B,X,sc,e,R,h=>by
  refine v9_k h fun ea op' eb w1 e0 g=>?_
  clear h
  subst e0
  revert g
  intro h
  simp only[Bool.and_eq_true,decide_eq_true_eq]at h
  obtain⟨⟨⟨rfl,h1⟩,h2⟩,h3⟩:=h
  simp only[tQ]
  cases neg with
  |true=>exact⟨pt_cmp (pc_notInX R.hu1 (sE0 a R h1).1 (sE0 b R h2).1) (marks_ok h3),fun⟨op,vs,pos,z⟩=>by cases z⟩
  |false=>exact⟨pt_cmp (pc_inX R.hu1 (sE0 a R h1).1 (sE0 b R h2).1) (marks_ok h3),fun⟨op,vs,pos,z⟩=>by cases z⟩
 | .and a b,B,X,sc,e,R,h=>by
  replace h:=vAnd_of h
  rcases h with⟨x,y,pos,rfl,h⟩|⟨x,y,z,r,pos,rfl,h⟩
  .simp only[Bool.and_eq_true]at h
   simp only[tQ]
   have w:PW X (.BoolOp .And [x,y] pos) (tAnd (tQ C a) (tQ C b)):=pw_and (sQ a R h.1).1 (pw_and1 (sQ b R h.2).1)
   exact⟨w.pt,fun _=>w⟩
  .simp only[Bool.and_eq_true]at h
   simp only[tQ]
   have w:=pw_and (sQ a R h.1).1 ((sQ b R h.2).2 ⟨_,_,_,rfl⟩)
   exact⟨w.pt,fun _=>w⟩
 | .or a b,B,X,sc,e,R,h=>by
  replace h:=vOr_of h
  rcases h with⟨x,y,pos,rfl,h⟩|⟨x,y,z,r,pos,rfl,h⟩
  .simp only[Bool.and_eq_true]at h
   simp only[tQ]
   have w:PW X (.BoolOp .Or [x,y] pos) (tOr (tQ C a) (tQ C b)):=pw_or (sQ a R h.1).1 (pw_or1 (sQ b R h.2).1)
   exact⟨w.pt,fun _=>w⟩
  .simp only[Bool.and_eq_true]at h
   simp only[tQ]
   have w:=pw_or (sQ a R h.1).1 ((sQ b R h.2).2 ⟨_,_,_,rfl⟩)
   exact⟨w.pt,fun _=>w⟩
 | .cmp op a b,B,X,sc,e,R,h=>by
  refine v9_k h fun ea op' eb w1 e0 g=>?_
  clear h
  subst e0
  revert g
  intro h
  simp only[Bool.and_eq_true,decide_eq_true_eq]at h
  obtain⟨⟨⟨rfl,h1⟩,h2⟩,h3⟩:=h
  simp only[tQ]
  rw[<- R.hK]
  exact⟨pt_cmpR (cmp_ok R.hu _) (sE0 a R h1).1 (sE0 b R h2).1 (marks_ok h3),fun⟨op,vs,pos,z⟩=>by cases z⟩
termination_by structural c=>c
theorem sQo {C:Rc}:∀(q:Cqo) {B:List Str} {X:Cx} {sc:Scope} {es:List Expr},Rok C B X sc->mQo C.N B sc q es=true->PTs X es (tQo C q)
 | .none,B,X,sc,es,R,h=>by
  refine v29_k h fun e0 g=>?_
  clear h
  subst e0
  revert g
  intro h
  simp only[tQo];exact pts_nil
 | .some q,B,X,sc,es,R,h=>by
  refine v31_k h fun e e0 g=>?_
  clear h
  subst e0
  revert g
  intro h
  simp only[tQo];exact pts_one (sQ q R h).1
termination_by structural c=>c
theorem sO {C:Rc}:∀(o:Co) {B:List Str} {X:Cx} {sc:Scope} {e:Option Expr},Rok C B X sc->mO C.N B sc o e=true->PO X e (tO C o)
 | .none,B,X,sc,e,R,h=>by
  refine v32_k h fun e0 g=>?_
  clear h
  subst e0
  revert g
  intro h
  simp only[tO];exact po_none
 | .some c,B,X,sc,e,R,h=>by
  refine v33_k h fun y e0 g=>?_
  clear h
  subst e0
  revert g
  intro h
  simp only[tO];exact po_some (sE0 c R h).1
termination_by structural c=>c
theorem sI {C:Rc}:∀(i:Ci) {B:List Str} {X:Cx} {sc:Scope} {x tg:Expr},Rok C B X sc->mI C.N B sc i x=true->zipT i tg=true->PI X tg x (tI C i)
 | .val c,B,X,sc,x,tg,R,h,_=>by
  simp only[tI]
  rw[<- R.hK]
  exact pi_val (sE0 c R h).1
 | .range1 a,B,X,sc,x,tg,R,h,_=>by
  refine v23_k h fun n w1 y w2 e0 g=>?_
  clear h
  subst e0
  revert g
  intro h
  simp only[Bool.and_eq_true,decide_eq_true_eq]at h
  obtain⟨⟨⟨⟨rfl,h1⟩,h2⟩,h3⟩,h4⟩:=h
  simp only[tI]
  exact pi_range1 (R.glb h1) (R.blt _ h2) (pa_cons (sE0 a R h3).1 pa_nil (star_cons h4)) (star_cons h4)
 | .enum a,B,X,sc,x,tg,R,h,hz=>by
  refine v23_k h fun n w1 y w2 e0 g=>?_
  clear h
  subst e0
  revert g
  intro h
  simp only[Bool.and_eq_true,decide_eq_true_eq]at h
  obtain⟨⟨⟨⟨rfl,h1⟩,h2⟩,h3⟩,h4⟩:=h
  simp only[tI]
  rw[<- R.hK]
  cases tg with
  |Tuple es k p=>exact pi_enum (R.glb h1) (R.blt _ h2) (pa_cons (sE0 a R h3).1 pa_nil (star_cons h4)) (star_cons h4)
  |_=>cases hz
 | .range3 a b c,B,X,sc,x,tg,R,h,_=>by
  refine v35_k h fun n w1 y z u w2 e0 g=>?_
  clear h
  subst e0
  revert g
  intro h
  simp only[Bool.and_eq_true,decide_eq_true_eq]at h
  obtain⟨⟨⟨⟨⟨⟨⟨⟨rfl,h1⟩,h2⟩,h3⟩,h4⟩,h5⟩,h6⟩,h7⟩,h8⟩:=h
  simp only[tI]
  have e2:starEach [_] X.env=[(false,eval _ X.env)]:=star_cons (es:=[]) h8
  have e3:starEach [_,_] X.env=[(false,eval _ X.env),(false,eval _ X.env)]:=(star_cons (es:=[_]) h6).trans (by rw[e2])
  exact pi_range3 (R.glb h1) (R.blt _ h2) (pa_cons (sE0 a R h3).1 (pa_cons (sE0 b R h5).1 (pa_cons (sE0 c R h7).1 pa_nil (star_cons h8)) (star_cons h6)) (star_cons h4)) (by rw[star_cons h4,e3]) e3
 | .rev a,B,X,sc,x,tg,R,h,_=>by
  refine v23_k h fun n w1 y w2 e0 g=>?_
  clear h
  subst e0
  revert g
  intro h
  simp only[Bool.and_eq_true,decide_eq_true_eq]at h
  obtain⟨⟨⟨⟨rfl,h1⟩,h2⟩,h3⟩,h4⟩:=h
  simp only[tI]
  rw[<- R.hK]
  exact pi_rev (R.glb h1) (R.blt _ h2) (pa_cons (sE0 a R h3).1 pa_nil (star_cons h4)) (star_cons h4)
termination_by structural c=>c
theorem sG {C:Rc}:∀(t:Ct) {B:List Str} {X:Cx} {sc:Scope} {e:Expr},Rok C B X sc->mT C.N B sc t e=true->PG X e (tG C t)
 | .name i,B,X,sc,e,R,h=>by
  refine v1_k h fun x w1 e0 g=>?_
  clear h
  subst e0
  revert g
  intro h
  simp only[Bool.and_eq_true]at h
  obtain⟨h1,h2,h3⟩:=nameOk_of h.1
  obtain⟨h4,h5⟩:=R.locb h.2
  simp only[tG]
  exact pg_name (by rw[R.hN];exact R.nd) (by rw[R.hN];exact h1) h4 h5
 | .tup ts,B,X,sc,e,R,h=>by
  refine v12_k h fun es w1 w2 e0 g=>?_
  clear h
  subst e0
  revert g
  intro h
  simp only[tG]
  rw[<- R.hK]
  simp only[Bool.and_eq_true,Bool.not_eq_true']at h
  exact pg_tup (R.calm h.2) (sGs ts R h.1) (assign_star h.1).1 (assign_star h.1).2
 | .sub o i,B,X,sc,e,R,h=>by
  refine v14_k h fun eo ei w1 e0 g=>?_
  clear h
  subst e0
  revert g
  intro h
  simp only[Bool.and_eq_true]at h
  simp only[tG]
  exact pg_sub (sE0 o R h.1.1).1 (sE0 i R h.1.2).1 set_list (asg_sub h.2)
termination_by structural c=>c
theorem sGs {C:Rc}:∀(ts:Cts) {B:List Str} {X:Cx} {sc:Scope} {es:List Expr},Rok C B X sc->mTs C.N B sc ts es=true->PGs X es (tGs C ts)
 | .nil,B,X,sc,es,R,h=>by
  refine v29_k h fun e0 g=>?_
  clear h
  subst e0
  revert g
  intro h
  simp only[tGs];exact pgs_nil
 | .cons t r,B,X,sc,es,R,h=>by
  refine v30_k h fun x xs e0 g=>?_
  clear h
  subst e0
  revert g
  intro h
  simp only[Bool.and_eq_true]at h
  simp only[tGs]
  exact pgs_cons (sG t R h.1.1) (sGs r R h.2) (assign_each h.1.2)
termination_by structural c=>c
end
theorem sE {C:Rc} {B:List Str} (c:Ce) {X:Cx} {sc:Scope} {e:Expr} (R:Rok C B X sc) (h:mE C.N B sc c e=true):PE X e (tE C c):=(sE0 c R h).1
end R3
set_option maxHeartbeats 4000000
namespace R3
open PySem PySem.Spec PyProof.Rows L2
noncomputable def noCompX:Expr->Bool
 | .ListComp ..=>false
 | .SetComp ..=>false
 | .DictComp ..=>false
 |_=>true
theorem swaps_no {x tg:Expr} {l:Nat} {env:Env} (h:noCompX x=true):swapsWithSole [tg] x l env=pure false:=by
 cases x<;>first|rfl|cases h
theorem swaps_none {x:Expr} {l:Nat} {env:Env} (h:noCompX x=true):swapsWith x none l env=pure false:=by
 cases x<;>first|rfl|cases h
theorem mE_comp {N B:List Str} {sc:Scope} {c:Ce} {x:Expr} (h:mE N B sc c x=true) (hd:isDcx c=false) (hx:noCompX x=false):∃elt own t it q r,c=.comp elt own t it q r/\∃ee gens scope pos,x=.ListComp ee gens scope pos:=by
 cases x<;>first|(simp[noCompX]at hx;done)|skip
 .cases c<;>first|(exact no_tt h)|(cases hd;done)|exact⟨_,_,_,_,_,_,rfl,_,_,_,_,rfl⟩
 .cases c<;>first|(exact no_tt h)|(cases hd;done)|(rename_i r;cases r<;>first|(exact no_tt h)|(cases hd;done)|(rename_i r;cases r<;>first|(exact no_tt h)|(cases hd;done)|(rename_i r;cases r<;>exact no_tt h)))
 .cases c<;>first|(exact no_tt h)|(cases hd;done)|(rename_i r;cases r<;>first|(exact no_tt h)|(cases hd;done)|(rename_i r;cases r<;>first|(exact no_tt h)|(cases hd;done)|(rename_i r;cases r<;>exact no_tt h)))
noncomputable def isStar:Expr->Bool
 | .Starred ..=>true
 |_=>false
theorem nst {e:Expr} (h:notStar e=true):isStar e=false:=by
 cases e<;>first|rfl|cases h
theorem swapped_two {x y:Str} {px py pt pt2:Pos} {kt k2:Nat} {ea eb:Expr} {env:Env} (hb:env.scope.kind=.function) (kx:env.kindOf x=some .local) (ky:env.kindOf y=some .local) (hxy:x≠y) (hl:px.line=py.line) (h8:notStar ea=true) (h9:notStar eb=true)
  (h11:(foldedForSure 8 ea&&foldedForSure 8 eb)=false) (h12:(constantsAlone 8 ea&&constantsAlone 8 eb)=false):swappedStores [.Tuple [.Name x px,.Name y py] kt pt] (.Tuple [ea,eb] k2 pt2) env=pure (some [x,y]):=by
 have hbk:env.blockKind=.function:=by unfold Env.blockKind;rw[hb];rfl
 have p1:(Expr.Name x px).pos=px:=rfl
 have p2:(Expr.Name y py).pos=py:=rfl
 have hyx:(y == x)=false:=by simpa using fun z=>hxy z.symm
 have s1:[ea,eb].any isStar=false:=by
  rw[List.any_cons,List.any_cons,List.any_nil,nst h8,nst h9]
  rfl
 have s2:[ea,eb].all (foldedForSure 8)=false:=by
  rw[List.all_cons,List.all_cons,List.all_nil,Bool.and_true];exact h11
 have s3:[ea,eb].all (constantsAlone 8)=false:=by
  rw[List.all_cons,List.all_cons,List.all_nil,Bool.and_true];exact h12
 have s4:([x,y].eraseDups).length=2:=by
  simp[List.eraseDups_cons,hxy,hyx]
 unfold swappedStores
 dsimp only
 refine(if_neg ?_).trans ((if_neg (Bool.eq_false_iff.mp s1)).trans ?_)
 .simp[hbk]
 rw[s2,s3]
 simp[kx,ky,p1,p2,hl,List.filterMap_cons,s4]
theorem one_assign {tg:Expr} {env:Env} (h:notStar tg=true):(assignEach [tg] env).map (·.2)=[assign tg env]:=by
 cases tg<;>first|rfl|cases h
noncomputable def notPair:Expr->Expr->Bool
 | .Tuple ..,.Tuple ..=>false
 | .List ..,.Tuple ..=>false
 |_,_=>true
theorem swapped_no {tg x:Expr} {env:Env} (h:notPair tg x=true):swappedStores [tg] x env=pure none:=by
 cases tg<;>first|rfl|(cases x<;>first|rfl|cases h)
theorem swapped_fold {tg:Expr} {vs:List Expr} {k:Nat} {pos:Pos} {env:Env} (h:vs.all (foldedForSure 8)=true):swappedStores [tg] (.Tuple vs k pos) env=pure none:=by
 have key:∀ts:List Expr,swappedStores [.Tuple ts 0 pos] (.Tuple vs k pos) env=pure none:=by
  intro ts
  unfold swappedStores
  dsimp only
  split
  .rfl
  .split
   .rfl
   .split
    .rfl
    .rfl
 cases tg<;>first|rfl|exact key _
theorem mT_list {N B:List Str} {sc:Scope} {t:Ct} {a:List Expr} {p:Pos} (h:mT N B sc t (.List a p)=true):False:=by
 cases t<;>exact no_tt h
section
variable {C:Rc} {B:List Str} {X:Cx} {sc:Scope}
theorem Rok.suite (R:Rok C B X sc) (e:Addr):Rok { C with xk:=fun _=>E0 } ("~" :: "^" :: B) (X.inX e) sc:=by
 have t1:tld ("~" :: "^" :: B)=true:=tld_cons
 have t2:hat ("~" :: "^" :: B)=true:=decide_eq_true (List.mem_cons_of_mem _ List.mem_cons_self)
 refine⟨R.hN,R.nd,R.hK,PassesOwn.never,(fun z=>by rw[t2]at z;cases z),R.hu,R.gd,R.loc,R.cel,R.fre,R.glo,(fun _ _ _ z=>by rw[t2]at z;cases z),fun x hx=>?_,R.mrk,R.cls,(fun z=>by rw[t1]at z;cases z),(fun z=>by rw[t1]at z;cases z),(fun z=>by rw[t1]at z;cases z)⟩
 rcases List.mem_cons.mp hx with rfl|hx
 .exact R.mrk.1
 .rcases List.mem_cons.mp hx with rfl|hx
  .exact R.mrk.2.1
  .exact R.blt x hx
end
set_option maxHeartbeats 4000000
mutual
theorem sS:∀(c:Cs) {C:Rc} {B:List Str} {X:Cx} {sc:Scope} {s:Stmt},Rok C B X sc->X.env.scope.kind=.function->mS C.N B sc c s=true->PS X s (tS C c)
 | .expr e,C,B,X,sc,s,R,hk,h=>by
  refine v36_k h fun x w1 e0 g=>?_
  clear h
  subst e0
  revert g
  intro h
  simp only[Bool.and_eq_true,Bool.not_eq_true']at h
  simp only[tS]
  refine ps_expr (sE e R h.1.1) (swaps_none ?_)
  cases hx:noCompX x with
  |true=>rfl
  |false=>
   obtain⟨elt,own,t,it,q,r,rfl,_⟩:=mE_comp h.1.1 h.2 hx
   exact absurd h.1.2 (by simp)
 | .ret e,C,B,X,sc,s,R,hk,h=>by
  refine v37_k h fun x w1 e0 g=>?_
  clear h
  subst e0
  revert g
  intro h
  simp only[tS]
  exact ps_ret (sE e R h)
 | .asg t e,C,B,X,sc,s,R,hk,h=>by
  refine v39_k h fun tg x pos e0 g=>?_
  clear h
  subst e0
  revert g
  intro h
  simp only[Bool.and_eq_true]at h
  obtain⟨⟨⟨⟨h1,h0⟩,h2⟩,h3⟩,h4⟩:=h
  simp only[Bool.not_eq_true']at h0
  simp only[tS]
  have hw:swappedStores [tg] x X.env=pure none:=by
   cases tg with
   |Tuple a b c=>cases x<;>first|exact swapped_no rfl|exact swapped_fold h4|(simp at h4)
   |List a b=>exact(mT_list h2).elim
   |_=>exact swapped_no rfl
  cases hx:noCompX x with
  |true=>exact ps_asg (sE e R h1) (sG t R h2) (swaps_no hx) hw (one_assign h3)
  |false=>
   obtain⟨elt,own,t',it,q,r,rfl,ee,gens,scope,p2,rfl⟩:=mE_comp h1 h0 hx
   have D:=(sE0 _ R h1).2
   obtain⟨tg',iter,ifs,nx,scope',pos',D,hi,he,hu,hsw⟩:=D
   cases t with
   |name i=>
    cases tg with
    |Name y py=>
     obtain⟨b,hb⟩:=hsw y py pos.line
     cases b with
     |true=>
      replace h2:=band h2
      obtain⟨g1,g2,g3⟩:=nameOk_of h2.1
      obtain⟨g4,g5⟩:=R.locb h2.2
      simp only[tE,tG]
      exact ps_setcomp D hi (by rw[R.hN];exact R.nd) (by rw[R.hN];exact g1) g4 g5 (hu _) hb
     |false=>exact ps_asg (sE _ R h1) (sG _ R h2) hb hw (one_assign h3)
    |_=>exact no_tt h2
   |tup ts=>
    cases tg with
    |Tuple a b c=>simp at h4
    |_=>exact no_tt h2
   |sub o i=>
    cases tg with
    |Subscript a b c=>exact ps_asg (sE _ R h1) (sG _ R h2) rfl hw (one_assign h3)
    |_=>exact no_tt h2
 | .par i j a b,C,B,X,sc,s,R,hk,h=>by
  refine v43_k h fun x px y py kt pt ea eb k2 pt2 pos e0 g=>?_
  clear h
  subst e0
  revert g
  intro h
  simp only[Bool.and_eq_true,decide_eq_true_eq,Bool.not_eq_true',beq_iff_eq]at h
  obtain⟨⟨⟨⟨⟨⟨⟨⟨⟨⟨⟨⟨h1,h2⟩,h3⟩,h4⟩,h5⟩,h6⟩,h7⟩,h8⟩,h9⟩,h10⟩,h11⟩,h12⟩,hh⟩:=h
  obtain⟨g1,g2,g3⟩:=nameOk_of h1
  obtain⟨f1,f2,f3⟩:=nameOk_of h2
  simp only[tS]
  have lx:=R.loc x h4
  have ly:=R.loc y h5
  refine ps_par (R.calm hh) (by rw[R.hN];exact R.nd) (by rw[R.hN];exact g1) (by rw[R.hN];exact f1) h3 lx ly (pa_cons (sE a R h6) (pa_cons (sE b R h7) pa_nil (star_cons h9)) (star_cons h8)) ?_
  have hxy:x≠y:=fun z=>h3 (nodup_ix R.nd g1 (z ▸ f1))
  exact swapped_two hk lx ly hxy h10 h8 h9 h11 h12
 | .dput o i e,C,B,X,sc,s,R,hk,h=>by
  refine v48_k h fun eo ei w1 ee w2 e0 g=>?_
  clear h
  subst e0
  revert g
  intro h
  simp only[Bool.and_eq_true]at h
  obtain⟨⟨⟨⟨h1,h2⟩,h3⟩,h4⟩,h5⟩:=h
  simp only[tS]
  refine ps_dput R.hu1 (sE o R h1) (sE i R h2) (sE e R h4) ?_
  cases ee<;>first|rfl|cases h5
 | .aug i sub e,C,B,X,sc,s,R,hk,h=>by
  refine v49_k h fun x w1 op ee w2 e0 g=>?_
  clear h
  subst e0
  revert g
  intro h
  simp only[Bool.and_eq_true,decide_eq_true_eq]at h
  obtain⟨⟨⟨h1,h2⟩,h3⟩,rfl⟩:=h
  obtain⟨g1,g2,g3⟩:=nameOk_of h1
  obtain⟨g4,g5⟩:=R.locb h2
  simp only[tS]
  cases sub with
  |true=>exact ps_aug (by rw[R.hN];exact R.nd) (by rw[R.hN];exact g1) g4 (sE e R h3) ip_sub g5
  |false=>exact ps_aug (by rw[R.hN];exact R.nd) (by rw[R.hN];exact g1) g4 (sE e R h3) ip_add g5
 | .ite q a b,C,B,X,sc,s,R,hk,h=>by
  refine v50_k h fun x ss rs w1 e0 g=>?_
  clear h
  subst e0
  revert g
  intro h
  simp only[Bool.and_eq_true]at h
  simp only[tS]
  exact ps_if (sQ q R h.1.1).1 (sSs a R hk h.1.2) (sSs b R hk h.2)
 | .whl q b,C,B,X,sc,s,R,hk,h=>by
  refine v51_k h fun x ss w1 e0 g=>?_
  clear h
  subst e0
  revert g
  intro h
  simp only[Bool.and_eq_true]at h
  simp only[tS]
  exact ps_while R.own (sQ q R h.1).1 (sSs b R hk h.2)
 | .for_ t it b,C,B,X,sc,s,R,hk,h=>by
  refine v52_k h fun tg iter ss w1 e0 g=>?_
  clear h
  subst e0
  revert g
  intro h
  simp only[Bool.and_eq_true,Bool.not_eq_true']at h
  obtain⟨⟨⟨⟨⟨h1,h2⟩,h3⟩,h4⟩,h5⟩,hh⟩:=h
  simp only[tS]
  exact ps_for R.own (R.calm hh) (sI it R h1 h2) (sG t R h4) (sSs b R hk h5) (folded_ok h3)
 | .brk,C,B,X,sc,s,R,hk,h=>by
  refine v53_k h fun w1 e0 g=>?_
  clear h
  subst e0
  revert g
  intro h
  simp only[tS];exact ps_break
theorem sSs:∀(c:Css) {C:Rc} {B:List Str} {X:Cx} {sc:Scope} {ss:List Stmt},Rok C B X sc->X.env.scope.kind=.function->mSs C.N B sc c ss=true->PSs X ss (tSs C c)
 | .nil,C,B,X,sc,ss,R,hk,h=>by
  refine v56_k h fun e0 g=>?_
  clear h
  subst e0
  revert g
  intro h
  simp only[tSs];exact pss_nil
 | .cons c r,C,B,X,sc,ss,R,hk,h=>by
  refine v57_k h fun x xs e0 g=>?_
  clear h
  subst e0
  revert g
  intro h
  simp only[Bool.and_eq_true]at h
  simp only[tSs]
  exact pss_cons (sS c R hk h.1) (sSs r R hk h.2)
end
section
variable {P:Program} {w:World} {K:W.Frag} {mg:Str->Option Value} {base:Heap}
structure Ask (P:Program) (w:World) (K:W.Frag) (mg:Str->Option Value) (base:Heap) (k:Nat) (C:Rc):Prop where
 fs:∀y sp',C.fs y=some sp'->∃f' fd' ps',(FnOk P w K mg base CX0 k f' fd' ps' sp'\/FnOk P w K mg base (CX1 P w mg) k f' fd' ps' sp'/\bang y∈C.B)/\mg y=some (.ref f')/\W.keepIn K (.ref f')=true/\Binds K fd' ps' []
 B:∀y∈C.B,mg y=none
 mrk:mg "~"=none/\mg "^"=none/\mg "%"=none
 cl:∀c Ca,C.cl c=some Ca->mg c=some (.ref Ca)/\W.nsIn K mainGlobals c=some (some (.ref Ca))
 nt:tld C.B=false
 nh:hat C.B=false
theorem code_ok {x qual:Str} {st:Stmt} {f:Addr} {fd:FuncData} {ps:List Str} {k:Nat} {sp:Sp} (F:Fun K x qual st f fd) (C:Rc) (S:FnScope C.N ps (defScope st)) (hK:C.K=K) (code:Css) (hm:mSs C.N C.B (defScope st) code (defBody st)=true)
  (len:∀vs H Q E,sp vs H Q E->vs.length=ps.length) (ask:Ask P w K mg base k C) (hxk:C.xk=fun _=>E0)
  (hbody:∀vs H Q E,sp vs H Q E->tSs C code { nx:=fun _ H'=>Q .non H',rt:=Q } (start C.N vs) H):FnOk P w K mg base CX0 (k+1) f fd ps sp:=by
 refine F.ok S len fun cdv A outer s H vs Q E hr h=>⟨_,sSs code (sc:=defScope st) (B:=C.B) ?_ S.kind hm,hbody vs H Q E h⟩
 refine⟨rfl,S.nd,hK.symm,PassesOwn.never,fun _=>rfl,hr.units,hr.gd,fun _ e=>e,fun _ e=>⟨e,rfl⟩,fun _ e=>.inr e,fun _ e=>e,fun y sp' e _ _=>?_,ask.B,ask.mrk,ask.cl,fun _=>⟨rfl,fun _=>rfl,rfl,rfl⟩,fun _=>ask.nh,fun _ _ nm Ca pins σ H s e t _ _ _ _ _ _ z=>?_⟩
 .obtain⟨f',fd',ps',h1,h2,h3,h4⟩:=ask.fs y sp' e
  rcases h1 with h1|⟨h1,hb⟩
  .exact⟨f',fd',ps',k,CX0,h1,hr,h2,h3,h4,.inl rfl,passS0⟩
  .refine⟨f',fd',ps',k,_,h1,hr,h2,h3,h4,.inr ⟨rfl,hb⟩,?_⟩
   rintro pins σ H s e s' I ⟨ea,T,Ca,nm,H',_,_,_,_,_,_,_,_,_,_,_,z⟩
   rw[hxk]at z
   exact z.elim
 .rw[hxk]at z
  exact z.elim
end
def BoxAt (a:Addr) (k:Nat) (h:Heap):Prop:=∃(x y z:Int) (t1 t2 t3:Tok) (n:Nat),h.get? a=some { cls:=.type "list",data:=.seq #[.int x t1,.int y t2,.int z t3] n }/\0<=x/\0<=y/\y<2 ^ 62/\0<=z/\z<=k
noncomputable def BoxO (a:Addr) (k:Nat):HO:=.ext (BoxAt a k)
noncomputable def BoxL (x y z:Int):HO:=.lst [.int x,.int y,.int z]
theorem box_le {a:Addr} {n k:Nat} (e:BoxO a n=BoxO a k):n<=k:=by
 have e1:BoxAt a n=BoxAt a k:=HO.ext.inj e
 let o:Obj:={ cls:=.type "list",data:=.seq #[.int 0 0,.int 0 0,.int n 0] 0 }
 let h0:Heap:={ (default:Heap)with objs:=Array.replicate a default }
 have hs:h0.objs.size=a:=Array.size_replicate
 have g:(h0.push o).get? a=some o:=by
  have:=Heap.get?_push_size h0 (o:=o) rfl
  rw[hs]at this
  exact this
 have q:BoxAt a n (h0.push o):=⟨0,0,n,0,0,0,0,g,by omega,by omega,by decide,by omega,by omega⟩
 rw[e1]at q
 obtain⟨x,y,z,t1,t2,t3,m,g2,_,_,_,_,hz⟩:=q
 rw[g]at g2
 have g3:=Option.some.inj g2
 have g4:(#[.int 0 0,.int 0 0,.int n 0]:Array Value)=#[.int x t1,.int y t2,.int z t3]:=by
  have:o.data=_:=congrArg Obj.data g3
  injection this
 have g6:=congrArg Array.toList g4
 simp only[List.cons.injEq,Value.int.injEq]at g6
 have g5:(n:Int)=z:=g6.2.2.1.1
 omega
theorem box_close {P:Program} {w:World} {H:Hp} {h:Heap} {b:Addr} {x y z:Int} {k:Nat} (hok:HOk P w H h) (e:H b=some (BoxL x y z)) (hx:0<=x) (hy:0<=y) (hy2:y<2 ^ 62) (hz:0<=z) (hk:z<=k):HOk P w (upd H b (BoxO b k)) h:=by
 intro c o ec
 by_cases hc:c=b
 .subst hc
  rw[upd_same]at ec
  cases ec
  obtain⟨_,its,n,rv,g⟩:=(show ObjOk P w H h c (.lst _) from hok c _ e)
  cases rv with
  |cons r1 r=>
   cases r with
   |cons r2 r=>
    cases r with
    |cons r3 r=>
     cases r
     obtain⟨t1,rfl⟩:=r1
     obtain⟨t2,rfl⟩:=r2
     obtain⟨t3,rfl⟩:=r3
     refine⟨⟨x,y,z,t1,t2,t3,n,g,hx,hy,hy2,hz,hk⟩,⟨_,g⟩,fun h1 h2 q kk=>?_⟩
     obtain⟨x,y,z,t1,t2,t3,n,g,r⟩:=q
     exact⟨x,y,z,t1,t2,t3,n,kk _ g,r⟩
 .rw[upd_ne hc]at ec
  have ne:∀d u,H d=some u->(∀xs,u≠.lst xs)->d≠b:=fun d u q nu z=>by subst z;rw[e]at q;cases q;exact nu _ rfl
  exact(hok c o ec).stay (fun _ _ _ q=>q) (fun d q=>by rw[upd_ne (ne d _ q fun _ z=>by cases z)];exact q) fun d xs q=>by rw[upd_ne (ne d _ q fun _ z=>by cases z)];exact q
theorem box_open {P:Program} {w:World} {H:Hp} {h:Heap} {b:Addr} {k:Nat} (hok:HOk P w H h) (e:H b=some (BoxO b k)):∃x y z:Int,0<=x/\0<=y/\y<2 ^ 62/\0<=z/\z<=k/\HOk P w (upd H b (BoxL x y z)) h:=by
 obtain⟨⟨x,y,z,t1,t2,t3,n,g,hx,hy,hy2,hz,hk⟩,_,_⟩:=(show ObjOk P w H h b (.ext _) from hok b _ e)
 refine⟨x,y,z,hx,hy,hy2,hz,hk,fun c o ec=>?_⟩
 by_cases hc:c=b
 .subst hc
  rw[upd_same]at ec
  cases ec
  exact⟨by show 3<=sizeLine;decide,[.int x t1,.int y t2,.int z t3],n,.cons ⟨_,rfl⟩ (.cons ⟨_,rfl⟩ (.cons ⟨_,rfl⟩ .nil)),g⟩
 .rw[upd_ne hc]at ec
  have ne:∀d u,H d=some u->(∀φ,u≠.ext φ)->d≠b:=fun d u q nu z=>by subst z;rw[e]at q;cases q;exact nu _ rfl
  exact(hok c o ec).stay (fun _ _ _ q=>q) (fun d q=>by rw[upd_ne (ne d _ q fun _ z=>by cases z)];exact q) fun d xs q=>by rw[upd_ne (ne d _ q fun _ z=>by cases z)];exact q
theorem un_close {fs ex:List Addr} {H H':Hp} {h h':Heap} {b:Addr} {xs:List V} {o:HO} (u:Un fs ex H H' h h') (e:H' b=some (.lst xs)):Un fs ex H (upd H' b o) h h' where
 keep:=u.keep
 slot:=u.slot
 free:=fun c ob q n hx=>by
  have z:=u.free c ob q n hx
  rw[upd_ne (fun z2=>by subst z2;rw[e]at z;cases z)]
  exact z
 there:=u.there
 tups:=fun c ys q=>by
  have z:=u.tups c ys q
  rw[upd_ne (fun z2=>by subst z2;rw[e]at z;cases z)]
  exact z
 frzs:=fun c ob ys q=>by
  have z:=u.frzs c ob ys q
  rw[upd_ne (fun z2=>by subst z2;rw[e]at z;cases z)]
  exact z
 tbls:=fun c ps q=>by
  obtain⟨m,z⟩:=u.tbls c ps q
  exact⟨m,by rw[upd_ne (fun z2=>by subst z2;rw[e]at z;cases z)];exact z⟩
theorem un_open {fs ex:List Addr} {H H':Hp} {h h':Heap} {b:Addr} {φ:Heap->Prop} {o:HO} (u:Un fs ex (upd H b o) H' h h') (e:H b=some (.ext φ)):Un fs ex H H' h h':=by
 have ne:∀c,H c=none->c≠b:=fun c n z=>by subst z;rw[e]at n;cases n
 have ne2:∀c v,H c=some v->(∀ψ,v≠.ext ψ)->c≠b:=fun c v q nv z=>by subst z;rw[e]at q;cases q;exact nv _ rfl
 exact⟨fun c ob q n=>u.keep c ob q (by rw[upd_ne (ne c n)];exact n),fun c ob q n=>u.slot c ob q (by rw[upd_ne (ne c n)];exact n),fun c ob q n=>u.free c ob q (by rw[upd_ne (ne c n)];exact n),u.there,
  fun c ys q=>u.tups c ys (by rw[upd_ne (ne2 c _ q fun _ z=>by cases z)];exact q),fun c ob ys q=>u.frzs c ob ys (by rw[upd_ne (ne2 c _ q fun _ z=>by cases z)];exact q),fun c ps q=>u.tbls c ps (by rw[upd_ne (ne2 c _ q fun _ z=>by cases z)];exact q)⟩
section
variable {P:Program} {w:World} {K:W.Frag} {mg:Str->Option Value} {base:Heap} {k:Nat} {f:Addr} {fd:FuncData} {ps:List Str} {sp sp':Sp}
def Shut (Q:VK) (v:V) (H:Hp):Prop:=∃b x y z m,H b=some (BoxL x y z)/\0<=x/\0<=y/\y<2 ^ 62/\0<=z/\z<=((m:Nat):Int)/\Q v (upd H b (BoxO b m))
theorem shut_fn (F:FnOk P w K mg base CX0 k f fd ps sp) (h:∀vs H Q E,sp' vs H Q E->sp vs H (Shut Q) E):FnOk P w K mg base CX0 k f fd ps sp':=by
 refine⟨fun vs H Q E q=>F.len vs H _ E (h _ _ _ _ q),fun A outer s H args us vs Q E hr e0 hb hv hs=>?_⟩
 refine codeAny_mono (F.run A outer s H args us vs _ E hr e0 hb hv (h _ _ _ _ hs)) fun r s' hq=>?_
 cases r with
 |error e=>exact hq
 |ok fl=>
  cases fl with
  |next=>exact hq
  |brk=>exact hq
  |cont=>exact hq
  |ret u=>
   obtain⟨v,H',os,bare,un,hok,rv,b,x,y,z,m,eb,hx,hy,hy2,hz,hm,q⟩:=hq
   exact⟨v,_,os,bare,un_close un eb,box_close hok eb hx hy hy2 hz hm,rv,q⟩
theorem open_fn (F:FnOk P w K mg base CX0 k f fd ps sp) (h:∀vs H Q E,sp' vs H Q E->∃b n,H b=some (BoxO b n)/\∀x y z,0<=x->0<=y->y<2 ^ 62->0<=z->z<=((n:Nat):Int)->sp vs (upd H b (BoxL x y z)) Q E) (len:∀vs H Q E,sp' vs H Q E->vs.length=ps.length):FnOk P w K mg base CX0 k f fd ps sp':=by
 refine⟨len,fun A outer s H args us vs Q E hr e0 hb hv hs=>?_⟩
 obtain⟨b,n,eb,hsp⟩:=h _ _ _ _ hs
 obtain⟨x,y,z,hx,hy,hy2,hz,hn,hok⟩:=box_open e0.hok eb
 have ne:∀c,H c=none->c≠b:=fun c n z=>by subst z;rw[eb]at n;cases n
 have e1:Env0 P w K mg base A outer s (upd H b (BoxL x y z)):=⟨e0.frames,e0.mod,fun c o e=>⟨(e0.bs c o e).1,by rw[upd_ne (ne c (e0.bs c o e).2)];exact(e0.bs c o e).2⟩,e0.bsz,e0.funs,fun c hc=>by rw[upd_ne (ne c (e0.frf c hc))];exact e0.frf c hc,hok,e0.bare⟩
 refine codeAny_mono (F.run A outer s _ args us vs Q E hr e1 hb hv (hsp x y z hx hy hy2 hz hn)) fun r s' hq=>?_
 cases r with
 |error e=>exact hq
 |ok fl=>
  cases fl with
  |next=>exact hq
  |brk=>exact hq
  |cont=>exact hq
  |ret u=>
   obtain⟨v,H',os,bare,un,hok,rv,q⟩:=hq
   exact⟨v,H',os,bare,un_open un eb,hok,rv,q⟩
end
structure Go (c:Nat) (H H':Hp):Prop where
 box:∀a n,H a=some (BoxO a n)->∃m,m<=n+c/\H' a=some (BoxO a m)
 oth:∀a o,H a=some o->(∀φ,o≠.ext φ)->H' a=some o
 free:∀a,H' a=none->H a=none
theorem Go.of_same {c:Nat} {H H':Hp} (h:Same H H'):Go c H H':=⟨fun a n e=>⟨n,by omega,h a _ e⟩,fun a o e _=>h a o e,fun a e=>h.free e⟩
theorem Go.refl {c:Nat} {H:Hp}:Go c H H:=.of_same (Same.refl H)
theorem Go.trans {c d:Nat} {H H1 H2:Hp} (a:Go c H H1) (b:Go d H1 H2):Go (c+d) H H2:=⟨fun p n e=>by
  obtain⟨m,hm,e1⟩:=a.box p n e
  obtain⟨m',hm',e2⟩:=b.box p m e1
  exact⟨m',by omega,e2⟩,fun p o e no=>b.oth p o (a.oth p o e no) no,fun p e=>a.free p (b.free p e)⟩
theorem Go.mono {c d:Nat} {H H1:Hp} (a:Go c H H1) (h:c<=d):Go d H H1:=⟨fun p n e=>by
  obtain⟨m,hm,e1⟩:=a.box p n e
  exact⟨m,by omega,e1⟩,a.oth,a.free⟩
theorem Go.lst {c:Nat} {H H1:Hp} (a:Go c H H1) {p:Addr} {xs:List V} (e:H p=some (.lst xs)):H1 p=some (.lst xs):=a.oth p _ e fun _ z=>by cases z
theorem Go.tup {c:Nat} {H H1:Hp} (a:Go c H H1) {p:Addr} {xs:List V} (e:H p=some (.tup xs)):H1 p=some (.tup xs):=a.oth p _ e fun _ z=>by cases z
theorem Go.seq {c:Nat} {K:W.Frag} {H H1:Hp} (g:Go c H H1) {a:Addr} {xs:List V} (h:SqL K H a xs):SqL K H1 a xs:=by
 rcases h with(h|⟨o,h⟩)|h
 .exact .inl (.inl (g.lst h))
 .exact .inl (.inr ⟨o,g.oth _ _ h fun _ z=>by cases z⟩)
 .exact .inr h
theorem Go.draw {H:Hp} {b:Addr} {n m:Nat} (e:H b=some (BoxO b n)) (h:m<=n+1) (o:HO):Go 1 H (upd (upd H b o) b (BoxO b m)):=by
 rw[upd_upd]
 refine⟨fun p k q=>?_,fun p u q no=>?_,fun p q=>?_⟩
 .by_cases hp:p=b
  .subst hp
   rw[e]at q
   have:=box_le (Option.some.inj q)
   exact⟨m,by omega,upd_same⟩
  .exact⟨k,by omega,by rw[upd_ne hp];exact q⟩
 .rw[upd_ne]
  .exact q
  .intro z
   subst z
   rw[e]at q
   cases q
   exact no _ rfl
 .by_cases hp:p=b
  .subst hp
   rw[upd_same]at q
   cases q
  .rw[upd_ne hp]at q
   exact q
section
variable {C:Rc} {σ:L2.St} {H:Hp} {Q:VK} {D:Ends} {Qb:Bool->Hp->Prop}
def kV (o:Option (Option V)) (H:Hp) (Q:VK):Prop:=∃v,o=some (some v)/\Q v H
theorem kV_some {v:V}:kV (some (some v)) H Q=Q v H:=propext ⟨fun⟨u,e,q⟩=>by cases e;exact q,fun q=>⟨v,rfl,q⟩⟩
theorem tE_var {i:Nat}:tE C (.var i) σ H Q=kV σ[i]? H Q:=rfl
theorem tE_int {n:Int}:tE C (.int n) σ H Q=Q (.int n) H:=rfl
theorem tE_bl {b:Bool}:tE C (.bl b) σ H Q=Q (.bl b) H:=rfl
theorem tE_non:tE C .non σ H Q=Q .non H:=rfl
theorem tE_str {x:Str}:tE C (.str x) σ H Q=Q (.str x) H:=rfl
theorem tE_ty {x:String}:tE C (.ty x) σ H Q=Q (.ty x) H:=rfl
noncomputable def kB1 (C:Rc) (σ:L2.St) (op:Operator) (b:Ce) (Q:VK):VK:=fun x H=>tE C b σ H fun y H2=>rBin C.K op x y H2 Q
noncomputable def kB2 (C:Rc) (op:Operator) (x:V) (Q:VK):VK:=fun y H=>rBin C.K op x y H Q
theorem tE_bin {op:Operator} {a b:Ce}:tE C (.bin op a b) σ H Q=tE C a σ H (kB1 C σ op b Q):=rfl
theorem kB1_at {op:Operator} {b:Ce} {x:V}:kB1 C σ op b Q x H=tE C b σ H (kB2 C op x Q):=rfl
theorem kB2_at {op:Operator} {x y:V}:kB2 C op x Q y H=rBin C.K op x y H Q:=rfl
noncomputable def kC1 (C:Rc) (σ:L2.St) (op:CmpOp) (b:Ce) (Q:VK):VK:=fun x H=>tE C b σ H fun y H2=>rCmp C.K op x y H2 Q
noncomputable def kC2 (C:Rc) (op:CmpOp) (x:V) (Q:VK):VK:=fun y H=>rCmp C.K op x y H Q
theorem tE_cmp {op:CmpOp} {a b:Ce}:tE C (.cmp op a b) σ H Q=tE C a σ H (kC1 C σ op b Q):=rfl
theorem kC1_at {op:CmpOp} {b:Ce} {x:V}:kC1 C σ op b Q x H=tE C b σ H (kC2 C op x Q):=rfl
theorem kC2_at {op:CmpOp} {x y:V}:kC2 C op x Q y H=rCmp C.K op x y H Q:=rfl
noncomputable def kI1 (C:Rc) (σ:L2.St) (b:Ce) (Q:VK):VK:=fun x H=>tE C b σ H fun y H2=>rIxM C.K x y H2 Q
noncomputable def kI2 (C:Rc) (x:V) (Q:VK):VK:=fun y H=>rIxM C.K x y H Q
theorem tE_idx {a b:Ce}:tE C (.idx a b) σ H Q=tE C a σ H (kI1 C σ b Q):=rfl
theorem kI1_at {b:Ce} {x:V}:kI1 C σ b Q x H=tE C b σ H (kI2 C x Q):=rfl
theorem kI2_at {x y:V}:kI2 C x Q y H=rIxM C.K x y H Q:=rfl
noncomputable def kNeg (Q:VK):VK:=fun x H=>rU (fun i=>.int (-i)) x H Q
theorem tE_neg {a:Ce}:tE C (.neg a) σ H Q=tE C a σ H (kNeg Q):=rfl
theorem kNeg_int {i:Int}:kNeg Q (.int i) H=Q (.int (-i)) H:=propext ⟨fun⟨u,e,q⟩=>by cases e;exact q,fun q=>⟨i,rfl,q⟩⟩
noncomputable def kT (Qb:Bool->Hp->Prop):VK:=fun x H=>∃k,x=.bl k/\Qb k H
theorem kT_bl {k:Bool}:kT Qb (.bl k) H=Qb k H:=propext ⟨fun⟨u,e,q⟩=>by cases e;exact q,fun q=>⟨k,rfl,q⟩⟩
theorem tQ_cmp {op:CmpOp} {a b:Ce}:tQ C (.cmp op a b) σ H Qb=tE C a σ H (kC1 C σ op b (kT Qb)):=rfl
noncomputable def kNotQ (Qb:Bool->Hp->Prop):Bool->Hp->Prop:=fun c H=>Qb (!c) H
theorem kNotQ_at {c:Bool}:kNotQ Qb c H=Qb (!c) H:=rfl
noncomputable def kAndQ (C:Rc) (σ:L2.St) (b:Cq) (Qb:Bool->Hp->Prop):Bool->Hp->Prop:=fun c H=>if c=true then tQ C b σ H Qb else Qb false H
noncomputable def kOrQ (C:Rc) (σ:L2.St) (b:Cq) (Qb:Bool->Hp->Prop):Bool->Hp->Prop:=fun c H=>if c=true then Qb true H else tQ C b σ H Qb
theorem tQ_and {a b:Cq}:tQ C (.and a b) σ H Qb=tQ C a σ H (kAndQ C σ b Qb):=rfl
theorem tQ_or {a b:Cq}:tQ C (.or a b) σ H Qb=tQ C a σ H (kOrQ C σ b Qb):=rfl
theorem kAndQ_t {b:Cq}:kAndQ C σ b Qb true H=tQ C b σ H Qb:=rfl
theorem kAndQ_f {b:Cq}:kAndQ C σ b Qb false H=Qb false H:=rfl
theorem kOrQ_t {b:Cq}:kOrQ C σ b Qb true H=Qb true H:=rfl
theorem kOrQ_f {b:Cq}:kOrQ C σ b Qb false H=tQ C b σ H Qb:=rfl
variable {K:W.Frag} {i j:Int} {x y:Str}
theorem b_add:rBin K .Add (.int i) (.int j) H Q=Q (.int (i+j)) H:=rfl
theorem b_adds:rBin K .Add (.str x) (.str y) H Q=(x.length+y.length<=sizeLine/\Q (.str (x++y)) H):=rfl
theorem b_sub:rBin K .Sub (.int i) (.int j) H Q=Q (.int (i-j)) H:=propext ⟨fun⟨_,_,e,e',q⟩=>by cases e;cases e';exact q,fun q=>⟨_,_,rfl,rfl,q⟩⟩
theorem b_mul:rBin K .Mult (.int i) (.int j) H Q=(CMulW i j/\Q (.int (i*j)) H):=rfl
theorem b_muls:rBin K .Mult (.str x) (.int j) H Q=(-1000000<=j/\j<=1000000/\x.length*j.toNat<=1000000/\Q (.str (Txt.mul x j)) H):=rfl
theorem b_mod:rBin K .Mod (.int i) (.int j) H Q=(0<j/\Q (.int (i % j)) H):=propext ⟨fun⟨_,_,e,e',c,q⟩=>by cases e;cases e';exact⟨c,q⟩,fun q=>⟨_,_,rfl,rfl,q.1,q.2⟩⟩
theorem b_div:rBin K .FloorDiv (.int i) (.int j) H Q=(CDivW i j/\Q (.int (i / j)) H):=propext ⟨fun⟨_,_,e,e',c,q⟩=>by cases e;cases e';exact⟨c,q⟩,fun q=>⟨_,_,rfl,rfl,q.1,q.2⟩⟩
theorem b_pow:rBin K .Pow (.int i) (.int j) H Q=(CPow i j/\Q (.int (i ^ j.toNat)) H):=propext ⟨fun⟨_,_,e,e',c,q⟩=>by cases e;cases e';exact⟨c,q⟩,fun q=>⟨_,_,rfl,rfl,q.1,q.2⟩⟩
theorem c_lt:rCmp K .Lt (.int i) (.int j) H Q=Q (.bl (decide (i<j))) H:=propext ⟨fun⟨_,_,e,e',q⟩=>by cases e;cases e';exact q,fun q=>⟨_,_,rfl,rfl,q⟩⟩
theorem c_gt:rCmp K .Gt (.int i) (.int j) H Q=Q (.bl (decide (j<i))) H:=propext ⟨fun⟨_,_,e,e',q⟩=>by cases e;cases e';exact q,fun q=>⟨_,_,rfl,rfl,q⟩⟩
theorem c_ge:rCmp K .GtE (.int i) (.int j) H Q=Q (.bl (decide (j<=i))) H:=propext ⟨fun⟨_,_,e,e',q⟩=>by cases e;cases e';exact q,fun q=>⟨_,_,rfl,rfl,q⟩⟩
theorem c_eq:rCmp K .Eq (.int i) (.int j) H Q=Q (.bl (decide (i=j))) H:=by
 have e:decide (V.int i=V.int j)=decide (i=j):=by simp
 exact propext ⟨fun q=>e ▸ q.2,fun q=>⟨rfl,e.symm ▸ q⟩⟩
theorem c_eqs:rCmp K .Eq (.str x) (.str y) H Q=Q (.bl (decide (x=y))) H:=by
 have e:decide (V.str x=V.str y)=decide (x=y):=by simp
 exact propext ⟨fun q=>e ▸ q.2,fun q=>⟨rfl,e.symm ▸ q⟩⟩
theorem ix_ref {a:Addr}:rIxM K (.ref a) (.int i) H Q=(rIxL K (.ref a) (.int i) H Q\/rIxT K (.ref a) (.int i) H Q):=rfl
noncomputable def kSeq (C:Rc) (r:Css) (D:Ends):Ends:={ D with nx:=tSs C r D }
theorem ss_nil:tSs C .nil D σ H=D.nx σ H:=rfl
theorem ss_cons {s:Cs} {r:Css}:tSs C (.cons s r) D σ H=tS C s (kSeq C r D) σ H:=rfl
theorem seq_nx {r:Css}:(kSeq C r D).nx σ H=tSs C r D σ H:=rfl
theorem seq_rt {r:Css}:(kSeq C r D).rt=D.rt:=rfl
theorem seq_bk {r:Css}:(kSeq C r D).bk=D.bk:=rfl
theorem seq_ct {r:Css}:(kSeq C r D).ct=D.ct:=rfl
theorem s_ret {e:Ce}:tS C (.ret e) D σ H=tE C e σ H D.rt:=rfl
noncomputable def kDrop (D:Ends) (σ:L2.St):VK:=fun _ H=>D.nx σ H
theorem s_expr {e:Ce}:tS C (.expr e) D σ H=tE C e σ H (kDrop D σ):=rfl
theorem kDrop_at {v:V}:kDrop D σ v H=D.nx σ H:=rfl
noncomputable def kSet (i:Nat) (D:Ends) (σ:L2.St):VK:=fun x H=>D.nx (σ.set i (some x)) H
theorem s_set {i:Nat} {e:Ce}:tS C (.asg (.name i) e) D σ H=tE C e σ H (kSet i D σ):=rfl
theorem kSet_at {i:Nat} {v:V}:kSet i D σ v H=D.nx (σ.set i (some v)) H:=rfl
noncomputable def kSub1 (C:Rc) (o i:Ce) (D:Ends) (σ:L2.St):VK:=fun v H=>tE C o σ H fun p H1=>tE C i σ H1 fun k H2=>rSetL p k v H2 fun H3=>D.nx σ H3
noncomputable def kSub2 (C:Rc) (i:Ce) (v:V) (D:Ends) (σ:L2.St):VK:=fun p H1=>tE C i σ H1 fun k H2=>rSetL p k v H2 fun H3=>D.nx σ H3
noncomputable def kSub3 (p v:V) (D:Ends) (σ:L2.St):VK:=fun k H2=>rSetL p k v H2 fun H3=>D.nx σ H3
theorem s_sub {o i e:Ce}:tS C (.asg (.sub o i) e) D σ H=tE C e σ H (kSub1 C o i D σ):=rfl
theorem kSub1_at {o i:Ce} {v:V}:kSub1 C o i D σ v H=tE C o σ H (kSub2 C i v D σ):=rfl
theorem kSub2_at {i:Ce} {v p:V}:kSub2 C i v D σ p H=tE C i σ H (kSub3 p v D σ):=rfl
theorem kSub3_at {v p k:V}:kSub3 p v D σ k H=rSetL p k v H (D.nx σ):=rfl
noncomputable def kIf (C:Rc) (a b:Css) (D:Ends) (σ:L2.St):Bool->Hp->Prop:=fun c H=>if c=true then tSs C a D σ H else tSs C b D σ H
theorem s_if {q:Cq} {a b:Css}:tS C (.ite q a b) D σ H=tQ C q σ H (kIf C a b D σ):=rfl
theorem kIf_t {a b:Css}:kIf C a b D σ true H=tSs C a D σ H:=rfl
theorem kIf_f {a b:Css}:kIf C a b D σ false H=tSs C b D σ H:=rfl
theorem by_dec {p:Prop} [Decidable p] {F:Bool->Hp->Prop} (h1:p->F true H) (h2:¬p->F false H):F (decide p) H:=by
 by_cases h:p
 .rw[decide_eq_true h];exact h1 h
 .rw[decide_eq_false h];exact h2 h
end
section
variable {C:Rc} {σ:L2.St} {H:Hp} {Q:VK} {D:Ends} {Qb:Bool->Hp->Prop} {Qs:List V->Hp->Prop}
noncomputable def kA1 (C:Rc) (σ:L2.St) (r:Ces) (Qs:List V->Hp->Prop):VK:=fun x H=>tA C r σ H fun xs H2=>Qs (x :: xs) H2
noncomputable def kA2 (x:V) (Qs:List V->Hp->Prop):List V->Hp->Prop:=fun xs H=>Qs (x :: xs) H
theorem a_nil:tA C .nil σ H Qs=Qs [] H:=rfl
theorem a_cons {e:Ce} {r:Ces}:tA C (.cons e r) σ H Qs=tE C e σ H (kA1 C σ r Qs):=rfl
theorem kA1_at {r:Ces} {x:V}:kA1 C σ r Qs x H=tA C r σ H (kA2 x Qs):=rfl
theorem kA2_at {x:V} {xs:List V}:kA2 x Qs xs H=Qs (x :: xs) H:=rfl
noncomputable def kTup (Q:VK):List V->Hp->Prop:=fun xs H=>xs.length<=sizeLine/\∀p,H p=none->Q (.ref p) (upd H p (.tup xs))
noncomputable def kLst (Q:VK):List V->Hp->Prop:=fun xs H=>xs.length<=sizeLine/\∀p,H p=none->Q (.ref p) (upd H p (.lst xs))
theorem tE_tup {es:Ces}:tE C (.tup es) σ H Q=tA C es σ H (kTup Q):=rfl
theorem tE_lst {es:Ces}:tE C (.lst es) σ H Q=tA C es σ H (kLst Q):=rfl
theorem kTup_at {xs:List V}:kTup Q xs H=(xs.length<=sizeLine/\∀p,H p=none->Q (.ref p) (upd H p (.tup xs))):=rfl
theorem kLst_at {xs:List V}:kLst Q xs H=(xs.length<=sizeLine/\∀p,H p=none->Q (.ref p) (upd H p (.lst xs))):=rfl
noncomputable def kCall (o:Option Sp) (E:XK) (Q:VK):List V->Hp->Prop:=fun vs H=>match o with
 |some sp=>sp (vs++[]) H Q E
 |none=>False
theorem tE_call {f:Str} {es:Ces} {sp:Sp} (h:C.fs f=some sp):tE C (.call f es) σ H Q=tA C es σ H (kCall (some sp) (C.xk σ) Q):=by
 show(match C.fs f with|some sp=>tCall sp [] (C.xk σ) (tA C es) σ H Q|none=>False)=_
 rw[h]
 rfl
theorem kCall_at {sp:Sp} {E:XK} {vs:List V}:kCall (some sp) E Q vs H=sp vs H Q E:=by
 show sp (vs++[]) H Q E=_
 rw[List.append_nil]
noncomputable def kBlt (C:Rc) (f:Bf) (Q:VK):List V->Hp->Prop:=fun vs H=>rBlt C.K f vs H Q
theorem tE_blt {f:Bf} {es:Ces}:tE C (.blt f es) σ H Q=tA C es σ H (kBlt C f Q):=rfl
theorem kBlt_at {f:Bf} {vs:List V}:kBlt C f Q vs H=rBlt C.K f vs H Q:=rfl
noncomputable def kMet1 (C:Rc) (σ:L2.St) (m:Mf) (es:Ces) (Q:VK):VK:=fun x H=>tyV C.K (metTy m) x H/\tA C es σ H fun xs H2=>rMet C.K m x xs H2 Q
noncomputable def kMet2 (C:Rc) (m:Mf) (x:V) (Q:VK):List V->Hp->Prop:=fun xs H=>rMet C.K m x xs H Q
theorem tE_met {m:Mf} {o:Ce} {es:Ces}:tE C (.met m o es) σ H Q=tE C o σ H (kMet1 C σ m es Q):=rfl
theorem kMet1_at {m:Mf} {es:Ces} {x:V}:kMet1 C σ m es Q x H=(tyV C.K (metTy m) x H/\tA C es σ H (kMet2 C m x Q)):=rfl
theorem kMet2_at {m:Mf} {x:V} {xs:List V}:kMet2 C m x Q xs H=rMet C.K m x xs H Q:=rfl
noncomputable def kIfe (C:Rc) (σ:L2.St) (a b:Ce) (Q:VK):Bool->Hp->Prop:=fun c H=>if c=true then tE C a σ H Q else tE C b σ H Q
theorem kIfe_t {a b:Ce}:kIfe C σ a b Q true H=tE C a σ H Q:=rfl
theorem kIfe_f {a b:Ce}:kIfe C σ a b Q false H=tE C b σ H Q:=rfl
noncomputable def kAndV (C:Rc) (σ:L2.St) (b:Ce) (Q:VK):VK:=fun x H=>∃c,x=.bl c/\if c=true then tE C b σ H Q else Q (.bl false) H
noncomputable def kOrV (C:Rc) (σ:L2.St) (b:Ce) (Q:VK):VK:=fun x H=>∃c,x=.bl c/\if c=true then Q (.bl true) H else tE C b σ H Q
theorem tE_and {a b:Ce}:tE C (.and a b) σ H Q=tE C a σ H (kAndV C σ b Q):=rfl
theorem tE_or {a b:Ce}:tE C (.or a b) σ H Q=tE C a σ H (kOrV C σ b Q):=rfl
theorem kAndV_t {b:Ce}:kAndV C σ b Q (.bl true) H=tE C b σ H Q:=propext ⟨fun⟨u,e,q⟩=>by cases e;exact q,fun q=>⟨_,rfl,q⟩⟩
theorem kAndV_f {b:Ce}:kAndV C σ b Q (.bl false) H=Q (.bl false) H:=propext ⟨fun⟨u,e,q⟩=>by cases e;exact q,fun q=>⟨_,rfl,q⟩⟩
noncomputable def kTru (C:Rc) (Qb:Bool->Hp->Prop):VK:=fun x H=>∃k,TruV C.K x H k/\Qb k H
theorem tQ_val {e:Ce}:tQ C (.val e) σ H Qb=tE C e σ H (kTru C Qb):=rfl
theorem kTru_bl {b:Bool}:kTru C Qb (.bl b) H=Qb b H:=propext ⟨fun⟨u,e,q⟩=>by
  have e:u=b:=e
  subst e
  exact q,fun q=>⟨b,rfl,q⟩⟩
noncomputable def kCut1 (C:Rc) (σ:L2.St) (lo hi:Co) (Q:VK):VK:=fun x H=>tO C lo σ H fun l H2=>tO C hi σ H2 fun u H3=>rSl C.K x l u H3 Q
noncomputable def kCut2 (C:Rc) (σ:L2.St) (hi:Co) (x:V) (Q:VK):Option Int->Hp->Prop:=fun l H=>tO C hi σ H fun u H3=>rSl C.K x l u H3 Q
noncomputable def kCut3 (C:Rc) (x:V) (l:Option Int) (Q:VK):Option Int->Hp->Prop:=fun u H=>rSl C.K x l u H Q
theorem tE_cut {a:Ce} {lo hi:Co}:tE C (.cut a lo hi) σ H Q=tE C a σ H (kCut1 C σ lo hi Q):=rfl
theorem kCut1_at {lo hi:Co} {x:V}:kCut1 C σ lo hi Q x H=tO C lo σ H (kCut2 C σ hi x Q):=rfl
theorem kCut2_at {hi:Co} {x:V} {l:Option Int}:kCut2 C σ hi x Q l H=tO C hi σ H (kCut3 C x l Q):=rfl
theorem kCut3_at {x:V} {l u:Option Int}:kCut3 C x l Q u H=rSl C.K x l u H Q:=rfl
variable {Qo:Option Int->Hp->Prop}
noncomputable def kPart (Qo:Option Int->Hp->Prop):VK:=fun x H=>∃i,x=.int i/\Qo (some i) H
theorem o_none:tO C .none σ H Qo=Qo none H:=rfl
theorem o_some {e:Ce}:tO C (.some e) σ H Qo=tE C e σ H (kPart Qo):=rfl
theorem kPart_int {i:Int}:kPart Qo (.int i) H=Qo (some i) H:=propext ⟨fun⟨u,e,q⟩=>by cases e;exact q,fun q=>⟨i,rfl,q⟩⟩
theorem sl_ref {K:W.Frag} {a:Addr} {l u:Option Int}:rSl K (.ref a) l u H Q=(rSlL K (.ref a) l u H Q\/rSlT K (.ref a) l u H Q\/rSlW K (.ref a) l u H Q):=rfl
noncomputable def kAug (i:Nat) (sub:Bool) (x:V) (D:Ends) (σ:L2.St):VK:=fun y H=>∃a b,x=.int a/\y=.int b/\D.nx (σ.set i (some (.int (if sub then a-b else a+b)))) H
theorem s_aug {i:Nat} {sub:Bool} {e:Ce} {a:Int} (h:σ[i]?=some (some (.int a))):tS C (.aug i sub e) D σ H=tE C e σ H (kAug i sub (.int a) D σ):=by
 show(∃x,σ[i]?=some (some x)/\tE C e σ H fun y H1=>(ipI fun i j=>if sub then i-j else i+j) x y H1 fun z H2=>D.nx (σ.set i (some z)) H2)=_
 rw[h]
 exact propext ⟨fun⟨x,e,q⟩=>by cases e;exact q,fun q=>⟨_,rfl,q⟩⟩
theorem kAug_int {i:Nat} {sub:Bool} {a b:Int}:kAug i sub (.int a) D σ (.int b) H=D.nx (σ.set i (some (.int (if sub then a-b else a+b)))) H:=propext ⟨fun⟨_,_,e,e',q⟩=>by cases e;cases e';exact q,fun q=>⟨_,_,rfl,rfl,q⟩⟩
noncomputable def kPar1 (C:Rc) (σ:L2.St) (i j:Nat) (b:Ce) (D:Ends):VK:=fun v H=>tE C b σ H fun w H1=>D.nx ((σ.set i (some v)).set j (some w)) H1
noncomputable def kPar2 (σ:L2.St) (i j:Nat) (v:V) (D:Ends):VK:=fun w H=>D.nx ((σ.set i (some v)).set j (some w)) H
theorem kPar1_at {i j:Nat} {b:Ce} {v:V}:kPar1 C σ i j b D v H=tE C b σ H (kPar2 σ i j v D):=rfl
theorem kPar2_at {i j:Nat} {v w:V}:kPar2 σ i j v D w H=D.nx ((σ.set i (some v)).set j (some w)) H:=rfl
end
noncomputable def cb (b:Bool):Nat:=if b then 49 else 48
noncomputable def tx (l:List Bool):Str:=⟨(l.map cb).toArray⟩
theorem cb_inj {a b:Bool} (h:cb a=cb b):a=b:=by cases a<;>cases b<;>first|rfl|cases h
theorem tx_inj {a b:List Bool} (h:tx a=tx b):a=b:=by
 have h1:(a.map cb).toArray=(b.map cb).toArray:=congrArg Str.cps h
 have h2:a.map cb=b.map cb:=by simpa using h1
 exact List.map_inj_right (f:=cb) (fun x y=>cb_inj) |>.mp h2
theorem tx_len {a:List Bool}:(tx a).length=a.length:=by show(a.map cb).toArray.size=_;simp
theorem tx_cps {a:List Bool}:(tx a).cps.toList=a.map cb:=rfl
theorem tx_app {a b:List Bool}:tx a++tx b=tx (a++b):=by
 show(⟨(a.map cb).toArray++(b.map cb).toArray⟩:Str)=⟨((a++b).map cb).toArray⟩
 simp
theorem tx_01:(PySem.Str.ofString "01")=tx [false,true]:=by decide +kernel
theorem tx_10:(PySem.Str.ofString "10")=tx [true,false]:=by decide +kernel
theorem tx_nil:(PySem.Str.ofString "")=tx []:=by decide +kernel
theorem tx_int {c:Bool}:PySem.intText? (tx [c])=some (if c then 1 else 0):=by cases c<;>decide +kernel
theorem tx_take {a:List Bool} {n:Nat} (h:n<=a.length):Txt.slice (tx a) none (some (n:Int))=tx (a.take n):=by
 have e:=slice_closes_to (x:=tx a) (j:=n) ⟨by omega,by rw[tx_cps,List.length_map];omega⟩
 rw[eq_of_beq e,tx_cps]
 simp[tx,List.map_take]
theorem tx_drop {a:List Bool} {n:Nat} (h:n<=a.length):Txt.slice (tx a) (some (n:Int)) none=tx (a.drop n):=by
 have e:=slice_closes_from (x:=tx a) (i:=n) ⟨by omega,by rw[tx_cps,List.length_map];omega⟩
 rw[eq_of_beq e,tx_cps]
 have e2:((List.map cb a).length:Int)-(n:Int)=((a.length-n:Nat):Int):=by rw[List.length_map];omega
 rw[e2]
 simp only[Int.toNat_natCast,tx,List.map_drop]
 rw[List.take_of_length_le (by simp)]
theorem atI_lt {α:Type} {xs:List α} {i:Int} (h0:0<=i) (h1:i<xs.length):∃v,xs[i.toNat]?=some v/\atI xs i=some v:=by
 obtain⟨j,rfl⟩:=Int.eq_ofNat_of_zero_le h0
 have hk:j<xs.length:=by omega
 exact⟨xs[j],by simp,atI_nat (by rw[List.getElem?_eq_getElem hk])⟩
theorem start_eq {N:List Str} {vs:List V} {n:Nat} (h:N.length=n):L2.start N vs=vs.map some++List.replicate (n-vs.length) none:=by subst h;rfl
section
variable {C:Rc} {σ:L2.St} {H:Hp} {Q:VK} {D:Ends} {Qb:Bool->Hp->Prop}
theorem g_name {i:Nat} {v:V} {R:L2.St->Hp->Prop}:tG C (.name i) v σ H R=R (σ.set i (some v)) H:=rfl
theorem g_tup2 {i j:Nat} {a:Addr} {x y:V} {R:L2.St->Hp->Prop} (h:SqT C.K H a [x,y]) (q:R ((σ.set i (some x)).set j (some y)) H):tG C (.tup (.cons (.name i) (.cons (.name j) .nil))) (.ref a) σ H R:=
 ⟨a,[x,y],rfl,h,rfl,_,_,rfl,_,_,rfl,rfl,q⟩
theorem g_tup3 {i j k:Nat} {a:Addr} {x y z:V} {R:L2.St->Hp->Prop} (h:SqT C.K H a [x,y,z]) (q:R (((σ.set i (some x)).set j (some y)).set k (some z)) H):tG C (.tup (.cons (.name i) (.cons (.name j) (.cons (.name k) .nil)))) (.ref a) σ H R:=
 ⟨a,[x,y,z],rfl,h,rfl,_,_,rfl,_,_,rfl,_,_,rfl,rfl,q⟩
def kFor (C:Rc) (t:Ct) (b:Css) (D:Ends) (σ:L2.St) (J:It) (H1:Hp):Prop:=∃W:Nat->Nat->L2.St->Hp->Prop,(∃m,W 0 m σ H1)/\∀i m σ H,W i m σ H->
 (J.stop i H/\D.nx σ H)\/(J.go i H/\∃N:L2.St->Hp->Prop,(∀σ' H',N σ' H'->∃m',m'<m/\W (i+1) m' σ' H')/\∀x H',J.yld i H x H'->tG C t x σ H' fun σ2 H2=>tSs C b { D with nx:=N,ct:=N,bk:=D.nx } σ2 H2)
theorem s_for {t:Ct} {it:Ci} {b:Css}:tS C (.for_ t it b) D σ H=tI C it σ H (kFor C t b D σ):=rfl
noncomputable def kIv (C:Rc) (R:It->Hp->Prop):VK:=fun x H1=>
 (∃a,x=.ref a/\(∃xs,SqL C.K H1 a xs)/\R (Itl C.K a) H1)\/(∃a,x=.ref a/\(∃xs,SqT C.K H1 a xs)/\R (Itt C.K a) H1)\/∃z,x=.str z/\R (Its z) H1
theorem i_val {e:Ce} {R:It->Hp->Prop}:tI C (.val e) σ H R=tE C e σ H (kIv C R):=rfl
noncomputable def kR1 (R:It->Hp->Prop):VK:=fun x H1=>∃j:Int,x=.int j/\-(2 ^ 62)<=j/\j<2 ^ 62/\R (Itr 0 j.toNat) H1
theorem i_range1 {e:Ce} {R:It->Hp->Prop}:tI C (.range1 e) σ H R=tE C e σ H fun x H1=>∃j:Int,[x]=[.int j]/\-(2 ^ 62)<=j/\j<2 ^ 62/\R (Itr 0 j.toNat) H1:=rfl
theorem i_range1' {e:Ce} {R:It->Hp->Prop}:tI C (.range1 e) σ H R=tE C e σ H (kR1 R):=by
 rw[i_range1]
 congr 1
 funext x H1
 unfold kR1
 simp only[List.cons.injEq,and_true]
noncomputable def kR2b (R:It->Hp->Prop) (x:V):VK:=fun y H1=>∃i j:Int,x=.int i/\y=.int j/\(-(2 ^ 62)<=i/\i<2 ^ 62/\-(2 ^ 62)<=j/\j<2 ^ 62)/\R (Itr i (j-i).toNat) H1
noncomputable def kR2a (C:Rc) (σ:L2.St) (e:Ce) (R:It->Hp->Prop):VK:=fun x H1=>tE C e σ H1 (kR2b R x)
theorem kR2a_at {e:Ce} {R:It->Hp->Prop} {x:V}:kR2a C σ e R x H=tE C e σ H (kR2b R x):=rfl
noncomputable def kZ2 (C:Rc) (R:It->Hp->Prop) (x:V):VK:=fun y H1=>∃(k j:Bool) (a b:Addr),x=.ref a/\y=.ref b/\(∃xs,Sq k C.K H1 a xs)/\(∃ys,Sq j C.K H1 b ys)/\R (Itz2 k j C.K a b) H1
noncomputable def kZ1 (C:Rc) (σ:L2.St) (e:Ce) (R:It->Hp->Prop):VK:=fun x H1=>tE C e σ H1 (kZ2 C R x)
theorem kZ1_at {e:Ce} {R:It->Hp->Prop} {x:V}:kZ1 C σ e R x H=tE C e σ H (kZ2 C R x):=rfl
noncomputable def kEn (C:Rc) (R:It->Hp->Prop):VK:=fun x H1=>(∃a,x=.ref a/\(∃xs,SqL C.K H1 a xs)/\R (Ite C.K a) H1)\/(∃z,x=.str z/\R (Iteg z) H1)\/∃a,x=.ref a/\(∃xs,SqT C.K H1 a xs)/\R (Itet C.K a) H1
theorem i_enum {a:Ce} {R:It->Hp->Prop}:tI C (.enum a) σ H R=tE C a σ H (kEn C R):=by
 show(tE C a σ H fun x H1=>∃y,[x]=[y]/\((∃a,y=.ref a/\(∃xs,SqL C.K H1 a xs)/\R (Ite C.K a) H1)\/(∃z,y=.str z/\R (Iteg z) H1)\/∃a,y=.ref a/\(∃xs,SqT C.K H1 a xs)/\R (Itet C.K a) H1))=_
 congr 1
 funext x H1
 unfold kEn
 exact propext ⟨fun⟨y,e,q⟩=>by cases e;exact q,fun q=>⟨x,rfl,q⟩⟩
theorem at_enL {R:It->Hp->Prop} {a:Addr} {xs:List V} (h:SqL C.K H a xs) (q:R (Ite C.K a) H):kEn C R (.ref a) H:=.inl ⟨a,rfl,⟨xs,h⟩,q⟩
theorem at_enT {R:It->Hp->Prop} {a:Addr} {xs:List V} (h:SqT C.K H a xs) (q:R (Itet C.K a) H):kEn C R (.ref a) H:=.inr (.inr ⟨a,rfl,⟨xs,h⟩,q⟩)
theorem at_iv_lst {R:It->Hp->Prop} {a:Addr} {xs:List V} (h:SqL C.K H a xs) (q:R (Itl C.K a) H):kIv C R (.ref a) H:=.inl ⟨a,rfl,⟨xs,h⟩,q⟩
theorem at_iv_tup {R:It->Hp->Prop} {a:Addr} {xs:List V} (h:SqT C.K H a xs) (q:R (Itt C.K a) H):kIv C R (.ref a) H:=.inr (.inl ⟨a,rfl,⟨xs,h⟩,q⟩)
theorem at_r1 {R:It->Hp->Prop} {j:Int} (h0:-(2 ^ 62)<=j) (h1:j<2 ^ 62) (q:R (Itr 0 j.toNat) H):kR1 R (.int j) H:=⟨j,rfl,h0,h1,q⟩
theorem for_l {a:Addr} {xs:List V} {t:Ct} {b:Css} (Pv:Nat->L2.St->Hp->Prop) (h0:Pv 0 σ H) (hl:∀i σ H,i<=xs.length->Pv i σ H->SqL C.K H a xs)
  (hs:∀i x σ H,xs[i]?=some x->Pv i σ H->tG C t x σ H (tSs C b { D with nx:=Pv (i+1),ct:=Pv (i+1),bk:=D.nx })) (hd:∀σ H,Pv xs.length σ H->D.nx σ H):kFor C t b D σ (Itl C.K a) H:=for_list Pv h0 hl hs hd
theorem for_r {lo:Int} {n:Nat} {t:Ct} {b:Css} (Pv:Nat->L2.St->Hp->Prop) (h0:Pv 0 σ H)
  (hs:∀i σ H,i<n->Pv i σ H->tG C t (.int (lo+i)) σ H (tSs C b { D with nx:=Pv (i+1),ct:=Pv (i+1),bk:=D.nx })) (hd:∀σ H,Pv n σ H->D.nx σ H):kFor C t b D σ (Itr lo n) H:=for_range Pv h0 hs hd
theorem for_e {a:Addr} {xs:List V} {t:Ct} {b:Css} (Pv:Nat->L2.St->Hp->Prop) (h0:Pv 0 σ H) (hl:∀i σ H,i<=xs.length->Pv i σ H->SqL C.K H a xs)
  (hs:∀i x σ H p,xs[i]?=some x->H p=none->Pv i σ H->tG C t (.ref p) σ (upd H p (.tup [.int i,x])) (tSs C b { D with nx:=Pv (i+1),ct:=Pv (i+1),bk:=D.nx })) (hd:∀σ H,Pv xs.length σ H->D.nx σ H):kFor C t b D σ (Ite C.K a) H:=by
 refine⟨fun i m σ H=>m=xs.length-i/\i<=xs.length/\Pv i σ H,⟨xs.length,by simp,Nat.zero_le _,h0⟩,?_⟩
 rintro i m σ H ⟨rfl,hi,p⟩
 have q:=hl i σ H hi p
 by_cases hlt:i<xs.length
 .refine .inr ⟨⟨xs,xs[i],q,by simp[hlt]⟩,Pv (i+1),fun σ' H' p'=>⟨xs.length-(i+1),by omega,rfl,hlt,p'⟩,fun x H' y=>?_⟩
  obtain⟨ad,v,rfl,hn,y,rfl⟩:=y
  exact hs i v σ _ ad (y xs q) hn p
 .have e:i=xs.length:=by omega
  subst e
  exact .inl ⟨⟨xs,q,rfl⟩,hd σ H p⟩
theorem for_et {a:Addr} {xs:List V} {t:Ct} {b:Css} (Pv:Nat->L2.St->Hp->Prop) (h0:Pv 0 σ H) (hl:∀i σ H,i<=xs.length->Pv i σ H->SqT C.K H a xs)
  (hs:∀i x σ H p,xs[i]?=some x->H p=none->Pv i σ H->tG C t (.ref p) σ (upd H p (.tup [.int i,x])) (tSs C b { D with nx:=Pv (i+1),ct:=Pv (i+1),bk:=D.nx })) (hd:∀σ H,Pv xs.length σ H->D.nx σ H):kFor C t b D σ (Itet C.K a) H:=by
 refine⟨fun i m σ H=>m=xs.length-i/\i<=xs.length/\Pv i σ H,⟨xs.length,by simp,Nat.zero_le _,h0⟩,?_⟩
 rintro i m σ H ⟨rfl,hi,p⟩
 have q:=hl i σ H hi p
 by_cases hlt:i<xs.length
 .refine .inr ⟨⟨xs,xs[i],q,by simp[hlt]⟩,Pv (i+1),fun σ' H' p'=>⟨xs.length-(i+1),by omega,rfl,hlt,p'⟩,fun x H' y=>?_⟩
  obtain⟨ad,v,rfl,hn,y,rfl⟩:=y
  exact hs i v σ _ ad (y xs q) hn p
 .have e:i=xs.length:=by omega
  subst e
  exact .inl ⟨⟨xs,q,rfl⟩,hd σ H p⟩
noncomputable def kWhl (C:Rc) (b:Css) (D:Ends) (N:L2.St->Hp->Prop) (σ:L2.St):Bool->Hp->Prop:=fun c H1=>if c=true then ∃N':L2.St->Hp->Prop,(∀σ' H',N' σ' H'->N σ' H')/\tSs C b { D with nx:=N',ct:=N',bk:=D.nx } σ H1 else D.nx σ H1
theorem whl_by {q:Cq} {b:Css} (Pv:Nat->L2.St->Hp->Prop) (m:Nat) (h0:Pv m σ H) (hs:∀m σ H,Pv m σ H->tQ C q σ H (kWhl C b D (fun σ' H'=>∃m',m'<m/\Pv m' σ' H') σ)):tS C (.whl q b) D σ H:=⟨Pv,⟨m,h0⟩,hs⟩
theorem kWhl_t {b:Css} {N:L2.St->Hp->Prop} (h:tSs C b { D with nx:=N,ct:=N,bk:=D.nx } σ H):kWhl C b D N σ true H:=⟨N,fun _ _ q=>q,h⟩
theorem kWhl_f {b:Css} {N:L2.St->Hp->Prop} (h:D.nx σ H):kWhl C b D N σ false H:=by unfold kWhl;rw[if_neg (by decide)];exact h
noncomputable def kPush (xs:List V) (P:List V->Hp->Prop):VK:=fun v H=>xs.length<sizeLine/\P (xs++[v]) H
noncomputable def kCT (C:Rc) (elt:Ce) (xs:List V) (P:List V->Hp->Prop) (σ:L2.St):Bool->Hp->Prop:=fun ok H=>if ok=true then tE C elt σ H (kPush xs P)else P xs H
noncomputable def kCG (C:Rc) (elt:Ce) (q:Cqo) (xs:List V) (P:List V->Hp->Prop):L2.St->Hp->Prop:=fun σ H=>tQo C q σ H (kCT C elt xs P σ)
theorem kCG_n {elt:Ce} {xs:List V} {P:List V->Hp->Prop}:kCG C elt .none xs P σ H=tE C elt σ H (kPush xs P):=rfl
theorem kCG_q {elt:Ce} {q:Cq} {xs:List V} {P:List V->Hp->Prop}:kCG C elt (.some q) xs P σ H=tQ C q σ H (kCT C elt xs P σ):=rfl
theorem kCT_t {elt:Ce} {xs:List V} {P:List V->Hp->Prop}:kCT C elt xs P σ true H=tE C elt σ H (kPush xs P):=rfl
theorem kCT_f {elt:Ce} {xs:List V} {P:List V->Hp->Prop}:kCT C elt xs P σ false H=P xs H:=rfl
theorem kPush_at {xs:List V} {P:List V->Hp->Prop} {v:V}:kPush xs P v H=(xs.length<sizeLine/\P (xs++[v]) H):=rfl
def kNew (Q:VK) (xs:List V) (H2:Hp):Prop:=∀p,H2 p=none->Q (.ref p) (upd H2 p (.lst xs))
def kComp (C:Rc) (elt:Ce) (own:List Nat) (t:Ct) (q:Cqo) (σ:L2.St) (Q:VK) (J:It) (H1:Hp):Prop:=tClause own (tG C t) (tQo C q) (tEmit (tE C elt)) J σ [] H1 (kNew Q)
theorem tE_comp {elt:Ce} {own:List Nat} {t:Ct} {it:Ci} {q:Cqo}:tE C (.comp elt own t it q .nil) σ H Q=tI C it σ H (kComp C elt own t q σ Q):=rfl
theorem comp_by {elt:Ce} {own:List Nat} {t:Ct} {q:Cqo} {J:It} {n:Nat} (Pv:Nat->List V->Hp->Prop) (h0:Pv 0 [] H) (hgo:∀i xs H,i<n->Pv i xs H->J.go i H) (hstop:∀xs H,Pv n xs H->J.stop n H)
  (hs:∀i xs H x H' (R:List V->Hp->Prop),i<n->Pv i xs H->J.yld i H x H'->(∀ys H2,Pv (i+1) ys H2->R ys H2)->tG C t x (clr own σ) H' (kCG C elt q xs R)) (hd:∀xs H,Pv n xs H->kNew Q xs H):kComp C elt own t q σ Q J H:=by
 refine⟨fun i m xs H=>m=n-i/\i<=n/\Pv i xs H,⟨n,by simp,Nat.zero_le _,h0⟩,?_⟩
 rintro i m xs H ⟨rfl,hi,p⟩
 by_cases hlt:i<n
 .refine .inr ⟨hgo i xs H hlt p,fun x H' y=>?_⟩
  exact hs i xs H x H' (fun c H4=>∃m',m'<n-i/\(m'=n-(i+1)/\i+1<=n/\Pv (i+1) c H4)) hlt p y fun ys H2 p2=>⟨n-(i+1),by omega,rfl,hlt,p2⟩
 .have e:i=n:=by omega
  subst e
  exact .inl ⟨hstop xs H p,hd xs H p⟩
theorem comp_l {elt:Ce} {own:List Nat} {t:Ct} {q:Cqo} {a:Addr} {vs:List V} (Pv:Nat->List V->Hp->Prop) (h0:Pv 0 [] H) (hl:∀i xs H,Pv i xs H->SqL C.K H a vs)
  (hs:∀i xs H x (R:List V->Hp->Prop),vs[i]?=some x->Pv i xs H->(∀ys H2,Pv (i+1) ys H2->R ys H2)->tG C t x (clr own σ) H (kCG C elt q xs R)) (hd:∀xs H,Pv vs.length xs H->kNew Q xs H):kComp C elt own t q σ Q (Itl C.K a) H:=
 comp_by (n:=vs.length) Pv h0 (fun i xs H hi p=>⟨vs,vs[i],hl i xs H p,by simp[hi]⟩) (fun xs H p=>⟨vs,hl _ xs H p,Nat.le_refl _⟩) (fun i xs H x H' R hi p y k=>by
  obtain⟨e,y⟩:=y
  subst e
  exact hs i xs H' x R (y vs (hl i xs H' p)) p k) hd
theorem comp_t {elt:Ce} {own:List Nat} {t:Ct} {q:Cqo} {a:Addr} {vs:List V} (Pv:Nat->List V->Hp->Prop) (h0:Pv 0 [] H) (hl:∀i xs H,Pv i xs H->SqT C.K H a vs)
  (hs:∀i xs H x (R:List V->Hp->Prop),vs[i]?=some x->Pv i xs H->(∀ys H2,Pv (i+1) ys H2->R ys H2)->tG C t x (clr own σ) H (kCG C elt q xs R)) (hd:∀xs H,Pv vs.length xs H->kNew Q xs H):kComp C elt own t q σ Q (Itt C.K a) H:=
 comp_by (n:=vs.length) Pv h0 (fun i xs H hi p=>⟨vs,vs[i],hl i xs H p,by simp[hi]⟩) (fun xs H p=>⟨vs,hl _ xs H p,Nat.le_refl _⟩) (fun i xs H x H' R hi p y k=>by
  obtain⟨e,y⟩:=y
  subst e
  exact hs i xs H' x R (y vs (hl i xs H' p)) p k) hd
theorem comp_r {elt:Ce} {own:List Nat} {t:Ct} {q:Cqo} {lo:Int} {n:Nat} (Pv:Nat->List V->Hp->Prop) (h0:Pv 0 [] H)
  (hs:∀i xs H (R:List V->Hp->Prop),i<n->Pv i xs H->(∀ys H2,Pv (i+1) ys H2->R ys H2)->tG C t (.int (lo+i)) (clr own σ) H (kCG C elt q xs R)) (hd:∀xs H,Pv n xs H->kNew Q xs H):kComp C elt own t q σ Q (Itr lo n) H:=
 comp_by (n:=n) Pv h0 (fun i xs H hi p=>hi) (fun xs H p=>Nat.le_refl _) (fun i xs H x H' R hi p y k=>by
  obtain⟨e,rfl⟩:=y
  subst e
  exact hs i xs H' R hi p k) hd
theorem comp_et {elt:Ce} {own:List Nat} {t:Ct} {q:Cqo} {a:Addr} {vs:List V} (Pv:Nat->List V->Hp->Prop) (h0:Pv 0 [] H) (hl:∀i xs H,Pv i xs H->SqT C.K H a vs)
  (hs:∀i xs H x p (R:List V->Hp->Prop),vs[i]?=some x->H p=none->Pv i xs H->(∀ys H2,Pv (i+1) ys H2->R ys H2)->tG C t (.ref p) (clr own σ) (upd H p (.tup [.int i,x])) (kCG C elt q xs R)) (hd:∀xs H,Pv vs.length xs H->kNew Q xs H):kComp C elt own t q σ Q (Itet C.K a) H:=
 comp_by (n:=vs.length) Pv h0 (fun i xs H hi p=>⟨vs,vs[i],hl i xs H p,by simp[hi]⟩) (fun xs H p=>⟨vs,hl _ xs H p,rfl⟩) (fun i xs H x H' R hi p y k=>by
  obtain⟨ad,v,rfl,hn,y,rfl⟩:=y
  exact hs i xs H v ad R (y vs (hl i xs H p)) hn p k) hd
end
section
variable {C:Rc} {K:W.Frag} {σ:L2.St} {H:Hp} {Q:VK} {D:Ends} {Qb:Bool->Hp->Prop}
theorem call_e {f:Str} {es:Ces} {sp:Sp} (h:C.fs f=some sp) (q:tA C es σ H (kCall (some sp) (C.xk σ) Q)):tE C (.call f es) σ H Q:=by
 rw[tE_call h]
 exact q
theorem bl_len_str {x:Str}:rBlt K .len [.str x] H Q=(x.length<=sizeLine/\Q (.int x.length) H):=propext ⟨fun⟨u,n,e,h,q⟩=>by cases e;obtain⟨h1,h2⟩:=h;subst h2;exact⟨h1,q⟩,fun q=>⟨_,_,rfl,⟨q.1,rfl⟩,q.2⟩⟩
theorem bl_len_tx {l:List Bool}:rBlt K .len [.str (tx l)] H Q=(l.length<=sizeLine/\Q (.int l.length) H):=by rw[bl_len_str,tx_len]
theorem at_lenL {a:Addr} {xs:List V} (h:SqL K H a xs) (q:Q (.int xs.length) H):rBlt K .len [.ref a] H Q:=⟨_,_,rfl,.inl ⟨xs,h,rfl⟩,q⟩
theorem at_lenT {a:Addr} {xs:List V} (h:SqT K H a xs) (q:Q (.int xs.length) H):rBlt K .len [.ref a] H Q:=⟨_,_,rfl,.inr ⟨xs,h,rfl⟩,q⟩
theorem bl_abs {i:Int}:rBlt K .abs [.int i] H Q=Q (.int (if i<0 then -i else i)) H:=propext ⟨fun⟨u,e,q⟩=>by cases e;exact q,fun q=>⟨_,rfl,q⟩⟩
theorem bl_int_int {i:Int}:rBlt K .int [.int i] H Q=Q (.int i) H:=rfl
theorem bl_int_bl {k:Bool}:rBlt K .int [.bl k] H Q=Q (.int (if k then 1 else 0)) H:=rfl
theorem bl_int_tx {c:Bool}:rBlt K .int [.str (tx [c])] H Q=Q (.int (if c then 1 else 0)) H:=propext ⟨fun⟨n,e,_,q⟩=>by rw[tx_int]at e;cases e;exact q,fun q=>⟨_,tx_int,by rw[tx_len,List.length_singleton];decide,q⟩⟩
theorem bl_min2 {i j:Int}:rBlt K .min [.int i,.int j] H Q=Q (.int (if j<i then j else i)) H:=rfl
theorem at_all {a:Addr} {bs:List Bool} (h:SqL K H a (bs.map V.bl)) (q:Q (.bl (bs.all id)) H):rBlt K .all [.ref a] H Q:=⟨a,bs,rfl,h,q⟩
theorem at_any {a:Addr} {bs:List Bool} (h:SqL K H a (bs.map V.bl)) (q:Q (.bl (bs.any id)) H):rBlt K .any [.ref a] H Q:=⟨a,bs,rfl,h,q⟩
theorem at_isi {x:V} {T c:String} (h:tyName H x=some T) (hT:T∈tyKnown) (hc:c∈["bool","int","str","list","tuple","dict"]) (q:Q (.bl (isT T c)) H):rBlt K .isinstance [x,.ty c] H Q:=.inl (.inl ⟨x,T,c,rfl,h,hT,hc,q⟩)
theorem at_ixL {a:Addr} {xs:List V} {i:Int} {v:V} (h:SqL K H a xs) (e:atI xs i=some v) (q:Q v H):rIxL K (.ref a) (.int i) H Q\/rIxT K (.ref a) (.int i) H Q:=.inl ⟨a,xs,i,v,rfl,rfl,h,e,q⟩
theorem at_ixT {a:Addr} {xs:List V} {i:Int} {v:V} (h:SqT K H a xs) (e:atI xs i=some v) (q:Q v H):rIxL K (.ref a) (.int i) H Q\/rIxT K (.ref a) (.int i) H Q:=.inr ⟨a,xs,i,v,rfl,rfl,h,e,q⟩
theorem atI_map {α β:Type} {f:α->β} {xs:List α} {i:Int}:atI (xs.map f) i=(atI xs i).map f:=by
 unfold atI
 rw[List.length_map]
 cases ixN xs.length i with
 |none=>rfl
 |some j=>simp
theorem at_ixtx {l:List Bool} {i:Int} {c:Bool} (hl:l.length<=sizeLine) (e:atI l i=some c) (q:Q (.str (tx [c])) H):rIxM K (.str (tx l)) (.int i) H Q:=by
 refine⟨by rw[tx_len];exact hl,cb c,?_,q⟩
 rw[tx_cps,atI_map,e]
 rfl
theorem at_two {a:Addr} {u v:V} {k:Bool} (h:SqL K H a [u,v]) (q:Q (if k then v else u) H):rIxL K (.ref a) (.int (if k then 1 else 0)) H Q\/rIxT K (.ref a) (.int (if k then 1 else 0)) H Q:=by
 refine at_ixL h ?_ q
 cases k<;>rfl
theorem b_addtx {x y:List Bool}:rBin K .Add (.str (tx x)) (.str (tx y)) H Q=(x.length+y.length<=sizeLine/\Q (.str (tx (x++y))) H):=by
 rw[b_adds,tx_len,tx_len,tx_app]
theorem c_neV {x y:V} (h:scal x y=true):rCmp K .NotEq x y H Q=Q (.bl (!decide (x=y))) H:=by
 have e:rCmp K .NotEq x y H Q=rNe x y H Q:=by
  unfold rCmp
  dsimp only
  split
  .cases h
  .rfl
 rw[e]
 exact propext ⟨fun⟨_,q⟩=>q,fun q=>⟨h,q⟩⟩
theorem at_range1 {j:Int} (q:∀p,H p=none->Q (.ref p) (upd H p (.rng 0 j))):rBlt K .range [.int j] H Q:=⟨0,j,.inr ⟨rfl,rfl⟩,q⟩
theorem at_listR {r:Addr} {i j:Int} (h:H r=some (.rng i j)) (h1:-(2 ^ 62)<=i) (h2:i<2 ^ 62) (h3:-(2 ^ 62)<=j) (h4:j<2 ^ 62) (hz:(j-i).toNat<=sizeLine) (q:∀p,H p=none->Q (.ref p) (upd H p (.lst (rgs i (j-i).toNat)))):rBlt K .list [.ref r] H Q:=.inr ⟨r,i,j,rfl,h,⟨h1,h2,h3,h4⟩,hz,q⟩
theorem at_tupL {a:Addr} {xs:List V} (h:SqL K H a xs) (q:∀p,H p=none->Q (.ref p) (upd H p (.tup xs))):rBlt K .tuple [.ref a] H Q:=⟨a,xs,rfl,.inl ⟨h,q⟩⟩
theorem c_neb {x y:Bool}:rCmp K .NotEq (.bl x) (.bl y) H Q=Q (.bl (x != y)) H:=by
 have e:rCmp K .NotEq (.bl x) (.bl y) H Q=Q (.bl (!decide (V.bl x=V.bl y))) H:=propext ⟨fun⟨_,q⟩=>q,fun q=>⟨rfl,q⟩⟩
 rw[e]
 cases x<;>cases y<;>rfl
theorem c_nei {x y:Int}:rCmp K .NotEq (.int x) (.int y) H Q=Q (.bl (!decide (x=y))) H:=by
 have e:rCmp K .NotEq (.int x) (.int y) H Q=Q (.bl (!decide (V.int x=V.int y))) H:=propext ⟨fun⟨_,q⟩=>q,fun q=>⟨rfl,q⟩⟩
 rw[e]
 congr 3
 simp only[V.int.injEq]
noncomputable def kG (C:Rc) (t:Ct) (D:Ends) (σ:L2.St):VK:=fun v H=>tG C t v σ H D.nx
theorem s_asg {t:Ct} {e:Ce}:tS C (.asg t e) D σ H=tE C e σ H (kG C t D σ):=rfl
theorem kG_tup2 {i j:Nat} {a:Addr} {x y:V} (h:SqT C.K H a [x,y]) (q:D.nx ((σ.set i (some x)).set j (some y)) H):kG C (.tup (.cons (.name i) (.cons (.name j) .nil))) D σ (.ref a) H:=g_tup2 h q
theorem s_par {i j:Nat} {a b:Ce}:tS C (.par i j a b) D σ H=tE C a σ H (kPar1 C σ i j b D):=by
 show(tE C a σ H fun x H1=>tE C b σ H1 fun y H2=>∃v w,[x,y]=[v,w]/\D.nx ((σ.set i (some v)).set j (some w)) H2)=_
 congr 1
 funext x H1
 unfold kPar1
 congr 1
 funext y H2
 exact propext ⟨fun⟨v,w,e,q⟩=>by cases e;exact q,fun q=>⟨x,y,rfl,q⟩⟩
theorem at_app {a:Addr} {xs:List V} {y:V} (h:H a=some (.lst xs)) (hz:xs.length<sizeLine) (q:Q .non (upd H a (.lst (xs++[y])))):rMet K .append (.ref a) [y] H Q:=⟨a,xs,y,rfl,rfl,h,hz,q⟩
theorem tyL {a:Addr} {xs:List V} {m:Mf} (h:H a=some (.lst xs)) (hm:metTy m="list"):tyV K (metTy m) (.ref a) H:=.inl ⟨hm,xs,SqL.of h⟩
theorem at_cat {a b:Addr} {xs zs:List V} (h:H a=some (.lst xs)) (h2:H b=some (.lst zs)) (hz:xs.length+zs.length<=sizeLine) (q:∀p,H p=none->Q (.ref p) (upd H p (.lst (xs++zs)))):rBin K .Add (.ref a) (.ref b) H Q:=.inl ⟨a,b,xs,zs,rfl,rfl,h,h2,hz,q⟩
theorem same_new {H:Hp} {p:Addr} (h:H p=none) (o:HO):Same H (upd H p o):=fun b u q=>by rw[upd_ne (ne_of_none q h)];exact q
theorem lt_of_get {α:Type} {l:List α} {i:Nat} {c:α} (hc:l[i]?=some c):i<l.length:=by
 rcases Nat.lt_or_ge i l.length with h|h
 .exact h
 .rw[List.getElem?_eq_none_iff.mpr h]at hc;cases hc
theorem tE_dnew:tE C .dnew σ H Q=(∀p,H p=none->Q (.ref p) (upd H p (.dK []))):=rfl
noncomputable def kDx2 (x:V) (Q:VK):VK:=fun y H=>∃a v,x=.ref a/\DGet H a y (some v)/\Q v H
noncomputable def kDx1 (C:Rc) (σ:L2.St) (b:Ce) (Q:VK):VK:=fun x H=>tE C b σ H (kDx2 x Q)
theorem kDx1_at {b:Ce} {x:V}:kDx1 C σ b Q x H=tE C b σ H (kDx2 x Q):=rfl
theorem at_str01 {b:Bool} (q:Q (.str (tx [b])) H):rBlt K .str [.int (if b then 1 else 0)] H Q:=by
 refine⟨_,rfl,by cases b<;>decide,?_⟩
 cases b
 .have e:(Str.ofString (toString (if false=true then(1:Int)else 0)))=tx [false]:=by decide +kernel
  rw[e];exact q
 .have e:(Str.ofString (toString (if true=true then(1:Int)else 0)))=tx [true]:=by decide +kernel
  rw[e];exact q
theorem c_netx {x y:List Bool}:rCmp K .NotEq (.str (tx x)) (.str (tx y)) H Q=Q (.bl (!decide (x=y))) H:=by
 rw[c_neV rfl]
 congr 3
 apply decide_eq_decide.mpr
 simp only[V.str.injEq]
 exact⟨tx_inj,fun h=>by rw[h]⟩
end
end R3
namespace R3
open PySem PySem.Spec PyProof.Rows L2 PySem.Builtin PySem.Builtin.Str
theorem tx_join:∀{ls:List (List Bool)},Txt.join (tx []) (ls.map tx)=tx ls.flatten:=by
 intro ls
 unfold Txt.join
 rw[StrLaws.glued_eq_join]
 induction ls with
 |nil=>rfl
 |cons l r ih=>
  cases r with
  |nil=>simp[Str.join]
  |cons y r=>
   rw[List.map_cons,List.map_cons]
   show tx l++tx []++Str.join (tx []) (List.map tx (y :: r))=_
   rw[ih,tx_app,tx_app]
   simp
section
variable {K:W.Frag} {H:Hp} {Q:VK}
theorem at_join {a:Addr} {ls:List (List Bool)} (h:SqL K H a (ls.map fun l=>V.str (tx l))) (hz:ls.flatten.length<=16000000) (q:Q (.str (tx ls.flatten)) H):rMet K .join (.str (tx [])) [.ref a] H Q:=by
 refine⟨tx [],a,ls.map tx,rfl,rfl,.inl (by rw[List.map_map];exact h),?_,by rw[tx_join];exact q⟩
 have e:((ls.map tx).map (·.length)).sum=ls.flatten.length:=by
  rw[List.map_map,List.length_flatten]
  congr 1
  apply List.map_congr_left
  intro l _
  exact tx_len
 rw[e,tx_len,List.length_nil,Nat.mul_zero]
 omega
theorem tx_slice {l:List Bool} {a b:Nat} (h1:a<=b) (h2:b<=l.length):Txt.slice (tx l) (some (a:Int)) (some (b:Int))=tx ((l.drop a).take (b-a)):=by
 have e:=slice_closes (x:=tx l) (i:=a) (j:=b) ⟨by omega,by omega,by rw[tx_cps,List.length_map];omega⟩
 rw[eq_of_beq e,tx_cps]
 rw[show((b:Int)-(a:Int)).toNat=b-a by omega,Int.toNat_natCast]
 simp[tx,List.map_take,List.map_drop]
theorem indices_clip {n:Nat} {i j:Int} (h:(n:Int)<=j):strSliceIndices (some i) (some j) 1 n=strSliceIndices (some i) (some (n:Int)) 1 n:=by
 have h0:¬j<0:=by omega
 have h1:¬((n:Int)<0):=by omega
 have h2:(1:Int) > 0:=by decide
 simp only[strSliceIndices,h0,h1,h2,if_false,if_true,Int.min_eq_right h,Int.min_self]
theorem tx_from {l:List Bool} {a:Nat}:Txt.slice (tx l) (some (a:Int)) none=tx (l.drop a):=by
 rcases Nat.le_total a l.length with h|h
 .exact tx_drop h
 .rw[slice_beyond (by rw[tx_len];omega),List.drop_of_length_le h]
  rfl
end
section
variable {C:Rc} {K:W.Frag} {σ:L2.St} {H:Hp} {Q:VK} {D:Ends} {Qb:Bool->Hp->Prop} {i j:Int}
theorem b_shl:rBin K .LShift (.int i) (.int j) H Q=(CShl i j/\Q (.int (i*2 ^ j.toNat)) H):=propext ⟨fun⟨_,_,e,e',c,q⟩=>by cases e;cases e';exact⟨c,q⟩,fun q=>⟨_,_,rfl,rfl,q.1,q.2⟩⟩
theorem b_shr:rBin K .RShift (.int i) (.int j) H Q=(0<=j/\Q (.int (i / 2 ^ j.toNat)) H):=propext ⟨fun⟨_,_,e,e',c,q⟩=>by cases e;cases e';exact⟨c,q⟩,fun q=>⟨_,_,rfl,rfl,q.1,q.2⟩⟩
theorem b_and1:rBin K .BitAnd (.int i) (.int j) H Q=((0<=i/\j=1)/\Q (.int (i % 2)) H):=propext ⟨fun⟨_,_,e,e',c,q⟩=>by cases e;cases e';exact⟨c,q⟩,fun q=>⟨_,_,rfl,rfl,q.1,q.2⟩⟩
theorem at_truL {a:Addr} {xs:List V} (h:SqL C.K H a xs) (q:Qb (!xs.isEmpty) H):kTru C Qb (.ref a) H:=⟨_,.inl ⟨xs,h,rfl⟩,q⟩
noncomputable def kR3c (R:It->Hp->Prop) (x y:V):VK:=fun z H1=>∃i j c:Int,x=.int i/\y=.int j/\z=.int c/\(-(2 ^ 60)<=i/\i<2 ^ 60/\-(2 ^ 60)<=j/\j<2 ^ 60/\0<c/\c<2 ^ 29)/\R (Itc i c (nStep i j c)) H1
noncomputable def kR3b (C:Rc) (σ:L2.St) (e:Ce) (R:It->Hp->Prop) (x:V):VK:=fun y H1=>tE C e σ H1 (kR3c R x y)
noncomputable def kR3a (C:Rc) (σ:L2.St) (e e':Ce) (R:It->Hp->Prop):VK:=fun x H1=>tE C e σ H1 (kR3b C σ e' R x)
theorem i_range3' {a b c:Ce} {R:It->Hp->Prop}:tI C (.range3 a b c) σ H R=tE C a σ H (kR3a C σ b c R):=by
 show(tE C a σ H fun x H1=>tE C b σ H1 fun y H2=>tE C c σ H2 fun z H3=>∃i j c:Int,[x,y,z]=[.int i,.int j,.int c]/\(-(2 ^ 60)<=i/\i<2 ^ 60/\-(2 ^ 60)<=j/\j<2 ^ 60/\0<c/\c<2 ^ 29)/\R (Itc i c (nStep i j c)) H3)=_
 congr 1
 funext x H1
 unfold kR3a
 congr 1
 funext y H2
 unfold kR3b
 congr 1
 funext z H3
 unfold kR3c
 simp only[List.cons.injEq,and_true,and_assoc]
theorem kR3a_at {e e':Ce} {R:It->Hp->Prop} {x:V}:kR3a C σ e e' R x H=tE C e σ H (kR3b C σ e' R x):=rfl
theorem kR3b_at {e:Ce} {R:It->Hp->Prop} {x y:V}:kR3b C σ e R x y H=tE C e σ H (kR3c R x y):=rfl
theorem at_r3 {R:It->Hp->Prop} {i j c:Int} (h0:-(2 ^ 60)<=i) (h1:i<2 ^ 60) (h2:-(2 ^ 60)<=j) (h3:j<2 ^ 60) (h4:0<c) (h5:c<2 ^ 29) (q:R (Itc i c (nStep i j c)) H):kR3c R (.int i) (.int j) (.int c) H:=⟨i,j,c,rfl,rfl,rfl,⟨h0,h1,h2,h3,h4,h5⟩,q⟩
noncomputable def kRv (C:Rc) (R:It->Hp->Prop):VK:=fun x H1=>RevV C.K x H1 R
theorem i_rev {a:Ce} {R:It->Hp->Prop}:tI C (.rev a) σ H R=tE C a σ H (kRv C R):=by
 show(tE C a σ H fun x H1=>∃y,[x]=[y]/\RevV C.K y H1 R)=_
 congr 1
 funext x H1
 exact propext ⟨fun⟨y,e,q⟩=>by cases e;exact q,fun q=>⟨x,rfl,q⟩⟩
theorem at_rvR {R:It->Hp->Prop} {p:Addr} {i j:Int} (h:H p=some (.rng i j)) (h0:-(2 ^ 62)<=i) (h1:i<2 ^ 62) (h2:-(2 ^ 62)<=j) (h3:j<2 ^ 62) (q:R (Itc (i+((j-i).toNat:Int)-1) (-1) (j-i).toNat) H):kRv C R (.ref p) H:=.inl ⟨p,i,j,rfl,h,⟨h0,h1,h2,h3⟩,q⟩
theorem at_rvL {R:It->Hp->Prop} {a:Addr} {xs:List V} (h:SqL C.K H a xs) (q:R (Itlr C.K a xs.length) H):kRv C R (.ref a) H:=.inr ⟨a,xs,rfl,h,q⟩
theorem for_c {lo c:Int} {n:Nat} {t:Ct} {b:Css} (Pv:Nat->L2.St->Hp->Prop) (h0:Pv 0 σ H)
  (hs:∀i σ H,i<n->Pv i σ H->tG C t (.int (lo+i*c)) σ H (tSs C b { D with nx:=Pv (i+1),ct:=Pv (i+1),bk:=D.nx })) (hd:∀σ H,Pv n σ H->D.nx σ H):kFor C t b D σ (Itc lo c n) H:=by
 refine⟨fun i m σ H=>m=n-i/\i<=n/\Pv i σ H,⟨n,by simp,Nat.zero_le _,h0⟩,?_⟩
 rintro i m σ H ⟨rfl,hi,p⟩
 by_cases hlt:i<n
 .refine .inr ⟨hlt,Pv (i+1),fun σ' H' p'=>⟨n-(i+1),by omega,rfl,hlt,p'⟩,fun x H' y=>?_⟩
  obtain⟨e,rfl⟩:=y
  subst e
  exact hs i σ _ hlt p
 .have e:i=n:=by omega
  subst e
  exact .inl ⟨Nat.le_refl _,hd σ H p⟩
theorem for_lr {a:Addr} {xs:List V} {t:Ct} {b:Css} (Pv:Nat->L2.St->Hp->Prop) (h0:Pv 0 σ H) (hl:∀i σ H,i<=xs.length->Pv i σ H->SqL C.K H a xs)
  (hs:∀i x σ H,i<xs.length->xs[xs.length-1-i]?=some x->Pv i σ H->tG C t x σ H (tSs C b { D with nx:=Pv (i+1),ct:=Pv (i+1),bk:=D.nx })) (hd:∀σ H,Pv xs.length σ H->D.nx σ H):kFor C t b D σ (Itlr C.K a xs.length) H:=by
 refine⟨fun i m σ H=>m=xs.length-i/\i<=xs.length/\Pv i σ H,⟨xs.length,by simp,Nat.zero_le _,h0⟩,?_⟩
 rintro i m σ H ⟨rfl,hi,p⟩
 by_cases hlt:i<xs.length
 .refine .inr ⟨⟨hlt,xs,hl i σ H hi p,rfl⟩,Pv (i+1),fun σ' H' p'=>⟨xs.length-(i+1),by omega,rfl,hlt,p'⟩,fun x H' y=>?_⟩
  obtain⟨e,y⟩:=y
  subst e
  exact hs i x σ _ hlt (y xs (hl i σ _ hi p)) p
 .have e:i=xs.length:=by omega
  exact .inl ⟨e.symm,hd σ H (e ▸ p)⟩
theorem comp_c {elt:Ce} {own:List Nat} {t:Ct} {q:Cqo} {lo c:Int} {n:Nat} (Pv:Nat->List V->Hp->Prop) (h0:Pv 0 [] H)
  (hs:∀i xs H (R:List V->Hp->Prop),i<n->Pv i xs H->(∀ys H2,Pv (i+1) ys H2->R ys H2)->tG C t (.int (lo+i*c)) (clr own σ) H (kCG C elt q xs R)) (hd:∀xs H,Pv n xs H->kNew Q xs H):kComp C elt own t q σ Q (Itc lo c n) H:=
 comp_by (n:=n) Pv h0 (fun i xs H hi p=>hi) (fun xs H p=>Nat.le_refl _) (fun i xs H x H' R hi p y k=>by
  obtain⟨e,rfl⟩:=y
  subst e
  exact hs i xs H' R hi p k) hd
def kIn2 (C:Rc) (elt:Ce) (ws:List Nat) (t2:Ct) (q2:Cqo) (xs:List V) (P:List V->Hp->Prop) (σ:L2.St) (J:It) (H1:Hp):Prop:=tClause ws (tG C t2) (tQo C q2) (tEmit (tE C elt)) J σ xs H1 P
noncomputable def kCT2 (C:Rc) (elt:Ce) (ws:List Nat) (t2:Ct) (it2:Ci) (q2:Cqo) (xs:List V) (P:List V->Hp->Prop) (σ:L2.St):Bool->Hp->Prop:=fun ok H=>if ok=true then tI C it2 σ H (kIn2 C elt ws t2 q2 xs P σ)else P xs H
noncomputable def kCG2 (C:Rc) (elt:Ce) (q:Cqo) (ws:List Nat) (t2:Ct) (it2:Ci) (q2:Cqo) (xs:List V) (P:List V->Hp->Prop):L2.St->Hp->Prop:=fun σ H=>tQo C q σ H (kCT2 C elt ws t2 it2 q2 xs P σ)
theorem kCG2_n {elt:Ce} {ws:List Nat} {t2:Ct} {it2:Ci} {q2:Cqo} {xs:List V} {P:List V->Hp->Prop}:kCG2 C elt .none ws t2 it2 q2 xs P σ H=tI C it2 σ H (kIn2 C elt ws t2 q2 xs P σ):=rfl
theorem kCG2_q {elt:Ce} {q:Cq} {ws:List Nat} {t2:Ct} {it2:Ci} {q2:Cqo} {xs:List V} {P:List V->Hp->Prop}:kCG2 C elt (.some q) ws t2 it2 q2 xs P σ H=tQ C q σ H (kCT2 C elt ws t2 it2 q2 xs P σ):=rfl
theorem kCT2_t {elt:Ce} {ws:List Nat} {t2:Ct} {it2:Ci} {q2:Cqo} {xs:List V} {P:List V->Hp->Prop}:kCT2 C elt ws t2 it2 q2 xs P σ true H=tI C it2 σ H (kIn2 C elt ws t2 q2 xs P σ):=rfl
theorem kCT2_f {elt:Ce} {ws:List Nat} {t2:Ct} {it2:Ci} {q2:Cqo} {xs:List V} {P:List V->Hp->Prop}:kCT2 C elt ws t2 it2 q2 xs P σ false H=P xs H:=rfl
def kComp2 (C:Rc) (elt:Ce) (own:List Nat) (t:Ct) (q:Cqo) (ws:List Nat) (t2:Ct) (it2:Ci) (q2:Cqo) (σ:L2.St) (Q:VK) (J:It) (H1:Hp):Prop:=tClause own (tG C t) (tQo C q) (tNest (tI C it2) (tClause ws (tG C t2) (tQo C q2) (tEmit (tE C elt)))) J σ [] H1 (kNew Q)
theorem tE_comp2 {elt:Ce} {own:List Nat} {t:Ct} {it:Ci} {q:Cqo} {ws:List Nat} {t2:Ct} {it2:Ci} {q2:Cqo}:tE C (.comp elt own t it q (.cons ws t2 it2 q2 .nil)) σ H Q=tI C it σ H (kComp2 C elt own t q ws t2 it2 q2 σ Q):=rfl
end
noncomputable def All2 {α β:Type} (R:α->β->Prop):List α->List β->Prop
 | [],[]=>True
 |a :: as,b :: bs=>R a b/\All2 R as bs
 |_,_=>False
section
variable {α β:Type} {R S:α->β->Prop}
theorem All2.mono (h:∀a b,R a b->S a b):∀{as:List α} {bs:List β},All2 R as bs->All2 S as bs
 | [],[],_=>trivial
 |_ :: _,_ :: _,q=>⟨h _ _ q.1,All2.mono h q.2⟩
 | [],_ :: _,q=>q.elim
 |_ :: _,[],q=>q.elim
theorem All2.len:∀{as:List α} {bs:List β},All2 R as bs->as.length=bs.length
 | [],[],_=>rfl
 |_ :: _,_ :: _,q=>by simp[All2.len q.2]
 | [],_ :: _,q=>q.elim
 |_ :: _,[],q=>q.elim
theorem All2.app:∀{as cs:List α} {bs ds:List β},All2 R as bs->All2 R cs ds->All2 R (as++cs) (bs++ds)
 | [],_,[],_,_,q=>q
 |_ :: _,_,_ :: _,_,p,q=>⟨p.1,All2.app p.2 q⟩
 | [],_,_ :: _,_,p,_=>p.elim
 |_ :: _,_,[],_,p,_=>p.elim
theorem All2.snoc {a:α} {b:β} {as:List α} {bs:List β} (h:All2 R as bs) (r:R a b):All2 R (as++[a]) (bs++[b]):=h.app ⟨r,trivial⟩
theorem All2.get:∀{as:List α} {bs:List β} {i:Nat} {b:β},All2 R as bs->bs[i]?=some b->∃a,as[i]?=some a/\R a b
 | [],[],_,_,_,e=>by cases e
 |a :: _,_ :: _,0,_,q,e=>by cases e;exact⟨a,rfl,q.1⟩
 |_ :: as,_ :: bs,i+1,b,q,e=>by
  obtain⟨a,h1,h2⟩:=All2.get (i:=i) (b:=b) q.2 (by simpa using e)
  exact⟨a,by simpa using h1,h2⟩
 | [],_ :: _,_,_,q,_=>q.elim
 |_ :: _,[],_,_,q,_=>q.elim
end
section
variable {C:Rc} {σ:L2.St} {H:Hp} {Q:VK} {D:Ends}
structure ClsG (C:Rc) (r:Str) (Cr:Addr) (L:List Str):Prop where
 own:C.cl r=some Cr
 e:∃Ce,C.cl "RunError"=some Ce/\W.exmOne C.K (.ref Cr) (.ref Ce)=some true
 ex:W.excIn C.K Cr bmV "ValueError.__new__"=true
 x:XCls C.K Cr
 kv:W.kitOne C.K (.ref Cr) (.type "ValueError")=some true
 k:∀c∈L,∃Cc,C.cl c=some Cc/\W.kitOne C.K (.ref Cr) (.ref Cc)=some (decide (c=r))
end
noncomputable def fsOf (l:List (Str×Sp)) (y:Str):Option Sp:=l.lookup y
theorem lookup_here {x:Str} {s:Sp} {l:List (Str×Sp)}:fsOf ((x,s) :: l) x=some s:=by unfold fsOf;simp
theorem lookup_skip {x y:Str} {s:Sp} {l:List (Str×Sp)} (h:(y == x)=false):fsOf ((x,s) :: l) y=fsOf l y:=by
 unfold fsOf
 rw[List.lookup_cons,h]
theorem lookup_mem {y:Str} {s:Sp}:∀{l:List (Str×Sp)},fsOf l y=some s->(y,s)∈l
 | [],h=>by cases h
 |(x,t) :: l,h=>by
  unfold fsOf at h
  rw[List.lookup_cons]at h
  cases e:y == x with
  |true=>
   rw[e]at h
   cases h
   rw[eq_of_beq e]
   exact List.mem_cons_self ..
  |false=>
   rw[e]at h
   exact List.mem_cons_of_mem _ (lookup_mem h)
theorem hfs_of {P:Program} {w:World} {K:W.Frag} {mg:Str->Option Value} {base:Heap} {k:Nat} {l:List (Str×Sp)} (h:∀p∈l,∃f' fd' ps',FnOk P w K mg base CX0 k f' fd' ps' p.2/\mg p.1=some (.ref f')/\W.keepIn K (.ref f')=true/\Binds K fd' ps' []):
  ∀y sp',fsOf l y=some sp'->∃f' fd' ps',FnOk P w K mg base CX0 k f' fd' ps' sp'/\mg y=some (.ref f')/\W.keepIn K (.ref f')=true/\Binds K fd' ps' []:=fun y sp' e=>h (y,sp') (lookup_mem e)
theorem code_ok0 {P:Program} {w:World} {K:W.Frag} {mg:Str->Option Value} {base:Heap} {x qual:Str} {st:Stmt} {f:Addr} {fd:FuncData} {ps:List Str} {k:Nat} {sp:Sp} (F:Fun K x qual st f fd) (C:Rc) (S:FnScope C.N ps (defScope st)) (hK:C.K=K) (code:Css) (hm:mSs C.N C.B (defScope st) code (defBody st)=true)
  (len:∀vs H Q E,sp vs H Q E->vs.length=ps.length)
  (hfs:∀y sp',C.fs y=some sp'->∃f' fd' ps',FnOk P w K mg base CX0 k f' fd' ps' sp'/\mg y=some (.ref f')/\W.keepIn K (.ref f')=true/\Binds K fd' ps' []) (hB:∀y∈C.B,mg y=none) (hmk:mg "~"=none/\mg "^"=none/\mg "%"=none) (nt:tld C.B=false) (nh:hat C.B=false) (hxk:C.xk=fun _=>E0) (hcl:C.cl=fun _=>none)
  (hbody:∀vs H Q E,sp vs H Q E->tSs C code { nx:=fun _ H'=>Q .non H',rt:=Q } (start C.N vs) H):FnOk P w K mg base CX0 (k+1) f fd ps sp:=
 code_ok F C S hK code hm len ⟨fun y sp' e=>by
  obtain⟨f',fd',ps',h1,h2⟩:=hfs y sp' e
  exact⟨f',fd',ps',.inl h1,h2⟩,hB,hmk,(fun c Ca e=>by rw[hcl]at e;cases e),nt,nh⟩ hxk hbody
theorem mC {α:Type} {P:α->Prop} {a:α} {l:List α} (h:P a/\∀x∈l,P x):∀x∈a :: l,P x:=List.forall_mem_cons.mpr h
theorem mN {α:Type} {P:α->Prop}:∀x∈([]:List α),P x:=fun y hy=>absurd hy List.not_mem_nil
theorem len1 {α:Type} {P:List α->Prop} (h:∀x0,P [x0]):∀us:List α,us.length=1->P us
 | [x0],_=>h x0
theorem len2 {α:Type} {P:List α->Prop} (h:∀x0 x1,P [x0,x1]):∀us:List α,us.length=2->P us
 | [x0,x1],_=>h x0 x1
theorem len3 {α:Type} {P:List α->Prop} (h:∀x0 x1 x2,P [x0,x1,x2]):∀us:List α,us.length=3->P us
 | [x0,x1,x2],_=>h x0 x1 x2
theorem len4 {α:Type} {P:List α->Prop} (h:∀x0 x1 x2 x3,P [x0,x1,x2,x3]):∀us:List α,us.length=4->P us
 | [x0,x1,x2,x3],_=>h x0 x1 x2 x3
theorem len5 {α:Type} {P:List α->Prop} (h:∀x0 x1 x2 x3 x4,P [x0,x1,x2,x3,x4]):∀us:List α,us.length=5->P us
 | [x0,x1,x2,x3,x4],_=>h x0 x1 x2 x3 x4
noncomputable def kRestT {α:Type} (rest:TL α) (b:α) (P:α->Hp->Prop) (σ:L2.St):Bool->Hp->Prop:=fun ok H=>if ok=true then rest σ b H P else P b H
noncomputable def kRest {α:Type} (tc:TT) (rest:TL α) (b:α) (P:α->Hp->Prop):L2.St->Hp->Prop:=fun σ H=>tc σ H (kRestT rest b P σ)
def kCl {α:Type} (own:List Nat) (g:TG) (tc:TT) (rest:TL α) (σ:L2.St) (a:α) (N:α->Hp->Prop) (J:It) (H:Hp):Prop:=tClause own g tc rest J σ a H N
section
variable {C:Rc} {σ:L2.St} {H:Hp} {Q:VK} {D:Ends} {α:Type}
theorem kRest_n {rest:TL α} {b:α} {P:α->Hp->Prop}:kRest (tQo C .none) rest b P σ H=rest σ b H P:=rfl
theorem kRest_q {q:Cq} {rest:TL α} {b:α} {P:α->Hp->Prop}:kRest (tQo C (.some q)) rest b P σ H=tQ C q σ H (kRestT rest b P σ):=rfl
theorem kRestT_t {rest:TL α} {b:α} {P:α->Hp->Prop}:kRestT rest b P σ true H=rest σ b H P:=rfl
theorem kRestT_f {rest:TL α} {b:α} {P:α->Hp->Prop}:kRestT rest b P σ false H=P b H:=rfl
theorem cl_by {own:List Nat} {g:TG} {tc:TT} {rest:TL α} {J:It} {a:α} {N:α->Hp->Prop} {n:Nat} (Pv:Nat->α->Hp->Prop) (h0:Pv 0 a H) (hgo:∀i b H,i<n->Pv i b H->J.go i H) (hstop:∀b H,Pv n b H->J.stop n H)
  (hs:∀i b H x H' (R:α->Hp->Prop),i<n->Pv i b H->J.yld i H x H'->(∀c H2,Pv (i+1) c H2->R c H2)->g x (clr own σ) H' (kRest tc rest b R)) (hd:∀b H,Pv n b H->N b H):kCl own g tc rest σ a N J H:=by
 refine⟨fun i m b H=>m=n-i/\i<=n/\Pv i b H,⟨n,by simp,Nat.zero_le _,h0⟩,?_⟩
 rintro i m b H ⟨rfl,hi,p⟩
 by_cases hlt:i<n
 .refine .inr ⟨hgo i b H hlt p,fun x H' y=>?_⟩
  exact hs i b H x H' (fun c H4=>∃m',m'<n-i/\(m'=n-(i+1)/\i+1<=n/\Pv (i+1) c H4)) hlt p y fun ys H2 p2=>⟨n-(i+1),by omega,rfl,hlt,p2⟩
 .have e:i=n:=by omega
  subst e
  exact .inl ⟨hstop b H p,hd b H p⟩
theorem cl_r {own:List Nat} {g:TG} {tc:TT} {rest:TL α} {b0:α} {N:α->Hp->Prop} {lo:Int} {n:Nat} (Pv:Nat->α->Hp->Prop) (h0:Pv 0 b0 H)
  (hs:∀i b H (R:α->Hp->Prop),i<n->Pv i b H->(∀c H2,Pv (i+1) c H2->R c H2)->g (.int (lo+i)) (clr own σ) H (kRest tc rest b R)) (hd:∀b H,Pv n b H->N b H):kCl own g tc rest σ b0 N (Itr lo n) H:=
 cl_by (n:=n) Pv h0 (fun i xs H hi p=>hi) (fun xs H p=>Nat.le_refl _) (fun i xs H x H' R hi p y k=>by
  obtain⟨e,rfl⟩:=y
  subst e
  exact hs i xs H' R hi p k) hd
theorem tE_compN {elt:Ce} {own:List Nat} {t:Ct} {it:Ci} {q:Cqo} {ws:List Nat} {t2:Ct} {it2:Ci} {q2:Cqo} {r:Cc}:tE C (.comp elt own t it q (.cons ws t2 it2 q2 r)) σ H Q=tI C it σ H (kCl own (tG C t) (tQo C q) (tR C (.cons ws t2 it2 q2 r) (tEmit (tE C elt))) σ [] (kNew Q)):=rfl
theorem tR_cons {ws:List Nat} {t:Ct} {it:Ci} {q:Cqo} {r:Cc} {em:TL (List V)} {b:List V} {P:List V->Hp->Prop}:tR C (.cons ws t it q r) em σ b H P=tI C it σ H (kCl ws (tG C t) (tQo C q) (tR C r em) σ b P):=rfl
theorem tR_nil {em:TL (List V)} {b:List V} {P:List V->Hp->Prop}:tR C .nil em σ b H P=em σ b H P:=rfl
theorem emit_at {elt:Ce} {b:List V} {P:List V->Hp->Prop}:tEmit (tE C elt) σ b H P=tE C elt σ H (kPush b P):=rfl
noncomputable def kAddS (b:(Option Int->Bool)×Nat) (P:(Option Int->Bool)×Nat->Hp->Prop):VK:=fun v H=>∃k,v=kO k/\b.2<4000/\P (fun j=>b.1 j || decide (j=k),b.2+1) H
theorem emitS_at {elt:Ce} {b:(Option Int->Bool)×Nat} {P:(Option Int->Bool)×Nat->Hp->Prop}:tEmitS (tE C elt) σ b H P=tE C elt σ H (kAddS b P):=rfl
theorem nest_at {it:Ci} {own:List Nat} {g:TG} {tc:TT} {rest:TL α} {b:α} {P:α->Hp->Prop}:tNest (tI C it) (tClause own g tc rest) σ b H P=tI C it σ H (kCl own g tc rest σ b P):=rfl
noncomputable def kEK2 (a:List (Key×V)) (P:List (Key×V)->Hp->Prop) (y:V):VK:=fun v H2=>∃k,y=L2.kV k/\a.length<sizeLine/\P (putK a k v) H2
noncomputable def kEK1 (C:Rc) (σ:L2.St) (v:Ce) (a:List (Key×V)) (P:List (Key×V)->Hp->Prop):VK:=fun y H1=>tE C v σ H1 (kEK2 a P y)
theorem emitK_at {k v:Ce} {a:List (Key×V)} {P:List (Key×V)->Hp->Prop}:tEmitK (tE C k) (tE C v) σ a H P=tE C k σ H (kEK1 C σ v a P):=rfl
theorem kEK1_at {v:Ce} {a:List (Key×V)} {P:List (Key×V)->Hp->Prop} {y:V}:kEK1 C σ v a P y H=tE C v σ H (kEK2 a P y):=rfl
noncomputable def kET2 (a:KTL) (P:KTL->Hp->Prop) (y:V):VK:=fun v H2=>∃(k:List Key) (b:Addr),y=.ref b/\H2 b=some (.tup (k.map L2.kV))/\okT a H2/\(∀x∈a,x.1≠k)/\a.length<sizeLine/\P (a++[(k,b,v)]) H2
noncomputable def kET1 (C:Rc) (σ:L2.St) (v:Ce) (a:KTL) (P:KTL->Hp->Prop):VK:=fun y H1=>tE C v σ H1 (kET2 a P y)
theorem emitT_at {k v:Ce} {a:KTL} {P:KTL->Hp->Prop}:tEmitT (tE C k) (tE C v) σ a H P=tE C k σ H (kET1 C σ v a P):=rfl
theorem kET1_at {v:Ce} {a:KTL} {P:KTL->Hp->Prop} {y:V}:kET1 C σ v a P y H=tE C v σ H (kET2 a P y):=rfl
noncomputable def kDcx (Q:VK):List (Key×V)->Hp->Prop:=fun a H2=>True/\∀p,H2 p=none->Q (.ref p) (upd H2 p (.dK a))
theorem tE_dcx {k v:Ce} {own:List Nat} {t:Ct} {it:Ci} {q:Cqo}:tE C (.dcx k v own t it q) σ H Q=tI C it σ H (kCl own (tG C t) (tQo C q) (tEmitK (tE C k) (tE C v)) σ [] (kDcx Q)):=rfl
noncomputable def kSst (C:Rc) (Q:VK):VK:=fun x H1=>∃(a:Addr) (ns:List Int),x=.ref a/\SqL C.K H1 a (ns.map V.int)/\ns.length<=3999/\(∃b:List Int,b.length<64/\∀i∈ns,i∈b)/\∀(l:Addr) (us:List Int),H1 l=none->us.Pairwise (· < ·)->(∀i:Int,i∈us↔i∈ns)->Q (.ref l) (upd H1 l (.lst (us.map V.int)))
theorem tE_sst {a:Ce}:tE C (.sst a) σ H Q=tE C a σ H (kSst C Q):=rfl
theorem at_sst {a:Addr} {ns:List Int} (h:SqL C.K H a (ns.map V.int)) (hn:ns.length<=3999) (hb:∃b:List Int,b.length<64/\∀i∈ns,i∈b) (q:∀(l:Addr) (us:List Int),H l=none->us.Pairwise (· < ·)->(∀i:Int,i∈us↔i∈ns)->Q (.ref l) (upd H l (.lst (us.map V.int)))):kSst C Q (.ref a) H:=⟨a,ns,rfl,h,hn,hb,q⟩
noncomputable def kInX2 (neg:Bool) (y:V) (Q:VK):VK:=fun x H2=>(∃a o,x=.ref a/\DGet H2 a y o/\Q (.bl (if neg then !o.isSome else o.isSome)) H2)\/rInO neg y x H2 Q
noncomputable def kInX1 (C:Rc) (σ:L2.St) (neg:Bool) (b:Ce) (Q:VK):VK:=fun y H1=>tE C b σ H1 (kInX2 neg y Q)
theorem tE_din {neg:Bool} {a b:Ce}:tE C (.din neg a b) σ H Q=tE C a σ H (kInX1 C σ neg b Q):=rfl
theorem tQ_din {neg:Bool} {a b:Ce} {Qb:Bool->Hp->Prop}:tQ C (.din neg a b) σ H Qb=tE C a σ H (kInX1 C σ neg b (kT Qb)):=rfl
theorem kInX1_at {neg:Bool} {b:Ce} {y:V}:kInX1 C σ neg b Q y H=tE C b σ H (kInX2 neg y Q):=rfl
theorem at_inD {neg:Bool} {y:V} {p:Addr} {o:Option V} (h:DGet H p y o) (q:Q (.bl (if neg then !o.isSome else o.isSome)) H):kInX2 neg y Q (.ref p) H:=.inl ⟨p,o,rfl,h,q⟩
noncomputable def kGetD3 (a:Addr) (y:V) (Q:VK):VK:=fun z H3=>∃o,DGet H3 a y o/\Q (o.getD z) H3
noncomputable def kGetD2 (C:Rc) (σ:L2.St) (c:Ce) (a:Addr) (Q:VK):VK:=fun y H2=>tE C c σ H2 (kGetD3 a y Q)
noncomputable def kGetD1 (C:Rc) (σ:L2.St) (b c:Ce) (Q:VK):VK:=fun x H1=>∃a,x=.ref a/\IsD H1 a/\tE C b σ H1 (kGetD2 C σ c a Q)
theorem tE_dg2 {a b c:Ce}:tE C (.dg2 a b c) σ H Q=tE C a σ H (kGetD1 C σ b c Q):=rfl
theorem kGetD2_at {c:Ce} {a:Addr} {y:V}:kGetD2 C σ c a Q y H=tE C c σ H (kGetD3 a y Q):=rfl
theorem at_getD1 {b c:Ce} {p:Addr} (h:IsD H p) (q:tE C b σ H (kGetD2 C σ c p Q)):kGetD1 C σ b c Q (.ref p) H:=⟨p,rfl,h,q⟩
theorem at_getD3 {p:Addr} {y z:V} {o:Option V} (h:DGet H p y o) (q:Q (o.getD z) H):kGetD3 p y Q z H:=⟨o,h,q⟩
end
section
variable {C:Rc} {σ:L2.St} {H:Hp} {Q:VK} {Qb:Bool->Hp->Prop}
noncomputable def kW1 (C:Rc) (σ:L2.St) (k:Zf) (b:Ce) (Q:VK):VK:=fun x H=>tE C b σ H fun y H'=>rZf k x y H' Q
noncomputable def kW2 (k:Zf) (x:V) (Q:VK):VK:=fun y H=>rZf k x y H Q
theorem kW1_at {k:Zf} {b:Ce} {x:V}:kW1 C σ k b Q x H=tE C b σ H (kW2 k x Q):=rfl
theorem at_listD {K:W.Frag} {a:Addr} {kvs:List (Key×V)} (h:H a=some (.dK kvs)) (q:∀l,H l=none->Q (.ref l) (upd H l (.lst (kvs.map fun kv=>L2.kV kv.1)))):rBlt K .listD [.ref a] H Q:=⟨a,kvs,rfl,h,q⟩
theorem at_listV {K:W.Frag} {v a:Addr} {kvs:List (Key×V)} (hv:H v=some (VwO v a)) (h:H a=some (.dK kvs)) (q:∀l,H l=none->Q (.ref l) (upd H l (.lst (kvs.map (·.2))))):rBlt K .listV [.ref v] H Q:=⟨v,a,kvs,rfl,hv,h,q⟩
theorem at_lenD {K:W.Frag} {a:Addr} {kvs:List (Key×V)} (h:H a=some (.dK kvs)) (q:Q (.int kvs.length) H):rBlt K .lenD [.ref a] H Q:=⟨a,kvs,rfl,h,q⟩
theorem at_values {K:W.Frag} {a:Addr} {kvs:List (Key×V)} (h:H a=some (.dK kvs)) (q:∀v,H v=none->Q (.ref v) (upd H v (VwO v a))):rMet K .values (.ref a) [] H Q:=⟨a,kvs,rfl,rfl,h,q⟩
section
variable {D:Ends}
noncomputable def kAg3 (x y z:V) (sub:Bool) (D:Ends) (σ:L2.St):VK:=fun w H4=>ipI (fun i j=>if sub then i-j else i+j) z w H4 fun u H5=>rSetL x y u H5 fun H6=>D.nx σ H6
noncomputable def kAg2 (C:Rc) (e:Ce) (sub:Bool) (x:V) (D:Ends) (σ:L2.St):VK:=fun y H2=>rIxL C.K x y H2 fun z H3=>tE C e σ H3 (kAg3 x y z sub D σ)
noncomputable def kAg1 (C:Rc) (i:Ce) (sub:Bool) (e:Ce) (D:Ends) (σ:L2.St):VK:=fun x H1=>tE C i σ H1 (kAg2 C e sub x D σ)
theorem kAg1_at {i e:Ce} {sub:Bool} {x:V}:kAg1 C i sub e D σ x H=tE C i σ H (kAg2 C e sub x D σ):=rfl
noncomputable def kDp3 (x v:V) (D:Ends) (σ:L2.St):VK:=fun y H3=>∃a H4,x=.ref a/\DPut H3 a y v H4/\D.nx σ H4
noncomputable def kDp2 (C:Rc) (i:Ce) (v:V) (D:Ends) (σ:L2.St):VK:=fun x H2=>tE C i σ H2 (kDp3 x v D σ)
noncomputable def kDp1 (C:Rc) (o i:Ce) (D:Ends) (σ:L2.St):VK:=fun v H1=>tE C o σ H1 (kDp2 C i v D σ)
theorem s_dput {o i e:Ce}:tS C (.dput o i e) D σ H=tE C e σ H (kDp1 C o i D σ):=rfl
theorem kDp1_at {o i:Ce} {v:V}:kDp1 C o i D σ v H=tE C o σ H (kDp2 C i v D σ):=rfl
theorem kDp2_at {i:Ce} {v x:V}:kDp2 C i v D σ x H=tE C i σ H (kDp3 x v D σ):=rfl
theorem at_dputK {a:Addr} {kvs:List (Key×V)} {k:Key} {v:V} (h:H a=some (.dK kvs)) (hz:kvs.length<sizeLine) (q:D.nx σ (upd H a (.dK (putK kvs k v)))):kDp3 (.ref a) v D σ (L2.kV k) H:=⟨a,_,rfl,.inl ⟨kvs,k,h,rfl,hz,rfl⟩,q⟩
end
end
end R3
section
open PySem PySem.Spec PyProof.Rows L2 R3
set_option hygiene false in
local macro_rules | `(tactic| walk_at "sx") => `(tactic| simp only [tE_var, tE_int, tE_bl, tE_non, tE_str, tE_ty, tE_bin, kB1_at, kB2_at, tE_cmp, kC1_at, kC2_at, tE_idx, kI1_at, kI2_at, tE_neg, kNeg_int, kT_bl, tQ_cmp, kNotQ_at, tQ_and, tQ_or, kAndQ_t, kAndQ_f, kOrQ_t, kOrQ_f, b_shl, b_shr, b_and1, i_range3', kR3a_at, kR3b_at, i_rev, kCG2_n, kCG2_q, kCT2_t, kCT2_f, tE_comp2, b_add, b_addtx, b_sub, b_mul, b_muls, b_mod, b_div, b_pow, c_lt, c_gt, c_ge, c_eq, c_eqs, c_neb, c_nei, c_netx, tE_dnew, kDx1_at, ix_ref, ss_nil, ss_cons, seq_nx, seq_rt, seq_bk, seq_ct, s_ret, s_expr, kDrop_at, s_set, kSet_at, s_sub, kSub1_at, kSub2_at, kSub3_at, s_if, kIf_t, kIf_f, kV_some, kA1_at, kA2_at, a_nil, a_cons, tE_tup, tE_lst, kTup_at, kLst_at, kCall_at, kBlt_at, tE_met, kMet1_at, kMet2_at, kIfe_t, kIfe_f, tE_and, tE_or, kAndV_t, kAndV_f, tQ_val, kTru_bl, tE_cut, kCut1_at, kCut2_at, kCut3_at, o_none, o_some, kPart_int, sl_ref, kAug_int, kPar1_at, kPar2_at, s_par, bl_len_tx, bl_abs, bl_int_int, bl_int_bl, bl_int_tx, bl_min2, tx_01, tx_10, tx_nil, s_for, i_val, i_range1', kR2a_at, kZ1_at, i_enum, g_name, tE_comp, kCG_n, kCG_q, kCT_t, kCT_f, kPush_at, clr, List.foldl_cons, List.foldl_nil, L2.start, List.map_cons, List.map_nil, List.length_cons, List.length_nil, List.cons_append, List.nil_append, List.replicate, Nat.reduceSub, Nat.reduceAdd, List.set_cons_zero, List.set_cons_succ, List.getElem?_cons_zero, List.getElem?_cons_succ, reduceCtorEq, decide_true, decide_false, eq_self, Bool.not_true, Bool.not_false, bne_self_eq_false, BEq.rfl])
local macro_rules | `(tactic| walk_at "y") => `(tactic| try walk_at "sy")
set_option hygiene false in
local macro_rules | `(tactic| walk_at "sy") => `(tactic| simp only [kW1_at, s_dput, kDp1_at, kDp2_at, kAg1_at, tE_compN, tR_cons, tR_nil, emit_at, tE_din, tQ_din, kInX1_at, tE_dg2, kGetD2_at, tE_dcx, tE_sst, emitS_at, nest_at, emitK_at, kEK1_at, emitT_at, kET1_at, kRest_n, kRest_q, kRestT_t, kRestT_f, tE_var, tE_int, tE_bl, tE_non, tE_str, tE_ty, tE_bin, kB1_at, kB2_at, tE_cmp, kC1_at, kC2_at, tE_idx, kI1_at, kI2_at, tE_neg, kNeg_int, kT_bl, tQ_cmp, kNotQ_at, tQ_and, tQ_or, kAndQ_t, kAndQ_f, kOrQ_t, kOrQ_f, b_shl, b_shr, b_and1, i_range3', kR3a_at, kR3b_at, i_rev, kCG2_n, kCG2_q, kCT2_t, kCT2_f, tE_comp2, b_add, b_addtx, b_sub, b_mul, b_muls, b_mod, b_div, b_pow, c_lt, c_gt, c_ge, c_eq, c_eqs, c_neb, c_nei, c_netx, tE_dnew, kDx1_at, ix_ref, ss_nil, ss_cons, seq_nx, seq_rt, seq_bk, seq_ct, s_ret, s_expr, kDrop_at, s_set, kSet_at, s_sub, kSub1_at, kSub2_at, kSub3_at, s_if, kIf_t, kIf_f, kV_some, kA1_at, kA2_at, a_nil, a_cons, tE_tup, tE_lst, kTup_at, kLst_at, kCall_at, tE_blt, kBlt_at, tE_met, kMet1_at, kMet2_at, kIfe_t, kIfe_f, tE_and, tE_or, kAndV_t, kAndV_f, tQ_val, kTru_bl, tE_cut, kCut1_at, kCut2_at, kCut3_at, o_none, o_some, kPart_int, sl_ref, kAug_int, kPar1_at, kPar2_at, s_par, bl_len_tx, bl_abs, bl_int_int, bl_int_bl, bl_int_tx, bl_min2, tx_01, tx_10, tx_nil, s_for, i_val, i_range1', kR2a_at, kZ1_at, i_enum, g_name, tE_comp, kCG_n, kCG_q, kCT_t, kCT_f, kPush_at, clr, List.foldl_cons, List.foldl_nil, L2.start, List.map_cons, List.map_nil, List.length_cons, List.length_nil, List.cons_append, List.nil_append, List.replicate, Nat.reduceSub, Nat.reduceAdd, List.set_cons_zero, List.set_cons_succ, List.getElem?_cons_zero, List.getElem?_cons_succ, reduceCtorEq, decide_true, decide_false, eq_self, Bool.not_true, Bool.not_false, bne_self_eq_false, BEq.rfl])
namespace LW
open PySem PySem.Spec PyProof.Rows L2 R3
noncomputable def c_cell_at:Css:=(.cons (.ite (.cmp .Lt (.var 1) (.blt .len (.cons (.var 0) .nil))) (.cons (.ret (.idx (.var 0) (.var 1)))
  .nil) .nil)
  (.cons (.ret (.int 0))
  .nil))
noncomputable def c_box:Css:=(.cons (.asg (.name 2) (.call "_law_cell_at" (.cons (.var 0) (.cons (.var 1) .nil))))
  (.cons (.ret (.lst (.cons (.bin .Mult (.blt .abs (.cons (.var 2) .nil)) (.blt .int (.cons (.cmp .GtE (.blt .abs (.cons (.var 2) .nil)) (.bin .Pow (.int 10) (.int 18))) .nil))) (.cons (.bin .Add (.bin .Add (.bin .Mod (.var 2) (.int 2305843009213693951)) (.bin .Mult (.int 39373) (.var 1))) (.int 17)) (.cons (.int 0) .nil)))))
  .nil))
noncomputable def c_take:Css:=(.cons (.ite (.cmp .Gt (.idx (.var 0) (.int 0)) (.int 0)) (.cons (.asg (.name 2) (.bin .Mod (.idx (.var 0) (.int 0)) (.var 1)))
  (.cons (.asg (.sub (.var 0) (.int 0)) (.bin .FloorDiv (.idx (.var 0) (.int 0)) (.var 1)))
  (.cons (.ret (.var 2))
  .nil))) .nil)
  (.cons (.asg (.sub (.var 0) (.int 2)) (.bin .Add (.idx (.var 0) (.int 2)) (.int 1)))
  (.cons (.asg (.name 3) (.bin .Mod (.bin .Mult (.bin .Add (.idx (.var 0) (.int 1)) (.bin .Mult (.int 48271) (.idx (.var 0) (.int 2)))) (.bin .Add (.int 39373) (.idx (.var 0) (.int 2)))) (.int 2147483647)))
  (.cons (.asg (.name 4) (.bin .Mod (.bin .Mult (.bin .Add (.var 3) (.idx (.var 0) (.int 2))) (.bin .Add (.bin .Mod (.var 3) (.int 40009)) (.int 7))) (.int 2147483629)))
  (.cons (.ret (.bin .Mod (.bin .FloorDiv (.bin .Mod (.bin .Add (.bin .Mult (.var 4) (.int 48271)) (.var 3)) (.int 2147483587)) (.int 64)) (.var 1)))
  .nil)))))
def spCell (K:W.Frag):Sp:=fun vs H Q _=>∃(a:Addr) (ns:List Int) (k:Int),vs=[.ref a,.int k]/\SqL K H a (ns.map V.int)/\0<=k/\∀c:Int,Q (.int c) H
theorem atI_ints {ns:List Int} {k:Int} (h0:0<=k) (h1:k<ns.length):∃c:Int,atI (ns.map V.int) k=some (.int c):=by
 obtain⟨j,rfl⟩:=Int.eq_ofNat_of_zero_le h0
 have hk:j<ns.length:=by omega
 exact⟨ns[j],atI_nat (by rw[List.getElem?_map,List.getElem?_eq_getElem hk];rfl)⟩
theorem body_cell {C:Rc} (hN:C.N.length=2):∀vs H Q E,spCell C.K vs H Q E->tSs C c_cell_at { nx:=fun _ H'=>Q .non H',rt:=Q } (L2.start C.N vs) H:=by
 intro vs H Q E h
 obtain⟨a,ns,k,rfl,hs,hk,q⟩:=h
 rw[start_eq hN]
 unfold c_cell_at
 walk_at "y"
 refine at_lenL hs ?_
 rw[List.length_map]
 walk_at "y"
 refine by_dec (fun c=>?_) fun _=>?_
 .obtain⟨v,hv⟩:=atI_ints hk c
  walk_at "y"
  exact at_ixL hs hv (q v)
 .walk_at "y"
  exact q 0
def spBox0 (K:W.Frag):Sp:=fun vs H Q _=>∃(a:Addr) (ns:List Int) (k:Int),vs=[.ref a,.int k]/\SqL K H a (ns.map V.int)/\0<=k/\k<=1000/\∀(p:Addr) (x y:Int),H p=none->0<=x->0<=y->y<2 ^ 62->Q (.ref p) (upd H p (BoxL x y 0))
theorem body_box {C:Rc} (hN:C.N.length=3) (hf:C.fs "_law_cell_at"=some (spCell C.K)):∀vs H Q E,spBox0 C.K vs H Q E->tSs C c_box { nx:=fun _ H'=>Q .non H',rt:=Q } (L2.start C.N vs) H:=by
 intro vs H Q E h
 obtain⟨a,ns,k,rfl,hs,hk,hk2,q⟩:=h
 rw[start_eq hN]
 unfold c_box
 walk_at "y"
 refine call_e hf ?_
 walk_at "y"
 refine⟨a,ns,k,rfl,hs,hk,fun c=>?_⟩
 walk_at "y"
 have hm0:0<=c % 2305843009213693951:=Int.emod_nonneg _ (by decide)
 have hm1:c % 2305843009213693951<2305843009213693951:=Int.emod_lt_of_pos _ (by decide)
 refine⟨⟨by decide,by decide,by decide⟩,?_,by decide,.inl ⟨by decide,by decide⟩,by decide,fun p hp=>q p _ _ hp ?_ ?_ ?_⟩
 .refine .inr (.inl ⟨?_,?_⟩)<;>split<;>split<;>decide
 .split<;>split<;>omega
 .omega
 .omega
section
variable {K:W.Frag} {H:Hp} {b:Addr} {x y z:Int} {Q:VK}
theorem ix0 (h:H b=some (BoxL x y z)) (q:Q (.int x) H):rIxL K (.ref b) (.int 0) H Q\/rIxT K (.ref b) (.int 0) H Q:=.inl ⟨b,_,0,_,rfl,rfl,SqL.of h,rfl,q⟩
theorem ix1 (h:H b=some (BoxL x y z)) (q:Q (.int y) H):rIxL K (.ref b) (.int 1) H Q\/rIxT K (.ref b) (.int 1) H Q:=.inl ⟨b,_,1,_,rfl,rfl,SqL.of h,rfl,q⟩
theorem ix2 (h:H b=some (BoxL x y z)) (q:Q (.int z) H):rIxL K (.ref b) (.int 2) H Q\/rIxT K (.ref b) (.int 2) H Q:=.inl ⟨b,_,2,_,rfl,rfl,SqL.of h,rfl,q⟩
theorem st0 {u:Int} {Q:Hp->Prop} (h:H b=some (BoxL x y z)) (q:Q (upd H b (BoxL u y z))):rSetL (.ref b) (.int 0) (.int u) H Q:=⟨b,_,0,0,rfl,rfl,h,rfl,q⟩
theorem st2 {u:Int} {Q:Hp->Prop} (h:H b=some (BoxL x y z)) (q:Q (upd H b (BoxL x y u))):rSetL (.ref b) (.int 2) (.int u) H Q:=⟨b,_,2,2,rfl,rfl,h,rfl,q⟩
end
def spTake0:Sp:=fun vs H Q _=>∃(b:Addr) (x y z m:Int),vs=[.ref b,.int m]/\H b=some (BoxL x y z)/\0<=x/\0<=y/\y<2 ^ 62/\0<=z/\z<=2 ^ 40/\0<m/\m<4611686018427387904/\
 ∀(r x' z':Int),0<=r->r<m->0<=x'->0<=z'->z'<=z+1->Q (.int r) (upd H b (BoxL x' y z'))
theorem body_take {C:Rc} (hN:C.N.length=5):∀vs H Q E,spTake0 vs H Q E->tSs C c_take { nx:=fun _ H'=>Q .non H',rt:=Q } (L2.start C.N vs) H:=by
 intro vs H Q E h
 obtain⟨b,x,y,z,m,rfl,hb,hx,hy,hy2,hz,hz2,hm,hm2,q⟩:=h
 rw[start_eq hN]
 unfold c_take
 walk_at "sy"
 refine ix0 hb ?_
 walk_at "sy"
 refine by_dec (fun c=>?_) fun _=>?_
 .walk_at "sy"
  refine ix0 hb ?_
  walk_at "sy"
  refine⟨hm,?_⟩
  refine ix0 hb ?_
  walk_at "sy"
  refine⟨⟨hm,.inr (Nat.lt_of_lt_of_le ((Nat.log2_lt (by omega)).mpr (show m.natAbs<2 ^ 62 by omega)) (by decide))⟩,st0 hb ?_⟩
  walk_at "sy"
  exact q _ _ _ (Int.emod_nonneg _ (by omega)) (Int.emod_lt_of_pos _ hm) (Int.ediv_nonneg hx (by omega)) hz (by omega)
 .walk_at "sy"
  refine ix2 hb ?_
  walk_at "sy"
  refine st2 hb ?_
  have hb':upd H b (BoxL x y (z+1)) b=some (BoxL x y (z+1)):=upd_same
  walk_at "sy"
  refine ix1 hb' ?_
  walk_at "sy"
  refine ix2 hb' ?_
  walk_at "sy"
  refine⟨.inl ⟨by decide,by decide⟩,?_⟩
  refine ix2 hb' ?_
  walk_at "sy"
  refine⟨.inr (.inl ⟨by omega,by omega⟩),by decide,?_⟩
  refine ix2 hb' ?_
  walk_at "sy"
  generalize (y+48271*(z+1))*(39373+(z+1)) % 2147483647=once
  have ho0:0<=once % 40009:=Int.emod_nonneg _ (by decide)
  have ho1:once % 40009<40009:=Int.emod_lt_of_pos _ (by decide)
  refine⟨by decide,.inr (.inl ⟨by omega,by omega⟩),by decide,.inr (.inl ⟨by decide,by decide⟩),by decide,⟨by decide,by decide⟩,hm,?_⟩
  exact q _ _ _ (Int.emod_nonneg _ (by omega)) (Int.emod_lt_of_pos _ hm) hx (by omega) (by omega)
def spTake:Sp:=fun vs H Q _=>∃(b:Addr) (n:Nat) (m:Int),vs=[.ref b,.int m]/\H b=some (BoxO b n)/\n<=2 ^ 40/\0<m/\m<4611686018427387904/\∀(r:Int) (H':Hp),0<=r->r<m->Go 1 H H'->Q (.int r) H'
theorem take_fn {P:Program} {w:World} {K:W.Frag} {mg:Str->Option Value} {base:Heap} {k:Nat} {f:Addr} {fd:FuncData} {ps:List Str} (hp:ps.length=2) (F:FnOk P w K mg base CX0 k f fd ps spTake0):FnOk P w K mg base CX0 k f fd ps spTake:=by
 refine open_fn (shut_fn (sp':=fun vs H Q E=>spTake0 vs H (Shut Q) E) F fun _ _ _ _ h=>h) (fun vs H Q E h=>?_) fun vs H Q E h=>?_
 .obtain⟨b,n,m,rfl,hb,hn,hm,hm2,q⟩:=h
  refine⟨b,n,hb,fun x y z hx hy hy2 hz hzn=>⟨b,x,y,z,m,rfl,upd_same,hx,hy,hy2,hz,by omega,hm,hm2,fun r x' z' h1 h2 h3 h4 h5=>?_⟩⟩
  refine⟨b,x',y,z',n+1,upd_same,h3,hy,hy2,h4,by omega,?_⟩
  refine q r _ h1 h2 ?_
  rw[upd_upd]
  exact Go.draw hb (Nat.le_refl _) _
 .obtain⟨b,n,m,rfl,_⟩:=h
  rw[hp]
  rfl
def spBox (K:W.Frag):Sp:=fun vs H Q _=>∃(a:Addr) (ns:List Int) (k:Int),vs=[.ref a,.int k]/\SqL K H a (ns.map V.int)/\0<=k/\k<=1000/\∀(p:Addr),H p=none->Q (.ref p) (upd H p (BoxO p 0))
theorem box_fn {P:Program} {w:World} {K:W.Frag} {mg:Str->Option Value} {base:Heap} {k:Nat} {f:Addr} {fd:FuncData} {ps:List Str} (F:FnOk P w K mg base CX0 k f fd ps (spBox0 K)):FnOk P w K mg base CX0 k f fd ps (spBox K):=by
 refine shut_fn F fun vs H Q E h=>?_
 obtain⟨a,ns,k,rfl,hs,h0,h1,q⟩:=h
 refine⟨a,ns,k,rfl,hs,h0,h1,fun p x y hp hx hy hy2=>⟨p,x,y,0,0,upd_same,hx,hy,hy2,by omega,by omega,?_⟩⟩
 rw[upd_upd]
 exact q p hp
theorem _root_.R3.Go.boxed {c n:Nat} {H H':Hp} {b:Addr} (g:Go c H H') (h:H b=some (BoxO b n)) (hn:n+c<=2 ^ 40):∃m,H' b=some (BoxO b m)/\m<=n+c/\m<=2 ^ 40:=by
 obtain⟨m,hm,e⟩:=g.box b n h
 exact⟨m,e,hm,by omega⟩
section
variable {K:W.Frag} {H:Hp} {Q:VK}
theorem isi1 {x:V} {T c:String} {k:Bool} (h:tyName H x=some T) (hk:isT T c=k) (hT:T∈tyKnown) (hc:c∈["bool","int","str","list","tuple","dict"]) (q:Q (.bl k) H):rBlt K .isinstance [x,.ty c] H Q:=at_isi h hT hc (by rw[hk];exact q)
end
end LW
namespace SR
open PySem PySem.Spec PyProof.Rows L2 R3 LW
theorem flat1:∀{l:List Bool},(l.map fun c=>[c]).flatten=l
 | []=>rfl
 |c :: r=>by rw[List.map_cons,List.flatten_cons,flat1];rfl
theorem clip_lo {n:Nat} {i j:Int} (h:(n:Int)<=i):Builtin.Str.strSliceIndices (some i) (some j) 1 n=Builtin.Str.strSliceIndices (some (n:Int)) (some j) 1 n:=by
 have h0:¬i<0:=by omega
 have h1:¬((n:Int)<0):=by omega
 have h2:(1:Int) > 0:=by decide
 simp only[Builtin.Str.strSliceIndices,h0,h1,h2,if_false,if_true,Int.min_eq_right h,Int.min_self]
theorem clip_hi {n:Nat} {j:Int} (h:(n:Int)<=j):Builtin.Str.strSliceIndices none (some j) 1 n=Builtin.Str.strSliceIndices none (some (n:Int)) 1 n:=by
 have h0:¬j<0:=by omega
 have h1:¬((n:Int)<0):=by omega
 have h2:(1:Int) > 0:=by decide
 simp only[Builtin.Str.strSliceIndices,h0,h1,h2,if_false,if_true,Int.min_eq_right h,Int.min_self]
theorem tx_to {l:List Bool} {n:Nat}:Txt.slice (tx l) none (some (n:Int))=tx (l.take n):=by
 rcases Nat.le_total n l.length with h|h
 .exact tx_take h
 .have e:Txt.slice (tx l) none (some (n:Int))=Txt.slice (tx l) none (some (l.length:Int)):=by
   unfold Txt.slice
   rw[tx_len,clip_hi (by omega)]
  rw[e,tx_take (Nat.le_refl _),List.take_of_length_le h,List.take_of_length_le (Nat.le_refl _)]
theorem tx_sl {l:List Bool} {a b:Nat} (h:a<=b):Txt.slice (tx l) (some (a:Int)) (some (b:Int))=tx ((l.drop a).take (b-a)):=by
 rcases Nat.le_total b l.length with hb|hb
 .exact tx_slice h hb
 .have e:Txt.slice (tx l) (some (a:Int)) (some (b:Int))=Txt.slice (tx l) (some (a:Int)) (some (l.length:Int)):=by
   unfold Txt.slice
   rw[tx_len,indices_clip (by omega)]
  rw[e]
  rcases Nat.le_total a l.length with ha|ha
  .rw[tx_slice ha (Nat.le_refl _),List.take_of_length_le (by simp),List.take_of_length_le (by simp;omega)]
  .have e2:Txt.slice (tx l) (some (a:Int)) (some (l.length:Int))=Txt.slice (tx l) (some (l.length:Int)) (some (l.length:Int)):=by
    unfold Txt.slice
    rw[tx_len,clip_lo (by omega)]
   rw[e2,tx_slice (Nat.le_refl _) (Nat.le_refl _),List.drop_of_length_le ha]
   simp
section
variable {K:W.Frag} {H:Hp} {Q:VK}
theorem sl_to {l:List Bool} {n:Nat} (hl:l.length<=sizeLine) (q:Q (.str (tx (l.take n))) H):rSl K (.str (tx l)) none (some (n:Int)) H Q:=⟨by rw[tx_len];exact hl,by rw[tx_to];exact q⟩
theorem sl_from {l:List Bool} {n:Nat} (hl:l.length<=sizeLine) (q:Q (.str (tx (l.drop n))) H):rSl K (.str (tx l)) (some (n:Int)) none H Q:=⟨by rw[tx_len];exact hl,by rw[tx_from];exact q⟩
theorem sl_mid {l:List Bool} {a b:Nat} (hl:l.length<=sizeLine) (h:a<=b) (q:Q (.str (tx ((l.drop a).take (b-a)))) H):rSl K (.str (tx l)) (some (a:Int)) (some (b:Int)) H Q:=⟨by rw[tx_len];exact hl,by rw[tx_sl h];exact q⟩
end
theorem small16 {n:Nat} (h:n<=1000):n<=sizeLine:=Nat.le_of_lt (small1000 h)
noncomputable def ones (l:List Bool):List V:=(l.map fun c=>[c]).map fun l=>V.str (tx l)
theorem ones_len {l:List Bool}:(ones l).length=l.length:=by unfold ones;simp
theorem ones_snoc {l:List Bool} {c:Bool}:ones l++[V.str (tx [c])]=ones (l++[c]):=by unfold ones;simp
theorem at_joinO {K:W.Frag} {H:Hp} {Q:VK} {a:Addr} {l:List Bool} (h:SqL K H a (ones l)) (hz:l.length<=16000000) (q:Q (.str (tx l)) H):rMet K .join (.str (tx [])) [.ref a] H Q:=by
 refine at_join (ls:=l.map fun c=>[c]) h (by rw[flat1];exact hz) ?_
 rw[flat1]
 exact q
noncomputable def tn (l:List Bool) (n:Nat):List Bool:=(l.take n).map (!·)++l.drop n
theorem atI0 {α:Type} {x:α} {r:List α}:atI (x :: r) 0=some x:=atI_nat (xs:=x :: r) (j:=0) rfl
theorem at_strbit {K:W.Frag} {H:Hp} {Q:VK} {n:Int} (q:Q (.str (tx [decide (n % 2=1)])) H):rBlt K .str [.int (n % 2)] H Q:=by
 have e:n % 2=if decide (n % 2=1)=true then 1 else 0:=by
  have:=Int.emod_two_eq n
  rcases this with h|h<;>rw[h]<;>rfl
 rw[e]
 exact at_str01 q
theorem pow_le_of {m:Nat} {n:Int} (h:n=m):(1:Int)*2 ^ n.toNat=((2 ^ m:Nat):Int):=by
 subst h
 rw[Int.one_mul,Int.toNat_natCast]
 norm_cast
end SR
namespace BK
open PySem PySem.Spec PyProof.Rows L2 R3 LW SR
noncomputable def c_p_blocks_of:Css:=(.cons (.ret (.comp (.cut (.var 0) (.some (.var 2)) (.some (.bin .Add (.var 2) (.var 1)))) [2] (.name 2) (.range3 (.int 0) (.blt .len (.cons (.var 0) .nil)) (.var 1)) .none .nil))
  .nil)
noncomputable def tV (l:List Bool):V:=.str (tx l)
noncomputable def bks (m:Nat) (l:List Bool) (n:Nat):List (List Bool):=(List.range n).map fun i=>(l.drop (i*m)).take m
theorem bks_succ {m n:Nat} {l:List Bool}:bks m l (n+1)=bks m l n++[(l.drop (n*m)).take m]:=by
 unfold bks
 rw[List.range_succ,List.map_append]
 rfl
theorem bks_len {m n:Nat} {l:List Bool}:(bks m l n).length=n:=by unfold bks;simp
theorem bks_get {m n i:Nat} {l:List Bool} (h:i<n):(bks m l n)[i]?=some ((l.drop (i*m)).take m):=by
 unfold bks
 simp[h]
theorem mul_lt_of {i n m:Nat} (hi:i<n):i*m+m<=n*m:=by
 have:(i+1)*m<=n*m:=Nat.mul_le_mul_right m hi
 rw[Nat.add_mul,Nat.one_mul]at this
 exact this
theorem nStep_mul {n m:Nat} (hm:0<m):nStep 0 ((n*m:Nat):Int) m=n:=by
 unfold nStep
 rcases Nat.eq_zero_or_pos n with rfl|hn
 .rw[Nat.zero_mul,if_neg (by omega)]
 .have hp:0<n*m:=Nat.mul_pos hn hm
  rw[if_pos (by omega)]
  have e:((n*m:Nat):Int)-0-1=((n*m-1:Nat):Int):=by omega
  have d:(n*m-1) / m=n-1:=by
   have h1:n*m=(n-1)*m+m:=by
    have:n=(n-1)+1:=by omega
    conv=>lhs;rw[this,Nat.add_mul,Nat.one_mul]
   apply Nat.div_eq_of_lt_le
   .omega
   .rw[Nat.add_mul,Nat.one_mul];omega
  rw[e,<- Int.natCast_ediv,d]
  omega
end BK
namespace LW
open PySem PySem.Spec PyProof.Rows L2 R3
noncomputable abbrev Rm:=Option Nat×Option Nat
noncomputable def oV:Option Nat->V
 |none=>.non
 |some n=>.int n
def Tp (H H':Hp):Prop:=∀a xs,H a=some (.tup xs)->H' a=some (.tup xs)
theorem Tp.trans {H H1 H2:Hp} (a:Tp H H1) (b:Tp H1 H2):Tp H H2:=fun c x h=>b c x (a c x h)
theorem _root_.R3.Go.tp {c:Nat} {H H':Hp} (g:Go c H H'):Tp H H':=fun a xs h=>g.tup h
theorem tp_same {H H':Hp} (s:Same H H'):Tp H H':=fun a xs h=>s _ _ h
theorem tp_new {H:Hp} {p:Addr} (h:H p=none) (o:HO):Tp H (upd H p o):=tp_same (same_new h o)
theorem tp_lst {H:Hp} {p:Addr} {xs:List V} (h:H p=some (.lst xs)) (o:HO):Tp H (upd H p o):=fun a ys e=>by
 rw[upd_ne (fun z=>by subst z;rw[h]at e;cases e)]
 exact e
theorem _root_.R3.Go.upd {c:Nat} {H H':Hp} {l:Addr} {o:HO} (g:Go c H H') (h:H l=none):Go c H (L2.upd H' l o):=by
 refine⟨fun a n e=>?_,fun a u e no=>?_,fun a e=>?_⟩
 .obtain⟨m,hm,e1⟩:=g.box a n e
  exact⟨m,hm,by rw[upd_ne (ne_of_none e h)];exact e1⟩
 .rw[upd_ne (ne_of_none e h)]
  exact g.oth a u e no
 .by_cases hl:a=l
  .subst hl
   exact h
  .rw[upd_ne hl]at e
   exact g.free a e
theorem take_at {Q:VK} {m:Int} {H0 H:Hp} {b:Addr} {n0 c:Nat} (hb:H0 b=some (BoxO b n0)) (g:Go c H0 H) (hn:n0+c<=2 ^ 40) (hm:0<m) (hm2:m<4611686018427387904) (q:∀r H',0<=r->r<m->Go 1 H H'->Go (c+1) H0 H'->Q (.int r) H'):spTake [.ref b,.int m] H Q E0:=by
 obtain⟨n,hb1,_,hn1⟩:=g.boxed hb hn
 exact⟨b,n,m,rfl,hb1,hn1,hm,hm2,fun r H' h0 h1 g1=>q r H' h0 h1 g1 (g.trans g1)⟩
noncomputable def nV (n:Nat):V:=.int n
end LW
namespace LW
open PySem PySem.Spec PyProof.Rows L2 R3
noncomputable def c_bits:Css:=(.cons (.ret (.met .join (.str "") (.cons (.comp (.idx (.str "01") (.call "_law_take" (.cons (.var 0) (.cons (.int 2) .nil)))) [2] (.name 2) (.range1 (.var 1)) .none .nil) .nil)))
  .nil)
noncomputable def stp (M:List Rm) (r:Nat) (c:Bool):Option Nat:=match M[r]? with
 |some rm=>if c then rm.2 else rm.1
 |none=>none
def spBits:Sp:=fun vs H Q _=>∃(b:Addr) (n N:Nat),vs=[.ref b,.int N]/\H b=some (BoxO b n)/\n<=2 ^ 39/\N<=500/\∀(r:List Bool) (H':Hp),r.length=N->Go N H H'->Q (.str (tx r)) H'
theorem body_bits {C:Rc} (hN:C.N.length=3) (hT:C.fs "_law_take"=some spTake):∀vs H Q E,spBits vs H Q E->tSs C c_bits { nx:=fun _ H'=>Q .non H',rt:=Q } (L2.start C.N vs) H:=by
 intro vs H Q E h
 obtain⟨b,n,N,rfl,hb,hn,hN5,q⟩:=h
 rw[start_eq hN]
 unfold c_bits
 walk_at "sy"
 refine⟨rfl,?_⟩
 refine at_r1 (by omega) (by omega) (comp_r (fun i xs H'=>(∃r:List Bool,xs=(r.map fun c=>[c]).map (fun l=>V.str (tx l))/\r.length=i)/\Go i H H') ⟨⟨[],rfl,rfl⟩,Go.refl⟩ ?_ ?_)
 .rintro i xs H1 R hi ⟨⟨r,rfl,hr⟩,g1⟩ hR
  walk_at "sy"
  refine call_e hT ?_
  walk_at "sy"
  refine take_at hb g1 (by omega) (by omega) (by omega) fun r2 H2 h20 h21 g12 g2=>?_
  walk_at "sy"
  obtain⟨c0,hc0⟩:∃c0,atI [false,true] r2=some c0:=by
   have:r2=0\/r2=1:=by omega
   rcases this with rfl|rfl
   .exact⟨false,rfl⟩
   .exact⟨true,rfl⟩
  refine at_ixtx (by decide) hc0 ?_
  walk_at "sy"
  exact⟨by simp only[List.length_map];exact small1000 (by omega),hR _ _ ⟨⟨r++[c0],by simp,by simp[hr]⟩,g2⟩⟩
 .rintro xs H1 ⟨⟨r,rfl,hr⟩,g1⟩ p hp
  rw[Int.toNat_natCast]at hr g1
  walk_at "sy"
  have ef:(r.map fun c=>[c]).flatten=r:=by
   clear hr hp
   induction r with
   |nil=>rfl
   |cons c r ih=>rw[List.map_cons,List.flatten_cons,ih];rfl
  refine at_join (ls:=r.map fun c=>[c]) (SqL.of upd_same) (by rw[ef];omega) ?_
  rw[ef]
  exact q r _ hr (g1.upd (g1.free _ hp))
end LW
namespace K42
open PySem PySem.Spec PyProof.Rows L2 R3 LW
noncomputable def c_goes:Css:=(.cons (.asg (.name 4) (.str ""))
  (.cons (.for_ (.name 5) (.range3 (.int 0) (.blt .len (.cons (.var 3) .nil)) (.var 1)) (.cons (.asg (.tup (.cons (.name 6) (.cons (.name 2) .nil))) (.idx (.idx (.var 0) (.var 2)) (.blt .int (.cons (.cut (.var 3) (.some (.var 5)) (.some (.bin .Add (.var 5) (.var 1)))) (.cons (.int 2) .nil)))))
  (.cons (.asg (.name 4) (.bin .Add (.var 4) (.var 6)))
  .nil)))
  (.cons (.ret (.tup (.cons (.var 4) (.cons (.var 2) .nil))))
  .nil)))
open SR BK
noncomputable abbrev Dr:=List Bool×Nat
def DrV (H:Hp) (v:V) (d:Dr):Prop:=∃p,v=.ref p/\H p=some (.tup [.str (tx d.1),.int d.2])
def RmV (H:Hp) (v:V) (R:List Dr):Prop:=∃p ds,v=.ref p/\H p=some (.tup ds)/\All2 (DrV H) ds R
def IsW (H:Hp) (a:Addr) (W:List (List Dr)):Prop:=∃vs,H a=some (.tup vs)/\All2 (RmV H) vs W
theorem DrV.mono {H H':Hp} (t:Tp H H') {v:V} {d:Dr} (h:DrV H v d):DrV H' v d:=let⟨p,e,q⟩:=h;⟨p,e,t _ _ q⟩
theorem RmV.mono {H H':Hp} (t:Tp H H') {v:V} {R:List Dr} (h:RmV H v R):RmV H' v R:=let⟨p,ds,e,q,r⟩:=h;⟨p,ds,e,t _ _ q,r.mono fun _ _=>DrV.mono t⟩
theorem IsW.mono {H H':Hp} (t:Tp H H') {a:Addr} {W:List (List Dr)} (h:IsW H a W):IsW H' a W:=let⟨vs,q,r⟩:=h;⟨vs,t _ _ q,r.mono fun _ _=>RmV.mono t⟩
def OkW (p:Nat) (W:List (List Dr)):Prop:=∀R∈W,R.length=2 ^ p/\∀d∈R,d.1.length<=8/\d.2<W.length
noncomputable def num (l:List Bool):Nat:=l.foldl (fun n b=>n*2+if b then 1 else 0) 0
theorem num_lt0:∀(l:List Bool) (a:Nat),l.foldl (fun n b=>n*2+if b then 1 else 0) a<(a+1)*2 ^ l.length
 | [],a=>by simp
 |b :: l,a=>by
  have h:=num_lt0 l (a*2+if b then 1 else 0)
  refine Nat.lt_of_lt_of_le h ?_
  have e:(a+1)*2 ^ (b :: l).length=(2*a+2)*2 ^ l.length:=by
   rw[List.length_cons,Nat.pow_succ,show 2*a+2=(a+1)*2 by omega,Nat.mul_assoc,Nat.mul_comm 2]
  rw[e]
  exact Nat.mul_le_mul_right _ (by split<;>omega)
theorem num_lt {l:List Bool}:num l<2 ^ l.length:=by have:=num_lt0 l 0;simpa[num]using this
noncomputable def door (W:List (List Dr)) (r i:Nat):Dr:=(((W[r]?).getD [])[i]?).getD ([],0)
theorem door_ok {p:Nat} {W:List (List Dr)} {r i:Nat} (hW:OkW p W) (hr:r<W.length) (hi:i<2 ^ p):∃R,W[r]?=some R/\R[i]?=some (door W r i)/\(door W r i).1.length<=8/\(door W r i).2<W.length:=by
 have e1:W[r]?=some W[r]:=List.getElem?_eq_getElem hr
 obtain⟨hl,hd⟩:=hW _ (List.getElem_mem hr)
 have e2:W[r][i]?=some (door W r i):=by
  have e3:W[r][i]?=some (W[r][i]'(by omega)):=List.getElem?_eq_getElem (by omega)
  unfold door
  rw[e1,Option.getD_some,e3]
  rfl
 have:=hd _ (List.mem_of_getElem? e2)
 exact⟨_,e1,e2,this.1,this.2⟩
theorem at_door {K:W.Frag} {H:Hp} {Q:VK} {a:Addr} {W:List (List Dr)} {p r i:Nat} (h:IsW H a W) (hW:OkW p W) (hr:r<W.length) (hi:i<2 ^ p):∃q v ds,(∃vs,H a=some (.tup vs)/\atI vs (r:Int)=some (.ref q))/\H q=some (.tup ds)/\atI ds (i:Int)=some (.ref v)/\H v=some (.tup [.str (tx (door W r i).1),.int (door W r i).2]):=by
 obtain⟨R,e1,e2,_⟩:=door_ok hW hr hi
 obtain⟨vs,h1,h2⟩:=h
 obtain⟨v,ev,q,ds,rfl,hq,hds⟩:=h2.get e1
 obtain⟨d,ed,v,rfl,hv⟩:=hds.get e2
 exact⟨q,v,ds,⟨vs,h1,atI_nat ev⟩,hq,atI_nat ed,hv⟩
noncomputable def wl (W:List (List Dr)):Nat->List (List Bool)->List (List Bool)×Nat
 |r,[]=>([],r)
 |r,b :: bs=>((door W r (num b)).1 :: (wl W (door W r (num b)).2 bs).1,(wl W (door W r (num b)).2 bs).2)
theorem wl_app {W:List (List Dr)}:∀{r:Nat} {xs ys:List (List Bool)},wl W r (xs++ys)=((wl W r xs).1++(wl W (wl W r xs).2 ys).1,(wl W (wl W r xs).2 ys).2)
 |r,[],ys=>rfl
 |r,b :: xs,ys=>by
  show((door W r (num b)).1 :: (wl W (door W r (num b)).2 (xs++ys)).1,(wl W (door W r (num b)).2 (xs++ys)).2)=_
  rw[wl_app (xs:=xs)]
  rfl
theorem wl_snoc {W:List (List Dr)} {r:Nat} {xs:List (List Bool)} {b:List Bool}:wl W r (xs++[b])=((wl W r xs).1++[(door W (wl W r xs).2 (num b)).1],(door W (wl W r xs).2 (num b)).2):=wl_app
theorem wl_ok {p:Nat} {W:List (List Dr)} (hW:OkW p W):∀{bs:List (List Bool)} {r:Nat},r<W.length->(∀b∈bs,b.length=p)->(wl W r bs).2<W.length/\(wl W r bs).1.length=bs.length/\(wl W r bs).1.flatten.length<=8*bs.length
 | [],r,hr,_=>⟨hr,rfl,Nat.zero_le _⟩
 |b :: bs,r,hr,hb=>by
  have hi:num b<2 ^ p:=by have:=@num_lt b;rwa [hb b List.mem_cons_self]at this
  obtain⟨R,_,_,h3,h4⟩:=door_ok hW hr hi
  obtain⟨h5,h6,h7⟩:=wl_ok hW (bs:=bs) h4 fun x hx=>hb x (List.mem_cons_of_mem _ hx)
  refine⟨h5,?_,?_⟩
  .show(_ :: _).length=_
   simp only[List.length_cons,h6]
  .show(_ :: _:List (List Bool)).flatten.length<=_
   simp only[List.flatten_cons,List.length_append,List.length_cons]
   omega
theorem bks_all {p n:Nat} {l:List Bool} (hl:l.length=n*p):∀b∈bks p l n,b.length=p:=by
 intro b hb
 obtain⟨i,hi⟩:=List.getElem?_of_mem hb
 have h1:i<n:=by have:=lt_of_get hi;rwa [bks_len]at this
 rw[bks_get h1]at hi
 cases hi
 have:=mul_lt_of (m:=p) h1
 rw[List.length_take,List.length_drop]
 omega
theorem take_bks {p n i:Nat} {l:List Bool} (hi:i<n):(bks p l n).take (i+1)=(bks p l n).take i++[(l.drop (i*p)).take p]:=by
 rw[List.take_succ,bks_get hi]
 rfl
def spWritten:Sp:=fun vs H Q E=>∃(a:Addr) (W:List (List Dr)) (p r:Nat) (l:List Bool),vs=[.ref a,.int p,.int r,.str (tx l)]/\IsW H a W/\OkW p W/\1<=p/\p<=4/\r<W.length/\l.length<=200/\(∀n t H',l.length=n*p->Same H H'->H' t=some (.tup [.str (tx (wl W r (bks p l n)).1.flatten),.int (wl W r (bks p l n)).2])->Q (.ref t) H')/\∀H',Same H H'->l.length % p≠0->E (.str "BadBits" 0) none H'
theorem b2_num:∀{l:List Bool},1<=l.length->l.length<=4->L2.B2 (tx l) (num l)
 | [],h,_=>by simp at h
 | [a],_,_=>by cases a<;>exact⟨by decide +kernel,by decide +kernel,rfl,by decide +kernel⟩
 | [a,b],_,_=>by cases a<;>cases b<;>exact⟨by decide +kernel,by decide +kernel,rfl,by decide +kernel⟩
 | [a,b,c],_,_=>by cases a<;>cases b<;>cases c<;>exact⟨by decide +kernel,by decide +kernel,rfl,by decide +kernel⟩
 | [a,b,c,d],_,_=>by cases a<;>cases b<;>cases c<;>cases d<;>exact⟨by decide +kernel,by decide +kernel,rfl,by decide +kernel⟩
 |_ :: _ :: _ :: _ :: _ :: _,_,h=>by simp at h
theorem at_int2 {K:W.Frag} {H:Hp} {Q:VK} {l:List Bool} (h1:1<=l.length) (h4:l.length<=4) (q:Q (.int (num l)) H):rBlt K .int [.str (tx l),.int 2] H Q:=⟨rfl,_,b2_num h1 h4,q⟩
def spGoes:Sp:=fun vs H Q E=>∃(a:Addr) (W:List (List Dr)) (p r n:Nat) (l:List Bool),vs=[.ref a,.int p,.int r,.str (tx l)]/\IsW H a W/\OkW p W/\1<=p/\p<=4/\r<W.length/\l.length<=200/\l.length=n*p/\∀t H',Same H H'->H' t=some (.tup [.str (tx (wl W r (bks p l n)).1.flatten),.int (wl W r (bks p l n)).2])->Q (.ref t) H'
theorem body_goes {C:Rc} (hN:C.N.length=7):∀vs H Q E,spGoes vs H Q E->tSs C c_goes { nx:=fun _ H'=>Q .non H',rt:=Q } (L2.start C.N vs) H:=by
 intro vs H Q E h
 obtain⟨w,W,p,r,n,l,rfl,hW,okW,hp1,hp4,hr,hl2,hl,q⟩:=h
 rw[start_eq hN]
 unfold c_goes
 have hz:l.length<=sizeLine:=small16 (by omega)
 have hall:=bks_all hl
 walk_at "y"
 refine⟨hz,?_⟩
 refine at_r3 (by omega) (by omega) (by omega) (by omega) (by omega) (by omega) ?_
 rw[hl,nStep_mul (by omega)]
 refine for_c (fun i σ H'=>(∃x5 x6,σ=[some (.ref w),some (.int p),some (.int (wl W r ((bks p l n).take i)).2),some (.str (tx l)),some (.str (tx (wl W r ((bks p l n).take i)).1.flatten)),x5,x6])/\H'=H) ⟨⟨_,_,rfl⟩,rfl⟩ ?_ ?_
 .rintro i σ H' hi ⟨⟨x5,x6,rfl⟩,rfl⟩
  have hbl:=hall _ (List.mem_of_getElem? (bks_get hi))
  have hb:=mul_lt_of (m:=p) hi
  rw[take_bks hi,wl_snoc,List.flatten_append,List.flatten_singleton]
  obtain⟨k1,k2,k3⟩:=wl_ok okW (bs:=(bks p l n).take i) hr fun b hb=>hall b (List.mem_of_mem_take hb)
  have k4:((bks p l n).take i).length<=n:=by rw[List.length_take,bks_len];omega
  have hnm:n<=n*p:=Nat.le_mul_of_pos_right n (by omega)
  rw[show(0:Int)+(i:Int)*(p:Int)=((i*p:Nat):Int) by rw[Int.natCast_mul,Int.zero_add]]
  walk_at "y"
  rw[s_asg]
  generalize hbb:(l.drop (i*p)).take p=b at hbl ⊢
  generalize (wl W r ((bks p l n).take i)).2=r' at k1 ⊢
  generalize (wl W r ((bks p l n).take i)).1=rs at k2 k3 ⊢
  have hi2:num b<2 ^ p:=by have:=@num_lt b;rwa [hbl]at this
  obtain⟨q1,v,ds,⟨vs,hw,e1⟩,hq1,e2,hv⟩:=at_door (K:=C.K) (Q:=fun _ _=>True) hW okW k1 hi2
  obtain⟨_,_,_,hd8,_⟩:=door_ok okW k1 hi2
  walk_at "y"
  refine at_ixT (SqT.of hw) e1 ?_
  walk_at "y"
  rw[show((i*p:Nat):Int)+(p:Int)=((i*p+p:Nat):Int) by omega]
  refine sl_mid hz (by omega) ?_
  rw[Nat.add_sub_cancel_left,hbb]
  walk_at "y"
  refine at_int2 (by omega) (by omega) ?_
  walk_at "y"
  refine at_ixT (SqT.of hq1) e2 ?_
  refine kG_tup2 (SqT.of hv) ?_
  walk_at "y"
  refine⟨Nat.le_trans (show _<=2000 by omega) (by decide),⟨⟨_,_,rfl⟩,trivial⟩⟩
 .rintro σ H' ⟨⟨x5,x6,rfl⟩,rfl⟩
  rw[show(bks p l n).take n=bks p l n from List.take_of_length_le (by rw[bks_len];omega)]
  walk_at "y"
  refine⟨by decide,fun t ht=>?_⟩
  exact q t _ (same_new ht _) upd_same
def spRef:Sp:=fun vs H Q E=>∃(a:Addr) (W:List (List Dr)) (p r:Nat) (l:List Bool),vs=[.ref a,.int p,.int r,.str (tx l)]/\IsW H a W/\OkW p W/\1<=p/\p<=4/\r<W.length/\l.length<=200/\l.length % p≠0/\∀H',Same H H'->Q (.bl true) H'
def spRight:Sp:=fun vs H Q E=>∃(a:Addr) (W:List (List Dr)) (p r n:Nat) (l:List Bool),vs=[.ref a,.int p,.int r,.str (tx l)]/\IsW H a W/\OkW p W/\1<=p/\p<=4/\r<W.length/\l.length<=200/\l.length=n*p/\∀H',Same H H'->Q (.bl true) H'
theorem same_tp {H H':Hp} (s:Same H H'):Tp H H':=fun _ _ h=>s _ _ h
def spWriter:Sp:=fun vs H Q _=>∃(b:Addr) (n:Nat),vs=[.ref b]/\H b=some (BoxO b n)/\n<=2 ^ 38/\∀(t a:Addr) (p q:Nat) (W:List (List Dr)) (H':Hp),Go 6000 H H'->H' t=some (.tup [.int p,.int q,.ref a])->IsW H' a W->OkW p W->1<=p->p<=4->1<=W.length->W.length<=24->Q (.ref t) H'
structure FsLaw (C:Rc):Prop where
 box:C.fs "_law_box"=some (spBox C.K)
 take:C.fs "_law_take"=some spTake
 bits:C.fs "_law_bits"=some spBits
 writer:C.fs "_law_writer"=some spWriter
 written:C.fs "written"=some spWritten
 right:C.fs "_law_right"=some spRight
 refused:C.fs "_law_refused"=some spRef
end K42
namespace LW
open PySem PySem.Spec PyProof.Rows L2 R3
theorem same_updF {H H':Hp} {a:Addr} {o:HO} (s:Same H H') (h:H a=none):Same H (upd H' a o):=fun b u q=>by
 rw[upd_ne (ne_of_none q h)]
 exact s b u q
theorem atI_end {α:Type} {vs:List α} {i:Nat} {v:α} (hl:vs.length=i+1) (h:vs[i]?=some v):atI vs (-1)=some v:=by
 unfold atI ixN
 rw[if_neg (by omega),if_pos (by omega)]
 show vs[((-1:Int)+(vs.length:Int)).toNat]?=some v
 rw[show((-1:Int)+(vs.length:Int)).toNat=i by omega]
 exact h
noncomputable def ow (f:Nat->Nat):Option Nat->Nat
 |none=>0
 |some m=>f m
noncomputable def oi (ns:List Int):Option Nat->Int
 |none=>0
 |some m=>ns.getD m 0
end LW
namespace WR
open PySem PySem.Spec PyProof.Rows L2 R3 LW SR BK K42
noncomputable def c_p_bits_by:Css:=(.cons (.ret (.met .join (.str "") (.cons (.comp (.blt .str (.cons (.bin .BitAnd (.bin .RShift (.var 0) (.var 2)) (.int 1)) .nil)) [2] (.name 2) (.rev (.blt .range (.cons (.var 1) .nil))) .none .nil) .nil)))
  .nil)
noncomputable def c_p_doors_by:Css:=(.cons (.ret (.comp (.var 4) [4,5,6] (.tup (.cons (.name 4) (.cons (.tup (.cons (.name 5) (.cons (.name 6) .nil))) .nil))) (.enum (.idx (.var 0) (.var 1))) (.some (.and (.cmp .Eq (.var 5) (.var 2)) (.din false (.var 6) (.var 3)))) .nil))
  .nil)
noncomputable def c_p_readable:Css:=(.cons (.asg (.name 2) (.lst (.cons (.dcx (.var 3) (.bl true) [3] (.name 3) (.range1 (.blt .len (.cons (.var 0) .nil))) .none) .nil)))
  (.cons (.for_ (.name 4) (.rev (.var 1)) (.cons (.expr (.met .append (.var 2) (.cons (.dcx (.var 3) (.bl true) [3] (.name 3) (.range1 (.blt .len (.cons (.var 0) .nil))) (.some (.val (.call "doors_by" (.cons (.var 0) (.cons (.var 3) (.cons (.var 4) (.cons (.idx (.var 2) (.neg (.int 1))) .nil)))))))) .nil)))
  .nil))
  (.cons (.ret (.var 2))
  .nil)))
noncomputable def c_row_byZ:Css:=(.cons (.ret (.met .join (.str "") (.cons (.comp (.blt .str (.cons (.bin .BitAnd (.bin .RShift (.var 0) (.bin .Sub (.bin .Sub (.var 1) (.int 1)) (.var 2))) (.int 1)) .nil)) [2] (.name 2) (.range1 (.var 1)) .none .nil) .nil)))
  .nil)
noncomputable def c_writerZ:Css:=(.cons (.asg (.name 1) (.idx (.lst (.cons (.int 1) (.cons (.int 1) (.cons (.int 1) (.cons (.int 2) (.cons (.int 2) (.cons (.int 3) (.cons (.int 1) (.cons (.int 4) .nil))))))))) (.call "_law_take" (.cons (.var 0) (.cons (.int 8) .nil)))))
  (.cons (.asg (.name 2) (.idx (.lst (.cons (.int 1) (.cons (.int 2) (.cons (.int 2) (.cons (.int 3) (.cons (.int 3) (.cons (.int 4) (.cons (.var 1) (.cons (.int 8) .nil))))))))) (.call "_law_take" (.cons (.var 0) (.cons (.int 8) .nil)))))
  (.cons (.asg (.name 3) (.bin .Add (.int 1) (.call "_law_take" (.cons (.var 0) (.cons (.int 4) .nil)))))
  (.cons (.ite (.cmp .Eq (.call "_law_take" (.cons (.var 0) (.cons (.int 8) .nil))) (.int 0)) (.cons (.asg (.name 3) (.bin .Add (.int 7) (.call "_law_take" (.cons (.var 0) (.cons (.int 18) .nil)))))
  .nil) .nil)
  (.cons (.asg (.name 4) (.call "_law_take" (.cons (.var 0) (.cons (.int 4) .nil))))
  (.cons (.ite (.cmp .Lt (.var 2) (.var 1)) (.cons (.asg (.name 4) (.int 0))
  .nil) .nil)
  (.cons (.asg (.name 5) (.comp (.call "_law_bits" (.cons (.var 0) (.cons (.var 2) .nil))) [6] (.name 6) (.range1 (.bin .Add (.int 2) (.call "_law_take" (.cons (.var 0) (.cons (.int 2) .nil))))) .none .nil))
  (.cons (.asg (.name 7) (.lst .nil))
  (.cons (.for_ (.name 6) (.range1 (.var 3)) (.cons (.par 8 9 (.call "_law_take" (.cons (.var 0) (.cons (.bin .LShift (.int 1) (.var 2)) .nil))) (.bin .Add (.int 1) (.bin .Mult (.int 2) (.call "_law_take" (.cons (.var 0) (.cons (.int 4) .nil))))))
  (.cons (.asg (.name 10) (.lst .nil))
  (.cons (.for_ (.name 11) (.range1 (.bin .LShift (.int 1) (.var 1))) (.cons (.asg (.name 12) (.idx (.lst (.cons (.call "_law_bits" (.cons (.var 0) (.cons (.var 2) .nil))) (.cons (.idx (.var 5) (.call "_law_take" (.cons (.var 0) (.cons (.blt .len (.cons (.var 5) .nil)) .nil)))) .nil))) (.blt .int (.cons (.cmp .Eq (.var 4) (.int 1)) .nil))))
  (.cons (.ite (.cmp .Gt (.var 4) (.int 1)) (.cons (.asg (.name 12) (.call "_law_row_by" (.cons (.bin .Mod (.bin .Add (.var 8) (.bin .Mult (.var 9) (.var 11))) (.bin .LShift (.int 1) (.var 2))) (.cons (.var 2) .nil))))
  .nil) .nil)
  (.cons (.expr (.met .append (.var 10) (.cons (.tup (.cons (.var 12) (.cons (.call "_law_take" (.cons (.var 0) (.cons (.var 3) .nil))) .nil))) .nil)))
  .nil))))
  (.cons (.expr (.met .append (.var 7) (.cons (.blt .tuple (.cons (.var 10) .nil)) .nil)))
  .nil)))))
  (.cons (.ret (.tup (.cons (.var 1) (.cons (.var 2) (.cons (.blt .tuple (.cons (.var 7) .nil)) .nil)))))
  .nil))))))))))
noncomputable def bz (q i:Nat):List Bool:=(List.range q).map fun k=>decide (i / 2 ^ (q-1-k) % 2=1)
theorem bz_len {q i:Nat}:(bz q i).length=q:=by unfold bz;simp
theorem bz_take {q i k:Nat} (hk:k<q):(bz q i).take (k+1)=(bz q i).take k++[decide (i / 2 ^ (q-1-k) % 2=1)]:=by
 have h:(bz q i)[k]?=some (decide (i / 2 ^ (q-1-k) % 2=1)):=by
  unfold bz
  rw[List.getElem?_map,List.getElem?_range hk]
  rfl
 rw[List.take_succ,h]
 rfl
theorem bit_nat {n m:Nat}:decide ((n:Int) / 2 ^ m % 2=1)=decide (n / 2 ^ m % 2=1):=by
 have e:(n:Int) / 2 ^ m % 2=((n / 2 ^ m % 2:Nat):Int):=by
  rw[Int.natCast_emod,Int.natCast_ediv,Int.natCast_pow]
  rfl
 rw[e]
 apply decide_eq_decide.mpr
 omega
def spRowByZ:Sp:=fun vs H Q _=>∃(i:Int) (q:Nat),vs=[.int i,.int q]/\0<=i/\q<=8/\∀H',Same H H'->Q (.str (tx (bz q i.toNat))) H'
theorem body_row_byZ {C:Rc} (hN:C.N.length=3):∀vs H Q E,spRowByZ vs H Q E->tSs C c_row_byZ { nx:=fun _ H'=>Q .non H',rt:=Q } (L2.start C.N vs) H:=by
 intro vs H Q E h
 obtain⟨i0,q0,rfl,hi0,hq0,q⟩:=h
 obtain⟨n,rfl⟩:=Int.eq_ofNat_of_zero_le hi0
 rw[start_eq hN]
 unfold c_row_byZ
 walk_at "y"
 refine⟨rfl,?_⟩
 refine at_r1 (by omega) (by omega) (comp_r (fun k xs H'=>k<=q0/\xs=ones ((bz q0 n).take k)/\H'=H) ⟨by omega,by simp[ones],rfl⟩ ?_ ?_)
 .rintro k xs H' R hk ⟨hk',rfl,rfl⟩ hR
  have hk:k<q0:=by omega
  walk_at "y"
  refine⟨by omega,⟨Int.ediv_nonneg (by omega) (two_pow_nn _),trivial⟩,?_⟩
  refine at_strbit ?_
  walk_at "y"
  refine⟨by rw[ones_len];exact small1000 (by rw[List.length_take];omega),hR _ _ ⟨hk,?_,rfl⟩⟩
  rw[ones_snoc,bz_take hk,show((q0:Int)-1-(0+(k:Int))).toNat=q0-1-k by omega,bit_nat]
 .rintro xs H' ⟨_,rfl,rfl⟩ p3 hp3
  walk_at "y"
  rw[show((q0:Int)).toNat=q0 by omega,List.take_of_length_le (by rw[bz_len];exact Nat.le_refl _)]
  refine at_joinO (SqL.of upd_same) (by rw[bz_len];omega) ?_
  exact q _ (same_new hp3 _)
def spBitsBy:Sp:=fun vs H Q _=>∃(i q:Nat),vs=[.int i,.int q]/\q<=8/\∀H',Same H H'->Q (.str (tx (bz q i))) H'
theorem body_bits_by {C:Rc} (hN:C.N.length=3):∀vs H Q E,spBitsBy vs H Q E->tSs C c_p_bits_by { nx:=fun _ H'=>Q .non H',rt:=Q } (L2.start C.N vs) H:=by
 intro vs H Q E h
 obtain⟨n,q0,rfl,hq0,q⟩:=h
 rw[start_eq hN]
 unfold c_p_bits_by
 walk_at "y"
 refine⟨rfl,?_⟩
 refine at_range1 fun r hr=>?_
 have s1:=same_new hr (.rng 0 (q0:Int))
 have hr1:upd H r (.rng 0 (q0:Int)) r=some (.rng 0 (q0:Int)):=upd_same
 generalize upd H r (.rng 0 (q0:Int))=H1 at s1 hr1 ⊢
 refine at_rvR hr1 (by omega) (by omega) (by omega) (by omega) ?_
 rw[show((q0:Int)-0).toNat=q0 by omega]
 refine comp_c (fun k xs H'=>k<=q0/\xs=ones ((bz q0 n).take k)/\H'=H1) ⟨by omega,by simp[ones],rfl⟩ ?_ ?_
 .rintro k xs H' R hk ⟨hk',rfl,rfl⟩ hR
  walk_at "y"
  refine⟨by omega,⟨Int.ediv_nonneg (by omega) (two_pow_nn _),trivial⟩,?_⟩
  refine at_strbit ?_
  walk_at "y"
  refine⟨by rw[ones_len];exact small1000 (by rw[List.length_take];omega),hR _ _ ⟨hk,?_,rfl⟩⟩
  rw[ones_snoc,bz_take hk,show((0:Int)+(q0:Int)-1+(k:Int) * -1).toNat=q0-1-k by omega,bit_nat]
 .rintro xs H' ⟨_,rfl,rfl⟩ p3 hp3
  walk_at "y"
  rw[List.take_of_length_le (by rw[bz_len];exact Nat.le_refl _)]
  refine at_joinO (SqL.of upd_same) (by rw[bz_len];omega) ?_
  exact q _ (s1.trans (same_new hp3 _))
def OkWz (p z:Nat) (W:List (List Dr)):Prop:=∀R∈W,R.length=2 ^ p/\∀d∈R,d.1.length=z/\d.2<W.length
theorem OkWz.ok {p z:Nat} {W:List (List Dr)} (h:OkWz p z W) (hz:z<=8):OkW p W:=fun R hR=>⟨(h R hR).1,fun d hd=>⟨by have:=((h R hR).2 d hd).1;omega,((h R hR).2 d hd).2⟩⟩
def inB43 (a b:Nat) (v:V):Prop:=∃n:Nat,v=.int n/\a<=n/\n<=b
theorem ix_some43 {K:W.Frag} {H:Hp} {Q:VK} {l:Addr} {xs:List V} {r:Int} {P:V->Prop} (h:SqL K H l xs) (h0:0<=r) (h1:r<xs.length) (hP:∀v∈xs,P v) (q:∀v,P v->Q v H):rIxL K (.ref l) (.int r) H Q\/rIxT K (.ref l) (.int r) H Q:=by
 obtain⟨v,hv,e⟩:=atI_lt h0 h1
 exact at_ixL h e (q v (hP v (List.mem_of_getElem? hv)))
def OkZ (z m:Nat) (R:List Dr):Prop:=∀d∈R,d.1.length=z/\d.2<m
theorem OkZ.snoc {z m:Nat} {R:List Dr} {d:Dr} (h:OkZ z m R) (h1:d.1.length=z) (h2:d.2<m):OkZ z m (R++[d]):=fun x hx=>by
 rcases List.mem_append.mp hx with hx|hx
 .exact h x hx
 .cases List.mem_singleton.mp hx
  exact⟨h1,h2⟩
def spWriterZ:Sp:=fun vs H Q _=>∃(b:Addr) (n:Nat),vs=[.ref b]/\H b=some (BoxO b n)/\n<=2 ^ 38/\∀(t a:Addr) (p q:Nat) (W:List (List Dr)) (H':Hp),Go 6000 H H'->H' t=some (.tup [.int p,.int q,.ref a])->IsW H' a W->OkWz p q W->1<=p->p<=4->1<=q->q<=8->1<=W.length->W.length<=24->Q (.ref t) H'
theorem body_writerZ {C:Rc} (hN:C.N.length=13) (hT:C.fs "_law_take"=some spTake) (hB:C.fs "_law_bits"=some spBits) (hR:C.fs "_law_row_by"=some spRowByZ):∀vs H Q E,spWriterZ vs H Q E->tSs C c_writerZ { nx:=fun _ H'=>Q .non H',rt:=Q } (L2.start C.N vs) H:=by
 intro vs H Q E h
 obtain⟨b,n,rfl,hb,hn,q⟩:=h
 rw[start_eq hN]
 unfold c_writerZ
 walk_at "y"
 refine⟨by decide,fun l1 hl1=>?_⟩
 refine call_e hT ?_
 walk_at "y"
 refine take_at hb ((Go.refl (c:=0)).upd hl1) (by omega) (by decide) (by decide) fun r1 H1 h10 h11 g1 g01=>?_
 have hl1':=g1.lst (show upd H l1 (.lst _) l1=_ from upd_same)
 walk_at "y"
 refine ix_some43 (P:=inB43 1 4) (SqL.of hl1') h10 (by exact h11) (by
  simp only[List.forall_mem_cons]
  exact⟨⟨1,rfl,by decide,by decide⟩,⟨1,rfl,by decide,by decide⟩,⟨1,rfl,by decide,by decide⟩,⟨2,rfl,by decide,by decide⟩,⟨2,rfl,by decide,by decide⟩,⟨3,rfl,by decide,by decide⟩,⟨1,rfl,by decide,by decide⟩,⟨4,rfl,by decide,by decide⟩,fun _ h=>nomatch h⟩) ?_
 rintro _ ⟨p,rfl,hp1,hp4⟩
 walk_at "y"
 refine⟨by decide,fun l2 hl2=>?_⟩
 refine call_e hT ?_
 walk_at "y"
 refine take_at hb (g01.upd (g01.free _ hl2)) (by omega) (by decide) (by decide) fun r2 H2 h20 h21 g2 g02=>?_
 have hl2':=g2.lst (show upd H1 l2 (.lst _) l2=_ from upd_same)
 walk_at "y"
 refine ix_some43 (P:=inB43 1 8) (SqL.of hl2') h20 (by exact h21) (by
  simp only[List.forall_mem_cons]
  exact⟨⟨1,rfl,by decide,by decide⟩,⟨2,rfl,by decide,by decide⟩,⟨2,rfl,by decide,by decide⟩,⟨3,rfl,by decide,by decide⟩,⟨3,rfl,by decide,by decide⟩,⟨4,rfl,by decide,by decide⟩,⟨p,rfl,by omega,by omega⟩,⟨8,rfl,by decide,by decide⟩,fun _ h=>nomatch h⟩) ?_
 rintro _ ⟨z,rfl,hz1,hz8⟩
 walk_at "y"
 refine call_e hT ?_
 walk_at "y"
 refine take_at hb g02 (by omega) (by decide) (by decide) fun r3 H3 h30 h31 g3 g03=>?_
 walk_at "y"
 refine call_e hT ?_
 generalize hD:kSeq C _ _=D0
 have key:∀(m:Nat) H4,1<=m->m<=24->Go 5 H H4->D0.nx [some (.ref b),some (.int p),some (.int z),some (.int m),none,none,none,none,none,none,none,none,none] H4:=by
  intro m H4 hm1 hm2 g4
  rw[<- hD]
  walk_at "y"
  refine call_e hT ?_
  walk_at "y"
  refine take_at hb g4 (by omega) (by decide) (by decide) fun r5 H5 h50 h51 g5 g05=>?_
  walk_at "y"
  generalize hD2:kSeq C _ _=D2
  have key2:∀(way:Int),D2.nx [some (.ref b),some (.int p),some (.int z),some (.int m),some (.int way),none,none,none,none,none,none,none,none] H5:=by
   intro way
   rw[<- hD2]
   walk_at "y"
   refine call_e hT ?_
   walk_at "y"
   refine take_at hb g05 (by omega) (by decide) (by decide) fun r6 H6 h60 h61 g6 g06=>?_
   walk_at "y"
   refine at_r1 (by omega) (by omega) (comp_r (fun i xs H'=>(∃fs:List (List Bool),xs=fs.map tV/\fs.length=i/\∀x∈fs,x.length=z)/\Go (7+8*i) H H') ⟨⟨[],rfl,rfl,fun _ h=>nomatch h⟩,g06⟩ ?_ ?_)
   .rintro i xs H7 R hi ⟨⟨fs,rfl,hfs,hf8⟩,g7⟩ hR'
    have hi3:i<3:=by omega
    obtain⟨n7,hb7,hn7,_⟩:=g7.boxed hb (by omega)
    walk_at "y"
    refine call_e hB ?_
    walk_at "y"
    refine⟨b,n7,z,rfl,hb7,by omega,by omega,fun r H8 hr g8=>?_⟩
    walk_at "y"
    refine⟨by rw[List.length_map];exact small1000 (by omega),hR' _ _ ⟨⟨fs++[r],by rw[List.map_append];rfl,by simp[hfs],fun x hx=>?_⟩,(g7.trans g8).mono (by omega)⟩⟩
    rcases List.mem_append.mp hx with hx|hx
    .exact hf8 x hx
    .cases List.mem_singleton.mp hx
     omega
   rintro xs H7 ⟨⟨fs,rfl,hfs,hf8⟩,g7⟩ f hf
   have hfl:fs.length=2\/fs.length=3:=by omega
   have g8:=(g7.upd (g7.free _ hf) (o:=.lst (fs.map tV))).mono (d:=31) (by omega)
   have hf8':upd H7 f (.lst (fs.map tV)) f=some (.lst (fs.map tV)):=upd_same
   generalize upd H7 f (.lst (fs.map tV))=H8 at g8 hf8' ⊢
   walk_at "y"
   refine⟨by decide,fun l hl=>?_⟩
   have hl0:=g8.free _ hl
   have hfl':f≠l:=ne_of_none hf8' hl
   refine at_r1 (by omega) (by omega) (for_r (fun i σ H'=>(∃x6 x8 x9 x10 x11 x12,σ=[some (.ref b),some (.int p),some (.int z),some (.int m),some (.int way),some (.ref f),x6,some (.ref l),x8,x9,x10,x11,x12])/\Go (31+200*i) H H'/\H' f=some (.lst (fs.map tV))/\∃vs W,H' l=some (.lst vs)/\All2 (RmV H') vs W/\W.length=i/\∀R∈W,R.length=2 ^ p/\OkZ z m R) ⟨⟨_,_,_,_,_,_,rfl⟩,g8.upd hl0,by rw[upd_ne hfl'];exact hf8',[],[],upd_same,trivial,rfl,fun _ h=>nomatch h⟩ ?_ ?_)
   .rintro i σ H9 hi ⟨⟨x6,x8,x9,x10,x11,x12,rfl⟩,g9,hf9,vs,W,hl9,hW9,hWi,hok⟩
    have hi24:i<24:=by omega
    walk_at "y"
    refine call_e hT ?_
    walk_at "y"
    refine⟨⟨by omega,by omega,by decide⟩,?_⟩
    rw[pow_le_of (m:=z) rfl]
    have hz2:2 ^ z<=256:=Nat.pow_le_pow_right (n:=2) (j:=8) (by decide) hz8
    have hz0:0<2 ^ z:=Nat.two_pow_pos z
    refine take_at hb g9 (by omega) (by omega) (by omega) fun r10 H10 h100 h101 g10 g010=>?_
    walk_at "y"
    refine call_e hT ?_
    walk_at "y"
    refine take_at hb g010 (by omega) (by omega) (by omega) fun r11 H11 h110 h111 g11 g011=>?_
    walk_at "y"
    refine⟨.inl ⟨by omega,by omega⟩,?_⟩
    have hf11:=g11.lst (g10.lst hf9)
    have hl11:=g11.lst (g10.lst hl9)
    have t911:=g10.tp.trans g11.tp
    walk_at "y"
    refine⟨by decide,fun d hd=>?_⟩
    have hd0:=g011.free _ hd
    have hfd:=ne_of_none hf11 hd
    have hld:=ne_of_none hl11 hd
    walk_at "y"
    refine⟨⟨by omega,by omega,by decide⟩,?_⟩
    rw[pow_le_of (m:=p) rfl]
    have hp2:2 ^ p<=16:=Nat.pow_le_pow_right (n:=2) (j:=4) (by decide) hp4
    have hp0:0<2 ^ p:=Nat.two_pow_pos p
    generalize hPP:2 ^ p=P at hp2 hp0 hok ⊢
    refine at_r1 (by omega) (by omega) (for_r (fun j σ H'=>(∃x11 x12,σ=[some (.ref b),some (.int p),some (.int z),some (.int m),some (.int way),some (.ref f),some (.int (0+i)),some (.ref l),some (.int r10),some (.int (1+2*r11)),some (.ref d),x11,x12])/\Go (33+200*i+10*j) H H'/\Tp H9 H'/\H' f=some (.lst (fs.map tV))/\H' l=some (.lst vs)/\∃ds R,H' d=some (.lst ds)/\All2 (DrV H') ds R/\R.length=j/\OkZ z m R) ⟨⟨_,_,rfl⟩,(g011.upd hd0).mono (by omega),t911.trans (tp_new hd _),by rw[upd_ne hfd];exact hf11,by rw[upd_ne hld];exact hl11,[],[],upd_same,trivial,rfl,fun _ h=>nomatch h⟩ ?_ ?_)
    .rintro j σ H12 hj ⟨⟨x11,x12,rfl⟩,g12,t12,hf12,hl12,ds,R,hd12,hR12,hRj,hokD⟩
     obtain⟨n12,hb12,hn12,_⟩:=g12.boxed hb (by omega)
     walk_at "y"
     refine call_e hB ?_
     walk_at "y"
     refine⟨b,n12,z,rfl,hb12,by omega,by omega,fun rw1 H13 hrw1 g13=>?_⟩
     have g013:=g12.trans g13
     have hf13:=g13.lst hf12
     walk_at "y"
     refine call_e hT ?_
     walk_at "y"
     refine at_lenL (SqL.of hf13) ?_
     rw[List.length_map]
     walk_at "y"
     refine take_at hb g013 (by omega) (by omega) (by omega) fun r14 H14 h140 h141 g14 g014=>?_
     have hf14:=g14.lst hf13
     walk_at "y"
     refine ix_some43 (P:=fun v=>∃x,v=tV x/\x.length=z) (SqL.of hf14) h140 (by rw[List.length_map];exact h141) (fun v hv=>by
      obtain⟨x,hx,rfl⟩:=List.mem_map.mp hv
      exact⟨x,rfl,hf8 x hx⟩) ?_
     rintro _ ⟨rw2,rfl,hrw2⟩
     walk_at "y"
     refine⟨by decide,fun y hy=>?_⟩
     have g15:=g014.upd (g014.free _ hy) (o:=.lst [.str (tx rw1),tV rw2])
     have hy':upd H14 y (.lst [.str (tx rw1),tV rw2]) y=some (.lst [.str (tx rw1),tV rw2]):=upd_same
     have s15:=same_new hy (.lst [.str (tx rw1),tV rw2])
     generalize upd H14 y (.lst [.str (tx rw1),tV rw2])=H15 at g15 hy' s15 ⊢
     walk_at "y"
     refine at_two (SqL.of hy') ?_
     obtain⟨rw3,e3,hrw3⟩:∃rw3:List Bool,(if decide (way=1)=true then tV rw2 else V.str (tx rw1))=.str (tx rw3)/\rw3.length=z:=by
      split
      .exact⟨rw2,rfl,hrw2⟩
      .exact⟨rw1,rfl,by omega⟩
     rw[e3]
     walk_at "y"
     generalize hD3:kSeq C _ _=D3
     have key3:∀(x:List Bool) H16,x.length=z->Same H15 H16->D3.nx [some (.ref b),some (.int p),some (.int z),some (.int m),some (.int way),some (.ref f),some (.int (0+i)),some (.ref l),some (.int r10),some (.int (1+2*r11)),some (.ref d),some (.int (0+j)),some (.str (tx x))] H16:=by
      intro x H16 hx s16
      rw[<- hD3]
      have g16:=g15.trans (Go.of_same (c:=0) s16)
      have hd16:=s16 _ _ (s15 _ _ (g14.lst (g13.lst hd12)))
      walk_at "y"
      refine⟨tyL hd16 rfl,?_⟩
      refine call_e hT ?_
      walk_at "y"
      refine take_at hb g16 (by omega) (by omega) (by omega) fun r17 H17 h170 h171 g17 g017=>?_
      walk_at "y"
      refine⟨by decide,fun e he=>?_⟩
      have hd17:=g17.lst hd16
      have hd18:=same_new he (.tup [.str (tx x),.int r17]) _ _ hd17
      have he18:upd H17 e (.tup [.str (tx x),.int r17]) e=some (.tup [.str (tx x),.int r17]):=upd_same
      have g18:=g017.upd (g017.free _ he) (o:=.tup [.str (tx x),.int r17])
      have s18:=same_new he (.tup [.str (tx x),.int r17])
      generalize upd H17 e (.tup [.str (tx x),.int r17])=H18 at hd18 he18 g18 s18 ⊢
      have hdd:=hR12.len
      walk_at "y"
      refine at_app hd18 (small1000 (by omega)) ?_
      obtain⟨k,rfl⟩:=Int.eq_ofNat_of_zero_le h170
      have tl:Tp H18 (upd H18 d (.lst (ds++[.ref e]))):=tp_lst hd18 _
      have t1218:Tp H12 H18:=g13.tp.trans (g14.tp.trans ((tp_same (s15.trans s16)).trans (g17.tp.trans (tp_same s18))))
      have hf18:=s18 _ _ (g17.lst (s16 _ _ (s15 _ _ hf14)))
      have hl18:=s18 _ _ (g17.lst (s16 _ _ (s15 _ _ (g14.lst (g13.lst hl12)))))
      walk_at "y"
      refine⟨⟨_,_,rfl⟩,(g18.upd hd0).mono (by omega),t12.trans (t1218.trans tl),by rw[upd_ne hfd];exact hf18,by rw[upd_ne hld];exact hl18,ds++[.ref e],R++[(x,k)],upd_same,(hR12.mono fun _ _=>DrV.mono (t1218.trans tl)).snoc ⟨e,rfl,tl _ _ he18⟩,by simp[hRj],hokD.snoc hx (by omega)⟩
     refine by_dec (fun hq=>?_) fun hq=>?_
     .walk_at "y"
      refine call_e hR ?_
      walk_at "y"
      refine⟨.inl ⟨by omega,by omega⟩,⟨by omega,by omega,by decide⟩,?_⟩
      rw[pow_le_of (m:=z) rfl]
      refine⟨by omega,_,z,rfl,Int.emod_nonneg _ (by omega),hz8,fun H16 s16=>?_⟩
      walk_at "y"
      exact key3 _ H16 bz_len s16
     .walk_at "y"
      exact key3 rw3 H15 hrw3 (Same.refl _)
    .rintro σ H12 ⟨⟨x11,x12,rfl⟩,g12,t12,hf12,hl12,ds,R,hd12,hR12,hRj,hokD⟩
     walk_at "y"
     refine⟨tyL hl12 rfl,?_⟩
     refine at_tupL (SqL.of hd12) fun u hu=>?_
     have hl13:=same_new hu (.tup ds) _ _ hl12
     have hf13:=same_new hu (.tup ds) _ _ hf12
     have hu13:upd H12 u (.tup ds) u=some (.tup ds):=upd_same
     have t13:=tp_new hu (.tup ds)
     have g13:=g12.upd (g12.free _ hu) (o:=.tup ds)
     generalize upd H12 u (.tup ds)=H13 at hl13 hf13 hu13 t13 g13 ⊢
     have hvl:=hW9.len
     walk_at "y"
     refine at_app hl13 (small1000 (by omega)) ?_
     have tl:Tp H13 (upd H13 l (.lst (vs++[.ref u]))):=tp_lst hl13 _
     walk_at "y"
     refine⟨⟨_,_,_,_,_,_,rfl⟩,(g13.upd hl0).mono (by omega),by rw[upd_ne hfl'];exact hf13,vs++[.ref u],W++[R],upd_same,(hW9.mono fun _ _=>RmV.mono (t12.trans (t13.trans tl))).snoc ⟨u,ds,rfl,tl _ _ hu13,hR12.mono fun _ _=>DrV.mono (t13.trans tl)⟩,by simp[hWi],fun R' hR'=>?_⟩
     rcases List.mem_append.mp hR' with h|h
     .exact hok R' h
     .cases List.mem_singleton.mp h
      exact⟨by omega,hokD⟩
   .rintro σ H9 ⟨⟨x6,x8,x9,x10,x11,x12,rfl⟩,g9,hf9,vs,W,hl9,hW9,hWi,hok⟩
    walk_at "y"
    refine at_tupL (SqL.of hl9) fun a ha=>?_
    have ta:=tp_new ha (.tup vs)
    have ha':upd H9 a (.tup vs) a=some (.tup vs):=upd_same
    have g10:=g9.upd (g9.free _ ha) (o:=.tup vs)
    generalize upd H9 a (.tup vs)=H10 at ta ha' g10 ⊢
    walk_at "y"
    refine⟨by decide,fun t ht=>?_⟩
    have hWm:W.length=m:=by omega
    refine q t a p z W _ ((g10.upd (g10.free _ ht)).mono (by omega)) upd_same ⟨vs,tp_new ht _ _ _ ha',hW9.mono fun _ _=>RmV.mono (ta.trans (tp_new ht _))⟩ (fun R hR=>?_) hp1 hp4 hz1 hz8 (by omega) (by omega)
    obtain⟨k1,k2⟩:=hok R hR
    exact⟨k1,fun d hd=>by rw[hWm];exact k2 d hd⟩
  refine by_dec (fun hq=>?_) fun hq=>?_
  .walk_at "y"
   exact key2 0
  .walk_at "y"
   exact key2 r5
 walk_at "y"
 refine take_at hb g03 (by omega) (by decide) (by decide) fun r4 H4 h40 h41 g4 g04=>?_
 walk_at "y"
 refine by_dec (fun hq=>?_) fun hq=>?_
 .walk_at "y"
  refine call_e hT ?_
  walk_at "y"
  refine take_at hb g04 (by omega) (by decide) (by decide) fun r4' H4' h40' h41' g4' g04'=>?_
  walk_at "y"
  obtain⟨m,rfl⟩:=Int.eq_ofNat_of_zero_le h40'
  exact key (7+m) _ (by omega) (by omega) g04'
 .walk_at "y"
  obtain⟨m,rfl⟩:=Int.eq_ofNat_of_zero_le h30
  exact key (1+m) _ (by omega) (by omega) (g04.mono (by omega))
theorem nStep_up {n m len:Nat} (hm:0<m) (h1:len<=n*m) (h2:n*m<len+m):nStep 0 (len:Int) m=n:=by
 unfold nStep
 rcases Nat.eq_zero_or_pos n with rfl|hn
 .rw[if_neg (by omega)]
 .have e1:n*m=(n-1)*m+m:=by
   have:n=(n-1)+1:=by omega
   conv=>lhs;rw[this,Nat.add_mul,Nat.one_mul]
  have hp:0<len:=by omega
  rw[if_pos (by omega)]
  have e:(len:Int)-0-1=((len-1:Nat):Int):=by omega
  have d:(len-1) / m=n-1:=by
   apply Nat.div_eq_of_lt_le
   .omega
   .rw[Nat.add_mul,Nat.one_mul];omega
  rw[e,<- Int.natCast_ediv,d]
  omega
def spBlocksG:Sp:=fun vs H Q _=>∃(l:List Bool) (m n:Nat),vs=[.str (tx l),.int m]/\0<m/\m<=1000/\l.length<=n*m/\n*m<l.length+m/\l.length<=900/\∀p H',H p=none->Same H H'->H' p=some (.lst ((bks m l n).map tV))->Q (.ref p) H'
theorem body_blocksG {C:Rc} (hN:C.N.length=3):∀vs H Q E,spBlocksG vs H Q E->tSs C c_p_blocks_of { nx:=fun _ H'=>Q .non H',rt:=Q } (L2.start C.N vs) H:=by
 intro vs H Q E h
 obtain⟨l,m,n,rfl,hm,hm2,h1,h2,hl2,q⟩:=h
 rw[start_eq hN]
 unfold c_p_blocks_of
 have hz:l.length<=sizeLine:=small16 (by omega)
 have hnb:n<=900:=by
  rcases Nat.eq_zero_or_pos n with rfl|hn
  .omega
  .have e1:n*m=(n-1)*m+m:=by
    have:n=(n-1)+1:=by omega
    conv=>lhs;rw[this,Nat.add_mul,Nat.one_mul]
   have:=Nat.le_mul_of_pos_right (n-1) hm
   omega
 walk_at "y"
 refine⟨hz,?_⟩
 refine at_r3 (by omega) (by omega) (by omega) (by omega) (by omega) (by omega) ?_
 rw[nStep_up hm h1 h2]
 refine comp_c (fun i xs H'=>xs=(bks m l i).map tV/\H'=H) ⟨rfl,rfl⟩ ?_ ?_
 .rintro i xs H' R hi ⟨rfl,rfl⟩ hR
  walk_at "y"
  rw[show(0:Int)+(i:Int)*(m:Int)=((i*m:Nat):Int) by rw[Int.natCast_mul,Int.zero_add],show((i*m:Nat):Int)+(m:Int)=((i*m+m:Nat):Int) by omega]
  refine sl_mid hz (by omega) ?_
  walk_at "y"
  refine⟨by rw[List.length_map,bks_len];exact small1000 (by omega),hR _ _ ⟨?_,rfl⟩⟩
  rw[bks_succ,List.map_append,Nat.add_sub_cancel_left]
  rfl
 .rintro xs H' ⟨rfl,rfl⟩ p hp
  walk_at "y"
  exact q p _ hp (same_new hp _) upd_same
noncomputable def kd (n:Nat) (S:Nat->Bool):List (Key×V):=((List.range n).filter S).map fun i:Nat=>((Key.inl (i:Int):Key),V.bl true)
theorem kd_in {n:Nat} {S:Nat->Bool} {e:Nat} (he:e<n):(valV (kd n S) (Key.inl (e:Int))).isSome=S e:=by
 rw[<- valV_any,Bool.eq_iff_iff,List.any_eq_true]
 constructor
 .rintro⟨x,hx,hd⟩
  unfold kd at hx
  obtain⟨i,hi,rfl⟩:=List.mem_map.mp hx
  have:=of_decide_eq_true hd
  injection this with this
  have:i=e:=by omega
  subst this
  exact(List.mem_filter.mp hi).2
 .intro h
  exact⟨(Key.inl (e:Int),V.bl true),List.mem_map.mpr ⟨e,List.mem_filter.mpr ⟨List.mem_range.mpr he,h⟩,rfl⟩,by simp⟩
theorem kd_no {n:Nat} {S:Nat->Bool}:valV (kd n S) (Key.inl (n:Int))=none:=by
 have:(valV (kd n S) (Key.inl (n:Int))).isSome=false:=by
  rw[<- valV_any,Bool.eq_false_iff]
  intro h
  obtain⟨x,hx,hd⟩:=List.any_eq_true.mp h
  unfold kd at hx
  obtain⟨i,hi,rfl⟩:=List.mem_map.mp hx
  have:=of_decide_eq_true hd
  injection this with this
  have:=List.mem_range.mp (List.mem_filter.mp hi).1
  omega
 cases h:valV (kd n S) (Key.inl (n:Int))with
 |none=>rfl
 |some v=>rw[h]at this;cases this
theorem kd_succ {n:Nat} {S:Nat->Bool}:kd (n+1) S=if S n then kd n S++[((Key.inl (n:Int):Key),V.bl true)]else kd n S:=by
 unfold kd
 rw[List.range_succ,List.filter_append,List.map_append]
 cases h:S n<;>simp[h]
theorem kd_len {n:Nat} {S:Nat->Bool}:(kd n S).length<=n:=by
 unfold kd
 rw[List.length_map]
 exact Nat.le_trans (List.length_filter_le _ _) (by simp)
noncomputable def dB (W:List (List Dr)) (p r:Nat) (b:List Bool) (S:Nat->Bool):List Nat:=(List.range (2 ^ p)).filter fun i=>decide ((door W r i).1=b)&&S (door W r i).2
noncomputable def can (W:List (List Dr)) (p:Nat):List (List Bool)->Nat->Bool
 | [],_=>true
 |b :: bs,r=>!(dB W p r b (can W p bs)).isEmpty
theorem g_nest {C:Rc} {σ:L2.St} {H:Hp} {i j k:Nat} {a b:Addr} {x y z:V} {R:L2.St->Hp->Prop} (h:SqT C.K H a [x,.ref b]) (h2:SqT C.K H b [y,z]) (q:R (((σ.set i (some x)).set j (some y)).set k (some z)) H):tG C (.tup (.cons (.name i) (.cons (.tup (.cons (.name j) (.cons (.name k) .nil))) .nil))) (.ref a) σ H R:=
 ⟨a,[x,.ref b],rfl,h,rfl,_,_,rfl,_,_,rfl,⟨b,[y,z],rfl,h2,rfl,_,_,rfl,_,_,rfl,rfl,rfl,q⟩⟩
theorem room_at {H:Hp} {a:Addr} {W:List (List Dr)} {p z r:Nat} (h:IsW H a W) (hW:OkWz p z W) (hr:r<W.length):∃vs q ds,H a=some (.tup vs)/\vs.length=W.length/\atI vs (r:Int)=some (.ref q)/\H q=some (.tup ds)/\ds.length=2 ^ p/\∀(i:Nat) x,ds[i]?=some x->∃v,x=.ref v/\H v=some (.tup [.str (tx (door W r i).1),.int (door W r i).2])/\(door W r i).2<W.length/\(door W r i).1.length=z:=by
 have e1:W[r]?=some W[r]:=List.getElem?_eq_getElem hr
 obtain⟨hl,hd⟩:=hW _ (List.getElem_mem hr)
 obtain⟨vs,h1,h2⟩:=h
 obtain⟨v,ev,q,ds,rfl,hq,hds⟩:=h2.get e1
 refine⟨vs,q,ds,h1,h2.len,atI_nat ev,hq,by rw[hds.len];exact hl,fun i x hx=>?_⟩
 have hi:i<W[r].length:=by rw[<- hds.len];exact lt_of_get hx
 have e2:W[r][i]?=some (W[r][i]):=List.getElem?_eq_getElem hi
 have e3:door W r i=W[r][i]:=by
  unfold door
  rw[e1,Option.getD_some,e2]
  rfl
 obtain⟨d,ed,v,rfl,hv⟩:=hds.get e2
 rw[hx]at ed
 cases ed
 rw[e3]
 exact⟨v,rfl,hv,(hd _ (List.getElem_mem hi)).2,(hd _ (List.getElem_mem hi)).1⟩
theorem filter_succ {f:Nat->Bool} {i:Nat}:(List.range (i+1)).filter f=(List.range i).filter f++if f i=true then[i]else[]:=by
 rw[List.range_succ,List.filter_append]
 congr 1
 cases h:f i<;>simp[h]
def spDoors:Sp:=fun vs H Q _=>∃(a g:Addr) (W:List (List Dr)) (p z r:Nat) (b:List Bool) (S:Nat->Bool),vs=[.ref a,.int r,.str (tx b),.ref g]/\IsW H a W/\OkWz p z W/\p<=4/\r<W.length/\H g=some (.dK (kd W.length S))/\∀l H',H l=none->Same H H'->H' l=some (.lst ((dB W p r b S).map fun i:Nat=>V.int i))->Q (.ref l) H'
theorem two4 {p:Nat} (h:p<=4):2 ^ p<=16:=Nat.le_trans (Nat.pow_le_pow_right (by omega) h) (by decide)
theorem body_doors {C:Rc} (hN:C.N.length=7):∀vs H Q E,spDoors vs H Q E->tSs C c_p_doors_by { nx:=fun _ H'=>Q .non H',rt:=Q } (L2.start C.N vs) H:=by
 intro vs H Q E h
 obtain⟨a,g,W,p,z,r,b,S,rfl,hW,okW,hp,hr,hg,q⟩:=h
 rw[start_eq hN]
 unfold c_p_doors_by
 obtain⟨ws,m,ds,hw,hwl,e1,hm,hdl,hd⟩:=room_at hW okW hr
 have h16:=two4 hp
 walk_at "y"
 refine at_ixT (SqT.of hw) e1 ?_
 refine at_enT (SqT.of hm) ?_
 refine comp_et (fun i xs H'=>i<=ds.length/\xs=(((List.range i).filter fun i=>decide ((door W r i).1=b)&&S (door W r i).2).map fun i:Nat=>V.int i)/\Same H H') ⟨Nat.zero_le _,rfl,Same.refl _⟩ (fun i xs H' p=>SqT.of (p.2.2 _ _ hm)) ?_ ?_
 .rintro i xs H' x t R hx ht ⟨_,rfl,s⟩ hR
  have hi:i<ds.length:=lt_of_get hx
  obtain⟨v,rfl,hv,hlt,hlz⟩:=hd i _ hx
  have s1:=s.trans (same_new ht (.tup [.int i,.ref v]))
  have ht1:upd H' t (.tup [.int i,.ref v]) t=some (.tup [.int i,.ref v]):=upd_same
  generalize upd H' t (.tup [.int i,.ref v])=H1 at s1 ht1 ⊢
  refine g_nest (SqT.of ht1) (SqT.of (s1 _ _ hv)) ?_
  have hsz:∀(f:Nat->Bool),(((List.range i).filter f).map fun i:Nat=>V.int i).length<sizeLine:=fun f=>by
   rw[List.length_map]
   have:=List.length_filter_le f (List.range i)
   rw[List.length_range]at this
   exact small1000 (by omega)
  have hrs:((List.range (i+1)).filter fun i=>decide ((door W r i).1=b)&&S (door W r i).2)=((List.range i).filter fun i=>decide ((door W r i).1=b)&&S (door W r i).2)++if(decide ((door W r i).1=b)&&S (door W r i).2)=true then[i]else[]:=by
   exact filter_succ
  walk_at "y"
  refine by_dec (fun hq=>?_) fun hq=>?_
  .have hq:=tx_inj hq
   walk_at "y"
   refine at_inD (o:=valV (kd W.length S) (Key.inl ((door W r i).2:Int))) (DGet.k (k:=.inl _) (s1 _ _ hg)) ?_
   rw[if_neg (by decide),kd_in hlt]
   cases hS:S (door W r i).2 with
   |true=>
    walk_at "y"
    refine⟨hsz _,hR _ _ ⟨hi,?_,s1⟩⟩
    rw[hrs,hq,hS,decide_eq_true rfl]
    simp
   |false=>
    walk_at "y"
    refine hR _ _ ⟨hi,?_,s1⟩
    rw[hrs,hS]
    simp
  .walk_at "y"
   refine hR _ _ ⟨hi,?_,s1⟩
   rw[hrs,decide_eq_false (fun e=>hq (by rw[e]))]
   simp
 .rintro xs H' ⟨_,rfl,s⟩ l hl
  rw[hdl]
  exact q l _ (s.free hl) (s.trans (same_new hl _)) upd_same
def spReadable:Sp:=fun vs H Q _=>∃(a f:Addr) (W:List (List Dr)) (p z:Nat) (bs:List (List Bool)),vs=[.ref a,.ref f]/\IsW H a W/\OkWz p z W/\p<=4/\W.length<=24/\H f=some (.lst (bs.map tV))/\bs.length<=900/\∀(l:Addr) (gs:List Addr) H',Same H H'->H' l=some (.lst (gs.map V.ref))->gs.length=bs.length+1->(∀(j:Nat) g,gs[j]?=some g->H' g=some (.dK (kd W.length (can W p (bs.drop (bs.length-j))))))->Q (.ref l) H'
theorem body_readable {C:Rc} (hN:C.N.length=5) (hD:C.fs "doors_by"=some spDoors):∀vs H Q E,spReadable vs H Q E->tSs C c_p_readable { nx:=fun _ H'=>Q .non H',rt:=Q } (L2.start C.N vs) H:=by
 intro vs H Q E h
 obtain⟨a,f,W,p,z,bs,rfl,hW,okW,hp,hW24,hf,hbs,q⟩:=h
 rw[start_eq hN]
 unfold c_p_readable
 obtain⟨ws,hw,hws⟩:=id hW
 have hwl:=hws.len
 walk_at "y"
 refine at_lenT (SqT.of hw) ?_
 rw[hwl]
 refine at_r1 (by omega) (by omega) (cl_r (fun i b H'=>b=kd i (fun _=>true)/\H'=H) ⟨rfl,rfl⟩ ?_ ?_)
 .rintro i b H' R hi ⟨rfl,rfl⟩ hR
  have hi:i<W.length:=by omega
  walk_at "y"
  have hkl:=kd_len (n:=i) (S:=fun _=>true)
  refine⟨Key.inl (i:Int),by rw[Int.zero_add];rfl,small1000 (by omega),hR _ _ ⟨?_,rfl⟩⟩
  rw[putK_new _ kd_no,kd_succ,if_pos rfl]
 .rintro b H' ⟨rfl,rfl⟩
  refine⟨trivial,fun g0 hg0=>?_⟩
  rw[show((W.length:Int)).toNat=W.length by omega]
  have s1:=same_new hg0 (.dK (kd W.length fun _=>true))
  have hg1:upd H' g0 (.dK (kd W.length fun _=>true)) g0=some (.dK (kd W.length fun _=>true)):=upd_same
  generalize upd H' g0 (.dK (kd W.length fun _=>true))=H1 at s1 hg1 ⊢
  walk_at "y"
  refine⟨by decide,fun l hl=>?_⟩
  have hlH:H' l=none:=s1.free hl
  have hl1:upd H1 l (.lst [.ref g0]) l=some (.lst ([g0].map V.ref)):=upd_same
  have hS0:∀o,Same H' (upd (upd H1 l (.lst [.ref g0])) l o):=fun o=>by rw[upd_upd];exact s1.trans (same_new hl o)
  have hgl:g0≠l:=fun z=>by subst z;rw[hg1]at hl;cases hl
  have hg2:upd H1 l (.lst [.ref g0]) g0=some (.dK (kd W.length fun _=>true)):=by rw[upd_ne hgl];exact hg1
  generalize upd H1 l (.lst [.ref g0])=H2 at hl1 hS0 hg2 ⊢
  have hfl:f≠l:=fun z=>by subst z;rw[hf]at hlH;cases hlH
  have hold:∀H3,(∀o,Same H' (upd H3 l o))->∀b u,b≠l->H' b=some u->H3 b=some u:=fun H3 hS b u hb e=>by
   have:=hS (.lst []) b u e
   rwa [upd_ne hb]at this
  walk_at "y"
  refine at_rvL (SqL.of (hold H2 hS0 f _ hfl hf)) ?_
  refine for_lr (fun i σ H3=>(∃x3 x4,σ=[some (.ref a),some (.ref f),some (.ref l),x3,x4])/\(∀o,Same H' (upd H3 l o))/\∃gs:List Addr,H3 l=some (.lst (gs.map V.ref))/\gs.length=i+1/\∀(j:Nat) g,gs[j]?=some g->g≠l/\H3 g=some (.dK (kd W.length (can W p (bs.drop (bs.length-j)))))) ⟨⟨_,_,rfl⟩,hS0,[g0],hl1,rfl,fun j g hj=>?_⟩ (fun i σ H3 _ pv=>SqL.of (hold H3 pv.2.1 f _ hfl hf)) ?_ ?_
  .match j,hj with
   |0,hj=>
    cases hj
    refine⟨hgl,?_⟩
    rw[Nat.sub_zero,List.drop_length]
    exact hg2
   |j+1,hj=>cases hj
  .rintro i x σ H3 hi hx ⟨⟨x3,x4,rfl⟩,hS,gs,hl3,hgs,hg⟩
   rw[List.length_map]at hi hx
   obtain⟨blk,hblk⟩:∃blk,bs[bs.length-1-i]?=some blk:=⟨_,List.getElem?_eq_getElem (by omega)⟩
   rw[List.getElem?_map,hblk]at hx
   cases hx
   have hW3:IsW H3 a W:=by
    refine hW.mono fun b u e=>?_
    exact hold H3 hS b _ (fun z=>by subst z;rw[e]at hlH;cases hlH) e
   obtain⟨gi,hgi⟩:∃gi,gs[i]?=some gi:=⟨_,List.getElem?_eq_getElem (by omega)⟩
   obtain⟨hgil,hgi3⟩:=hg i gi hgi
   obtain⟨ws3,hw3,hws3⟩:=id hW3
   have hwl3:=hws3.len
   have hdrop:bs.drop (bs.length-(i+1))=blk :: bs.drop (bs.length-i):=by
    rw[show bs.length-(i+1)=bs.length-1-i by omega]
    rw[List.drop_eq_getElem_cons (by omega),show bs.length-1-i+1=bs.length-i by omega]
    rw[List.getElem?_eq_getElem (by omega)]at hblk
    cases hblk
    rfl
   simp only[tV]
   walk_at "y"
   refine⟨tyL hl3 rfl,?_⟩
   walk_at "y"
   refine at_lenT (SqT.of hw3) ?_
   rw[hwl3]
   refine at_r1 (by omega) (by omega) (cl_r (fun k b H4=>k<=W.length/\b=kd k (can W p (blk :: bs.drop (bs.length-i)))/\Same H3 H4) ⟨Nat.zero_le _,rfl,Same.refl _⟩ ?_ ?_)
   .rintro k b H4 R hk ⟨_,rfl,s4⟩ hR
    have hk:k<W.length:=by omega
    walk_at "y"
    refine call_e hD ?_
    walk_at "y"
    refine at_ixL (SqL.of (s4 _ _ hl3)) (v:=.ref gi) (atI_end (i:=i) (by rw[List.length_map,hgs]) (by rw[List.getElem?_map,hgi];rfl)) ?_
    walk_at "y"
    refine⟨a,gi,W,p,z,k,blk,can W p (bs.drop (bs.length-i)),by rw[Int.zero_add],hW3.mono (same_tp s4),okW,hp,hk,s4 _ _ hgi3,fun l5 H5 hl5 s5 hl5'=>?_⟩
    walk_at "y"
    refine at_truL (SqL.of hl5') ?_
    have e:((dB W p k blk (can W p (bs.drop (bs.length-i)))).map fun i:Nat=>V.int i).isEmpty=(dB W p k blk (can W p (bs.drop (bs.length-i)))).isEmpty:=by rw[List.isEmpty_map]
    rw[e]
    have e2:(!(dB W p k blk (can W p (bs.drop (bs.length-i)))).isEmpty)=can W p (blk :: bs.drop (bs.length-i)) k:=rfl
    rw[e2]
    have hkl:=kd_len (n:=k) (S:=can W p (blk :: bs.drop (bs.length-i)))
    cases hc:can W p (blk :: bs.drop (bs.length-i)) k with
    |true=>
     walk_at "y"
     refine⟨Key.inl (k:Int),by rw[Int.zero_add];rfl,small1000 (by omega),hR _ _ ⟨hk,?_,s4.trans s5⟩⟩
     rw[putK_new _ kd_no,kd_succ,if_pos hc]
    |false=>
     walk_at "y"
     refine hR _ _ ⟨hk,?_,s4.trans s5⟩
     rw[kd_succ,hc]
     rfl
   .rintro b H4 ⟨_,rfl,s4⟩
    refine⟨trivial,fun g4 hg4=>?_⟩
    rw[show((W.length:Int)).toNat=W.length by omega]
    have s5:=s4.trans (same_new hg4 (.dK (kd W.length (can W p (blk :: bs.drop (bs.length-i))))))
    have hg5:upd H4 g4 (.dK (kd W.length (can W p (blk :: bs.drop (bs.length-i))))) g4=some (.dK (kd W.length (can W p (blk :: bs.drop (bs.length-i))))):=upd_same
    have hg4l:g4≠l:=fun z=>by subst z;rw[s4 _ _ hl3]at hg4;cases hg4
    generalize upd H4 g4 (.dK (kd W.length (can W p (blk :: bs.drop (bs.length-i)))))=H5 at s5 hg5 ⊢
    walk_at "y"
    refine at_app (s5 _ _ hl3) (by rw[List.length_map,hgs];exact small1000 (by omega)) ?_
    walk_at "y"
    refine⟨⟨_,_,rfl⟩,fun o=>?_,gs++[g4],by rw[upd_same,List.map_append];rfl,by rw[List.length_append,hgs];rfl,fun j g hj=>?_⟩
    .intro b u hb
     have hbl:b≠l:=fun z=>by subst z;rw[hb]at hlH;cases hlH
     rw[upd_upd,upd_ne hbl]
     exact s5 _ _ (hold H3 hS b u hbl hb)
    .by_cases hji:j<gs.length
     .rw[List.getElem?_append_left hji]at hj
      obtain⟨k1,k2⟩:=hg j g hj
      exact⟨k1,by rw[upd_ne k1];exact s5 _ _ k2⟩
     .rw[List.getElem?_append_right (by omega)]at hj
      have:j-gs.length=0:=by
       rcases Nat.eq_zero_or_pos (j-gs.length)with h|h
       .exact h
       .rw[List.getElem?_eq_none (show[g4].length<=_ from h)]at hj;cases hj
      rw[this]at hj
      cases hj
      have ej:j=i+1:=by omega
      subst ej
      rw[hdrop]
      exact⟨hg4l,by rw[upd_ne hg4l];exact hg5⟩
  .rintro σ H3 ⟨⟨x3,x4,rfl⟩,hS,gs,hl3,hgs,hg⟩
   rw[List.length_map]at hgs
   walk_at "y"
   refine q l gs H3 (fun b u hb=>hold H3 hS b u (fun z=>by subst z;rw[hb]at hlH;cases hlH) hb) hl3 hgs fun j g hj=>(hg j g hj).2
end WR
namespace TM
open PySem PySem.Spec PyProof.Rows L2 R3 LW
noncomputable def oI (o:Option Nat):Option Int:=o.map Int.ofNat
noncomputable def fs1 (M:List Rm) (r:Nat):Option Nat:=(M[r]?.getD (none,none)).1
noncomputable def fs2 (M:List Rm) (r:Nat):Option Nat:=(M[r]?.getD (none,none)).2
noncomputable def ldS (M:List Rm) (rs:List Nat):Option Int->Bool:=fun k=>rs.any fun r=>decide (k=oI (fs1 M r)) || decide (k=oI (fs2 M r))
noncomputable def inR (rs:List Nat) (o:Option Nat):Bool:=match o with
 |some n=>rs.contains n
 |none=>false
noncomputable def lastR (M:List Rm) (rs:List Nat) (r:Nat):Bool:=ldS M rs (some (r:Int))&&(inR rs (fs1 M r) || inR rs (fs2 M r))
noncomputable def lst (M:List Rm) (rs:List Nat):List Nat:=rs.filter (lastR M rs)
end TM
namespace BD
open PySem PySem.Spec PyProof.Rows L2 R3 LW TM
structure IsB (H:Hp) (p:Addr) (l0 h0 l1 h1:Nat) (sp:Option Nat):Prop where
 at':H p=some (.tup [nV l0,nV h0,nV l1,nV h1,oV sp])
 b0:h0<=8
 b1:h1<=8
 bs:∀s,sp=some s->s<=16
noncomputable abbrev K3:=Nat×Nat×Nat
noncomputable def r1 (lv:List Nat) (b pl:Nat):List K3:=lv.map fun l=>(b,pl,l)
noncomputable def r2 (lv:List Nat) (b:Nat) (h:Nat):List K3:=(List.range h).flatMap fun j=>r1 lv b (j+1)
noncomputable def kI (k:K3):List Int:=[(k.1:Int),(k.2.1:Int),(k.2.2:Int)]
end BD
namespace BE
open PySem PySem.Spec PyProof.Rows L2 R3 LW TM BD
noncomputable def lvl (sp:Option Nat) (lv c:Nat):Int:=match sp with
 |none=>lv
 |some _=>(lv:Int)+if c=1 then 1 else -1
noncomputable def bh (l0 l1:Nat) (sp:Option Nat) (k:K3) (c:Nat):Option (List Int):=
 if c=k.1 then some [(c:Int),(k.2.1:Int)+1,lvl sp k.2.2 c]else if k.2.1<(if k.1=1 then l1 else l0)then none else some [(c:Int),1,lvl sp k.2.2 c]
noncomputable def ixK (ks:List K3) (z:Option (List Int)):Option Nat:=match z with
 |none=>none
 |some z=>ks.findIdx? fun k=>decide (kI k=z)
noncomputable def mx (l0 l1:Nat) (sp:Option Nat) (ks:List K3) (k:K3):Rm:=(ixK ks (bh l0 l1 sp k 0),ixK ks (bh l0 l1 sp k 1))
def Sus (M:List Rm) (S:List Nat):Prop:=∀r∈S,r<M.length/\(∃r'∈S,fs1 M r'=some r\/fs2 M r'=some r)/\∃r'∈S,fs1 M r=some r'\/fs2 M r=some r'
end BE
namespace TE
open PySem PySem.Spec PyProof.Rows L2 R3 LW TM BD BE
structure Rs (M:List Rm) (rs:List Nat):Prop where
 rise:rs.Pairwise (· < ·)
 lt:∀r∈rs,r<M.length
 fix:lst M rs=rs
 all:∀S,Sus M S->∀r∈S,r∈rs
end TE
namespace K44
open PySem PySem.Spec PyProof.Rows L2 R3 LW
noncomputable def n_p_blocks_of:List Str:=["row","many","at"]
noncomputable def b_p_blocks_of:List Str:=["len","range"]
noncomputable def n_p_bits_by:List Str:=["number","many","at"]
noncomputable def b_p_bits_by:List Str:=["range","reversed","str"]
noncomputable def n_p_doors_by:List Str:=["writer","room","block","goals","number","row","end"]
noncomputable def b_p_doors_by:List Str:=["enumerate"]
noncomputable def n_p_readable:List Str:=["writer","blocks","told","room","block"]
noncomputable def b_p_readable:List Str:=["len","range","reversed"]
noncomputable def n_p_common_beginning:List Str:=["one","other","many"]
noncomputable def b_p_common_beginning:List Str:=["len"]
noncomputable def c_p_common_beginning:Css:=(.cons (.asg (.name 2) (.int 0))
  (.cons (.whl (.and (.cmp .Lt (.var 2) (.blt .len (.cons (.var 0) .nil))) (.cmp .Eq (.idx (.var 0) (.var 2)) (.idx (.var 1) (.var 2)))) (.cons (.aug 2 false (.int 1))
  .nil))
  (.cons (.ret (.cut (.var 0) .none (.some (.var 2))))
  .nil)))
noncomputable def n_p_surely:List Str:=["writer","p","q","room","row","blocks","left","parts","here","at","block","numbers"]
noncomputable def b_p_surely:List Str:=["enumerate","len"]
noncomputable def c_p_surely:Css:=(.cons (.asg (.name 5) (.call "blocks_of" (.cons (.var 4) (.cons (.var 2) .nil))))
  (.cons (.asg (.name 6) (.call "readable" (.cons (.var 0) (.cons (.var 5) .nil))))
  (.cons (.ite (.din true (.var 3) (.idx (.var 6) (.neg (.int 1)))) (.cons (.ret .non)
  .nil) .nil)
  (.cons (.asg (.name 7) (.lst .nil))
  (.cons (.asg (.name 8) (.var 3))
  (.cons (.for_ (.tup (.cons (.name 9) (.cons (.name 10) .nil))) (.enum (.var 5)) (.cons (.asg (.name 11) (.call "doors_by" (.cons (.var 0) (.cons (.var 8) (.cons (.var 10) (.cons (.idx (.var 6) (.bin .Sub (.bin .Sub (.blt .len (.cons (.var 5) .nil)) (.var 9)) (.int 1))) .nil))))))
  (.cons (.expr (.met .append (.var 7) (.cons (.call "common_beginning" (.cons (.call "bits_by" (.cons (.idx (.var 11) (.int 0)) (.cons (.var 1) .nil))) (.cons (.call "bits_by" (.cons (.idx (.var 11) (.neg (.int 1))) (.cons (.var 1) .nil))) .nil))) .nil)))
  (.cons (.ite (.cmp .Gt (.blt .len (.cons (.var 11) .nil)) (.int 1)) (.cons .brk
  .nil) .nil)
  (.cons (.asg (.name 8) (.idx (.idx (.idx (.var 0) (.var 8)) (.idx (.var 11) (.int 0))) (.int 1)))
  .nil)))))
  (.cons (.ret (.met .join (.str "") (.cons (.var 7) .nil)))
  .nil)))))))
noncomputable def n_cell_at:List Str:=["_law_script","_law_k"]
noncomputable def b_cell_at:List Str:=["len"]
noncomputable def n_box:List Str:=["_law_script","_law_k","_law_cell"]
noncomputable def b_box:List Str:=["abs","int"]
noncomputable def n_take:List Str:=["_law_box_here","_law_many","_law_found","_law_once","_law_twice"]
noncomputable def b_take:List Str:=[]
noncomputable def n_bits:List Str:=["_law_box_here","_law_many","_law_k"]
noncomputable def b_bits:List Str:=["range"]
noncomputable def n_row_by:List Str:=["_law_number","_law_many","_law_k"]
noncomputable def b_row_by:List Str:=["range","str"]
noncomputable def n_writer:List Str:=["_law_box_here","_law_p","_law_q","_law_many","_law_way","_law_few","_law_k","_law_rooms","_law_first","_law_step","_law_doors","_law_number","_law_row"]
noncomputable def b_writer:List Str:=["int","len","range","tuple"]
noncomputable def n_goes:List Str:=["_law_writer_here","_law_p","_law_room","_law_bits_here","_law_row","_law_at","_law_told"]
noncomputable def b_goes:List Str:=["int","len","range"]
noncomputable def n_can:List Str:=["_law_writer_here","_law_q","_law_row","_law_behind","_law_found","_law_room","_law_doors","_law_door"]
noncomputable def b_can:List Str:=["any","enumerate","len","list","range"]
noncomputable def c_can:Css:=(.cons (.ite (.cmp .Eq (.var 2) (.str "")) (.cons (.ret (.blt .list (.cons (.blt .range (.cons (.blt .len (.cons (.var 0) .nil)) .nil)) .nil)))
  .nil) .nil)
  (.cons (.asg (.name 3) (.call "_law_can" (.cons (.var 0) (.cons (.var 1) (.cons (.cut (.var 2) (.some (.var 1)) .none) .nil)))))
  (.cons (.asg (.name 4) (.lst .nil))
  (.cons (.for_ (.tup (.cons (.name 5) (.cons (.name 6) .nil))) (.enum (.var 0)) (.cons (.ite (.val (.blt .any (.cons (.comp (.and (.cmp .Eq (.idx (.var 7) (.int 0)) (.cut (.var 2) .none (.some (.var 1)))) (.cmp .In (.idx (.var 7) (.int 1)) (.var 3))) [7] (.name 7) (.val (.var 6)) .none .nil) .nil))) (.cons (.expr (.met .append (.var 4) (.cons (.var 5) .nil)))
  .nil) .nil)
  .nil))
  (.cons (.ret (.var 4))
  .nil)))))
noncomputable def n_next:List Str:=["_law_writer_here","_law_q","_law_rooms","_law_row","_law_behind","_law_found","_law_room","_law_number","_law_door"]
noncomputable def b_next:List Str:=["enumerate","set","sorted"]
noncomputable def c_next:Css:=(.cons (.asg (.name 4) (.call "_law_can" (.cons (.var 0) (.cons (.var 1) (.cons (.cut (.var 3) (.some (.var 1)) .none) .nil)))))
  (.cons (.asg (.name 5) .dnew)
  (.cons (.for_ (.name 6) (.val (.var 2)) (.cons (.for_ (.tup (.cons (.name 7) (.cons (.name 8) .nil))) (.enum (.idx (.var 0) (.var 6))) (.cons (.ite (.and (.cmp .Eq (.idx (.var 8) (.int 0)) (.cut (.var 3) .none (.some (.var 1)))) (.cmp .In (.idx (.var 8) (.int 1)) (.var 4))) (.cons (.dput (.var 5) (.var 7) (.sst (.bin .Add (.dg2 (.var 5) (.var 7) (.lst .nil)) (.lst (.cons (.idx (.var 8) (.int 1)) .nil)))))
  .nil) .nil)
  .nil))
  .nil))
  (.cons (.ret (.var 5))
  .nil))))
noncomputable def n_alike:List Str:=["_law_numbers","_law_p","_law_rows","_law_number","_law_many","_law_row"]
noncomputable def b_alike:List Str:=["all"]
noncomputable def c_alike:Css:=(.cons (.asg (.name 2) (.comp (.call "_law_row_by" (.cons (.var 3) (.cons (.var 1) .nil))) [3] (.name 3) (.val (.var 0)) .none .nil))
  (.cons (.asg (.name 4) (.int 0))
  (.cons (.whl (.and (.cmp .Lt (.var 4) (.var 1)) (.val (.blt .all (.cons (.comp (.cmp .Eq (.idx (.var 5) (.var 4)) (.idx (.idx (.var 2) (.int 0)) (.var 4))) [5] (.name 5) (.val (.var 2)) .none .nil) .nil)))) (.cons (.asg (.name 4) (.bin .Add (.var 4) (.int 1)))
  .nil))
  (.cons (.ret (.cut (.idx (.var 2) (.int 0)) .none (.some (.var 4))))
  .nil))))
noncomputable def n_due:List Str:=["_law_writer_here","_law_p","_law_q","_law_room","_law_row","_law_told","_law_rooms","_law_found"]
noncomputable def b_due:List Str:=["len","list"]
noncomputable def c_due:Css:=(.cons (.ite (.or (.cmp .NotEq (.bin .Mod (.blt .len (.cons (.var 4) .nil)) (.var 2)) (.int 0)) (.cmp .NotIn (.var 3) (.call "_law_can" (.cons (.var 0) (.cons (.var 2) (.cons (.var 4) .nil)))))) (.cons (.ret .non)
  .nil) .nil)
  (.cons (.asg (.name 5) (.str ""))
  (.cons (.asg (.name 6) (.lst (.cons (.var 3) .nil)))
  (.cons (.whl (.cmp .NotEq (.var 4) (.str "")) (.cons (.asg (.name 7) (.call "_law_next" (.cons (.var 0) (.cons (.var 2) (.cons (.var 6) (.cons (.var 4) .nil))))))
  (.cons (.asg (.name 5) (.bin .Add (.var 5) (.call "_law_alike" (.cons (.blt .listD (.cons (.var 7) .nil)) (.cons (.var 1) .nil)))))
  (.cons (.asg (.name 4) (.cut (.var 4) (.some (.var 2)) .none))
  (.cons (.ite (.cmp .Gt (.blt .lenD (.cons (.var 7) .nil)) (.int 1)) (.cons (.ret (.var 5))
  .nil) .nil)
  (.cons (.asg (.name 6) (.idx (.blt .listV (.cons (.met .values (.var 7) .nil) .nil)) (.int 0)))
  .nil))))))
  (.cons (.ret (.var 5))
  .nil)))))
noncomputable def n_some_row:List Str:=["_law_box_here","_law_p","_law_q","_law_writer_here","_law_room","_law_blocks","_law_row","_law_way","_law_at"]
noncomputable def b_some_row:List Str:=["int","len"]
noncomputable def c_some_row:Css:=(.cons (.asg (.name 5) (.call "_law_take" (.cons (.var 0) (.cons (.idx (.lst (.cons (.int 0) (.cons (.int 13) (.cons (.int 9) (.cons (.int 6) (.cons (.int 5) .nil)))))) (.var 1)) .nil))))
  (.cons (.asg (.name 6) (.idx (.call "_law_goes" (.cons (.var 3) (.cons (.var 1) (.cons (.var 4) (.cons (.call "_law_bits" (.cons (.var 0) (.cons (.bin .Mult (.var 1) (.var 5)) .nil))) .nil))))) (.int 0)))
  (.cons (.asg (.name 7) (.call "_law_take" (.cons (.var 0) (.cons (.int 7) .nil))))
  (.cons (.ite (.cmp .Eq (.var 7) (.int 0)) (.cons (.ret (.cut (.var 6) (.some (.int 1)) .none))
  .nil) .nil)
  (.cons (.ite (.and (.cmp .Eq (.var 7) (.int 1)) (.cmp .NotEq (.var 6) (.str ""))) (.cons (.asg (.name 8) (.call "_law_take" (.cons (.var 0) (.cons (.blt .len (.cons (.var 6) .nil)) .nil))))
  (.cons (.ret (.bin .Add (.bin .Add (.cut (.var 6) .none (.some (.var 8))) (.idx (.str "10") (.blt .int (.cons (.idx (.var 6) (.var 8)) .nil)))) (.cut (.var 6) (.some (.bin .Add (.var 8) (.int 1))) .none)))
  .nil)) .nil)
  (.cons (.ite (.cmp .Eq (.var 7) (.int 2)) (.cons (.ret (.call "_law_bits" (.cons (.var 0) (.cons (.bin .Mult (.var 2) (.var 5)) .nil))))
  .nil) .nil)
  (.cons (.ret (.var 6))
  .nil)))))))
noncomputable def n_law:List Str:=["_law_script","_law_k","_law_box_here","_law_p","_law_q","_law_writer_here","_law_turn","_law_room","_law_row","_law_due_here","_law_found"]
noncomputable def b_law:List Str:=["isinstance","len","min","range","str"]
noncomputable def c_law:Css:=(.cons (.for_ (.name 1) (.range1 (.bin .Add (.int 1) (.blt .min (.cons (.int 4) (.cons (.blt .len (.cons (.var 0) .nil)) .nil))))) (.cons (.asg (.name 2) (.call "_law_box" (.cons (.var 0) (.cons (.var 1) .nil))))
  (.cons (.asg (.tup (.cons (.name 3) (.cons (.name 4) (.cons (.name 5) .nil)))) (.call "_law_writer" (.cons (.var 2) .nil)))
  (.cons (.for_ (.name 6) (.range1 (.int 6)) (.cons (.asg (.name 7) (.call "_law_take" (.cons (.var 2) (.cons (.blt .len (.cons (.var 5) .nil)) .nil))))
  (.cons (.asg (.name 8) (.call "_law_some_row" (.cons (.var 2) (.cons (.var 3) (.cons (.var 4) (.cons (.var 5) (.cons (.var 7) .nil)))))))
  (.cons (.asg (.name 9) (.call "_law_due" (.cons (.var 5) (.cons (.var 3) (.cons (.var 4) (.cons (.var 7) (.cons (.var 8) .nil)))))))
  (.cons (.asg (.name 10) (.call "surely" (.cons (.var 5) (.cons (.var 3) (.cons (.var 4) (.cons (.var 7) (.cons (.var 8) .nil)))))))
  (.cons (.ite (.or (.cmp .NotEq (.var 10) (.var 9)) (.cmp .NotEq (.blt .isinstance (.cons (.var 10) (.cons (.ty "str") .nil))) (.blt .isinstance (.cons (.var 9) (.cons (.ty "str") .nil))))) (.cons (.ret (.bl false))
  .nil) .nil)
  .nil))))))
  .nil))))
  (.cons (.ret (.bl true))
  .nil))
open SR BK K42 WR
noncomputable def cp:List Bool->List Bool->List Bool
 |a :: x,b :: y=>if a=b then a :: cp x y else[]
 |_,_=>[]
theorem cp_take:∀{a b:List Bool} {m:Nat},a.length=b.length->a.take m=b.take m->m<=a.length->(m=a.length\/a[m]?≠b[m]?)->a.take m=cp a b
 | [],[],m,_,_,_,_=>by simp[cp]
 |x :: a,y :: b,0,_,_,_,h=>by
  rcases h with h|h
  .simp at h
  .have:x≠y:=fun e=>h (by simp[e])
   show[]=if x=y then _ else[]
   rw[if_neg this]
 |x :: a,y :: b,m+1,hl,ht,hm,h=>by
  rw[List.take_succ_cons,List.take_succ_cons]at ht
  obtain⟨e,ht2⟩:=List.cons.inj ht
  subst e
  rw[List.take_succ_cons]
  show _=if x=x then x :: cp a b else[]
  rw[if_pos rfl,cp_take (a:=a) (b:=b) (by simpa using hl) ht2 (by simpa using hm) (h.imp (by simp) (by simp))]
 | [],_ :: _,_,hl,_,_,_=>by simp at hl
 |_ :: _,[],_,hl,_,_,_=>by simp at hl
noncomputable def lx:List Bool->List Bool->Bool
 |a :: as,b :: bs=>if a=b then lx as bs else b
 |_,_=>false
theorem bz_lx {p i j:Nat} (hp:p<=4) (hij:i<j) (hj:j<2 ^ p):lx (bz p i) (bz p j)=true:=by
 have h16:=two4 hp
 have key:∀p:Fin 5,∀i:Fin 16,∀j:Fin 16,i.val<j.val->j.val<2 ^ p.val->lx (bz p.val i.val) (bz p.val j.val)=true:=by decide +kernel
 exact key ⟨p,by omega⟩ ⟨i,by omega⟩ ⟨j,by omega⟩ hij hj
theorem lx_mid:∀{a b c:List Bool} {m:Nat},lx a b=true->lx b c=true->a.take m=c.take m->a.take m=b.take m
 |_,_,_,0,_,_,_=>by simp
 | [],_,_,_+1,h,_,_=>by cases h
 |_ :: _,[],_,_+1,h,_,_=>by cases h
 |_ :: _,_ :: _,[],_+1,_,h,_=>by cases h
 |x :: a,y :: b,z :: c,m+1,h1,h2,ht=>by
  rw[List.take_succ_cons,List.take_succ_cons]at ht
  obtain⟨e,ht2⟩:=List.cons.inj ht
  subst e
  unfold lx at h1 h2
  by_cases e:x=y
  .subst e
   rw[if_pos rfl]at h1 h2
   rw[List.take_succ_cons,List.take_succ_cons,lx_mid h1 h2 ht2]
  .rw[if_neg e]at h1
   rw[if_neg (fun z=>e z.symm)]at h2
   exact absurd (h2.trans h1.symm) e
noncomputable def cb (p:Nat) (ds:List Nat):List Bool:=cp (bz p (ds.head?.getD 0)) (bz p (ds.getLast?.getD 0))
theorem mid_all {p:Nat} (hp:p<=4) {d0 dl:Nat} {ds:List Nat} (hr:ds.Pairwise (· < ·)) (hlt:∀d∈ds,d<2 ^ p) (h0:ds.head?=some d0) (hl:ds.getLast?=some dl) {m:Nat} (h:(bz p d0).take m=(bz p dl).take m):∀d∈ds,(bz p d0).take m=(bz p d).take m:=by
 intro d hd
 by_cases e1:d=d0
 .rw[e1]
 by_cases e2:d=dl
 .rw[e2];exact h
 have lo:d0<d:=by
  cases ds with
  |nil=>cases hd
  |cons x ds=>
   cases h0
   rcases List.mem_cons.mp hd with rfl|hd
   .exact absurd rfl e1
   .exact(List.pairwise_cons.mp hr).1 d hd
 have hi:d<dl:=by
  obtain⟨pre,rfl⟩:∃pre,ds=pre++[dl]:=by
   obtain⟨hne,e⟩:=List.getLast?_eq_some_iff.mp hl
   exact⟨hne,e⟩
  rcases List.mem_append.mp hd with hd|hd
  .exact(List.pairwise_append.mp hr).2.2 d hd dl (by simp)
  .exact absurd (List.mem_singleton.mp hd) e2
 have hdl:=hlt dl (List.mem_of_getLast? hl)
 exact lx_mid (bz_lx hp lo (hlt d hd)) (bz_lx hp hi hdl) h
theorem dB_rise {W:List (List Dr)} {p r:Nat} {b:List Bool} {S:Nat->Bool}:(dB W p r b S).Pairwise (· < ·):=List.pairwise_lt_range.sublist List.filter_sublist
theorem dB_lt {W:List (List Dr)} {p r i:Nat} {b:List Bool} {S:Nat->Bool} (h:i∈dB W p r b S):i<2 ^ p/\(door W r i).1=b/\S (door W r i).2=true:=by
 obtain⟨h1,h2⟩:=List.mem_filter.mp h
 rw[Bool.and_eq_true,decide_eq_true_eq]at h2
 exact⟨List.mem_range.mp h1,h2.1,h2.2⟩
theorem dB_len {W:List (List Dr)} {p r:Nat} {b:List Bool} {S:Nat->Bool}:(dB W p r b S).length<=2 ^ p:=by
 have:=List.length_filter_le (fun i=>decide ((door W r i).1=b)&&S (door W r i).2) (List.range (2 ^ p))
 rwa [List.length_range]at this
theorem door_z {p z:Nat} {W:List (List Dr)} {r i:Nat} (hW:OkWz p z W) (hr:r<W.length) (hi:i<2 ^ p):(door W r i).1.length=z/\(door W r i).2<W.length:=by
 have hR:=hW W[r] (List.getElem_mem hr)
 have hi':i<(W[r]).length:=by rw[hR.1];exact hi
 have:=hR.2 (W[r])[i] (List.getElem_mem hi')
 unfold door
 simp[hr,hi']
 exact this
noncomputable def sr (W:List (List Dr)) (p:Nat):List (List Bool)->Nat->List Bool
 | [],_=>[]
 |b :: bs,r=>cb p (dB W p r b (can W p bs))++if(dB W p r b (can W p bs)).length > 1 then[]else sr W p bs (door W r ((dB W p r b (can W p bs)).head?.getD 0)).2
theorem can_short {p z:Nat} {W:List (List Dr)} (hW:OkWz p z W):∀{bs:List (List Bool)} {r:Nat},r<W.length->(∃b∈bs,b.length≠z)->can W p bs r=false
 | [],_,_,⟨b,h,_⟩=>absurd h List.not_mem_nil
 |c :: bs,r,hr,⟨b,hb,hz⟩=>by
  have he:dB W p r c (can W p bs)=[]:=by
   rw[List.eq_nil_iff_forall_not_mem]
   intro i hi
   obtain⟨h1,h2,h3⟩:=dB_lt hi
   obtain⟨k1,k2⟩:=door_z hW hr h1
   rcases List.mem_cons.mp hb with rfl|hb
   .rw[h2]at k1;exact hz k1
   .rw[can_short hW k2 ⟨b,hb,hz⟩]at h3;cases h3
  show(!(dB W p r c (can W p bs)).isEmpty)=false
  rw[he]
  rfl
theorem can_cons {W:List (List Dr)} {p r:Nat} {b:List Bool} {bs:List (List Bool)} (h:can W p (b :: bs) r=true):∃d ds,dB W p r b (can W p bs)=d :: ds:=by
 have h:(!(dB W p r b (can W p bs)).isEmpty)=true:=h
 cases e:dB W p r b (can W p bs)with
 |nil=>rw[e]at h;cases h
 |cons d ds=>exact⟨d,ds,rfl⟩
theorem cb_len {p:Nat} {ds:List Nat}:(cb p ds).length<=p:=by
 have key:∀a b:List Bool,(cp a b).length<=a.length:=by
  intro a
  induction a with
  |nil=>intro b;simp[cp]
  |cons x a ih=>
   intro b
   cases b with
   |nil=>simp[cp]
   |cons y b=>
    show(if x=y then x :: cp a b else[]).length<=_
    split
    .simp;exact ih b
    .simp
 have:=key (bz p (ds.head?.getD 0)) (bz p (ds.getLast?.getD 0))
 rwa [bz_len]at this
theorem sr_len {W:List (List Dr)} {p:Nat}:∀{bs:List (List Bool)} {r:Nat},(sr W p bs r).length<=p*bs.length
 | [],_=>Nat.zero_le _
 |b :: bs,r=>by
  show(cb p _++if _ then _ else _).length<=_
  rw[List.length_append,List.length_cons,Nat.mul_succ]
  have h1:=cb_len (p:=p) (ds:=dB W p r b (can W p bs))
  split
  .simp;omega
  .have:=sr_len (W:=W) (p:=p) (bs:=bs) (r:=(door W r ((dB W p r b (can W p bs)).head?.getD 0)).2)
   omega
def spCom:Sp:=fun vs H Q _=>∃(a b:List Bool),vs=[.str (tx a),.str (tx b)]/\a.length=b.length/\a.length<=100/\Q (.str (tx (cp a b))) H
theorem body_com {C:Rc} (hN:C.N.length=3):∀vs H Q E,spCom vs H Q E->tSs C c_p_common_beginning { nx:=fun _ H'=>Q .non H',rt:=Q } (L2.start C.N vs) H:=by
 intro vs H Q E h
 obtain⟨a,b,rfl,hl,h100,q⟩:=h
 rw[start_eq hN]
 unfold c_p_common_beginning
 walk_at "y"
 refine whl_by (fun k σ H'=>H'=H/\∃m:Nat,σ=[some (.str (tx a)),some (.str (tx b)),some (.int m)]/\m<=a.length/\a.take m=b.take m/\k=a.length-m) _ ⟨rfl,0,rfl,Nat.zero_le _,by simp,rfl⟩ ?_
 rintro k σ H' ⟨rfl,m,rfl,hm,ht,rfl⟩
 have fin:(m=a.length\/a[m]?≠b[m]?)->tSs C (.cons (.ret (.cut (.var 0) .none (.some (.var 2)))) .nil) { nx:=fun _ H'=>Q .non H',rt:=Q } [some (.str (tx a)),some (.str (tx b)),some (.int (m:Int))] H':=fun hs=>by
  walk_at "y"
  refine sl_to (small16 (by omega)) ?_
  rw[cp_take hl ht hm hs]
  exact q
 walk_at "y"
 refine⟨small16 (by omega),?_⟩
 walk_at "y"
 refine by_dec (fun hc=>?_) fun hc=>?_
 .have hma:m<a.length:=by omega
  walk_at "y"
  refine at_ixtx (c:=a[m]) (small16 (by omega)) (atI_nat (List.getElem?_eq_getElem hma)) ?_
  walk_at "y"
  refine at_ixtx (c:=b[m]'(by omega)) (small16 (by omega)) (atI_nat (List.getElem?_eq_getElem (by omega))) ?_
  walk_at "y"
  by_cases hab:a[m]=b[m]'(by omega)
  .rw[decide_eq_true (by rw[hab])]
   refine kWhl_t ?_
   walk_at "y"
   rw[s_aug (a:=(m:Int)) rfl]
   walk_at "y"
   refine⟨a.length-(m+1),by omega,trivial,m+1,rfl,by omega,?_,rfl⟩
   rw[List.take_succ,List.take_succ,ht,List.getElem?_eq_getElem hma,List.getElem?_eq_getElem (show m<b.length by omega),hab]
  .rw[decide_eq_false (fun z=>hab (List.cons.inj (tx_inj z)).1)]
   refine kWhl_f ?_
   refine fin (.inr ?_)
   rw[List.getElem?_eq_getElem hma,List.getElem?_eq_getElem (show m<b.length by omega)]
   exact fun z=>hab (Option.some.inj z)
 .walk_at "y"
  refine kWhl_f ?_
  exact fin (.inl (by omega))
noncomputable def IsSure (W:List (List Dr)) (p:Nat) (bs:List (List Bool)) (r:Nat):V:=if can W p bs r then .str (tx (sr W p bs r))else .non
def spSurely:Sp:=fun vs H Q _=>∃(a:Addr) (W:List (List Dr)) (p z r n:Nat) (l:List Bool),vs=[.ref a,.int p,.int z,.int r,.str (tx l)]/\IsW H a W/\OkWz p z W/\p<=4/\1<=z/\z<=8/\W.length<=24/\r<W.length/\l.length<=500/\l.length<=n*z/\n*z<l.length+z/\n<=100/\∀H',Same H H'->Q (IsSure W p (bks z l n) r) H'
theorem int_list {ds:List Nat}:(ds.map fun i:Nat=>V.int i)=ds.map nV:=rfl
theorem ixN_last {k:Nat}:ixN (k+1) (-1)=some k:=by
 unfold ixN
 simp
 try omega
theorem last_at {ds:List Nat} {d:Nat} (h:ds.getLast?=some d):atI (ds.map nV) (-1)=some (nV d):=by
 obtain⟨pre,rfl⟩:=List.getLast?_eq_some_iff.mp h
 unfold atI
 rw[List.length_map,List.length_append,List.length_singleton,ixN_last]
 simp
theorem body_surely {C:Rc} (hN:C.N.length=12) (hB:C.fs "blocks_of"=some spBlocksG) (hRd:C.fs "readable"=some spReadable) (hD:C.fs "doors_by"=some spDoors) (hBB:C.fs "bits_by"=some spBitsBy) (hC:C.fs "common_beginning"=some spCom):∀vs H Q E,spSurely vs H Q E->tSs C c_p_surely { nx:=fun _ H'=>Q .non H',rt:=Q } (L2.start C.N vs) H:=by
 intro vs H Q E h
 obtain⟨a,W,p,z,r,n,l,rfl,hW,hO,hp,hz1,hz8,hW24,hr,hl5,hl1,hl2,hn,q⟩:=h
 rw[start_eq hN]
 unfold c_p_surely
 have h16:=two4 hp
 walk_at "y"
 refine call_e hB ?_
 walk_at "y"
 refine⟨l,z,n,rfl,by omega,by omega,hl1,hl2,by omega,fun f H1 _ s1 hf=>?_⟩
 obtain⟨bs,hbs⟩:∃bs,bs=bks z l n:=⟨_,rfl⟩
 rw[<- hbs]at hf q
 have hbl:bs.length=n:=by rw[hbs];exact bks_len
 walk_at "y"
 refine call_e hRd ?_
 walk_at "y"
 have tW:∀{H':Hp},Same H H'->IsW H' a W:=fun s=>hW.mono (same_tp s)
 refine⟨a,f,W,p,z,bs,rfl,tW s1,hO,hp,hW24,hf,by omega,fun L gs H2 s2 hL hgl hgs=>?_⟩
 have s12:=s1.trans s2
 have gat:∀j,j<=n->∃g,gs[j]?=some g/\H2 g=some (.dK (kd W.length (can W p (bs.drop (n-j))))):=fun j hj=>by
  have hj':j<gs.length:=by omega
  refine⟨gs[j],List.getElem?_eq_getElem hj',?_⟩
  have:=hgs j _ (List.getElem?_eq_getElem hj')
  rwa [hbl]at this
 obtain⟨g0,hg0,hd0⟩:=gat n (Nat.le_refl _)
 rw[Nat.sub_self,List.drop_zero]at hd0
 have hlast:atI (gs.map V.ref) (-1)=some (.ref g0):=by
  unfold atI
  have e:(gs.map V.ref).length=n+1:=by rw[List.length_map];omega
  rw[e,ixN_last]
  simp[hg0]
 walk_at "y"
 refine at_ixL (SqL.of hL) hlast ?_
 refine at_inD (DGet.k (k:=.inl (r:Int)) hd0) ?_
 rw[kd_in hr]
 cases hcan:can W p bs r with
 |false=>
  walk_at "y"
  have q':=q H2 s12
  unfold IsSure at q'
  rw[hcan]at q'
  exact q'
 |true=>
  walk_at "y"
  refine⟨by decide,fun P hP=>?_⟩
  have hPH:H2 P=none:=hP
  have s3:=same_new hP (.lst [])
  have hP3:upd H2 P (.lst []) P=some (.lst []):=upd_same
  generalize upd H2 P (.lst [])=H3 at s3 hP3 ⊢
  walk_at "y"
  generalize hD0:kSeq C (Css.cons (Cs.ret _) Css.nil) _=D0
  have fin:∀(H4:Hp) (ps:List (List Bool)) (x8 x9 x10 x11:Option V),Same H2 H4->H4 P=some (.lst (ps.map tV))->ps.flatten=sr W p bs r->D0.nx [some (.ref a),some (.int p),some (.int z),some (.int r),some (.str (tx l)),some (.ref f),some (.ref L),some (.ref P),x8,x9,x10,x11] H4:=by
   intro H4 ps x8 x9 x10 x11 s4 hP4 hfl
   rw[<- hD0]
   walk_at "y"
   have hsl:=sr_len (W:=W) (p:=p) (bs:=bs) (r:=r)
   refine⟨rfl,at_join (ls:=ps) (SqL.of hP4) ?_ ?_⟩
   .rw[hfl]
    have:p*bs.length<=4*100:=Nat.mul_le_mul hp (by omega)
    omega
   .rw[hfl]
    have q':=q H4 (s12.trans s4)
    unfold IsSure at q'
    rw[hcan,if_pos rfl]at q'
    exact q'
  refine at_enL (SqL.of ((s2.trans s3) _ _ hf)) (for_e (xs:=bs.map tV) (fun i σ H'=>∃(ri:Nat) (ps:List (List Bool)) (x9 x10 x11:Option V),σ=[some (.ref a),some (.int p),some (.int z),some (.int r),some (.str (tx l)),some (.ref f),some (.ref L),some (.ref P),some (.int ri),x9,x10,x11]/\i<=bs.length/\Same H2 H'/\H' P=some (.lst (ps.map tV))/\ps.length=i/\ri<W.length/\can W p (bs.drop i) ri=true/\ps.flatten++sr W p (bs.drop i) ri=sr W p bs r) ⟨r,[],_,_,_,rfl,Nat.zero_le _,s3,hP3,rfl,hr,by rw[List.drop_zero];exact hcan,by rw[List.drop_zero];rfl⟩ (fun i σ H' _ pv=>let⟨_,_,_,_,_,_,_,s,_⟩:=pv;SqL.of (s _ _ (s2 _ _ hf))) ?_ ?_)
  .rintro i v σ H4 pp hv hpp ⟨ri,ps,x9,x10,x11,rfl,_,s4,hP4,hpl,hri,hci,hfl⟩
   rw[List.getElem?_map]at hv
   obtain⟨b,hb,rfl⟩:=Option.map_eq_some_iff.mp hv
   have hi:=lt_of_get hb
   refine g_tup2 (SqT.of upd_same) ?_
   have s5:=s4.trans (same_new hpp (.tup [.int i,tV b]))
   have hP5:=same_new hpp (.tup [.int i,tV b]) _ _ hP4
   generalize upd H4 pp (.tup [.int i,tV b])=H5 at s5 hP5 ⊢
   have hdr:bs.drop i=b :: bs.drop (i+1):=by
    rw[List.getElem?_eq_getElem hi]at hb
    rw[<- Option.some.inj hb]
    exact List.drop_eq_getElem_cons hi
   rw[hdr]at hci hfl
   obtain⟨d,ds,eds⟩:=can_cons hci
   obtain⟨g,hg,hgd⟩:=gat (n-(i+1)) (by omega)
   rw[show n-(n-(i+1))=i+1 by omega]at hgd
   simp only[tV]
   walk_at "y"
   refine call_e hD ?_
   walk_at "y"
   refine at_lenL (SqL.of (s5 _ _ (s2 _ _ hf))) ?_
   rw[List.length_map,hbl]
   walk_at "y"
   rw[show(n:Int)-(i:Int)-1=((n-(i+1):Nat):Int) by omega]
   refine at_ixL (SqL.of (s5 _ _ hL)) (v:=.ref g) (atI_nat (by rw[List.getElem?_map,hg];rfl)) ?_
   refine⟨a,g,W,p,z,ri,b,can W p (bs.drop (i+1)),rfl,tW (s12.trans s5),hO,hp,hri,s5 _ _ hgd,fun m H6 _ s6 hm=>?_⟩
   rw[int_list]at hm
   have hmem:∀x∈dB W p ri b (can W p (bs.drop (i+1))),x<2 ^ p:=fun x hx=>(dB_lt hx).1
   have hrise:=dB_rise (W:=W) (p:=p) (r:=ri) (b:=b) (S:=can W p (bs.drop (i+1)))
   have hdl:=dB_len (W:=W) (p:=p) (r:=ri) (b:=b) (S:=can W p (bs.drop (i+1)))
   have hsr:sr W p (b :: bs.drop (i+1)) ri=cb p (dB W p ri b (can W p (bs.drop (i+1))))++if(dB W p ri b (can W p (bs.drop (i+1)))).length > 1 then[]else sr W p (bs.drop (i+1)) (door W ri ((dB W p ri b (can W p (bs.drop (i+1)))).head?.getD 0)).2:=rfl
   obtain⟨hd0',hd1',hd2'⟩:=dB_lt (W:=W) (p:=p) (r:=ri) (i:=d) (b:=b) (S:=can W p (bs.drop (i+1))) (by rw[eds];simp)
   rw[hsr]at hfl
   have hcb:cb p (d :: ds)=cp (bz p d) (bz p ((d :: ds).getLast?.getD 0)):=rfl
   rw[eds]at hm hfl hdl
   obtain⟨dl,hdl'⟩:∃dl,(d :: ds).getLast?=some dl:=⟨_,List.getLast?_eq_getLast (by simp)⟩
   rw[hdl']at hcb
   walk_at "y"
   have hP6:=s6 _ _ hP5
   refine⟨tyL hP6 rfl,?_⟩
   walk_at "y"
   refine call_e hC ?_
   walk_at "y"
   refine call_e hBB ?_
   walk_at "y"
   refine at_ixL (SqL.of hm) (v:=nV d) (atI0 (x:=nV d) (r:=ds.map nV)) ?_
   simp only[nV]
   walk_at "y"
   refine⟨d,p,rfl,by omega,fun H7 s7=>?_⟩
   walk_at "y"
   refine call_e hBB ?_
   walk_at "y"
   refine at_ixL (SqL.of (s7 _ _ hm)) (v:=nV dl) (last_at hdl') ?_
   simp only[nV]
   walk_at "y"
   refine⟨dl,p,rfl,by omega,fun H8 s8=>?_⟩
   walk_at "y"
   refine⟨_,_,rfl,by rw[bz_len,bz_len],by rw[bz_len];omega,?_⟩
   have hP8:=(s7.trans s8) _ _ hP6
   refine at_app (K:=C.K) hP8 (by rw[List.length_map];exact small1000 (by omega)) ?_
   have eap:(ps.map tV)++[.str (tx (cp (bz p d) (bz p dl)))]=(ps++[cp (bz p d) (bz p dl)]).map tV:=by rw[List.map_append];rfl
   rw[eap]
   have s9:Same H2 (upd H8 P (.lst ((ps++[cp (bz p d) (bz p dl)]).map tV))):=same_updF (s5.trans (s6.trans (s7.trans s8))) hPH
   have hP9:=upd_same (H:=H8) (a:=P) (o:=.lst ((ps++[cp (bz p d) (bz p dl)]).map tV))
   have hmP:m≠P:=fun z=>by
    have:=(s7.trans s8) _ _ hm
    rw[z,hP8]at this
    have e:=congrArg (fun o:Option HO=>match o with|some (.lst (x :: _))=>(match x with | .int _=>true|_=>false)|_=>true) this
    cases ps with
    |nil=>simp at this
    |cons x ps=>simp[tV,nV]at this
   have hm9:upd H8 P (.lst ((ps++[cp (bz p d) (bz p dl)]).map tV)) m=some (.lst ((d :: ds).map nV)):=by rw[upd_ne hmP];exact(s7.trans s8) _ _ hm
   generalize upd H8 P (.lst ((ps++[cp (bz p d) (bz p dl)]).map tV))=H9 at s9 hP9 hm9 ⊢
   walk_at "y"
   refine at_lenL (SqL.of hm9) ?_
   rw[List.length_map]
   walk_at "y"
   refine by_dec (fun hc=>?_) fun hc=>?_
   .walk_at "y"
    refine fin H9 _ _ _ _ _ s9 hP9 ?_
    rw[<- hfl,if_pos (by have:(1:Int)<((d :: ds).length:Nat):=hc;omega),List.append_nil,List.flatten_append,hcb]
    simp
   .obtain⟨vs,q',dsv,e1,e2,e3,e4,e5,e6⟩:=room_at (tW (s12.trans s9)) hO hri
    obtain⟨v',ev,hv',hlt',_⟩:=e6 d (dsv[d]'(by rw[e5];exact hd0')) (List.getElem?_eq_getElem _)
    walk_at "y"
    refine at_ixT (SqT.of e1) e3 ?_
    walk_at "y"
    refine at_ixL (SqL.of hm9) (v:=nV d) (atI0 (x:=nV d) (r:=ds.map nV)) ?_
    simp only[nV]
    refine at_ixT (SqT.of e4) (v:=.ref v') (atI_nat (by rw[List.getElem?_eq_getElem (by rw[e5];exact hd0'),ev])) ?_
    walk_at "y"
    refine at_ixT (SqT.of hv') (v:=.int ((door W ri d).2:Nat)) rfl ?_
    walk_at "y"
    refine⟨(door W ri d).2,ps++[cp (bz p d) (bz p dl)],_,_,_,rfl,by omega,s9,hP9,by simp[hpl],hlt',hd2',?_⟩
    rw[<- hfl,if_neg (by have:¬(1:Int)<((d :: ds).length:Nat):=hc;omega),List.flatten_append,hcb]
    simp
  .rintro σ H4 ⟨ri,ps,x9,x10,x11,rfl,_,s4,hP4,hpl,hri,hci,hfl⟩
   rw[List.length_map,List.drop_length]at hfl
   exact fin H4 ps _ _ _ _ s4 hP4 (by simpa[sr]using hfl)
def Blk (z:Nat) (bs:List (List Bool)):Prop:=∀b∈bs,b.length=z
theorem blk_take {z:Nat} {b:List Bool} {bs:List (List Bool)} (h:b.length=z):((b :: bs).flatten).take z=b/\((b :: bs).flatten).drop z=bs.flatten:=by
 subst h
 rw[List.flatten_cons]
 simp
theorem blk_len {z:Nat}:∀{bs:List (List Bool)},Blk z bs->bs.flatten.length=bs.length*z
 | [],_=>by simp
 |b :: bs,h=>by
  rw[List.flatten_cons,List.length_append,h b (by simp),blk_len (fun c hc=>h c (by simp[hc])),List.length_cons,Nat.succ_mul]
  omega
def spCan (n:Nat):Sp:=fun vs H Q _=>∃(a:Addr) (W:List (List Dr)) (p z:Nat) (bs:List (List Bool)),vs=[.ref a,.int z,.str (tx bs.flatten)]/\IsW H a W/\OkWz p z W/\p<=4/\1<=z/\z<=8/\W.length<=24/\Blk z bs/\bs.length<=n/\n<=20/\∀l H',H l=none->Same H H'->H' l=some (.lst (((List.range W.length).filter (can W p bs)).map nV))->Q (.ref l) H'
theorem rng_nV {n:Nat}:L2.rgs 0 n=(List.range n).map nV:=by
 unfold L2.rgs
 apply List.map_congr_left
 intro k _
 show V.int (0+(k:Int))=V.int k
 rw[Int.zero_add]
theorem eqV_nV {x y:Nat}:eqV (nV x) (nV y)=decide (x=y):=by
 show((x:Int) == y)=decide (x=y)
 by_cases h:x=y
 .subst h;simp
 .rw[decide_eq_false h,beq_eq_false_iff_ne]
  omega
theorem inV_nV {x:Nat}:∀{bs:List Nat},inV (nV x) (bs.map nV)=decide (x∈bs)
 | []=>rfl
 |b :: bs=>by
  have ih:=inV_nV (x:=x) (bs:=bs)
  unfold inV at ih ⊢
  rw[List.map_cons,List.any_cons,ih,eqV_nV]
  by_cases h:b=x
  .subst h;simp
  .have h':¬x=b:=fun z=>h z.symm
   simp[h,h']
theorem flat_nV {bs:List Nat}:(bs.map nV).all flatV=true:=by
 rw[List.all_eq_true]
 intro v hv
 obtain⟨b,_,rfl⟩:=List.mem_map.mp hv
 rfl
theorem any_bl {α:Type} {f:α->Bool} {l:List α}:((l.map fun x=>f x).any id)=l.any f:=by rw[List.any_map];rfl
theorem tx_dec {x y:List Bool}:decide (tx x=tx y)=decide (x=y):=by
 by_cases h:x=y
 .rw[h];simp
 .rw[decide_eq_false h,decide_eq_false fun z=>h (tx_inj z)]
theorem flt_any {α:Type} {f:α->Bool}:∀{l:List α},(!(l.filter f).isEmpty)=l.any f
 | []=>rfl
 |x :: l=>by
  rw[List.any_cons,<- flt_any (l:=l)]
  cases h:f x with
  |true=>rw[List.filter_cons_of_pos h];rfl
  |false=>rw[List.filter_cons_of_neg (by rw[h];decide)];rfl
theorem dB_any {W:List (List Dr)} {p r:Nat} {b:List Bool} {S:Nat->Bool}:(!(dB W p r b S).isEmpty)=(List.range (2 ^ p)).any fun i=>decide ((door W r i).1=b)&&S (door W r i).2:=flt_any
theorem in_can {W:List (List Dr)} {p x:Nat} {bs:List (List Bool)} (hx:x<W.length):decide (x∈(List.range W.length).filter (can W p bs))=can W p bs x:=by
 cases h:can W p bs x with
 |true=>exact decide_eq_true (List.mem_filter.mpr ⟨List.mem_range.mpr hx,h⟩)
 |false=>exact decide_eq_false fun z=>by rw[(List.mem_filter.mp z).2]at h;cases h
theorem body_can {C:Rc} {n:Nat} (hN:C.N.length=8) (hS:∀m,n=m+1->C.fs "_law_can"=some (spCan m)):∀vs H Q E,spCan n vs H Q E->tSs C c_can { nx:=fun _ H'=>Q .non H',rt:=Q } (L2.start C.N vs) H:=by
 intro vs H Q E h
 obtain⟨a,W,p,z,bs,rfl,hW,hO,hp,hz1,hz8,hW24,hB,hbn,hn20,q⟩:=h
 rw[start_eq hN]
 unfold c_can
 have h16:=two4 hp
 have hbl:=blk_len hB
 obtain⟨wv,hwv,hwr⟩:=id hW
 have hwl:wv.length=W.length:=hwr.len
 have tW:∀{H':Hp},Same H H'->IsW H' a W:=fun s=>hW.mono (same_tp s)
 cases bs with
 |nil=>
  rw[List.flatten_nil]
  walk_at "y"
  refine at_lenT (SqT.of hwv) ?_
  rw[hwl]
  walk_at "y"
  refine at_range1 fun pr hpr=>?_
  walk_at "y"
  refine at_listR upd_same (by omega) (by omega) (by omega) (by omega) (Nat.le_of_lt (small1000 (by omega))) fun R hR=>?_
  rw[show((W.length:Int)-0).toNat=W.length by omega,rng_nV]
  have hall:(List.range W.length).filter (can W p [])=List.range W.length:=List.filter_eq_self.mpr fun _ _=>rfl
  refine q R _ ((same_new hpr _).free hR) ((same_new hpr _).trans (same_new hR _)) ?_
  rw[hall]
  exact upd_same
 |cons b bs=>
  obtain⟨m,rfl⟩:∃m,n=m+1:=⟨n-1,by rw[List.length_cons]at hbn;omega⟩
  have hbz:b.length=z:=hB b (by simp)
  have hB':Blk z bs:=fun c hc=>hB c (by simp[hc])
  obtain⟨et,ed⟩:=blk_take (bs:=bs) hbz
  have hlen20:((b :: bs).flatten).length<=200:=by
   rw[hbl]
   have:(b :: bs).length*z<=20*8:=Nat.mul_le_mul (by omega) hz8
   omega
  have hne:(b :: bs).flatten≠[]:=fun e=>by
   have:=congrArg List.length e
   rw[hbl,List.length_cons,Nat.succ_mul]at this
   simp at this
   omega
  generalize hfl:(b :: bs).flatten=l at *
  walk_at "y"
  rw[tx_dec,decide_eq_false hne]
  walk_at "y"
  refine call_e (hS m rfl) ?_
  walk_at "y"
  refine sl_from (small16 (by omega)) ?_
  rw[ed]
  refine⟨a,W,p,z,bs,rfl,hW,hO,hp,hz1,hz8,hW24,hB',by rw[List.length_cons]at hbn;omega,by omega,fun L H1 _ s1 hL=>?_⟩
  walk_at "y"
  refine⟨by decide,fun F hF=>?_⟩
  have hFH:H F=none:=s1.free hF
  have s2:=s1.trans (same_new hF (.lst []))
  have hF2:upd H1 F (.lst []) F=some (.lst []):=upd_same
  have hL2:=same_new hF (.lst []) _ _ hL
  generalize upd H1 F (.lst [])=H2 at s2 hF2 hL2 ⊢
  have hLF:L≠F:=fun z=>by rw[z,hF]at hL;cases hL
  walk_at "y"
  refine at_enT (SqT.of (s2 _ _ hwv)) (for_et (fun i σ H'=>(∃x5 x6,σ=[some (.ref a),some (.int z),some (.str (tx l)),some (.ref L),some (.ref F),x5,x6,none])/\i<=W.length/\Same H H'/\H' L=some (.lst (((List.range W.length).filter (can W p bs)).map nV))/\H' F=some (.lst (((List.range i).filter (can W p (b :: bs))).map nV))) ⟨⟨_,_,rfl⟩,Nat.zero_le _,s2,hL2,hF2⟩ (fun i σ H' _ pv=>SqT.of (pv.2.2.1 _ _ hwv)) ?_ ?_)
  .rintro i v σ H3 pp hv hpp ⟨⟨x5,x6,rfl⟩,_,s3,hL3,hF3⟩
   have hi:i<W.length:=by rw[<- hwl];exact lt_of_get hv
   obtain⟨vs,q',dsv,e1,e2,e3,e4,e5,e6⟩:=room_at (tW s3) hO hi
   have ev:v=.ref q':=by
    rw[s3 _ _ hwv]at e1
    cases e1
    exact Option.some.inj ((atI_nat hv).symm.trans e3)
   subst ev
   refine g_tup2 (SqT.of upd_same) ?_
   have s4:=s3.trans (same_new hpp (.tup [.int i,.ref q']))
   have hL4:=same_new hpp (.tup [.int i,.ref q']) _ _ hL3
   have hF4:=same_new hpp (.tup [.int i,.ref q']) _ _ hF3
   have e4':=same_new hpp (.tup [.int i,.ref q']) _ _ e4
   have e6':∀(j:Nat) x,dsv[j]?=some x->∃v,x=.ref v/\upd H3 pp (.tup [.int i,.ref q']) v=some (.tup [.str (tx (door W i j).1),.int (door W i j).2])/\(door W i j).2<W.length:=fun j x hx=>let⟨v,k1,k2,k3,_⟩:=e6 j x hx;⟨v,k1,same_new hpp _ _ _ k2,k3⟩
   generalize upd H3 pp (.tup [.int i,.ref q'])=H4 at s4 hL4 hF4 e4' e6' ⊢
   walk_at "y"
   refine at_iv_tup (SqT.of e4') (comp_t (vs:=dsv) (fun j ys H5=>j<=2 ^ p/\ys=((List.range j).map fun k=>decide ((door W i k).1=b)&&can W p bs (door W i k).2).map V.bl/\H5=H4) ⟨Nat.zero_le _,rfl,rfl⟩ (fun j ys H5 pv=>by rw[pv.2.2];exact SqT.of e4') ?_ ?_)
   .rintro j ys H5 x K hx ⟨_,rfl,rfl⟩ hK
    have hj:j<2 ^ p:=by rw[<- e5];exact lt_of_get hx
    obtain⟨v,rfl,hv',hlt⟩:=e6' j x hx
    have push:∀c,c=(decide ((door W i j).1=b)&&can W p bs (door W i j).2)->kPush (((List.range j).map fun k=>decide ((door W i k).1=b)&&can W p bs (door W i k).2).map V.bl) K (.bl c) H5:=by
     rintro c rfl
     refine⟨by rw[List.length_map,List.length_map,List.length_range];exact small1000 (by omega),hK _ _ ⟨hj,?_,rfl⟩⟩
     rw[List.range_succ,List.map_append,List.map_append]
     rfl
    walk_at "y"
    refine at_ixT (SqT.of hv') (v:=.str (tx (door W i j).1)) rfl ?_
    walk_at "y"
    refine sl_to (small16 (by omega)) ?_
    rw[et]
    walk_at "y"
    rw[tx_dec]
    cases hd:decide ((door W i j).1=b)with
    |false=>
     walk_at "y"
     exact push false (by rw[hd];rfl)
    |true=>
     walk_at "y"
     refine at_ixT (SqT.of hv') (v:=nV (door W i j).2) rfl ?_
     walk_at "y"
     refine⟨L,_,rfl,.inl (SqL.of hL4),rfl,flat_nV,?_⟩
     rw[if_neg Bool.false_ne_true,inV_nV,in_can hlt]
     exact push _ (by rw[hd];rfl)
   .rintro xs H5 ⟨_,rfl,rfl⟩ c hc
    rw[e5]
    have s5:=s4.trans (same_new hc (.lst (((List.range (2 ^ p)).map fun k=>decide ((door W i k).1=b)&&can W p bs (door W i k).2).map V.bl)))
    have hL5:=same_new hc (.lst (((List.range (2 ^ p)).map fun k=>decide ((door W i k).1=b)&&can W p bs (door W i k).2).map V.bl)) _ _ hL4
    have hF5:=same_new hc (.lst (((List.range (2 ^ p)).map fun k=>decide ((door W i k).1=b)&&can W p bs (door W i k).2).map V.bl)) _ _ hF4
    have hc5:upd H5 c (.lst (((List.range (2 ^ p)).map fun k=>decide ((door W i k).1=b)&&can W p bs (door W i k).2).map V.bl)) c=_:=upd_same
    generalize upd H5 c (.lst (((List.range (2 ^ p)).map fun k=>decide ((door W i k).1=b)&&can W p bs (door W i k).2).map V.bl))=H6 at s5 hL5 hF5 hc5 ⊢
    walk_at "y"
    refine at_any (SqL.of hc5) ?_
    rw[show(((List.range (2 ^ p)).map fun k=>decide ((door W i k).1=b)&&can W p bs (door W i k).2).any id)=can W p (b :: bs) i from any_bl.trans dB_any.symm]
    have hfl2:((List.range i).filter (can W p (b :: bs))).length<=24:=Nat.le_trans (List.length_filter_le _ _) (by rw[List.length_range];omega)
    cases hcn:can W p (b :: bs) i with
    |true=>
     walk_at "y"
     refine⟨tyL hF5 rfl,at_app hF5 (by rw[List.length_map];exact small1000 (by omega)) ?_⟩
     walk_at "y"
     refine⟨⟨_,_,rfl⟩,hi,same_updF s5 hFH,?_,?_⟩
     .rw[upd_ne hLF];exact hL5
     .rw[upd_same,filter_succ,if_pos hcn,List.map_append];rfl
    |false=>
     walk_at "y"
     refine⟨⟨_,_,rfl⟩,hi,s5,hL5,?_⟩
     rw[hF5,filter_succ,if_neg (by rw[hcn];exact Bool.false_ne_true),List.append_nil]
  .rintro σ H3 ⟨⟨x5,x6,rfl⟩,_,s3,hL3,hF3⟩
   rw[hwl]at hF3
   walk_at "y"
   exact q F H3 hFH s3 hF3
def NxV (H:Hp) (W:List (List Dr)) (r:Nat) (kv:Key×V) (i:Nat):Prop:=∃e,kv=(Key.inl (i:Int),V.ref e)/\H e=some (.lst [nV (door W r i).2])
theorem NxV.mono {H H':Hp} {W:List (List Dr)} {r:Nat} (s:Same H H') {kv:Key×V} {i:Nat} (h:NxV H W r kv i):NxV H' W r kv i:=let⟨e,h1,h2⟩:=h;⟨e,h1,s _ _ h2⟩
theorem nx_no {H:Hp} {W:List (List Dr)} {r n:Nat}:∀{kvs:List (Key×V)} {is:List Nat},All2 (NxV H W r) kvs is->(∀i∈is,i<n)->valV kvs (Key.inl (n:Int))=none
 | [],[],_,_=>rfl
 |kv :: kvs,i :: is,⟨⟨e,h1,_⟩,h⟩,hi=>by
  have h0:=hi i (by simp)
  subst h1
  have hne:¬Key.inl (i:Int)=Key.inl (n:Int):=fun z=>by injection z with z;omega
  unfold valV
  have ih:=nx_no h fun j hj=>hi j (by simp[hj])
  unfold valV at ih
  rw[List.find?_cons_of_neg (by simpa using hne)]
  exact ih
theorem NxV.upd {H:Hp} {W:List (List Dr)} {r:Nat} {g:Addr} {k0:List (Key×V)} {o:HO} (hg:H g=some (.dK k0)) {kv:Key×V} {i:Nat} (h:NxV H W r kv i):NxV (upd H g o) W r kv i:=let⟨e,h1,h2⟩:=h;⟨e,h1,by
 rw[upd_ne (fun z=>by rw[z,hg]at h2;cases h2)];exact h2⟩
def spNext:Sp:=fun vs H Q _=>∃(a rl:Addr) (W:List (List Dr)) (p z r:Nat) (b:List Bool) (bs:List (List Bool)),vs=[.ref a,.int z,.ref rl,.str (tx (b :: bs).flatten)]/\IsW H a W/\OkWz p z W/\p<=4/\1<=z/\z<=8/\W.length<=24/\Blk z (b :: bs)/\bs.length<=12/\r<W.length/\H rl=some (.lst [nV r])/\∀g kvs H',Same H H'->H' g=some (.dK kvs)->All2 (NxV H' W r) kvs (dB W p r b (can W p bs))->Q (.ref g) H'
theorem one_of {us:List Int} {x:Int} (h:us.Pairwise (· < ·)) (hm:∀i,i∈us↔i∈[x]):us=[x]:=by
 match us,h,hm with
 | [],_,hm=>exact absurd ((hm x).mpr (by simp)) List.not_mem_nil
 | [y],_,hm=>rw[List.mem_singleton.mp ((hm y).mp (by simp))]
 |y :: w :: us,h,hm=>
  have h1:=List.mem_singleton.mp ((hm y).mp (by simp))
  have h2:=List.mem_singleton.mp ((hm w).mp (by simp))
  have:=(List.pairwise_cons.mp h).1 w (by simp)
  omega
theorem body_next {C:Rc} (hN:C.N.length=9) (hC:C.fs "_law_can"=some (spCan 12)):∀vs H Q E,spNext vs H Q E->tSs C c_next { nx:=fun _ H'=>Q .non H',rt:=Q } (L2.start C.N vs) H:=by
 intro vs H Q E h
 obtain⟨a,rl,W,p,z,r,b,bs,rfl,hW,hO,hp,hz1,hz8,hW24,hB,hbn,hr,hrl,q⟩:=h
 rw[start_eq hN]
 unfold c_next
 have h16:=two4 hp
 have hbz:b.length=z:=hB b (by simp)
 have hB':Blk z bs:=fun c hc=>hB c (by simp[hc])
 obtain⟨et,ed⟩:=blk_take (bs:=bs) hbz
 have hbl:=blk_len hB
 have hlen20:((b :: bs).flatten).length<=200:=by
  rw[hbl]
  have:(b :: bs).length*z<=20*8:=Nat.mul_le_mul (by rw[List.length_cons];omega) hz8
  omega
 generalize hfl:(b :: bs).flatten=l at *
 have tW:∀{H':Hp},Same H H'->IsW H' a W:=fun s=>hW.mono (same_tp s)
 walk_at "y"
 refine call_e hC ?_
 walk_at "y"
 refine sl_from (small16 (by omega)) ?_
 rw[ed]
 refine⟨a,W,p,z,bs,rfl,hW,hO,hp,hz1,hz8,hW24,hB',by omega,by omega,fun L H1 _ s1 hL=>?_⟩
 walk_at "y"
 intro g hg
 have hgH:H g=none:=s1.free hg
 have s2:=s1.trans (same_new hg (.dK []))
 have hg2:upd H1 g (.dK []) g=some (.dK []):=upd_same
 have hL2:=same_new hg (.dK []) _ _ hL
 have hLg:L≠g:=fun z=>by rw[z,hg]at hL;cases hL
 generalize upd H1 g (.dK [])=H2 at s2 hg2 hL2 ⊢
 walk_at "y"
 refine at_iv_lst (SqL.of (s2 _ _ hrl)) (for_l (fun i σ H'=>(∃x6 x7 x8,σ=[some (.ref a),some (.int z),some (.ref rl),some (.str (tx l)),some (.ref L),some (.ref g),x6,x7,x8])/\Same H H'/\H' L=some (.lst (((List.range W.length).filter (can W p bs)).map nV))/\∃kvs,H' g=some (.dK kvs)/\(i=0->kvs=[])/\(i=1->All2 (NxV H' W r) kvs (dB W p r b (can W p bs)))) ⟨⟨_,_,_,rfl⟩,s2,hL2,[],hg2,fun _=>rfl,fun z=>by cases z⟩ (fun i σ H' _ pv=>SqL.of (pv.2.1 _ _ hrl)) ?_ ?_)
 .rintro i v σ H3 hv ⟨⟨x6,x7,x8,rfl⟩,s3,hL3,kvs0,hg3,hk0,_⟩
  have hi0:i=0:=by have:=lt_of_get hv;simp at this;exact this
  subst hi0
  have ev:v=nV r:=by simpa using hv.symm
  subst ev
  have hk0:=hk0 rfl
  subst hk0
  obtain⟨vs,q',dsv,e1,e2,e3,e4,e5,e6⟩:=room_at (tW s3) hO hr
  simp only[nV]
  walk_at "y"
  refine at_ixT (SqT.of e1) e3 ?_
  have hgH3:=hg3
  refine at_enT (SqT.of e4) (for_et (xs:=dsv) (fun i σ H'=>(∃x7 x8,σ=[some (.ref a),some (.int z),some (.ref rl),some (.str (tx l)),some (.ref L),some (.ref g),some (.int r),x7,x8])/\i<=2 ^ p/\(∀x o,x≠g->H3 x=some o->H' x=some o)/\Same H H'/\∃kvs,H' g=some (.dK kvs)/\All2 (NxV H' W r) kvs ((List.range i).filter fun i=>decide ((door W r i).1=b)&&can W p bs (door W r i).2)) ⟨⟨_,_,rfl⟩,Nat.zero_le _,fun _ _ _ h=>h,s3,[],hg3,trivial⟩ (fun i σ H' _ pv=>SqT.of (pv.2.2.1 _ _ (fun z=>by rw[z,hg3]at e4;cases e4) e4)) ?_ ?_)
  .rintro i v σ H4 pp hv hpp ⟨⟨x7,x8,rfl⟩,_,keep,s4,kvs,hg4,hA⟩
   have hi:i<2 ^ p:=by rw[<- e5];exact lt_of_get hv
   obtain⟨dv,rfl,hdv,hlt,_⟩:=e6 i v hv
   have hdv4:=keep _ _ (fun z=>by rw[z,hg3]at hdv;cases hdv) hdv
   have hL4:=keep _ _ hLg hL3
   refine g_tup2 (SqT.of upd_same) ?_
   have n5:=same_new hpp (.tup [.int i,.ref dv])
   have s5:=s4.trans n5
   have keep5:∀x o,x≠g->H3 x=some o->upd H4 pp (.tup [.int i,.ref dv]) x=some o:=fun x o hx h=>n5 _ _ (keep x o hx h)
   have hg5:=n5 _ _ hg4
   have hA5:=hA.mono fun _ _=>NxV.mono n5
   have hdv5:=n5 _ _ hdv4
   have hL5:=n5 _ _ hL4
   generalize upd H4 pp (.tup [.int i,.ref dv])=H5 at s5 keep5 hg5 hA5 hdv5 hL5 ⊢
   have no:(decide ((door W r i).1=b)&&can W p bs (door W r i).2)=false->All2 (NxV H5 W r) kvs ((List.range (i+1)).filter fun i=>decide ((door W r i).1=b)&&can W p bs (door W r i).2):=fun h=>by
    rw[filter_succ,if_neg (by rw[h];exact Bool.false_ne_true),List.append_nil]
    exact hA5
   walk_at "y"
   refine at_ixT (SqT.of hdv5) (v:=.str (tx (door W r i).1)) rfl ?_
   walk_at "y"
   refine sl_to (small16 (by omega)) ?_
   rw[et]
   walk_at "y"
   rw[tx_dec]
   cases hd:decide ((door W r i).1=b)with
   |false=>
    walk_at "y"
    exact⟨⟨_,_,rfl⟩,hi,keep5,s5,kvs,hg5,no (by rw[hd];rfl)⟩
   |true=>
    walk_at "y"
    refine at_ixT (SqT.of hdv5) (v:=nV (door W r i).2) rfl ?_
    walk_at "y"
    refine⟨L,_,rfl,.inl (SqL.of hL5),rfl,flat_nV,?_⟩
    rw[if_neg Bool.false_ne_true,inV_nV,in_can hlt]
    cases hcn:can W p bs (door W r i).2 with
    |false=>
     walk_at "y"
     exact⟨⟨_,_,rfl⟩,hi,keep5,s5,kvs,hg5,no (by rw[hd,hcn];rfl)⟩
    |true=>
     walk_at "y"
     (try rw[tE_sst])
     walk_at "y"
     (try rw[tE_dg2])
     walk_at "y"
     refine at_getD1 (.inl ⟨_,.inl hg5⟩) ?_
     walk_at "y"
     refine⟨by decide,fun y1 hy1=>?_⟩
     have n6:=same_new hy1 (.lst [])
     have s6:=s5.trans n6
     have keep6:∀x o,x≠g->H3 x=some o->upd H5 y1 (.lst []) x=some o:=fun x o hx h=>n6 _ _ (keep5 x o hx h)
     have hg6:=n6 _ _ hg5
     have hA6:=hA5.mono fun _ _=>NxV.mono n6
     have hdv6:=n6 _ _ hdv5
     have hy6:upd H5 y1 (.lst []) y1=some (.lst []):=upd_same
     generalize upd H5 y1 (.lst [])=H6 at s6 keep6 hg6 hA6 hdv6 hy6 ⊢
     have hno:valV kvs (Key.inl (i:Int))=none:=nx_no hA6 fun j hj=>List.mem_range.mp (List.mem_filter.mp hj).1
     refine at_getD3 (DGet.k (k:=.inl (i:Int)) hg6) ?_
     rw[hno,Option.getD_none]
     walk_at "y"
     refine at_ixT (SqT.of hdv6) (v:=nV (door W r i).2) rfl ?_
     walk_at "y"
     refine⟨by decide,fun y2 hy2=>?_⟩
     have n7:=same_new hy2 (.lst [nV (door W r i).2])
     have s7:=s6.trans n7
     have keep7:∀x o,x≠g->H3 x=some o->upd H6 y2 (.lst [nV (door W r i).2]) x=some o:=fun x o hx h=>n7 _ _ (keep6 x o hx h)
     have hg7:=n7 _ _ hg6
     have hA7:=hA6.mono fun _ _=>NxV.mono n7
     have hy17:=n7 _ _ hy6
     have hy27:upd H6 y2 (.lst [nV (door W r i).2]) y2=some (.lst [nV (door W r i).2]):=upd_same
     generalize upd H6 y2 (.lst [nV (door W r i).2])=H7 at s7 keep7 hg7 hA7 hy17 hy27 ⊢
     refine at_cat hy17 hy27 (show 0+1<=sizeLine by decide) fun y3 hy3=>?_
     have n8:=same_new hy3 (.lst ([]++[nV (door W r i).2]))
     have s8:=s7.trans n8
     have keep8:∀x o,x≠g->H3 x=some o->upd H7 y3 (.lst ([]++[nV (door W r i).2])) x=some o:=fun x o hx h=>n8 _ _ (keep7 x o hx h)
     have hg8:=n8 _ _ hg7
     have hA8:=hA7.mono fun _ _=>NxV.mono n8
     have hy38:upd H7 y3 (.lst ([]++[nV (door W r i).2])) y3=some (.lst ([((door W r i).2:Int)].map V.int)):=upd_same
     generalize upd H7 y3 (.lst ([]++[nV (door W r i).2]))=H8 at s8 keep8 hg8 hA8 hy38 ⊢
     refine at_sst (SqL.of hy38) (show 1<=3999 by decide) ⟨[((door W r i).2:Int)],show 1<64 by decide,fun _ h=>h⟩ fun y4 us hy4 hup hmem=>?_
     have eus:=one_of hup hmem
     subst eus
     have n9:=same_new hy4 (.lst ([((door W r i).2:Int)].map V.int))
     have s9:=s8.trans n9
     have keep9:∀x o,x≠g->H3 x=some o->upd H8 y4 (.lst ([((door W r i).2:Int)].map V.int)) x=some o:=fun x o hx h=>n9 _ _ (keep8 x o hx h)
     have hg9:=n9 _ _ hg8
     have hA9:=hA8.mono fun _ _=>NxV.mono n9
     have hy49:upd H8 y4 (.lst ([((door W r i).2:Int)].map V.int)) y4=some (.lst [nV (door W r i).2]):=upd_same
     generalize upd H8 y4 (.lst ([((door W r i).2:Int)].map V.int))=H9 at s9 keep9 hg9 hA9 hy49 ⊢
     have hkl:kvs.length<=16:=by
      rw[hA9.len]
      refine Nat.le_trans (List.length_filter_le _ _) ?_
      rw[List.length_range]
      omega
     walk_at "y"
     refine at_dputK (k:=.inl (i:Int)) hg9 (small1000 (by omega)) ?_
     walk_at "y"
     refine⟨⟨_,_,rfl⟩,hi,fun x o hx h=>by rw[upd_ne hx];exact keep9 x o hx h,same_updF s9 hgH,_,upd_same,?_⟩
     rw[putK_new _ hno,filter_succ,if_pos (by rw[hd,hcn];rfl)]
     have hyg:y4≠g:=fun z=>by rw[z,hg9]at hy49;cases hy49
     exact(hA9.mono fun _ _=>NxV.upd hg9).snoc ⟨y4,rfl,by rw[upd_ne hyg];exact hy49⟩
  .rintro σ H4 ⟨⟨x7,x8,rfl⟩,_,keep,s4,kvs,hg4,hA⟩
   rw[e5]at hA
   exact⟨⟨_,_,_,rfl⟩,s4,keep _ _ hLg hL3,kvs,hg4,(fun z=>by cases z),fun _=>hA⟩
 .rintro σ H3 ⟨⟨x6,x7,x8,rfl⟩,s3,_,kvs,hg3,_,hA⟩
  walk_at "y"
  exact q g kvs H3 s3 hg3 (hA rfl)
def spAlike:Sp:=fun vs H Q _=>∃(l:Addr) (ds:List Nat) (p:Nat),vs=[.ref l,.int p]/\H l=some (.lst (ds.map nV))/\ds≠[]/\ds.Pairwise (· < ·)/\p<=4/\(∀d∈ds,d<2 ^ p)/\ds.length<=16/\∀H',Same H H'->Q (.str (tx (cb p ds))) H'
theorem body_alike {C:Rc} (hN:C.N.length=6) (hR:C.fs "_law_row_by"=some spRowByZ):∀vs H Q E,spAlike vs H Q E->tSs C c_alike { nx:=fun _ H'=>Q .non H',rt:=Q } (L2.start C.N vs) H:=by
 intro vs H Q E h
 obtain⟨l,ds,p,rfl,hl,hne,hup,hp,hlt,h16,q⟩:=h
 rw[start_eq hN]
 unfold c_alike
 obtain⟨d0,dr,rfl⟩:∃d0 dr,ds=d0 :: dr:=by
  cases ds with
  |nil=>exact absurd rfl hne
  |cons a b=>exact⟨a,b,rfl⟩
 obtain⟨dl,hdl⟩:∃dl,(d0 :: dr).getLast?=some dl:=⟨_,List.getLast?_eq_some_getLast (by simp)⟩
 generalize hds:d0 :: dr=ds at *
 have hd0:ds.head?=some d0:=by rw[<- hds];rfl
 have hcb:cb p ds=cp (bz p d0) (bz p dl):=by unfold cb;rw[hd0,hdl];rfl
 walk_at "y"
 refine at_iv_lst (SqL.of hl) (comp_l (vs:=ds.map nV) (fun i xs H'=>i<=ds.length/\xs=((ds.take i).map fun d=>tV (bz p d))/\Same H H') ⟨Nat.zero_le _,rfl,Same.refl _⟩ (fun i xs H' pv=>SqL.of (pv.2.2 _ _ hl)) ?_ ?_)
 .rintro i xs H1 x K hx ⟨_,rfl,s1⟩ hK
  rw[List.getElem?_map]at hx
  obtain⟨d,hd,rfl⟩:=Option.map_eq_some_iff.mp hx
  have hi:=lt_of_get hd
  simp only[nV]
  walk_at "y"
  refine call_e hR ?_
  walk_at "y"
  refine⟨_,p,rfl,by omega,by omega,fun H2 s2=>?_⟩
  refine⟨by rw[List.length_map,List.length_take];exact small1000 (by omega),hK _ _ ⟨hi,?_,s1.trans s2⟩⟩
  rw[List.take_succ,hd,List.map_append]
  rfl
 rintro xs H1 ⟨_,rfl,s1⟩ R hR1
 rw[List.length_map,List.take_length]
 have s2:=s1.trans (same_new hR1 (.lst (ds.map fun d=>tV (bz p d))))
 have hR2:upd H1 R (.lst (ds.map fun d=>tV (bz p d))) R=some (.lst (ds.map fun d=>tV (bz p d))):=upd_same
 generalize upd H1 R (.lst (ds.map fun d=>tV (bz p d)))=H2 at s2 hR2 ⊢
 have hat0:atI (ds.map fun d=>tV (bz p d)) 0=some (tV (bz p d0)):=by rw[<- hds];exact atI0
 walk_at "y"
 refine whl_by (fun k σ H'=>Same H H'/\H' R=some (.lst (ds.map fun d=>tV (bz p d)))/\∃m:Nat,σ=[some (.ref l),some (.int p),some (.ref R),none,some (.int m),none]/\m<=p/\(∀d∈ds,(bz p d0).take m=(bz p d).take m)/\k=p-m) _ ⟨s2,hR2,0,rfl,Nat.zero_le _,fun _ _=>by simp,rfl⟩ ?_
 rintro k σ H3 ⟨s3,hR3,m,rfl,hm,ht,rfl⟩
 have mdl:=List.mem_of_getLast? hdl
 have fin:∀{H4:Hp},Same H H4->H4 R=some (.lst (ds.map fun d=>tV (bz p d)))->(m=p\/∃d∈ds,(bz p d0)[m]?≠(bz p d)[m]?)->tSs C (.cons (.ret (.cut (.idx (.var 2) (.int 0)) .none (.some (.var 4)))) .nil) { nx:=fun _ H'=>Q .non H',rt:=Q } [some (.ref l),some (.int p),some (.ref R),none,some (.int (m:Int)),none] H4:=fun {H4} s4 hR4 hs=>by
  walk_at "y"
  refine at_ixL (SqL.of hR4) hat0 ?_
  simp only[tV]
  walk_at "y"
  refine sl_to (small16 (by rw[bz_len];omega)) ?_
  have e:(bz p d0).take m=cb p ds:=by
   rw[hcb]
   refine cp_take (by rw[bz_len,bz_len]) (ht dl mdl) (by rw[bz_len];exact hm) ?_
   rcases hs with hs|⟨d,hd,hs⟩
   .exact .inl (by rw[bz_len];exact hs)
   .right
    intro he
    refine hs ?_
    have h1:(bz p d0).take (m+1)=(bz p dl).take (m+1):=by rw[List.take_succ,List.take_succ,he,ht dl mdl]
    have h2:=mid_all hp hup hlt hd0 hdl h1 d hd
    have h3:=congrArg (fun x:List Bool=>x[m]?) h2
    simpa[List.getElem?_take]using h3
  rw[e]
  exact q _ s4
 walk_at "y"
 refine by_dec (fun hc=>?_) fun hc=>?_
 .have hmp:m<p:=by omega
  have hbm:∀d:Nat,(bz p d)[m]?=some ((bz p d)[m]'(by rw[bz_len];exact hmp)):=fun d=>List.getElem?_eq_getElem (by rw[bz_len];exact hmp)
  let f:Nat->Bool:=fun d=>decide ((bz p d)[m]?=(bz p d0)[m]?)
  walk_at "y"
  refine at_iv_lst (SqL.of hR3) (comp_l (vs:=ds.map fun d=>tV (bz p d)) (fun i xs H'=>i<=ds.length/\xs=((ds.take i).map f).map V.bl/\H'=H3) ⟨Nat.zero_le _,rfl,rfl⟩ (fun i xs H' pv=>by rw[pv.2.2];exact SqL.of hR3) ?_ ?_)
  .rintro i xs H4 x K hx ⟨_,rfl,rfl⟩ hK
   rw[List.getElem?_map]at hx
   obtain⟨d,hd,rfl⟩:=Option.map_eq_some_iff.mp hx
   have hi:=lt_of_get hd
   simp only[tV]
   walk_at "y"
   refine at_ixtx (small16 (by rw[bz_len];omega)) (atI_nat (hbm d)) ?_
   walk_at "y"
   refine at_ixL (SqL.of hR3) hat0 ?_
   simp only[tV]
   walk_at "y"
   refine at_ixtx (small16 (by rw[bz_len];omega)) (atI_nat (hbm d0)) ?_
   walk_at "y"
   refine⟨by rw[List.length_map,List.length_map,List.length_take];exact small1000 (by omega),hK _ _ ⟨hi,?_,rfl⟩⟩
   rw[List.take_succ,hd,List.map_append,List.map_append]
   congr 1
   show[_]=[V.bl (f d)]
   congr 2
   show decide _=decide ((bz p d)[m]?=(bz p d0)[m]?)
   rw[hbm d,hbm d0,tx_dec]
   simp
  .rintro xs H4 ⟨_,rfl,rfl⟩ c hc4
   rw[List.length_map,List.take_length]
   have n5:=same_new hc4 (.lst ((ds.map f).map V.bl))
   have s5:=s3.trans n5
   have hR5:=n5 _ _ hR3
   have hc5:upd H4 c (.lst ((ds.map f).map V.bl)) c=_:=upd_same
   generalize upd H4 c (.lst ((ds.map f).map V.bl))=H5 at s5 hR5 hc5 ⊢
   walk_at "y"
   refine at_all (SqL.of hc5) ?_
   cases ha:(ds.map f).all id with
   |true=>
    walk_at "y"
    refine kWhl_t ?_
    walk_at "y"
    refine⟨p-(m+1),by omega,s5,hR5,m+1,rfl,by omega,fun d hd=>?_,rfl⟩
    have h1:f d=true:=by
     have:=List.all_eq_true.mp ha (f d) (List.mem_map.mpr ⟨d,hd,rfl⟩)
     exact this
    have h2:(bz p d)[m]?=(bz p d0)[m]?:=of_decide_eq_true h1
    rw[List.take_succ,List.take_succ,ht d hd,h2]
   |false=>
    walk_at "y"
    refine kWhl_f ?_
    refine fin s5 hR5 (.inr ?_)
    obtain⟨x,hx,hxf⟩:=List.all_eq_false.mp ha
    obtain⟨d,hd,rfl⟩:=List.mem_map.mp hx
    refine⟨d,hd,fun z=>hxf ?_⟩
    exact decide_eq_true z.symm
 .walk_at "y"
  refine kWhl_f ?_
  exact fin s3 hR3 (.inl (by omega))
theorem bks_tk {z:Nat} {l:List Bool}:∀{n:Nat},(bks z l n).flatten=l.take (n*z)
 |0=>by simp[bks]
 |n+1=>by
  rw[bks_succ,List.flatten_append,bks_tk,Nat.succ_mul,List.take_add]
  simp
theorem bks_fl {z n:Nat} {l:List Bool} (h:l.length<=n*z):(bks z l n).flatten=l:=by rw[bks_tk,List.take_of_length_le h]
theorem bks_short {z n:Nat} {l:List Bool} (h:l.length<=n*z) (hm:l.length % z≠0):∃b∈bks z l n,b.length≠z:=by
 by_cases hh:∃b∈bks z l n,b.length≠z
 .exact hh
 .exfalso
  have hB:Blk z (bks z l n):=fun b hb=>Decidable.byContradiction fun hne=>hh ⟨b,hb,hne⟩
  have:=blk_len hB
  rw[bks_fl h,bks_len]at this
  rw[this,Nat.mul_mod_left]at hm
  exact hm rfl
theorem bks_full {z n:Nat} {l:List Bool} (h1:l.length<=n*z) (h2:n*z<l.length+z) (hm:l.length % z=0):l.length=n*z:=by
 have e:=Nat.div_add_mod l.length z
 rw[hm,Nat.add_zero]at e
 generalize l.length / z=k at e
 rw[Nat.mul_comm]at e
 rw[<- e]at h1 h2 ⊢
 rcases Nat.lt_trichotomy k n with h|h|h
 .have:=Nat.mul_le_mul_right z (show k+1<=n from h)
  rw[Nat.succ_mul]at this
  omega
 .rw[h]
 .have hz:0<z:=by
   rcases Nat.eq_zero_or_pos z with h0|h0
   .subst h0;omega
   .exact h0
  have:=Nat.mul_lt_mul_of_pos_right h hz
  omega
def spDue:Sp:=fun vs H Q _=>∃(a:Addr) (W:List (List Dr)) (p z r n:Nat) (l:List Bool),vs=[.ref a,.int p,.int z,.int r,.str (tx l)]/\IsW H a W/\OkWz p z W/\p<=4/\1<=z/\z<=8/\W.length<=24/\r<W.length/\l.length<=500/\l.length<=n*z/\n*z<l.length+z/\n<=12/\∀H',Same H H'->Q (IsSure W p (bks z l n) r) H'
theorem nx_keys {H:Hp} {W:List (List Dr)} {r:Nat}:∀{kvs:List (Key×V)} {is:List Nat},All2 (NxV H W r) kvs is->(kvs.map fun kv=>L2.kV kv.1)=is.map nV
 | [],[],_=>rfl
 |kv :: kvs,i :: is,⟨⟨e,h1,_⟩,h⟩=>by
  subst h1
  rw[List.map_cons,List.map_cons,nx_keys h]
  rfl
theorem body_due {C:Rc} (hN:C.N.length=8) (hC:C.fs "_law_can"=some (spCan 12)) (hX:C.fs "_law_next"=some spNext) (hA:C.fs "_law_alike"=some spAlike):∀vs H Q E,spDue vs H Q E->tSs C c_due { nx:=fun _ H'=>Q .non H',rt:=Q } (L2.start C.N vs) H:=by
 intro vs H Q E h
 obtain⟨a,W,p,z,r,n,l,rfl,hW,hO,hp,hz1,hz8,hW24,hr,hl5,hl1,hl2,hn,q⟩:=h
 rw[start_eq hN]
 unfold c_due
 have h16:=two4 hp
 walk_at "y"
 refine⟨small16 (by omega),?_⟩
 walk_at "y"
 refine⟨by omega,?_⟩
 walk_at "y"
 by_cases hm:l.length % z=0
 .have hmi:(l.length:Int) % (z:Int)=0:=by omega
  have hlen:=bks_full hl1 hl2 hm
  have hfl:=bks_fl hl1
  have hB:Blk z (bks z l n):=bks_all hlen
  have hbl:=bks_len (m:=z) (l:=l) (n:=n)
  generalize bks z l n=bs at *
  rw[hmi]
  walk_at "y"
  refine call_e hC ?_
  walk_at "y"
  refine⟨a,W,p,z,bs,by rw[hfl],hW,hO,hp,hz1,hz8,hW24,hB,by omega,by omega,fun L H1 _ s1 hL=>?_⟩
  walk_at "y"
  refine⟨L,_,rfl,.inl (SqL.of hL),rfl,flat_nV,?_⟩
  rw[if_pos rfl,show V.int (r:Int)=nV r from rfl,inV_nV,in_can hr]
  cases hcan:can W p bs r with
  |false=>
   walk_at "y"
   have q':=q H1 s1
   unfold IsSure at q'
   rw[hcan]at q'
   exact q'
  |true=>
   walk_at "y"
   refine⟨by decide,fun R hR=>?_⟩
   have s2:=s1.trans (same_new hR (.lst [nV r]))
   have hR2:upd H1 R (.lst [nV r]) R=some (.lst [nV r]):=upd_same
   generalize upd H1 R (.lst [nV r])=H2 at s2 hR2 ⊢
   have tW:∀{H':Hp},Same H H'->IsW H' a W:=fun s=>hW.mono (same_tp s)
   have done:∀(H4:Hp) (t:List Bool),Same H H4->t=sr W p bs r->Q (.str (tx t)) H4:=fun H4 t s4 e=>by
    have q':=q H4 s4
    unfold IsSure at q'
    rw[hcan,if_pos rfl,<- e]at q'
    exact q'
   walk_at "y"
   refine whl_by (fun k σ H'=>Same H H'/\∃(i ri:Nat) (t:List Bool) (R:Addr) (x7:Option V),σ=[some (.ref a),some (.int p),some (.int z),some (.int r),some (.str (tx (bs.drop i).flatten)),some (.str (tx t)),some (.ref R),x7]/\i<=bs.length/\ri<W.length/\H' R=some (.lst [nV ri])/\can W p (bs.drop i) ri=true/\t++sr W p (bs.drop i) ri=sr W p bs r/\t.length<=4*i/\k=bs.length-i) _ ⟨s2,0,r,[],R,_,by rw[List.drop_zero,hfl];rfl,Nat.zero_le _,hr,hR2,by rw[List.drop_zero];exact hcan,by rw[List.drop_zero];rfl,Nat.zero_le _,rfl⟩ ?_
   rintro k σ H3 ⟨s3,i,ri,t,R3,x7,rfl,hi,hri,hR3,hci,hfi,htl,rfl⟩
   cases hdr:bs.drop i with
   |nil=>
    rw[hdr]at hfi
    rw[List.flatten_nil]
    walk_at "y"
    refine kWhl_f ?_
    walk_at "y"
    refine done _ _ s3 ?_
    rw[<- hfi]
    show t=t++[]
    rw[List.append_nil]
   |cons b cs=>
    have hil:i<bs.length:=by
     rcases Nat.lt_or_ge i bs.length with h|h
     .exact h
     .rw[List.drop_of_length_le h]at hdr;cases hdr
    have hcs:bs.drop (i+1)=cs:=by
     rw[List.drop_eq_getElem_cons hil]at hdr
     exact(List.cons.inj hdr).2
    rw[hdr]at hci hfi
    have hB2:Blk z (b :: cs):=fun c hc=>hB c (List.mem_of_mem_drop (by rw[hdr];exact hc))
    have hne:(b :: cs).flatten≠[]:=fun e=>by
     have h1:=blk_len hB2
     rw[e,List.length_cons,Nat.succ_mul]at h1
     simp at h1
     omega
    have hbl2:=blk_len hB2
    have hcl:cs.length<=12:=by
     rw[<- hcs,List.length_drop]
     omega
    obtain⟨et,ed⟩:=blk_take (bs:=cs) (hB2 b (by simp))
    have hlen20:((b :: cs).flatten).length<=200:=by
     rw[hbl2]
     have:(b :: cs).length*z<=20*8:=Nat.mul_le_mul (by rw[List.length_cons];omega) hz8
     omega
    have hfl3:∃l3,(b :: cs).flatten=l3:=⟨_,rfl⟩
    walk_at "y"
    rw[decide_eq_false hne]
    refine kWhl_t ?_
    walk_at "y"
    refine call_e hX ?_
    walk_at "y"
    refine⟨a,R3,W,p,z,ri,b,cs,rfl,tW s3,hO,hp,hz1,hz8,hW24,hB2,hcl,hri,hR3,fun g kvs H4 s4 hg hA4=>?_⟩
    have s5:=s3.trans s4
    obtain⟨d,ds,eds⟩:=can_cons hci
    have hk:=nx_keys hA4
    have hrise:=dB_rise (W:=W) (p:=p) (r:=ri) (b:=b) (S:=can W p cs)
    have hdlen:=dB_len (W:=W) (p:=p) (r:=ri) (b:=b) (S:=can W p cs)
    have hmem:∀x∈dB W p ri b (can W p cs),x<2 ^ p:=fun x hx=>(dB_lt hx).1
    have hkl:=hA4.len
    have hfi:t++(cb p (dB W p ri b (can W p cs))++if(dB W p ri b (can W p cs)).length > 1 then[]else sr W p cs (door W ri ((dB W p ri b (can W p cs)).head?.getD 0)).2)=sr W p bs r:=hfi
    have hcb:=cb_len (p:=p) (ds:=dB W p ri b (can W p cs))
    have hdin:=dB_lt (W:=W) (p:=p) (r:=ri) (b:=b) (S:=can W p cs) (i:=d) (by rw[eds];simp)
    generalize dB W p ri b (can W p cs)=D at *
    walk_at "y"
    refine call_e hA ?_
    walk_at "y"
    refine at_listD hg fun y hy=>?_
    rw[hk]
    have n6:=same_new hy (.lst (D.map nV))
    have s6:=s5.trans n6
    have hg6:=n6 _ _ hg
    have hA6:=hA4.mono fun _ _=>NxV.mono n6
    have hy6:upd H4 y (.lst (D.map nV)) y=some (.lst (D.map nV)):=upd_same
    generalize upd H4 y (.lst (D.map nV))=H6 at s6 hg6 hA6 hy6 ⊢
    walk_at "y"
    refine⟨y,D,p,rfl,hy6,by rw[eds];simp,hrise,hp,hmem,by omega,fun H7 s67=>?_⟩
    have s7:=s6.trans s67
    have hg7:=s67 _ _ hg6
    have hA7:=hA6.mono fun _ _=>NxV.mono s67
    walk_at "y"
    refine⟨small16 (by omega),?_⟩
    walk_at "y"
    refine sl_from (small16 (by omega)) ?_
    rw[ed]
    walk_at "y"
    refine at_lenD hg7 ?_
    rw[hkl]
    walk_at "y"
    refine by_dec (fun hc=>?_) fun hc=>?_
    .walk_at "y"
     refine done _ _ s7 ?_
     rw[if_pos (by omega),List.append_nil]at hfi
     exact hfi
    .rw[if_neg (by omega)]at hfi
     have hD1:D=[d]:=by
      rw[eds]at hc ⊢
      cases ds with
      |nil=>rfl
      |cons x ds=>exact absurd (show(1:Int)<((d :: x :: ds).length:Nat) by rw[List.length_cons,List.length_cons];omega) hc
     subst hD1
     obtain⟨kv,hkv,e,rfl,he⟩:=hA7.get (i:=0) (b:=d) rfl
     walk_at "y"
     refine⟨.inr (.inr (.inl ⟨rfl,.inl ⟨_,hg7⟩⟩)),at_values hg7 fun v hv=>?_⟩
     have n8:=same_new hv (VwO v g)
     have s8:=s7.trans n8
     have hg8:=n8 _ _ hg7
     have he8:=n8 _ _ he
     have hv8:upd H7 v (VwO v g) v=some (VwO v g):=upd_same
     generalize upd H7 v (VwO v g)=H8 at s8 hg8 he8 hv8 ⊢
     walk_at "y"
     refine at_listV hv8 hg8 fun w hw=>?_
     have n9:=same_new hw (.lst (kvs.map (·.2)))
     have s9:=s8.trans n9
     have he9:=n9 _ _ he8
     have hw9:upd H8 w (.lst (kvs.map (·.2))) w=some (.lst (kvs.map (·.2))):=upd_same
     generalize upd H8 w (.lst (kvs.map (·.2)))=H9 at s9 he9 hw9 ⊢
     walk_at "y"
     refine at_ixL (SqL.of hw9) (v:=.ref e) (atI_nat (j:=0) (by rw[List.getElem?_map,hkv];rfl)) ?_
     walk_at "y"
     refine⟨bs.length-(i+1),by omega,s9,i+1,(door W ri d).2,t++cb p [d],e,_,by rw[hcs],hil,(door_z hO hri hdin.1).2,he9,?_,?_,?_,rfl⟩
     .rw[hcs];exact hdin.2.2
     .rw[hcs,List.append_assoc];exact hfi
     .rw[List.length_append];omega
 .have hmi:¬(l.length:Int) % (z:Int)=0:=by omega
  have hcan:can W p (bks z l n) r=false:=can_short hO hr (bks_short hl1 hm)
  rw[show(!decide ((l.length:Int) % (z:Int)=0))=true by rw[decide_eq_false hmi];rfl]
  walk_at "y"
  have q':=q H (Same.refl _)
  unfold IsSure at q'
  rw[hcan]at q'
  exact q'
theorem wl_len {p z:Nat} {W:List (List Dr)} (hW:OkWz p z W):∀{bs:List (List Bool)} {r:Nat},r<W.length->(∀b∈bs,b.length=p)->(wl W r bs).1.flatten.length=bs.length*z
 | [],r,hr,_=>by simp[wl]
 |b :: bs,r,hr,hb=>by
  have hi:num b<2 ^ p:=by have:=@num_lt b;rwa [hb b List.mem_cons_self]at this
  obtain⟨h3,h4⟩:=door_z hW hr hi
  have ih:=wl_len hW (bs:=bs) h4 fun x hx=>hb x (List.mem_cons_of_mem _ hx)
  show(_ :: _:List (List Bool)).flatten.length=_
  rw[List.flatten_cons,List.length_append,ih,h3,List.length_cons,Nat.add_mul,Nat.one_mul,Nat.add_comm]
theorem at_flip10 {K:W.Frag} {H:Hp} {Q:VK} {c:Bool} (q:Q (.str (tx [!c])) H):rIxM K (.str (tx [true,false])) (.int (if c then 1 else 0)) H Q:=by
 cases c
 .exact at_ixtx (by decide) rfl q
 .exact at_ixtx (by decide) rfl q
theorem many_of {p:Nat} (h1:1<=p) (h4:p<=4):∃v:Nat,atI [V.int 0,.int 13,.int 9,.int 6,.int 5] (p:Int)=some (.int v)/\0<v/\v<=13/\∀k,k<v->p*k<=16:=by
 match p,h1,h4 with
 |1,_,_=>exact⟨13,rfl,by omega,by omega,fun k hk=>by omega⟩
 |2,_,_=>exact⟨9,rfl,by omega,by omega,fun k hk=>by omega⟩
 |3,_,_=>exact⟨6,rfl,by omega,by omega,fun k hk=>by omega⟩
 |4,_,_=>exact⟨5,rfl,by omega,by omega,fun k hk=>by omega⟩
def spSome:Sp:=fun vs H Q _=>∃(b a:Addr) (n:Nat) (W:List (List Dr)) (p z r:Nat),vs=[.ref b,.int p,.int z,.ref a,.int r]/\H b=some (BoxO b n)/\n<=2 ^ 38/\IsW H a W/\OkWz p z W/\1<=p/\p<=4/\1<=z/\z<=8/\r<W.length/\∀(l:List Bool) (k:Nat) H',Go 200 H H'->l.length<=k*z->p*k<=16->k<=12->Q (.str (tx l)) H'
theorem body_some {C:Rc} (hN:C.N.length=9) (hT:C.fs "_law_take"=some spTake) (hB:C.fs "_law_bits"=some spBits) (hG:C.fs "_law_goes"=some spGoes):∀vs H Q E,spSome vs H Q E->tSs C c_some_row { nx:=fun _ H'=>Q .non H',rt:=Q } (L2.start C.N vs) H:=by
 intro vs H Q E h
 obtain⟨b,a,n,W,p,z,r,rfl,hb,hn,hW,okW,hp1,hp4,hz1,hz8,hr,q⟩:=h
 rw[start_eq hN]
 unfold c_some_row
 walk_at "y"
 refine call_e hT ?_
 walk_at "y"
 refine⟨by decide,fun y hy=>?_⟩
 have s1:=same_new hy (.lst [.int 0,.int 13,.int 9,.int 6,.int 5])
 have hy1:upd H y (.lst [.int 0,.int 13,.int 9,.int 6,.int 5]) y=some (.lst [.int 0,.int 13,.int 9,.int 6,.int 5]):=upd_same
 generalize upd H y (.lst [.int 0,.int 13,.int 9,.int 6,.int 5])=H1 at s1 hy1 ⊢
 obtain⟨v,ev,hv0,hv5,hvk⟩:=many_of hp1 hp4
 refine at_ixL (SqL.of hy1) ev ?_
 walk_at "y"
 refine take_at (s1 _ _ hb) (Go.refl (c:=0)) (by omega) (by omega) (by omega) fun k0 H2 hk0 hk1 g2 g02=>?_
 obtain⟨k,rfl⟩:=Int.eq_ofNat_of_zero_le hk0
 have hk:k<v:=by omega
 have hpk:=hvk k hk
 have g2':=(Go.of_same (c:=0) s1).trans g02
 obtain⟨n2,hb2,hn2,_⟩:=g2'.boxed hb (by omega)
 have hW2:=hW.mono g2'.tp
 walk_at "y"
 refine call_e hG ?_
 walk_at "y"
 refine call_e hB ?_
 walk_at "y"
 refine⟨.inl ⟨by omega,by omega⟩,?_⟩
 rw[show(p:Int)*(k:Int)=((k*p:Nat):Int) by rw[Int.natCast_mul,Int.mul_comm]]
 have hkp:k*p<=16:=by rw[Nat.mul_comm];exact hpk
 refine⟨b,n2,k*p,rfl,hb2,by omega,by omega,fun l H3 hl g3=>?_⟩
 have g3':=(g2'.trans g3).mono (d:=20) (by omega)
 obtain⟨n3,hb3,hn3,_⟩:=g3'.boxed hb (by omega)
 walk_at "y"
 refine⟨a,W,p,r,k,l,rfl,hW.mono g3'.tp,okW.ok hz8,hp1,hp4,hr,by omega,hl,fun t H4 s4 ht=>?_⟩
 have hrow:=wl_len okW (bs:=bks p l k) hr (bks_all hl)
 rw[bks_len]at hrow
 refine at_ixT (SqT.of ht) atI0 ?_
 generalize (wl W r (bks p l k)).1.flatten=row at hrow ⊢
 have hkz:k*z<=12*8:=Nat.mul_le_mul (by omega) hz8
 have hrz:row.length<=sizeLine:=small16 (by omega)
 have g4:=(g3'.trans (Go.of_same (c:=0) s4))
 have hb4:=s4 _ _ hb3
 have hmain:∀(l:List Bool) H',Go 150 H4 H'->l.length<=k*z->Q (.str (tx l)) H':=fun l H' g hl=>q l k H' ((g4.trans g).mono (by omega)) hl hpk (by omega)
 walk_at "y"
 refine call_e hT ?_
 walk_at "y"
 refine take_at hb4 (Go.refl (c:=0)) (by omega) (by decide) (by decide) fun w0 H5 hw0 hw1 g5 g05=>?_
 obtain⟨n5,hb5,hn5,_⟩:=g5.boxed hb4 (by omega)
 walk_at "y"
 refine by_dec (fun hq=>?_) fun hq=>?_
 .walk_at "y"
  refine sl_from (n:=1) hrz ?_
  exact hmain _ _ (g5.mono (by omega)) (by rw[List.length_drop];omega)
 have key2:kIf C (.cons (.ret (.call "_law_bits" (.cons (.var 0) (.cons (.bin .Mult (.var 2) (.var 5)) .nil)))) .nil) .nil (kSeq C (.cons (.ret (.var 6)) .nil) { nx:=fun _ H'=>Q .non H',rt:=Q }) [some (.ref b),some (.int p),some (.int z),some (.ref a),some (.int r),some (.int k),some (.str (tx row)),some (.int w0),none] (decide (w0=2)) H5:=by
  refine by_dec (fun hq=>?_) fun hq=>?_
  .walk_at "y"
   refine call_e hB ?_
   walk_at "y"
   refine⟨.inl ⟨by omega,by omega⟩,?_⟩
   rw[show(z:Int)*(k:Int)=((k*z:Nat):Int) by rw[Int.natCast_mul,Int.mul_comm]]
   refine⟨b,n5,k*z,rfl,hb5,by omega,by omega,fun l H6 hl g6=>?_⟩
   exact hmain _ _ ((g5.trans g6).mono (by omega)) (by omega)
  .walk_at "y"
   exact hmain _ _ (g5.mono (by omega)) (by omega)
 walk_at "y"
 refine by_dec (fun hq2=>?_) fun hq2=>?_
 .walk_at "y"
  by_cases he:row=[]
  .rw[show(!decide (row=[]))=false by rw[decide_eq_true he];rfl]
   walk_at "y"
   exact key2
  .rw[show(!decide (row=[]))=true by rw[decide_eq_false he];rfl]
   have hrl:row.length≠0:=fun e=>he (List.eq_nil_of_length_eq_zero e)
   walk_at "y"
   refine call_e hT ?_
   walk_at "y"
   refine⟨hrz,?_⟩
   refine take_at hb5 (Go.refl (c:=0)) (by omega) (by omega) (by omega) fun i0 H6 hi0 hi1 g6 g06=>?_
   obtain⟨i,rfl⟩:=Int.eq_ofNat_of_zero_le hi0
   have hi:i<row.length:=by omega
   walk_at "y"
   refine sl_to hrz ?_
   walk_at "y"
   refine at_ixtx hrz (atI_nat (List.getElem?_eq_getElem hi)) ?_
   walk_at "y"
   refine at_flip10 ?_
   walk_at "y"
   refine⟨small16 (by simp;omega),?_⟩
   rw[show(i:Int)+1=((i+1:Nat):Int) from rfl]
   refine sl_from hrz ?_
   walk_at "y"
   refine⟨small16 (by simp;omega),?_⟩
   exact hmain _ _ ((g5.trans g6).mono (by omega)) (by simp only[List.length_append,List.length_take,List.length_drop,List.length_singleton];omega)
 .walk_at "y"
  exact key2
theorem blocks_for {len k z:Nat} (hz:1<=z) (h:len<=k*z):∃n,n<=k/\len<=n*z/\n*z<len+z:=by
 refine⟨(len+z-1) / z,?_,?_,?_⟩
 .have h1:len+z-1<(k+1)*z:=by rw[Nat.add_mul];omega
  have:=(Nat.div_lt_iff_lt_mul (by omega)).mpr h1
  omega
 .have h1:=Nat.div_add_mod (len+z-1) z
  have h2:=Nat.mod_lt (len+z-1) (show z > 0 by omega)
  rw[Nat.mul_comm]at h1
  omega
 .have h1:=Nat.div_mul_le_self (len+z-1) z
  omega
def spLaw (K:W.Frag):Sp:=fun vs H Q _=>∃(a:Addr) (ns:List Int),vs=[.ref a]/\SqL K H a (ns.map V.int)/\ns.length<=63/\∀H',Q (.bl true) H'
structure FsLaw (C:Rc):Prop where
 box:C.fs "_law_box"=some (spBox C.K)
 take:C.fs "_law_take"=some spTake
 writer:C.fs "_law_writer"=some spWriterZ
 some_:C.fs "_law_some_row"=some spSome
 due:C.fs "_law_due"=some spDue
 surely:C.fs "surely"=some spSurely
theorem body_law {C:Rc} (hN:C.N.length=11) (F:FsLaw C):∀vs H Q E,spLaw C.K vs H Q E->tSs C c_law { nx:=fun _ H'=>Q .non H',rt:=Q } (L2.start C.N vs) H:=by
 intro vs H Q E h
 obtain⟨a,ns,rfl,hs,h63,q⟩:=h
 rw[start_eq hN]
 unfold c_law
 walk_at "y"
 refine at_lenL hs ?_
 rw[List.length_map]
 walk_at "y"
 obtain⟨N,eN,hN1,hN2⟩:∃N:Int,N=1+(if(ns.length:Int)<4 then(ns.length:Int)else 4)/\1<=N/\N<=5:=by
  refine⟨_,rfl,?_,?_⟩<;>split<;>omega
 rw[<- eN]
 refine at_r1 (by omega) (by omega) (for_r (fun i σ H'=>(∃x1 x2 x3 x4 x5 x6 x7 x8 x9 x10,σ=[some (.ref a),x1,x2,x3,x4,x5,x6,x7,x8,x9,x10])/\SqL C.K H' a (ns.map V.int)) ⟨⟨_,_,_,_,_,_,_,_,_,_,rfl⟩,hs⟩ ?_ ?_)
 .rintro i σ H0 hi ⟨⟨x1,x2,x3,x4,x5,x6,x7,x8,x9,x10,rfl⟩,hs0⟩
  walk_at "y"
  refine call_e F.box ?_
  walk_at "y"
  refine⟨a,ns,_,rfl,hs0,by omega,by omega,fun b hb=>?_⟩
  have hs1:=(same_new hb (BoxO b 0)).seq hs0
  have hb1:upd H0 b (BoxO b 0) b=some (BoxO b 0):=upd_same
  generalize upd H0 b (BoxO b 0)=H1 at hs1 hb1 ⊢
  walk_at "y"
  rw[s_asg]
  refine call_e F.writer ?_
  walk_at "y"
  refine⟨b,0,rfl,hb1,by omega,fun t w p z W H2 g2 ht hW okW hp1 hp4 hz1 hz8 hW1 hW24=>?_⟩
  refine g_tup3 (C:=C) (SqT.of ht) ?_
  obtain⟨n2,hb2,hn2,_⟩:=g2.boxed hb1 (by decide)
  have hs2:=g2.seq hs1
  walk_at "y"
  refine at_r1 (by omega) (by omega) (for_r (fun j σ H'=>(∃x6 x7 x8 x9 x10,σ=[some (.ref a),some (.int (0+i)),some (.ref b),some (.int p),some (.int z),some (.ref w),x6,x7,x8,x9,x10])/\SqL C.K H' a (ns.map V.int)/\IsW H' w W/\∃n,H' b=some (BoxO b n)/\n<=6000+400*j) ⟨⟨_,_,_,_,_,rfl⟩,hs2,hW,n2,hb2,by omega⟩ ?_ ?_)
  .rintro j σ H3 hj ⟨⟨x6,x7,x8,x9,x10,rfl⟩,hs3,hW3,n3,hb3,hn3⟩
   have hj:j<6:=hj
   walk_at "y"
   refine call_e F.take ?_
   walk_at "y"
   obtain⟨vs,hw3,hvs⟩:=id hW3
   refine at_lenT (SqT.of hw3) ?_
   rw[hvs.len]
   walk_at "y"
   refine⟨b,n3,_,rfl,hb3,by omega,by omega,by omega,fun r0 H4 hr0 hr1 g4=>?_⟩
   obtain⟨r,rfl⟩:=Int.eq_ofNat_of_zero_le hr0
   obtain⟨n4,hb4,hn4,_⟩:=g4.boxed hb3 (by omega)
   have hs4:=g4.seq hs3
   have hW4:=hW3.mono g4.tp
   walk_at "y"
   refine call_e F.some_ ?_
   walk_at "y"
   refine⟨b,w,n4,W,p,z,r,rfl,hb4,by omega,hW4,okW,hp1,hp4,hz1,hz8,by omega,fun l k H5 g5 hlk hpk hk12=>?_⟩
   obtain⟨n5,hb5,hn5,_⟩:=g5.boxed hb4 (by omega)
   have hs5:=g5.seq hs4
   have hW5:=hW4.mono g5.tp
   obtain⟨n,hnk,hl1,hl2⟩:=blocks_for hz1 hlk
   have hkz:k*z<=12*8:=Nat.mul_le_mul (by omega) hz8
   walk_at "y"
   refine call_e F.due ?_
   walk_at "y"
   refine⟨w,W,p,z,r,n,l,rfl,hW5,okW,hp4,hz1,hz8,hW24,by omega,by omega,hl1,hl2,by omega,fun H6 s6=>?_⟩
   have hb6:=s6 _ _ hb5
   have hs6:=s6.seq hs5
   have hW6:=hW5.mono (same_tp s6)
   walk_at "y"
   refine call_e F.surely ?_
   walk_at "y"
   refine⟨w,W,p,z,r,n,l,rfl,hW6,okW,hp4,hz1,hz8,hW24,by omega,by omega,hl1,hl2,by omega,fun H7 s7=>?_⟩
   have hb7:=s7 _ _ hb6
   have hs7:=s7.seq hs6
   have hW7:=hW6.mono (same_tp s7)
   unfold IsSure
   cases can W p (bks z l n) r with
   |true=>
    rw[if_pos rfl]
    walk_at "y"
    refine isi1 (T:="str") (k:=true) rfl rfl (by decide) (by decide) ?_
    walk_at "y"
    refine isi1 (T:="str") (k:=true) rfl rfl (by decide) (by decide) ?_
    walk_at "y"
    exact⟨⟨_,_,_,_,_,rfl⟩,hs7,hW7,n5,hb7,by omega⟩
   |false=>
    rw[if_neg Bool.false_ne_true]
    walk_at "y"
    refine⟨rfl,?_⟩
    rw[decide_eq_true rfl]
    walk_at "y"
    refine isi1 (T:="NoneType") (k:=false) rfl rfl (by decide) (by decide) ?_
    walk_at "y"
    refine isi1 (T:="NoneType") (k:=false) rfl rfl (by decide) (by decide) ?_
    walk_at "y"
    exact⟨⟨_,_,_,_,_,rfl⟩,hs7,hW7,n5,hb7,by omega⟩
  .rintro σ H3 ⟨⟨x6,x7,x8,x9,x10,rfl⟩,hs3,hW3,n3,hb3,hn3⟩
   walk_at "y"
   exact⟨⟨_,_,_,_,_,_,_,_,_,_,rfl⟩,hs3⟩
 .rintro σ H0 ⟨⟨x1,x2,x3,x4,x5,x6,x7,x8,x9,x10,rfl⟩,hs0⟩
  walk_at "y"
  exact q _
end K44
namespace K44
open PySem PySem.Spec PyProof.Rows L2 R3 LW SR BK K42 WR
noncomputable def top (i:Nat):Stmt:=PySem.Challenge.pw_runbound_k44_surely_read.main.body.getD i (.Pass ⟨0,0,0,0⟩)
theorem m_blocks:mSs n_p_blocks_of b_p_blocks_of (defScope (top 1)) c_p_blocks_of (defBody (top 1))=true:=by decide +kernel
theorem sc_blocks:FnScope n_p_blocks_of ["row","many"] (defScope (top 1)):=⟨rfl,rfl,rfl,by decide +kernel,rfl,by decide +kernel,by decide +kernel⟩
theorem m_bitsby:mSs n_p_bits_by b_p_bits_by (defScope (top 2)) c_p_bits_by (defBody (top 2))=true:=by decide +kernel
theorem sc_bitsby:FnScope n_p_bits_by ["number","many"] (defScope (top 2)):=⟨rfl,rfl,rfl,by decide +kernel,rfl,by decide +kernel,by decide +kernel⟩
theorem m_doors:mSs n_p_doors_by b_p_doors_by (defScope (top 4)) c_p_doors_by (defBody (top 4))=true:=by decide +kernel
theorem sc_doors:FnScope n_p_doors_by ["writer","room","block","goals"] (defScope (top 4)):=⟨rfl,rfl,rfl,by decide +kernel,rfl,by decide +kernel,by decide +kernel⟩
theorem m_readable:mSs n_p_readable b_p_readable (defScope (top 5)) c_p_readable (defBody (top 5))=true:=by decide +kernel
theorem sc_readable:FnScope n_p_readable ["writer","blocks"] (defScope (top 5)):=⟨rfl,rfl,rfl,by decide +kernel,rfl,by decide +kernel,by decide +kernel⟩
theorem m_com:mSs n_p_common_beginning b_p_common_beginning (defScope (top 6)) c_p_common_beginning (defBody (top 6))=true:=by decide +kernel
theorem sc_com:FnScope n_p_common_beginning ["one","other"] (defScope (top 6)):=⟨rfl,rfl,rfl,by decide +kernel,rfl,by decide +kernel,by decide +kernel⟩
theorem m_surely:mSs n_p_surely b_p_surely (defScope (top 7)) c_p_surely (defBody (top 7))=true:=by decide +kernel
theorem sc_surely:FnScope n_p_surely ["writer","p","q","room","row"] (defScope (top 7)):=⟨rfl,rfl,rfl,by decide +kernel,rfl,by decide +kernel,by decide +kernel⟩
theorem m_cell:mSs n_cell_at b_cell_at (defScope (top 9)) c_cell_at (defBody (top 9))=true:=by decide +kernel
theorem sc_cell:FnScope n_cell_at ["_law_script","_law_k"] (defScope (top 9)):=⟨rfl,rfl,rfl,by decide +kernel,rfl,by decide +kernel,by decide +kernel⟩
theorem m_box:mSs n_box b_box (defScope (top 10)) c_box (defBody (top 10))=true:=by decide +kernel
theorem sc_box:FnScope n_box ["_law_script","_law_k"] (defScope (top 10)):=⟨rfl,rfl,rfl,by decide +kernel,rfl,by decide +kernel,by decide +kernel⟩
theorem m_take:mSs n_take b_take (defScope (top 11)) c_take (defBody (top 11))=true:=by decide +kernel
theorem sc_take:FnScope n_take ["_law_box_here","_law_many"] (defScope (top 11)):=⟨rfl,rfl,rfl,by decide +kernel,rfl,by decide +kernel,by decide +kernel⟩
theorem m_bits:mSs n_bits b_bits (defScope (top 12)) c_bits (defBody (top 12))=true:=by decide +kernel
theorem sc_bits:FnScope n_bits ["_law_box_here","_law_many"] (defScope (top 12)):=⟨rfl,rfl,rfl,by decide +kernel,rfl,by decide +kernel,by decide +kernel⟩
theorem m_rowby:mSs n_row_by b_row_by (defScope (top 13)) c_row_byZ (defBody (top 13))=true:=by decide +kernel
theorem sc_rowby:FnScope n_row_by ["_law_number","_law_many"] (defScope (top 13)):=⟨rfl,rfl,rfl,by decide +kernel,rfl,by decide +kernel,by decide +kernel⟩
theorem m_writer:mSs n_writer b_writer (defScope (top 14)) c_writerZ (defBody (top 14))=true:=by decide +kernel
theorem sc_writer:FnScope n_writer ["_law_box_here"] (defScope (top 14)):=⟨rfl,rfl,rfl,by decide +kernel,rfl,by decide +kernel,by decide +kernel⟩
theorem m_goes:mSs n_goes b_goes (defScope (top 15)) c_goes (defBody (top 15))=true:=by decide +kernel
theorem sc_goes:FnScope n_goes ["_law_writer_here","_law_p","_law_room","_law_bits_here"] (defScope (top 15)):=⟨rfl,rfl,rfl,by decide +kernel,rfl,by decide +kernel,by decide +kernel⟩
theorem m_can:mSs n_can b_can (defScope (top 16)) c_can (defBody (top 16))=true:=by decide +kernel
theorem sc_can:FnScope n_can ["_law_writer_here","_law_q","_law_row"] (defScope (top 16)):=⟨rfl,rfl,rfl,by decide +kernel,rfl,by decide +kernel,by decide +kernel⟩
theorem m_next:mSs n_next b_next (defScope (top 17)) c_next (defBody (top 17))=true:=by decide +kernel
theorem sc_next:FnScope n_next ["_law_writer_here","_law_q","_law_rooms","_law_row"] (defScope (top 17)):=⟨rfl,rfl,rfl,by decide +kernel,rfl,by decide +kernel,by decide +kernel⟩
theorem m_alike:mSs n_alike b_alike (defScope (top 18)) c_alike (defBody (top 18))=true:=by decide +kernel
theorem sc_alike:FnScope n_alike ["_law_numbers","_law_p"] (defScope (top 18)):=⟨rfl,rfl,rfl,by decide +kernel,rfl,by decide +kernel,by decide +kernel⟩
theorem m_due:mSs n_due b_due (defScope (top 19)) c_due (defBody (top 19))=true:=by decide +kernel
theorem sc_due:FnScope n_due ["_law_writer_here","_law_p","_law_q","_law_room","_law_row"] (defScope (top 19)):=⟨rfl,rfl,rfl,by decide +kernel,rfl,by decide +kernel,by decide +kernel⟩
theorem m_some:mSs n_some_row b_some_row (defScope (top 20)) c_some_row (defBody (top 20))=true:=by decide +kernel
theorem sc_some:FnScope n_some_row ["_law_box_here","_law_p","_law_q","_law_writer_here","_law_room"] (defScope (top 20)):=⟨rfl,rfl,rfl,by decide +kernel,rfl,by decide +kernel,by decide +kernel⟩
theorem m_law:mSs n_law b_law (defScope (top 21)) c_law (defBody (top 21))=true:=by decide +kernel
theorem sc_law:FnScope n_law ["_law_script"] (defScope (top 21)):=⟨rfl,rfl,rfl,by decide +kernel,rfl,by decide +kernel,by decide +kernel⟩
theorem all_mk {l:W.OpenLaw} {w:World} {K:W.Frag} {h:Heap} {mg:Str->Option Value} {fa:Addr} {f1 f2 f3 f4 f5 f6 f7 f8 f9 f10 f11 f12 f13 f14 f15 f16 f17 f18 f19:Addr} (X:K.In h) (G:h.Ns mainGlobals mg) (hfa:mg "law"=some (.ref fa))
  {od1 an1 od2 an2 od3 an3 od4 an4 od5 an5 od6 an6 od7 an7 od8 an8 od9 an9 od10 an10 od11 an11 od12 an12 od13 an13 od14 an14 od15 an15 od16 an16 od17 an17 od18 an18 od19 an19:Option Addr} {sl1 sl2 sl3 sl4 sl5 sl6 sl7 sl8 sl9 sl10 sl11 sl12 sl13 sl14 sl15 sl16 sl17 sl18 sl19:Array (Option Value)} {oc1 kV1 dc1 pm1 cd1 ct1 oc2 kV2 dc2 pm2 cd2 ct2 oc3 kV3 dc3 pm3 cd3 ct3 oc4 kV4 dc4 pm4 cd4 ct4 oc5 kV5 dc5 pm5 cd5 ct5 oc6 kV6 dc6 pm6 cd6 ct6 oc7 kV7 dc7 pm7 cd7 ct7 oc8 kV8 dc8 pm8 cd8 ct8 oc9 kV9 dc9 pm9 cd9 ct9 oc10 kV10 dc10 pm10 cd10 ct10 oc11 kV11 dc11 pm11 cd11 ct11 oc12 kV12 dc12 pm12 cd12 ct12 oc13 kV13 dc13 pm13 cd13 ct13 oc14 kV14 dc14 pm14 cd14 ct14 oc15 kV15 dc15 pm15 cd15 ct15 oc16 kV16 dc16 pm16 cd16 ct16 oc17 kV17 dc17 pm17 cd17 ct17 oc18 kV18 dc18 pm18 cd18 ct18 oc19 kV19 dc19 pm19 cd19 ct19:Value}
  (a1:W.nsIn K mainGlobals "blocks_of"=some (some (.ref f1))) (l1:K.lookup f1=some ⟨oc1,od1,.func (W.fnOf "blocks_of" "blocks_of" (defArgs (top 1)) (defBody (top 1)) (defScope (top 1)) .none kV1 dc1 pm1 an1 cd1 ct1),sl1⟩) (c1:W.codeIn K cd1 "blocks_of"=true) (k1:W.keepIn K (.ref f1)=true)
  (a2:W.nsIn K mainGlobals "bits_by"=some (some (.ref f2))) (l2:K.lookup f2=some ⟨oc2,od2,.func (W.fnOf "bits_by" "bits_by" (defArgs (top 2)) (defBody (top 2)) (defScope (top 2)) .none kV2 dc2 pm2 an2 cd2 ct2),sl2⟩) (c2:W.codeIn K cd2 "bits_by"=true) (k2:W.keepIn K (.ref f2)=true)
  (a3:W.nsIn K mainGlobals "doors_by"=some (some (.ref f3))) (l3:K.lookup f3=some ⟨oc3,od3,.func (W.fnOf "doors_by" "doors_by" (defArgs (top 4)) (defBody (top 4)) (defScope (top 4)) .none kV3 dc3 pm3 an3 cd3 ct3),sl3⟩) (c3:W.codeIn K cd3 "doors_by"=true) (k3:W.keepIn K (.ref f3)=true)
  (a4:W.nsIn K mainGlobals "readable"=some (some (.ref f4))) (l4:K.lookup f4=some ⟨oc4,od4,.func (W.fnOf "readable" "readable" (defArgs (top 5)) (defBody (top 5)) (defScope (top 5)) .none kV4 dc4 pm4 an4 cd4 ct4),sl4⟩) (c4:W.codeIn K cd4 "readable"=true) (k4:W.keepIn K (.ref f4)=true)
  (a5:W.nsIn K mainGlobals "common_beginning"=some (some (.ref f5))) (l5:K.lookup f5=some ⟨oc5,od5,.func (W.fnOf "common_beginning" "common_beginning" (defArgs (top 6)) (defBody (top 6)) (defScope (top 6)) .none kV5 dc5 pm5 an5 cd5 ct5),sl5⟩) (c5:W.codeIn K cd5 "common_beginning"=true) (k5:W.keepIn K (.ref f5)=true)
  (a6:W.nsIn K mainGlobals "surely"=some (some (.ref f6))) (l6:K.lookup f6=some ⟨oc6,od6,.func (W.fnOf "surely" "surely" (defArgs (top 7)) (defBody (top 7)) (defScope (top 7)) .none kV6 dc6 pm6 an6 cd6 ct6),sl6⟩) (c6:W.codeIn K cd6 "surely"=true) (k6:W.keepIn K (.ref f6)=true)
  (a7:W.nsIn K mainGlobals "_law_cell_at"=some (some (.ref f7))) (l7:K.lookup f7=some ⟨oc7,od7,.func (W.fnOf "_law_cell_at" "_law_cell_at" (defArgs (top 9)) (defBody (top 9)) (defScope (top 9)) .none kV7 dc7 pm7 an7 cd7 ct7),sl7⟩) (c7:W.codeIn K cd7 "_law_cell_at"=true) (k7:W.keepIn K (.ref f7)=true)
  (a8:W.nsIn K mainGlobals "_law_box"=some (some (.ref f8))) (l8:K.lookup f8=some ⟨oc8,od8,.func (W.fnOf "_law_box" "_law_box" (defArgs (top 10)) (defBody (top 10)) (defScope (top 10)) .none kV8 dc8 pm8 an8 cd8 ct8),sl8⟩) (c8:W.codeIn K cd8 "_law_box"=true) (k8:W.keepIn K (.ref f8)=true)
  (a9:W.nsIn K mainGlobals "_law_take"=some (some (.ref f9))) (l9:K.lookup f9=some ⟨oc9,od9,.func (W.fnOf "_law_take" "_law_take" (defArgs (top 11)) (defBody (top 11)) (defScope (top 11)) .none kV9 dc9 pm9 an9 cd9 ct9),sl9⟩) (c9:W.codeIn K cd9 "_law_take"=true) (k9:W.keepIn K (.ref f9)=true)
  (a10:W.nsIn K mainGlobals "_law_bits"=some (some (.ref f10))) (l10:K.lookup f10=some ⟨oc10,od10,.func (W.fnOf "_law_bits" "_law_bits" (defArgs (top 12)) (defBody (top 12)) (defScope (top 12)) .none kV10 dc10 pm10 an10 cd10 ct10),sl10⟩) (c10:W.codeIn K cd10 "_law_bits"=true) (k10:W.keepIn K (.ref f10)=true)
  (a11:W.nsIn K mainGlobals "_law_row_by"=some (some (.ref f11))) (l11:K.lookup f11=some ⟨oc11,od11,.func (W.fnOf "_law_row_by" "_law_row_by" (defArgs (top 13)) (defBody (top 13)) (defScope (top 13)) .none kV11 dc11 pm11 an11 cd11 ct11),sl11⟩) (c11:W.codeIn K cd11 "_law_row_by"=true) (k11:W.keepIn K (.ref f11)=true)
  (a12:W.nsIn K mainGlobals "_law_writer"=some (some (.ref f12))) (l12:K.lookup f12=some ⟨oc12,od12,.func (W.fnOf "_law_writer" "_law_writer" (defArgs (top 14)) (defBody (top 14)) (defScope (top 14)) .none kV12 dc12 pm12 an12 cd12 ct12),sl12⟩) (c12:W.codeIn K cd12 "_law_writer"=true) (k12:W.keepIn K (.ref f12)=true)
  (a13:W.nsIn K mainGlobals "_law_goes"=some (some (.ref f13))) (l13:K.lookup f13=some ⟨oc13,od13,.func (W.fnOf "_law_goes" "_law_goes" (defArgs (top 15)) (defBody (top 15)) (defScope (top 15)) .none kV13 dc13 pm13 an13 cd13 ct13),sl13⟩) (c13:W.codeIn K cd13 "_law_goes"=true) (k13:W.keepIn K (.ref f13)=true)
  (a14:W.nsIn K mainGlobals "_law_can"=some (some (.ref f14))) (l14:K.lookup f14=some ⟨oc14,od14,.func (W.fnOf "_law_can" "_law_can" (defArgs (top 16)) (defBody (top 16)) (defScope (top 16)) .none kV14 dc14 pm14 an14 cd14 ct14),sl14⟩) (c14:W.codeIn K cd14 "_law_can"=true) (k14:W.keepIn K (.ref f14)=true)
  (a15:W.nsIn K mainGlobals "_law_next"=some (some (.ref f15))) (l15:K.lookup f15=some ⟨oc15,od15,.func (W.fnOf "_law_next" "_law_next" (defArgs (top 17)) (defBody (top 17)) (defScope (top 17)) .none kV15 dc15 pm15 an15 cd15 ct15),sl15⟩) (c15:W.codeIn K cd15 "_law_next"=true) (k15:W.keepIn K (.ref f15)=true)
  (a16:W.nsIn K mainGlobals "_law_alike"=some (some (.ref f16))) (l16:K.lookup f16=some ⟨oc16,od16,.func (W.fnOf "_law_alike" "_law_alike" (defArgs (top 18)) (defBody (top 18)) (defScope (top 18)) .none kV16 dc16 pm16 an16 cd16 ct16),sl16⟩) (c16:W.codeIn K cd16 "_law_alike"=true) (k16:W.keepIn K (.ref f16)=true)
  (a17:W.nsIn K mainGlobals "_law_due"=some (some (.ref f17))) (l17:K.lookup f17=some ⟨oc17,od17,.func (W.fnOf "_law_due" "_law_due" (defArgs (top 19)) (defBody (top 19)) (defScope (top 19)) .none kV17 dc17 pm17 an17 cd17 ct17),sl17⟩) (c17:W.codeIn K cd17 "_law_due"=true) (k17:W.keepIn K (.ref f17)=true)
  (a18:W.nsIn K mainGlobals "_law_some_row"=some (some (.ref f18))) (l18:K.lookup f18=some ⟨oc18,od18,.func (W.fnOf "_law_some_row" "_law_some_row" (defArgs (top 20)) (defBody (top 20)) (defScope (top 20)) .none kV18 dc18 pm18 an18 cd18 ct18),sl18⟩) (c18:W.codeIn K cd18 "_law_some_row"=true) (k18:W.keepIn K (.ref f18)=true)
  (a19:W.nsIn K mainGlobals "law"=some (some (.ref f19))) (l19:K.lookup f19=some ⟨oc19,od19,.func (W.fnOf "law" "law" (defArgs (top 21)) (defBody (top 21)) (defScope (top 21)) .none kV19 dc19 pm19 an19 cd19 ct19),sl19⟩) (c19:W.codeIn K cd19 "law"=true) (k19:W.keepIn K (.ref f19)=true)
  (z1:W.nsIn K mainGlobals "~"=some none)
  (z2:W.nsIn K mainGlobals "^"=some none)
  (z3:W.nsIn K mainGlobals "%"=some none)
  (z4:W.nsIn K mainGlobals "len"=some none)
  (z5:W.nsIn K mainGlobals "range"=some none)
  (z6:W.nsIn K mainGlobals "reversed"=some none)
  (z7:W.nsIn K mainGlobals "str"=some none)
  (z8:W.nsIn K mainGlobals "enumerate"=some none)
  (z9:W.nsIn K mainGlobals "abs"=some none)
  (z10:W.nsIn K mainGlobals "int"=some none)
  (z11:W.nsIn K mainGlobals "tuple"=some none)
  (z12:W.nsIn K mainGlobals "any"=some none)
  (z13:W.nsIn K mainGlobals "list"=some none)
  (z14:W.nsIn K mainGlobals "set"=some none)
  (z15:W.nsIn K mainGlobals "sorted"=some none)
  (z16:W.nsIn K mainGlobals "all"=some none)
  (z17:W.nsIn K mainGlobals "isinstance"=some none)
  (z18:W.nsIn K mainGlobals "min"=some none):
  ∃fd:FuncData,(∀(s:Shared) (v:Value),BindsTo s fd ⟨[v],[]⟩ [("_law_script",v)])/\∀base:Heap,K.In base->base.Ns mainGlobals mg->FnOk l.prog w K mg base CX0 60 fa fd ["_law_script"] (spLaw K):=by
 have e:=hfa.symm.trans (W.mg_of X G a19)
 cases e
 have F1:=fun_mk (st:=top 1) l1 c1 k1
 have b1:=F1.binds (ps:=["row","many"]) fun _ _ _ _ _ _ us hl=>len2 (P:=fun us=>bindArgs _ ({ pos:=us }:Args)=pure (List.zip _ us)) (fun _ _=>rfl) us hl
 have m1:=W.mg_of X G a1
 have F2:=fun_mk (st:=top 2) l2 c2 k2
 have b2:=F2.binds (ps:=["number","many"]) fun _ _ _ _ _ _ us hl=>len2 (P:=fun us=>bindArgs _ ({ pos:=us }:Args)=pure (List.zip _ us)) (fun _ _=>rfl) us hl
 have m2:=W.mg_of X G a2
 have F3:=fun_mk (st:=top 4) l3 c3 k3
 have b3:=F3.binds (ps:=["writer","room","block","goals"]) fun _ _ _ _ _ _ us hl=>len4 (P:=fun us=>bindArgs _ ({ pos:=us }:Args)=pure (List.zip _ us)) (fun _ _ _ _=>rfl) us hl
 have m3:=W.mg_of X G a3
 have F4:=fun_mk (st:=top 5) l4 c4 k4
 have b4:=F4.binds (ps:=["writer","blocks"]) fun _ _ _ _ _ _ us hl=>len2 (P:=fun us=>bindArgs _ ({ pos:=us }:Args)=pure (List.zip _ us)) (fun _ _=>rfl) us hl
 have m4:=W.mg_of X G a4
 have F5:=fun_mk (st:=top 6) l5 c5 k5
 have b5:=F5.binds (ps:=["one","other"]) fun _ _ _ _ _ _ us hl=>len2 (P:=fun us=>bindArgs _ ({ pos:=us }:Args)=pure (List.zip _ us)) (fun _ _=>rfl) us hl
 have m5:=W.mg_of X G a5
 have F6:=fun_mk (st:=top 7) l6 c6 k6
 have b6:=F6.binds (ps:=["writer","p","q","room","row"]) fun _ _ _ _ _ _ us hl=>len5 (P:=fun us=>bindArgs _ ({ pos:=us }:Args)=pure (List.zip _ us)) (fun _ _ _ _ _=>rfl) us hl
 have m6:=W.mg_of X G a6
 have F7:=fun_mk (st:=top 9) l7 c7 k7
 have b7:=F7.binds (ps:=["_law_script","_law_k"]) fun _ _ _ _ _ _ us hl=>len2 (P:=fun us=>bindArgs _ ({ pos:=us }:Args)=pure (List.zip _ us)) (fun _ _=>rfl) us hl
 have m7:=W.mg_of X G a7
 have F8:=fun_mk (st:=top 10) l8 c8 k8
 have b8:=F8.binds (ps:=["_law_script","_law_k"]) fun _ _ _ _ _ _ us hl=>len2 (P:=fun us=>bindArgs _ ({ pos:=us }:Args)=pure (List.zip _ us)) (fun _ _=>rfl) us hl
 have m8:=W.mg_of X G a8
 have F9:=fun_mk (st:=top 11) l9 c9 k9
 have b9:=F9.binds (ps:=["_law_box_here","_law_many"]) fun _ _ _ _ _ _ us hl=>len2 (P:=fun us=>bindArgs _ ({ pos:=us }:Args)=pure (List.zip _ us)) (fun _ _=>rfl) us hl
 have m9:=W.mg_of X G a9
 have F10:=fun_mk (st:=top 12) l10 c10 k10
 have b10:=F10.binds (ps:=["_law_box_here","_law_many"]) fun _ _ _ _ _ _ us hl=>len2 (P:=fun us=>bindArgs _ ({ pos:=us }:Args)=pure (List.zip _ us)) (fun _ _=>rfl) us hl
 have m10:=W.mg_of X G a10
 have F11:=fun_mk (st:=top 13) l11 c11 k11
 have b11:=F11.binds (ps:=["_law_number","_law_many"]) fun _ _ _ _ _ _ us hl=>len2 (P:=fun us=>bindArgs _ ({ pos:=us }:Args)=pure (List.zip _ us)) (fun _ _=>rfl) us hl
 have m11:=W.mg_of X G a11
 have F12:=fun_mk (st:=top 14) l12 c12 k12
 have b12:=F12.binds (ps:=["_law_box_here"]) fun _ _ _ _ _ _ us hl=>len1 (P:=fun us=>bindArgs _ ({ pos:=us }:Args)=pure (List.zip _ us)) (fun _=>rfl) us hl
 have m12:=W.mg_of X G a12
 have F13:=fun_mk (st:=top 15) l13 c13 k13
 have b13:=F13.binds (ps:=["_law_writer_here","_law_p","_law_room","_law_bits_here"]) fun _ _ _ _ _ _ us hl=>len4 (P:=fun us=>bindArgs _ ({ pos:=us }:Args)=pure (List.zip _ us)) (fun _ _ _ _=>rfl) us hl
 have m13:=W.mg_of X G a13
 have F14:=fun_mk (st:=top 16) l14 c14 k14
 have b14:=F14.binds (ps:=["_law_writer_here","_law_q","_law_row"]) fun _ _ _ _ _ _ us hl=>len3 (P:=fun us=>bindArgs _ ({ pos:=us }:Args)=pure (List.zip _ us)) (fun _ _ _=>rfl) us hl
 have m14:=W.mg_of X G a14
 have F15:=fun_mk (st:=top 17) l15 c15 k15
 have b15:=F15.binds (ps:=["_law_writer_here","_law_q","_law_rooms","_law_row"]) fun _ _ _ _ _ _ us hl=>len4 (P:=fun us=>bindArgs _ ({ pos:=us }:Args)=pure (List.zip _ us)) (fun _ _ _ _=>rfl) us hl
 have m15:=W.mg_of X G a15
 have F16:=fun_mk (st:=top 18) l16 c16 k16
 have b16:=F16.binds (ps:=["_law_numbers","_law_p"]) fun _ _ _ _ _ _ us hl=>len2 (P:=fun us=>bindArgs _ ({ pos:=us }:Args)=pure (List.zip _ us)) (fun _ _=>rfl) us hl
 have m16:=W.mg_of X G a16
 have F17:=fun_mk (st:=top 19) l17 c17 k17
 have b17:=F17.binds (ps:=["_law_writer_here","_law_p","_law_q","_law_room","_law_row"]) fun _ _ _ _ _ _ us hl=>len5 (P:=fun us=>bindArgs _ ({ pos:=us }:Args)=pure (List.zip _ us)) (fun _ _ _ _ _=>rfl) us hl
 have m17:=W.mg_of X G a17
 have F18:=fun_mk (st:=top 20) l18 c18 k18
 have b18:=F18.binds (ps:=["_law_box_here","_law_p","_law_q","_law_writer_here","_law_room"]) fun _ _ _ _ _ _ us hl=>len5 (P:=fun us=>bindArgs _ ({ pos:=us }:Args)=pure (List.zip _ us)) (fun _ _ _ _ _=>rfl) us hl
 have m18:=W.mg_of X G a18
 have F19:=fun_mk (st:=top 21) l19 c19 k19
 have m19:=W.mg_of X G a19
 have n1:=W.mg_none_of X G z1
 have n2:=W.mg_none_of X G z2
 have n3:=W.mg_none_of X G z3
 have n4:=W.mg_none_of X G z4
 have n5:=W.mg_none_of X G z5
 have n6:=W.mg_none_of X G z6
 have n7:=W.mg_none_of X G z7
 have n8:=W.mg_none_of X G z8
 have n9:=W.mg_none_of X G z9
 have n10:=W.mg_none_of X G z10
 have n11:=W.mg_none_of X G z11
 have n12:=W.mg_none_of X G z12
 have n13:=W.mg_none_of X G z13
 have n14:=W.mg_none_of X G z14
 have n15:=W.mg_none_of X G z15
 have n16:=W.mg_none_of X G z16
 have n17:=W.mg_none_of X G z17
 have n18:=W.mg_none_of X G z18
 refine⟨W.fnOf "law" "law" (defArgs (top 21)) (defBody (top 21)) (defScope (top 21)) .none kV19 dc19 pm19 an19 cd19 ct19,fun s v=>.of_eq rfl,fun base _ _=>?_⟩
 have O1:=code_ok0 (P:=l.prog) (w:=w) (mg:=mg) (base:=base) (k:=0) F1 { N:=n_p_blocks_of,B:=b_p_blocks_of,K:=K,fs:=fsOf [] } sc_blocks rfl c_p_blocks_of m_blocks (sp:=spBlocksG) (by intro vs H Q E h;repeat (first|(obtain⟨rfl,_⟩:=h;rfl)|(obtain⟨_,h⟩:=h))) (hfs_of mN) (mC ⟨n4,(mC ⟨n5,mN⟩)⟩) ⟨n1,n2,n3⟩ (show tld b_p_blocks_of=false by decide +kernel) (show hat b_p_blocks_of=false by decide +kernel) rfl rfl (body_blocksG rfl  )
 have O2:=code_ok0 (P:=l.prog) (w:=w) (mg:=mg) (base:=base) (k:=0) F2 { N:=n_p_bits_by,B:=b_p_bits_by,K:=K,fs:=fsOf [] } sc_bitsby rfl c_p_bits_by m_bitsby (sp:=spBitsBy) (by intro vs H Q E h;repeat (first|(obtain⟨rfl,_⟩:=h;rfl)|(obtain⟨_,h⟩:=h))) (hfs_of mN) (mC ⟨n5,(mC ⟨n6,(mC ⟨n7,mN⟩)⟩)⟩) ⟨n1,n2,n3⟩ (show tld b_p_bits_by=false by decide +kernel) (show hat b_p_bits_by=false by decide +kernel) rfl rfl (body_bits_by rfl  )
 have O3:=code_ok0 (P:=l.prog) (w:=w) (mg:=mg) (base:=base) (k:=0) F3 { N:=n_p_doors_by,B:=b_p_doors_by,K:=K,fs:=fsOf [] } sc_doors rfl c_p_doors_by m_doors (sp:=spDoors) (by intro vs H Q E h;repeat (first|(obtain⟨rfl,_⟩:=h;rfl)|(obtain⟨_,h⟩:=h))) (hfs_of mN) (mC ⟨n8,mN⟩) ⟨n1,n2,n3⟩ (show tld b_p_doors_by=false by decide +kernel) (show hat b_p_doors_by=false by decide +kernel) rfl rfl (body_doors rfl  )
 have O4:=code_ok0 (P:=l.prog) (w:=w) (mg:=mg) (base:=base) (k:=1) F4 { N:=n_p_readable,B:=b_p_readable,K:=K,fs:=fsOf [("doors_by",spDoors)] } sc_readable rfl c_p_readable m_readable (sp:=spReadable) (by intro vs H Q E h;repeat (first|(obtain⟨rfl,_⟩:=h;rfl)|(obtain⟨_,h⟩:=h))) (hfs_of (mC ⟨⟨_,_,_,(O3).mono (by omega),m3,k3,b3⟩,mN⟩)) (mC ⟨n4,(mC ⟨n5,(mC ⟨n6,mN⟩)⟩)⟩) ⟨n1,n2,n3⟩ (show tld b_p_readable=false by decide +kernel) (show hat b_p_readable=false by decide +kernel) rfl rfl (body_readable rfl (show fsOf _ "doors_by"=some (spDoors) from lookup_here) )
 have O5:=code_ok0 (P:=l.prog) (w:=w) (mg:=mg) (base:=base) (k:=0) F5 { N:=n_p_common_beginning,B:=b_p_common_beginning,K:=K,fs:=fsOf [] } sc_com rfl c_p_common_beginning m_com (sp:=spCom) (by intro vs H Q E h;repeat (first|(obtain⟨rfl,_⟩:=h;rfl)|(obtain⟨_,h⟩:=h))) (hfs_of mN) (mC ⟨n4,mN⟩) ⟨n1,n2,n3⟩ (show tld b_p_common_beginning=false by decide +kernel) (show hat b_p_common_beginning=false by decide +kernel) rfl rfl (body_com rfl  )
 have O6:=code_ok0 (P:=l.prog) (w:=w) (mg:=mg) (base:=base) (k:=2) F6 { N:=n_p_surely,B:=b_p_surely,K:=K,fs:=fsOf [("blocks_of",spBlocksG),("readable",spReadable),("doors_by",spDoors),("bits_by",spBitsBy),("common_beginning",spCom)] } sc_surely rfl c_p_surely m_surely (sp:=spSurely) (by intro vs H Q E h;repeat (first|(obtain⟨rfl,_⟩:=h;rfl)|(obtain⟨_,h⟩:=h))) (hfs_of (mC ⟨⟨_,_,_,(O1).mono (by omega),m1,k1,b1⟩,(mC ⟨⟨_,_,_,(O4).mono (by omega),m4,k4,b4⟩,(mC ⟨⟨_,_,_,(O3).mono (by omega),m3,k3,b3⟩,(mC ⟨⟨_,_,_,(O2).mono (by omega),m2,k2,b2⟩,(mC ⟨⟨_,_,_,(O5).mono (by omega),m5,k5,b5⟩,mN⟩)⟩)⟩)⟩)⟩)) (mC ⟨n8,(mC ⟨n4,mN⟩)⟩) ⟨n1,n2,n3⟩ (show tld b_p_surely=false by decide +kernel) (show hat b_p_surely=false by decide +kernel) rfl rfl (body_surely rfl (show fsOf _ "blocks_of"=some (spBlocksG) from lookup_here) (show fsOf _ "readable"=some (spReadable) from((lookup_skip (by decide +kernel)).trans lookup_here)) (show fsOf _ "doors_by"=some (spDoors) from((lookup_skip (by decide +kernel)).trans ((lookup_skip (by decide +kernel)).trans lookup_here))) (show fsOf _ "bits_by"=some (spBitsBy) from((lookup_skip (by decide +kernel)).trans ((lookup_skip (by decide +kernel)).trans ((lookup_skip (by decide +kernel)).trans lookup_here)))) (show fsOf _ "common_beginning"=some (spCom) from((lookup_skip (by decide +kernel)).trans ((lookup_skip (by decide +kernel)).trans ((lookup_skip (by decide +kernel)).trans ((lookup_skip (by decide +kernel)).trans lookup_here))))) )
 have O7:=code_ok0 (P:=l.prog) (w:=w) (mg:=mg) (base:=base) (k:=0) F7 { N:=n_cell_at,B:=b_cell_at,K:=K,fs:=fsOf [] } sc_cell rfl c_cell_at m_cell (sp:=spCell K) (by intro vs H Q E h;repeat (first|(obtain⟨rfl,_⟩:=h;rfl)|(obtain⟨_,h⟩:=h))) (hfs_of mN) (mC ⟨n4,mN⟩) ⟨n1,n2,n3⟩ (show tld b_cell_at=false by decide +kernel) (show hat b_cell_at=false by decide +kernel) rfl rfl (body_cell (C:={ N:=n_cell_at,B:=b_cell_at,K:=K,fs:=fsOf [] }) rfl  )
 have O8:=box_fn (code_ok0 (P:=l.prog) (w:=w) (mg:=mg) (base:=base) (k:=1) F8 { N:=n_box,B:=b_box,K:=K,fs:=fsOf [("_law_cell_at",spCell K)] } sc_box rfl c_box m_box (sp:=spBox0 K) (by intro vs H Q E h;repeat (first|(obtain⟨rfl,_⟩:=h;rfl)|(obtain⟨_,h⟩:=h))) (hfs_of (mC ⟨⟨_,_,_,(O7).mono (by omega),m7,k7,b7⟩,mN⟩)) (mC ⟨n9,(mC ⟨n10,mN⟩)⟩) ⟨n1,n2,n3⟩ (show tld b_box=false by decide +kernel) (show hat b_box=false by decide +kernel) rfl rfl (body_box (C:={ N:=n_box,B:=b_box,K:=K,fs:=fsOf [("_law_cell_at",spCell K)] }) rfl (show fsOf _ "_law_cell_at"=some (spCell K) from lookup_here) ))
 have O9:=take_fn rfl (code_ok0 (P:=l.prog) (w:=w) (mg:=mg) (base:=base) (k:=0) F9 { N:=n_take,B:=b_take,K:=K,fs:=fsOf [] } sc_take rfl c_take m_take (sp:=spTake0) (by intro vs H Q E h;repeat (first|(obtain⟨rfl,_⟩:=h;rfl)|(obtain⟨_,h⟩:=h))) (hfs_of mN) mN ⟨n1,n2,n3⟩ (show tld b_take=false by decide +kernel) (show hat b_take=false by decide +kernel) rfl rfl (body_take rfl  ))
 have O10:=code_ok0 (P:=l.prog) (w:=w) (mg:=mg) (base:=base) (k:=1) F10 { N:=n_bits,B:=b_bits,K:=K,fs:=fsOf [("_law_take",spTake)] } sc_bits rfl c_bits m_bits (sp:=spBits) (by intro vs H Q E h;repeat (first|(obtain⟨rfl,_⟩:=h;rfl)|(obtain⟨_,h⟩:=h))) (hfs_of (mC ⟨⟨_,_,_,(O9).mono (by omega),m9,k9,b9⟩,mN⟩)) (mC ⟨n5,mN⟩) ⟨n1,n2,n3⟩ (show tld b_bits=false by decide +kernel) (show hat b_bits=false by decide +kernel) rfl rfl (body_bits rfl (show fsOf _ "_law_take"=some (spTake) from lookup_here) )
 have O11:=code_ok0 (P:=l.prog) (w:=w) (mg:=mg) (base:=base) (k:=0) F11 { N:=n_row_by,B:=b_row_by,K:=K,fs:=fsOf [] } sc_rowby rfl c_row_byZ m_rowby (sp:=spRowByZ) (by intro vs H Q E h;repeat (first|(obtain⟨rfl,_⟩:=h;rfl)|(obtain⟨_,h⟩:=h))) (hfs_of mN) (mC ⟨n5,(mC ⟨n7,mN⟩)⟩) ⟨n1,n2,n3⟩ (show tld b_row_by=false by decide +kernel) (show hat b_row_by=false by decide +kernel) rfl rfl (body_row_byZ rfl  )
 have O12:=code_ok0 (P:=l.prog) (w:=w) (mg:=mg) (base:=base) (k:=2) F12 { N:=n_writer,B:=b_writer,K:=K,fs:=fsOf [("_law_take",spTake),("_law_bits",spBits),("_law_row_by",spRowByZ)] } sc_writer rfl c_writerZ m_writer (sp:=spWriterZ) (by intro vs H Q E h;repeat (first|(obtain⟨rfl,_⟩:=h;rfl)|(obtain⟨_,h⟩:=h))) (hfs_of (mC ⟨⟨_,_,_,(O9).mono (by omega),m9,k9,b9⟩,(mC ⟨⟨_,_,_,(O10).mono (by omega),m10,k10,b10⟩,(mC ⟨⟨_,_,_,(O11).mono (by omega),m11,k11,b11⟩,mN⟩)⟩)⟩)) (mC ⟨n10,(mC ⟨n4,(mC ⟨n5,(mC ⟨n11,mN⟩)⟩)⟩)⟩) ⟨n1,n2,n3⟩ (show tld b_writer=false by decide +kernel) (show hat b_writer=false by decide +kernel) rfl rfl (body_writerZ rfl (show fsOf _ "_law_take"=some (spTake) from lookup_here) (show fsOf _ "_law_bits"=some (spBits) from((lookup_skip (by decide +kernel)).trans lookup_here)) (show fsOf _ "_law_row_by"=some (spRowByZ) from((lookup_skip (by decide +kernel)).trans ((lookup_skip (by decide +kernel)).trans lookup_here))) )
 have O13:=code_ok0 (P:=l.prog) (w:=w) (mg:=mg) (base:=base) (k:=0) F13 { N:=n_goes,B:=b_goes,K:=K,fs:=fsOf [] } sc_goes rfl c_goes m_goes (sp:=spGoes) (by intro vs H Q E h;repeat (first|(obtain⟨rfl,_⟩:=h;rfl)|(obtain⟨_,h⟩:=h))) (hfs_of mN) (mC ⟨n10,(mC ⟨n4,(mC ⟨n5,mN⟩)⟩)⟩) ⟨n1,n2,n3⟩ (show tld b_goes=false by decide +kernel) (show hat b_goes=false by decide +kernel) rfl rfl (body_goes rfl  )
 have O14:∀n,FnOk l.prog w K mg base CX0 (n+0+1) f14 (W.fnOf "_law_can" "_law_can" (defArgs (top 16)) (defBody (top 16)) (defScope (top 16)) .none kV14 dc14 pm14 an14 cd14 ct14) ["_law_writer_here","_law_q","_law_row"] (spCan n):=by
  intro n
  induction n with
  |zero=>exact code_ok0 (P:=l.prog) (w:=w) (mg:=mg) (base:=base) (k:=0+0) F14 { N:=n_can,B:=b_can,K:=K,fs:=fsOf [] } sc_can rfl c_can m_can (by intro vs H Q E h;repeat (first|(obtain⟨rfl,_⟩:=h;rfl)|(obtain⟨_,h⟩:=h))) (hfs_of mN) (mC ⟨n12,(mC ⟨n8,(mC ⟨n4,(mC ⟨n13,(mC ⟨n5,mN⟩)⟩)⟩)⟩)⟩) ⟨n1,n2,n3⟩ (show tld b_can=false by decide +kernel) (show hat b_can=false by decide +kernel) rfl rfl (body_can (C:={ N:=n_can,B:=b_can,K:=K,fs:=fsOf [] }) rfl (fun m h=>absurd h (by omega)) )
  |succ m ih=>exact code_ok0 (P:=l.prog) (w:=w) (mg:=mg) (base:=base) (k:=m+0+1) F14 { N:=n_can,B:=b_can,K:=K,fs:=fsOf [("_law_can",spCan m)] } sc_can rfl c_can m_can (by intro vs H Q E h;repeat (first|(obtain⟨rfl,_⟩:=h;rfl)|(obtain⟨_,h⟩:=h))) (hfs_of (mC ⟨⟨_,_,_,(ih).mono (by omega),m14,k14,b14⟩,mN⟩)) (mC ⟨n12,(mC ⟨n8,(mC ⟨n4,(mC ⟨n13,(mC ⟨n5,mN⟩)⟩)⟩)⟩)⟩) ⟨n1,n2,n3⟩ (show tld b_can=false by decide +kernel) (show hat b_can=false by decide +kernel) rfl rfl (body_can (C:={ N:=n_can,B:=b_can,K:=K,fs:=fsOf [("_law_can",spCan m)] }) rfl (fun m h=>by cases h;exact(show fsOf _ "_law_can"=some (spCan m) from lookup_here)) )
 have O15:=code_ok0 (P:=l.prog) (w:=w) (mg:=mg) (base:=base) (k:=14) F15 { N:=n_next,B:=b_next,K:=K,fs:=fsOf [("_law_can",spCan 12)] } sc_next rfl c_next m_next (sp:=spNext) (by intro vs H Q E h;repeat (first|(obtain⟨rfl,_⟩:=h;rfl)|(obtain⟨_,h⟩:=h))) (hfs_of (mC ⟨⟨_,_,_,(O14 12).mono (by omega),m14,k14,b14⟩,mN⟩)) (mC ⟨n8,(mC ⟨n14,(mC ⟨n15,mN⟩)⟩)⟩) ⟨n1,n2,n3⟩ (show tld b_next=false by decide +kernel) (show hat b_next=false by decide +kernel) rfl rfl (body_next rfl (show fsOf _ "_law_can"=some (spCan 12) from lookup_here) )
 have O16:=code_ok0 (P:=l.prog) (w:=w) (mg:=mg) (base:=base) (k:=1) F16 { N:=n_alike,B:=b_alike,K:=K,fs:=fsOf [("_law_row_by",spRowByZ)] } sc_alike rfl c_alike m_alike (sp:=spAlike) (by intro vs H Q E h;repeat (first|(obtain⟨rfl,_⟩:=h;rfl)|(obtain⟨_,h⟩:=h))) (hfs_of (mC ⟨⟨_,_,_,(O11).mono (by omega),m11,k11,b11⟩,mN⟩)) (mC ⟨n16,mN⟩) ⟨n1,n2,n3⟩ (show tld b_alike=false by decide +kernel) (show hat b_alike=false by decide +kernel) rfl rfl (body_alike rfl (show fsOf _ "_law_row_by"=some (spRowByZ) from lookup_here) )
 have O17:=code_ok0 (P:=l.prog) (w:=w) (mg:=mg) (base:=base) (k:=15) F17 { N:=n_due,B:=b_due,K:=K,fs:=fsOf [("_law_can",spCan 12),("_law_next",spNext),("_law_alike",spAlike)] } sc_due rfl c_due m_due (sp:=spDue) (by intro vs H Q E h;repeat (first|(obtain⟨rfl,_⟩:=h;rfl)|(obtain⟨_,h⟩:=h))) (hfs_of (mC ⟨⟨_,_,_,(O14 12).mono (by omega),m14,k14,b14⟩,(mC ⟨⟨_,_,_,(O15).mono (by omega),m15,k15,b15⟩,(mC ⟨⟨_,_,_,(O16).mono (by omega),m16,k16,b16⟩,mN⟩)⟩)⟩)) (mC ⟨n4,(mC ⟨n13,mN⟩)⟩) ⟨n1,n2,n3⟩ (show tld b_due=false by decide +kernel) (show hat b_due=false by decide +kernel) rfl rfl (body_due rfl (show fsOf _ "_law_can"=some (spCan 12) from lookup_here) (show fsOf _ "_law_next"=some (spNext) from((lookup_skip (by decide +kernel)).trans lookup_here)) (show fsOf _ "_law_alike"=some (spAlike) from((lookup_skip (by decide +kernel)).trans ((lookup_skip (by decide +kernel)).trans lookup_here))) )
 have O18:=code_ok0 (P:=l.prog) (w:=w) (mg:=mg) (base:=base) (k:=2) F18 { N:=n_some_row,B:=b_some_row,K:=K,fs:=fsOf [("_law_take",spTake),("_law_bits",spBits),("_law_goes",spGoes)] } sc_some rfl c_some_row m_some (sp:=spSome) (by intro vs H Q E h;repeat (first|(obtain⟨rfl,_⟩:=h;rfl)|(obtain⟨_,h⟩:=h))) (hfs_of (mC ⟨⟨_,_,_,(O9).mono (by omega),m9,k9,b9⟩,(mC ⟨⟨_,_,_,(O10).mono (by omega),m10,k10,b10⟩,(mC ⟨⟨_,_,_,(O13).mono (by omega),m13,k13,b13⟩,mN⟩)⟩)⟩)) (mC ⟨n10,(mC ⟨n4,mN⟩)⟩) ⟨n1,n2,n3⟩ (show tld b_some_row=false by decide +kernel) (show hat b_some_row=false by decide +kernel) rfl rfl (body_some rfl (show fsOf _ "_law_take"=some (spTake) from lookup_here) (show fsOf _ "_law_bits"=some (spBits) from((lookup_skip (by decide +kernel)).trans lookup_here)) (show fsOf _ "_law_goes"=some (spGoes) from((lookup_skip (by decide +kernel)).trans ((lookup_skip (by decide +kernel)).trans lookup_here))) )
 exact code_ok0 (P:=l.prog) (w:=w) (mg:=mg) (base:=base) (k:=59) F19 { N:=n_law,B:=b_law,K:=K,fs:=fsOf [("_law_box",spBox K),("_law_take",spTake),("_law_writer",spWriterZ),("_law_some_row",spSome),("_law_due",spDue),("surely",spSurely)] } sc_law rfl c_law m_law (sp:=spLaw K) (by intro vs H Q E h;repeat (first|(obtain⟨rfl,_⟩:=h;rfl)|(obtain⟨_,h⟩:=h))) (hfs_of (mC ⟨⟨_,_,_,(O8).mono (by omega),m8,k8,b8⟩,(mC ⟨⟨_,_,_,(O9).mono (by omega),m9,k9,b9⟩,(mC ⟨⟨_,_,_,(O12).mono (by omega),m12,k12,b12⟩,(mC ⟨⟨_,_,_,(O18).mono (by omega),m18,k18,b18⟩,(mC ⟨⟨_,_,_,(O17).mono (by omega),m17,k17,b17⟩,(mC ⟨⟨_,_,_,(O6).mono (by omega),m6,k6,b6⟩,mN⟩)⟩)⟩)⟩)⟩)⟩)) (mC ⟨n17,(mC ⟨n4,(mC ⟨n18,(mC ⟨n5,(mC ⟨n7,mN⟩)⟩)⟩)⟩)⟩) ⟨n1,n2,n3⟩ (show tld b_law=false by decide +kernel) (show hat b_law=false by decide +kernel) rfl rfl (body_law (C:={ N:=n_law,B:=b_law,K:=K,fs:=fsOf [("_law_box",spBox K),("_law_take",spTake),("_law_writer",spWriterZ),("_law_some_row",spSome),("_law_due",spDue),("surely",spSurely)] }) rfl ⟨(show fsOf _ "_law_box"=some (spBox K) from lookup_here),(show fsOf _ "_law_take"=some (spTake) from((lookup_skip (by decide +kernel)).trans lookup_here)),(show fsOf _ "_law_writer"=some (spWriterZ) from((lookup_skip (by decide +kernel)).trans ((lookup_skip (by decide +kernel)).trans lookup_here))),(show fsOf _ "_law_some_row"=some (spSome) from((lookup_skip (by decide +kernel)).trans ((lookup_skip (by decide +kernel)).trans ((lookup_skip (by decide +kernel)).trans lookup_here)))),(show fsOf _ "_law_due"=some (spDue) from((lookup_skip (by decide +kernel)).trans ((lookup_skip (by decide +kernel)).trans ((lookup_skip (by decide +kernel)).trans ((lookup_skip (by decide +kernel)).trans lookup_here))))),(show fsOf _ "surely"=some (spSurely) from((lookup_skip (by decide +kernel)).trans ((lookup_skip (by decide +kernel)).trans ((lookup_skip (by decide +kernel)).trans ((lookup_skip (by decide +kernel)).trans ((lookup_skip (by decide +kernel)).trans lookup_here))))))⟩ )
theorem walk {l:W.OpenLaw} {q:Program} {loose:List Str} {XP:(Str->Option Value)->Heap->Prop} {d:DefRec} {K:Params->W.Frag} {bs:List Addr} {m t:Nat} (hn:l.most=some 63) (hdf:d.params.defaults=[]) (e:∀P,bs=(K P).map (·.1))
  (F:∀(w:World) (mg:Str->Option Value) (fa:Addr) (h:Heap),(K w.params).In h->h.Ns mainGlobals mg->mg d.name=some (.ref fa)->
   ∃fd:FuncData,(∀(s:Shared) (u:Value),BindsTo s fd ⟨[u],[]⟩ [("_law_script",u)])/\∀base:Heap,(K w.params).In base->base.Ns mainGlobals mg->FnOk l.prog w (K w.params) mg base CX0 60 fa fd ["_law_script"] (spLaw (K w.params))):
  W.WalkX q loose XP (W.X.obsZ bs) (W.X.valZ K m t) l.row.toRowW d [] (fun f vs=>PySem.call f vs):=
 fun w s₀ s₁ mg mb G y a o pm cd doc dV kV h1 h2 h3 h4 h5 h6 args vals cs La=>L2.walk_of (YP:=fun w h=>(K w.params).In h) (n:=63) (k:=60) (x:="_law_script") (CX:=fun _=>CX0) (sp:=fun w=>spLaw (K w.params)) hn (by decide) hdf ⟨rfl,by decide,by decide,rfl⟩ (fun _ _ Y=>Y) F (fun _ _ a ns hl _ hS=>⟨a,ns,rfl,hS,hl,fun _=>rfl⟩) (fun _ _ _ _ _ z=>z) w s₀ s₁ mg mb G (W.InK.keeps w _ _ (W.X.z_facts e y).2.1 La.keeps) a o pm cd doc dV kV h1 h2 h3 h4 h5 h6 args vals cs
end K44
end
open PySem PySem.W PyProof.Rows
set_option maxRecDepth 100000 in
set_option maxHeartbeats 0 in
theorem PySem.Challenge.cw_runbound_k44_surely_read_holds : PySem.Challenge.rw_runbound_k44_surely_read.Holds := by
 w_on; o_law; z_head; (case hw => w_witness2)
 k_fill
 refine K44.walk (l := PySem.Challenge.rw_runbound_k44_surely_read) rfl rfl (fun _ => rfl) ?F
 case F =>
  intro w mg fa h KX G hmg
  refine' K44.all_mk KX G hmg ?a1 ?l1 ?c1 ?k1 ?a2 ?l2 ?c2 ?k2 ?a3 ?l3 ?c3 ?k3 ?a4 ?l4 ?c4 ?k4 ?a5 ?l5 ?c5 ?k5 ?a6 ?l6 ?c6 ?k6 ?a7 ?l7 ?c7 ?k7 ?a8 ?l8 ?c8 ?k8 ?a9 ?l9 ?c9 ?k9 ?a10 ?l10 ?c10 ?k10 ?a11 ?l11 ?c11 ?k11 ?a12 ?l12 ?c12 ?k12 ?a13 ?l13 ?c13 ?k13 ?a14 ?l14 ?c14 ?k14 ?a15 ?l15 ?c15 ?k15 ?a16 ?l16 ?c16 ?k16 ?a17 ?l17 ?c17 ?k17 ?a18 ?l18 ?c18 ?k18 ?a19 ?l19 ?c19 ?k19 ?z1 ?z2 ?z3 ?z4 ?z5 ?z6 ?z7 ?z8 ?z9 ?z10 ?z11 ?z12 ?z13 ?z14 ?z15 ?z16 ?z17 ?z18 
  (case a1 => k_is); (case l1 => k_is); (case c1 => k_is); (case k1 => k_is)
  (case a2 => k_is); (case l2 => k_is); (case c2 => k_is); (case k2 => k_is)
  (case a3 => k_is); (case l3 => k_is); (case c3 => k_is); (case k3 => k_is)
  (case a4 => k_is); (case l4 => k_is); (case c4 => k_is); (case k4 => k_is)
  (case a5 => k_is); (case l5 => k_is); (case c5 => k_is); (case k5 => k_is)
  (case a6 => k_is); (case l6 => k_is); (case c6 => k_is); (case k6 => k_is)
  (case a7 => k_is); (case l7 => k_is); (case c7 => k_is); (case k7 => k_is)
  (case a8 => k_is); (case l8 => k_is); (case c8 => k_is); (case k8 => k_is)
  (case a9 => k_is); (case l9 => k_is); (case c9 => k_is); (case k9 => k_is)
  (case a10 => k_is); (case l10 => k_is); (case c10 => k_is); (case k10 => k_is)
  (case a11 => k_is); (case l11 => k_is); (case c11 => k_is); (case k11 => k_is)
  (case a12 => k_is); (case l12 => k_is); (case c12 => k_is); (case k12 => k_is)
  (case a13 => k_is); (case l13 => k_is); (case c13 => k_is); (case k13 => k_is)
  (case a14 => k_is); (case l14 => k_is); (case c14 => k_is); (case k14 => k_is)
  (case a15 => k_is); (case l15 => k_is); (case c15 => k_is); (case k15 => k_is)
  (case a16 => k_is); (case l16 => k_is); (case c16 => k_is); (case k16 => k_is)
  (case a17 => k_is); (case l17 => k_is); (case c17 => k_is); (case k17 => k_is)
  (case a18 => k_is); (case l18 => k_is); (case c18 => k_is); (case k18 => k_is)
  (case a19 => k_is); (case l19 => k_is); (case c19 => k_is); (case k19 => k_is)
  (case z1 => k_is)
  (case z2 => k_is)
  (case z3 => k_is)
  (case z4 => k_is)
  (case z5 => k_is)
  (case z6 => k_is)
  (case z7 => k_is)
  (case z8 => k_is)
  (case z9 => k_is)
  (case z10 => k_is)
  (case z11 => k_is)
  (case z12 => k_is)
  (case z13 => k_is)
  (case z14 => k_is)
  (case z15 => k_is)
  (case z16 => k_is)
  (case z17 => k_is)
  (case z18 => k_is)