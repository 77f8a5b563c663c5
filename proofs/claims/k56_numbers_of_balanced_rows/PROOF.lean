import PyProof.Rows.All
import Wide.All
import OpenK.AllK
import Wide.FinOn
import Lean
import PyProof.EqAt
import PyProof.EqKinds
import PyProof.TupleCall
import PyProof.Rows.TupAdd
import PyProof.Rows.SortStr
import PyProof.Rows.SortWalk
import PyProof.CollectIter
import PyProof.Rows.Tup
import PyProof.TupleOfSeq
import PyProof.ReprRoads
import PyProof.CallStr
import PyProof.SeqRoads2
import KE.KDictList
import KE.KSortTup
import PyProof.SetRoads
import PyProof.Rows.SetFrom
import PyProof.Rows.SortShell
import PySem.Challenge.RW_runbound_k56_numbers_of_balanced_rows
set_option Elab.async false
set_option compiler.extract_closed false
set_option linter.all false
set_option maxRecDepth 100000
namespace L2
open PySem PySem.Spec PyProof.Rows
section
variable {prog:Program} {w:World} {A:Around} {E:Value->Shared->Prop} {s:Shared}
theorem typeIs_none' (s:Shared):s.TypeIs .none "NoneType":=rfl
theorem hash_none {Q:Int->Shared->Prop} (h:Q 0xFCA86420 { s with toks:=s.toks+1 }):wpAny (model prog w) A (pyHash .none) Q E s:=by
 unfold pyHash
 have hv:[Value.none].any Value.onHeap=false:=rfl
 refine wpAny_bind ?_
 rw[cRoomFor,if_neg (by rw[hv];exact Bool.false_ne_true)];refine wpAny_pure ?_
 refine wpAny_bind (wpAny_specialOf (typeIs_none' s) F.slot_NoneType_hash.lookup ?_)
 show wpAny _ _ (if(some (Value.builtin "NoneType.__hash__") == some Value.none)=true then _ else _) Q E s
 rw[if_neg (by rw[beq_builtin_none];exact Bool.false_ne_true)]
 refine wpAny_bind (wpAny_specialOf (typeIs_none' s) F.slot_NoneType_hash.lookup ?_)
 show wpAny _ _ (callSpecialIfBoundUnlessNone? (.none) "__hash__" _ >>= _) Q E s
 refine wpAny_bind (wpAny_callSpecialIfBoundUnlessNone?_slot (typeIs_none' s) F.slot_NoneType_hash
  (wpAny_call_entry F.slot_NoneType_hash (typeIs_none' s) F.entry_NoneType_hash
   (show wpAny _ _ (do ret (<- mkInt 0xFCA86420)) _ _ s from wpAny_ret_mkInt ?_) (F.args_NoneType_hash_1 _)))
 exact wpAny_pure h
end
inductive Key where
 |inl (i:Int)|inr (x:Str)|non
 deriving DecidableEq
noncomputable def keyIs:Key->Value->Bool
 | .inl k,v=>Value.isInt k v
 | .inr x,v=>Value.isStrOf x v
 | .non,.none=>true
 | .non,_=>false
noncomputable def keyH (w:World):Key->Int
 | .inl k=>hashInt k
 | .inr x=>hashStr w x
 | .non=>0xFCA86420
theorem keyIs_shape:∀{k:Key} {v:Value},keyIs k v=true->(∃i t,k=Key.inl i/\v=Value.int i t)\/(∃x t,k=Key.inr x/\v=Value.str x t)\/(k=Key.non/\v=Value.none)
 | .inl i,v,h=>by
  obtain⟨t,e⟩:=Value.isInt_shape (k:=i) (v:=v) h
  exact .inl ⟨i,t,rfl,e⟩
 | .inr x,v,h=>by
  obtain⟨t,e⟩:=Value.isStrOf_shape (x:=x) (v:=v) h
  exact .inr (.inl ⟨x,t,rfl,e⟩)
 | .non,v,h=>by cases v<;>first|exact .inr (.inr ⟨rfl,rfl⟩)|cases h
theorem keyIs_int (i:Int) (t:Tok):keyIs (.inl i) (.int i t)=true:=by simp[keyIs,Value.isInt]
theorem keyIs_str (x:Str) (t:Tok):keyIs (.inr x) (.str x t)=true:=by simp[keyIs,Value.isStrOf]
theorem key_ll (a b:Int):decide ((Key.inl a:Key)=Key.inl b)=(a == b):=by
 by_cases e:a=b
 .rw[e,decide_eq_true rfl,beq_self_eq_true]
 .rw[decide_eq_false (fun q=>e (Key.inl.inj q)),beq_eq_false_iff_ne.mpr e]
theorem key_rr (a b:Str):decide ((Key.inr a:Key)=Key.inr b)=decide (a=b):=by
 by_cases e:a=b
 .rw[e,decide_eq_true rfl,decide_eq_true rfl]
 .rw[decide_eq_false (fun q=>e (Key.inr.inj q)),decide_eq_false e]
theorem key_no {a b:Key} (h:a≠b):decide (a=b)=false:=decide_eq_false h
noncomputable def mixKind (prog:Program) (w:World):PySem.KeyKind prog w Key where
 is:=keyIs
 hash:=keyH w
 inj:=fun v a b ha hb=>by
  rcases keyIs_shape ha with⟨i,t,rfl,rfl⟩|⟨x,t,rfl,rfl⟩|⟨rfl,rfl⟩<;>rcases keyIs_shape hb with⟨j,u,rfl,e⟩|⟨y,u,rfl,e⟩|⟨rfl,e⟩<;>
   first|rfl|(injection e with e1 _;rw[e1])|exact nomatch e
 byValue:=fun k v h=>by
  rcases keyIs_shape h with⟨i,t,rfl,rfl⟩|⟨x,t,rfl,rfl⟩|⟨rfl,rfl⟩<;>rfl
 pyHash:=fun hv h=>by
  rcases keyIs_shape hv with⟨i,t,rfl,rfl⟩|⟨x,t,rfl,rfl⟩|⟨rfl,rfl⟩
  .exact wpAny_pyHash_int h
  .exact wpAny_pyHash_str h
  .exact hash_none h
 eqBool:=fun {A E s a b u v Q} hu hv h=>by
  rcases keyIs_shape hu with⟨i,t,rfl,rfl⟩|⟨x,t,rfl,rfl⟩|⟨rfl,rfl⟩
  .rcases keyIs_shape hv with⟨j,u,rfl,rfl⟩|⟨y,u,rfl,rfl⟩|⟨rfl,rfl⟩
   .rw[key_ll]at h;exact wpAny_eqBool_int h
   .rw[key_no (a:=Key.inl i) (b:=Key.inr y) (fun q=>nomatch q)]at h;exact SeqAt.EqAt.int_str i t y u _ _ _ _ h
   .rw[key_no (a:=Key.inl i) (b:=Key.non) (fun q=>nomatch q)]at h;exact SeqAt.EqAt.int_none i t _ _ _ _ h
  .rcases keyIs_shape hv with⟨j,u,rfl,rfl⟩|⟨y,u,rfl,rfl⟩|⟨rfl,rfl⟩
   .rw[key_no (a:=Key.inr x) (b:=Key.inl j) (fun q=>nomatch q)]at h;exact SeqAt.EqAt.str_int x t j u _ _ _ _ h
   .rw[key_rr]at h;exact wpAny_eqBool_str h
   .rw[key_no (a:=Key.inr x) (b:=Key.non) (fun q=>nomatch q)]at h;exact SeqAt.EqAt.str_none x t _ _ _ _ h
  .rcases keyIs_shape hv with⟨j,u,rfl,rfl⟩|⟨y,u,rfl,rfl⟩|⟨rfl,rfl⟩
   .rw[key_no (a:=Key.non) (b:=Key.inl j) (fun q=>nomatch q)]at h;exact SeqAt.EqAt.none_int j u _ _ _ _ h
   .rw[key_no (a:=Key.non) (b:=Key.inr y) (fun q=>nomatch q)]at h;exact SeqAt.EqAt.none_str y u _ _ _ _ h
   .rw[decide_eq_true rfl]at h;exact SeqAt.EqAt.same .none _ _ _ _ h
 «strs»:=fun k x t v h=>by
  rcases keyIs_shape h with⟨i,u,rfl,e⟩|⟨y,u,rfl,e⟩|⟨rfl,e⟩
  .exact nomatch e
  .injection e with e1 _
   subst e1
   cases v<;>rfl
  .exact nomatch e
theorem mixKind_int (prog:Program) (w:World) (i:Int) (t:Tok):(mixKind prog w).is (.inl i) (.int i t)=true:=keyIs_int i t
theorem mixKind_str (prog:Program) (w:World) (x:Str) (t:Tok):(mixKind prog w).is (.inr x) (.str x t)=true:=keyIs_str x t
inductive V where
 |non|bl (b:Bool)|int (i:Int)|str (x:Str)|byt (b:Array UInt8)|flt (b:UInt64)|ref (a:Addr)|ty (n:String)
 deriving DecidableEq
noncomputable def RelV:V->Value->Prop
 | .non,u=>u=Value.none
 | .bl b,u=>u=Value.bool b
 | .int i,u=>∃t,u=Value.int i t
 | .str x,u=>∃t,u=Value.str x t
 | .byt b,u=>∃t,u=Value.bytes b t
 | .flt b,u=>∃t,u=Value.float b t
 | .ref a,u=>u=Value.ref a
 | .ty n,u=>u=Value.type n
noncomputable abbrev Vals:List V->List Value->Prop:=Paired RelV
theorem Vals.length {xs:List V} {us:List Value} (r:Vals xs us):xs.length=us.length:=Paired.length r
theorem Vals.get:∀{xs:List V} {us:List Value} {i:Nat} {x:V},Vals xs us->xs[i]?=some x->∃u,us[i]?=some u/\RelV x u
 |_,_,_,_,.nil,e=>by simp at e
 |_,_,0,_,.cons r _,e=>by simp at e;subst e;exact⟨_,rfl,r⟩
 |_,_,i+1,x,.cons _ t,e=>by
  obtain⟨u,h1,h2⟩:=Vals.get (i:=i) (x:=x) t (by simpa using e)
  exact⟨u,by simpa using h1,h2⟩
theorem Vals.set {x:V} {u:Value} (r:RelV x u):∀{xs:List V} {us:List Value} (i:Nat),Vals xs us->Vals (xs.set i x) (us.set i u)
 |_,_,_,.nil=>.nil
 |_,_,0,.cons _ t=>.cons r t
 |_,_,i+1,.cons q t=>.cons q (Vals.set r i t)
theorem Vals.append:∀{xs ys:List V} {us ws:List Value},Vals xs us->Vals ys ws->Vals (xs++ys) (us++ws)
 |_,_,_,_,.nil,s=>s
 |_,_,_,_,.cons r t,s=>.cons r (Vals.append t s)
theorem Vals.take:∀{xs:List V} {us:List Value} (n:Nat),Vals xs us->Vals (xs.take n) (us.take n)
 |_,_,0,_=>.nil
 |_,_,_+1,.nil=>.nil
 |_,_,n+1,.cons r t=>.cons r (Vals.take n t)
theorem Vals.drop:∀{xs:List V} {us:List Value} (n:Nat),Vals xs us->Vals (xs.drop n) (us.drop n)
 |_,_,0,r=>r
 |_,_,_+1,.nil=>.nil
 |_,_,n+1,.cons _ t=>Vals.drop n t
noncomputable def RelO:Option V->Option Value->Prop
 |some v,some u=>RelV v u
 |none,none=>True
 |_,_=>False
noncomputable def KV {κ:Type}:List (κ×V)->List (κ×Value)->Prop:=Paired fun(p:κ×V) (q:κ×Value)=>p.1=q.1/\RelV p.2 q.2
noncomputable def kV:Key->V
 | .inl i=>.int i
 | .inr x=>.str x
 | .non=>.non
inductive HO where
 |lst (xs:List V)
 |tup (xs:List V)
 |dK (kvs:List (Key×V))|dT (kvs:List (List Key×V))
 |set (S:Int->Bool) (n:Nat)
 |ins (C dx:Addr) (fs:List (Str×V))
 |own (x:Addr)
 |xd (fs:List (Str×V))
 |met (f x:Addr)
 |rng (lo hi:Int)
 |frz (o:Obj) (u:HO)
 |tbl (ps:Array Value)
 |ext (φ:Heap->Prop)
noncomputable abbrev Hp:=Addr->Option HO
noncomputable def upd (H:Hp) (a:Addr) (o:HO):Hp:=fun b=>if b=a then some o else H b
theorem upd_same {H:Hp} {a:Addr} {o:HO}:upd H a o a=some o:=by unfold upd;rw[if_pos rfl]
theorem upd_ne {H:Hp} {a b:Addr} {o:HO} (h:b≠a):upd H a o b=H b:=by unfold upd;rw[if_neg h]
theorem upd_upd {H:Hp} {a:Addr} {o u:HO}:upd (upd H a o) a u=upd H a u:=by
 funext b;unfold upd;split<;>rfl
theorem ne_of {H:Hp} {a b:Addr} {o u:HO} (h:H a=some o) (h':H b=some u) (d:o≠u):a≠b:=by
 intro e;subst e;rw[h]at h';exact d (Option.some.inj h')
theorem ne_of_none {H:Hp} {a b:Addr} {o:HO} (h:H a=some o) (h':H b=none):a≠b:=by
 intro e;subst e;rw[h]at h';cases h'
def TupD (h:Heap) (a:Addr) (items:Array Value):Prop:=∃o,h.get? a=some o/\o.cls=.type "tuple"/\(∃n,o.data=.seq items n)/\o.dict=none
theorem TupD.tup {h:Heap} {a:Addr} {items:Array Value} (x:TupD h a items):IsTup h a items:=let⟨o,e,c,⟨n,d⟩,_⟩:=x;⟨o,e,c,n,d⟩
theorem TupD.new (h:Heap) (items:Array Value):TupD (h.push { cls:=.type "tuple",data:=.seq items }) h.objs.size items:=⟨_,Heap.get?_push_size _ rfl,rfl,⟨_,rfl⟩,rfl⟩
section
variable (P:Program) (w:World)
noncomputable def ObjOk (H:Hp) (h:Heap) (a:Addr):HO->Prop
 | .lst xs=>xs.length<=sizeLine/\∃(its:List Value) (n:Nat),Vals xs its/\h.get? a=some { cls:=.type "list",data:=.seq its.toArray n }
 | .tup xs=>xs.length<=sizeLine/\∃its:List Value,Vals xs its/\TupD h a its.toArray
 | .dK kvs=>kvs.length<=sizeLine/\(a == sysModules)=false/\∃vs,KV kvs vs/\h.DictOf (mixKind P w) a vs
 | .dT kvs=>kvs.length<=sizeLine/\(a == sysModules)=false/\∃xs:List (List Key×Addr×Value),
   Paired (fun(p:List Key×V) (q:List Key×Addr×Value)=>p.1=q.1/\H q.2.1=some (.tup (p.1.map kV))/\RelV p.2 q.2.2) kvs xs/\
   ∃o es ep,h.get? a=some o/\o.ExactDict/\o.data=.dict es ep/\es.toList=xs.map (entryOfKey (tupleKind (mixKind P w)))/\(xs.map (·.1)).Nodup
 | .set S n=>h.SetOf (intKind P w) a S n
 | .ins C dx fs=>H dx=some (.own a)/\fs.length<=1000/\dx≠a/\h.get? a=some (W.instObj C dx)/\
   ∃mA,h.Ns1 dx mA/\(∀f,RelO (fs.lookup f) (mA f))/\PySem.Within mA (fs.map (·.1))
 | .own _=>∃o,h.get? a=some o
 | .xd fs=>∃mA,h.Ns1 a mA/\∀f,RelO (fs.lookup f) (mA f)
 | .rng lo hi=>∃t u v,h.get? a=some { cls:=.type "range",data:=.fields #[.int lo t,.int hi u,.int 1 v] }
 | .frz o u=>h.get? a=some o/\ObjOk H h a u
 | .tbl ps=>h.get? a=some { cls:=.none,data:=.fields ps }
 | .met f x=>h.get? a=some (W.methodObj (.ref f) (.ref x))
 | .ext φ=>φ h/\(∃o,h.get? a=some o)/\∀h1 h2:Heap,φ h1->(∀o,h1.get? a=some o->h2.get? a=some o)->φ h2
def HOk (H:Hp) (h:Heap):Prop:=∀a o,H a=some o->ObjOk P w H h a o
end
section
variable {P:Program} {w:World} {H H':Hp} {h h':Heap} {a:Addr} {o:HO}
theorem ObjOk.lt (x:ObjOk P w H h a o):a<h.objs.size:=by
 cases o with
 |lst xs=>obtain⟨_,_,_,_,e⟩:=x;exact Heap.lt_size e
 |tup xs=>obtain⟨_,_,_,p⟩:=x;exact p.tup.lt
 |dK kvs=>obtain⟨_,_,_,_,o,_,_,e,_⟩:=x;exact Heap.lt_size e
 |dT kvs=>obtain⟨_,_,_,_,o,_,_,e,_⟩:=x;exact Heap.lt_size e
 |set S n=>obtain⟨o,_,_,_,e,_⟩:=x;exact Heap.lt_size e
 |ins C dx fs=>obtain⟨_,_,_,e,_⟩:=x;exact Heap.lt_size e
 |own y=>obtain⟨_,e⟩:=x;exact Heap.lt_size e
 |xd fs=>obtain⟨_,⟨_,_,_,e,_⟩,_⟩:=x;exact Heap.lt_size e
 |rng lo hi=>obtain⟨_,_,_,e⟩:=x;exact Heap.lt_size e
 |frz ob u=>obtain⟨e,_⟩:=x;exact Heap.lt_size e
 |tbl ps=>exact Heap.lt_size (show h.get? a=some _ from x)
 |met f y=>exact Heap.lt_size (show h.get? a=some _ from x)
 |ext φ=>obtain⟨_,⟨_,e⟩,_⟩:=x;exact Heap.lt_size e
theorem Paired.mapP {α β:Type} {F G:α->β->Prop}:∀{l₁:List α} {l₂:List β},Paired F l₁ l₂->(∀a b,F a b->G a b)->Paired G l₁ l₂
 |_,_,.nil,_=>.nil
 |_,_,.cons r t,f=>.cons (f _ _ r) (Paired.mapP t f)
theorem ObjOk.stay (x:ObjOk P w H h a o) (k:∀b u,(b=a\/H b=some (.own a))->h.get? b=some u->h'.get? b=some u)
  (ho:∀b,H b=some (.own a)->H' b=some (.own a)) (ht:∀b xs,H b=some (.tup xs)->H' b=some (.tup xs)):ObjOk P w H' h' a o:=by
 induction o with
 |lst xs=>obtain⟨z,its,n,r,e⟩:=x;exact⟨z,its,n,r,k _ _ (.inl rfl) e⟩
 |tup xs=>obtain⟨z,its,r,ob,e,c⟩:=x;exact⟨z,its,r,ob,k _ _ (.inl rfl) e,c⟩
 |dK kvs=>obtain⟨z,y,vs,r,ob,es,ep,e,c⟩:=x;exact⟨z,y,vs,r,ob,es,ep,k _ _ (.inl rfl) e,c⟩
 |dT kvs=>
  obtain⟨z,y,xs,r,ob,es,ep,e,c⟩:=x
  exact⟨z,y,xs,Paired.mapP r fun p q z=>⟨z.1,ht _ _ z.2.1,z.2.2⟩,ob,es,ep,k _ _ (.inl rfl) e,c⟩
 |set S n=>obtain⟨ob,es,ep,t,e,c⟩:=x;exact⟨ob,es,ep,t,k _ _ (.inl rfl) e,c⟩
 |ins C dx fs=>
  obtain⟨d,z,ne,e,mA,⟨od,es,ep,e2,c⟩,r⟩:=x
  exact⟨ho _ d,z,ne,k _ _ (.inl rfl) e,mA,⟨od,es,ep,k _ _ (.inr d) e2,c⟩,r⟩
 |own y=>obtain⟨ob,e⟩:=x;exact⟨ob,k _ _ (.inl rfl) e⟩
 |xd fs=>obtain⟨mA,⟨od,es,ep,e,c⟩,r⟩:=x;exact⟨mA,⟨od,es,ep,k _ _ (.inl rfl) e,c⟩,r⟩
 |rng lo hi=>obtain⟨t,u,v,e⟩:=x;exact⟨t,u,v,k _ _ (.inl rfl) e⟩
 |frz ob u ih=>obtain⟨e,q⟩:=x;exact⟨k _ _ (.inl rfl) e,ih q⟩
 |tbl ps=>
  have e:h.get? a=some { cls:=.none,data:=.fields ps }:=x
  show h'.get? a=some { cls:=.none,data:=.fields ps }
  exact k a _ (.inl rfl) e
 |met f y=>
  have e:h.get? a=some (W.methodObj (.ref f) (.ref y)):=x
  show h'.get? a=some (W.methodObj (.ref f) (.ref y))
  exact k a _ (.inl rfl) e
 |ext φ=>obtain⟨p,⟨o,e⟩,st⟩:=x;exact⟨st _ _ p fun o q=>k _ _ (.inl rfl) q,⟨o,k _ _ (.inl rfl) e⟩,st⟩
theorem HOk.lt (x:HOk P w H h) (e:H a=some o):a<h.objs.size:=(x a o e).lt
theorem HOk.fresh (x:HOk P w H h) (e:h.objs.size<=a):H a=none:=by
 cases q:H a with
 |none=>rfl
 |some u=>exact absurd (Nat.lt_of_lt_of_le (x.lt q) e) (Nat.lt_irrefl _)
theorem HOk.kept (x:HOk P w H h) (k:∀b u,h.get? b=some u->h'.get? b=some u):HOk P w H h':=fun a o e=>
 (x a o e).stay (fun b u _ q=>k b u q) (fun _ q=>q) fun _ _ q=>q
theorem HOk.laid (x:HOk P w H h) (k:∀b u,h.get? b=some u->h'.get? b=some u) (hp:h.objs.size<=a) (new:ObjOk P w (upd H a o) h' a o):HOk P w (upd H a o) h':=fun b u e=>by
 have hn:=x.fresh hp
 by_cases hb:b=a
 .subst hb;rw[upd_same]at e;cases e;exact new
 .rw[upd_ne hb]at e
  exact(x b u e).stay (fun c v _ q=>k c v q) (fun c q=>by rw[upd_ne (ne_of_none q hn)];exact q) fun c xs q=>by rw[upd_ne (ne_of_none q hn)];exact q
end
def Rd (H:Hp) (a:Addr) (u:HO):Prop:=H a=some u\/∃o,H a=some (.frz o u)
theorem Rd.ok {P:Program} {w:World} {H:Hp} {h:Heap} {a:Addr} {u:HO} (r:Rd H a u) (x:HOk P w H h):ObjOk P w H h a u:=by
 rcases r with r|⟨o,r⟩
 .exact x a u r
 .obtain⟨_,q⟩:=x a _ r
  exact q
noncomputable def Mut:Option HO->Prop
 |some (.lst _)=>True
 |some (.dK _)=>True
 |some (.dT _)=>True
 |some (.set _ _)=>True
 |some (.ins _ _ _)=>True
 |some (.ext _)=>True
 |_=>False
section
variable {P:Program} {w:World} {H:Hp} {h h':Heap} {x e:Addr} {o':HO}
theorem HOk.write (ok:HOk P w H h) (mu:Mut (H x)) (he:e=x\/H e=some (.own x)) (k:∀b u,b≠e->h.get? b=some u->h'.get? b=some u) (heo:∃u,h'.get? e=some u)
  (new:ObjOk P w (upd H x o') h' x o'):HOk P w (upd H x o') h':=fun b u q=>by
 have nown:∀c y,H c=some (.own y)->c≠x:=fun c y r z=>by subst z;rw[r]at mu;exact mu
 have ntup:∀c xs,H c=some (.tup xs)->c≠x:=fun c xs r z=>by subst z;rw[r]at mu;exact mu
 by_cases hb:b=x
 .subst hb;rw[upd_same]at q;cases q;exact new
 .rw[upd_ne hb]at q
  by_cases hbe:b=e
  .have q':H b=some (.own x):=by
    rcases he with z|z
    .exact absurd (hbe.trans z) hb
    .rw[hbe];exact z
   rw[q]at q';cases q'
   obtain⟨v,hv⟩:=heo
   exact⟨v,by rw[hbe];exact hv⟩
  .refine(ok b u q).stay (fun c v hc r=>k c v ?_ r) (fun c r=>by rw[upd_ne (nown c b r)];exact r) fun c xs r=>by rw[upd_ne (ntup c xs r)];exact r
   rcases hc with rfl|hc
   .exact hbe
   .rintro rfl
    rcases he with z|z
    .exact nown c b hc z
    .rw[hc]at z;cases z;exact hb rfl
end
structure Un (fs ex:List Addr) (H H':Hp) (h h':Heap):Prop where
 keep:∀b o,h.get? b=some o->H b=none->b∉fs->b∉ex->h'.get? b=some o
 slot:∀b o,h.get? b=some o->H b=none->b∈fs->b∉ex->∃sl,h'.get? b=some { o with slots:=sl }
 free:∀b o,h.get? b=some o->H b=none->b∉ex->H' b=none
 there:∀b o,h.get? b=some o->b∉ex->∃o',h'.get? b=some o'
 tups:∀b xs,H b=some (.tup xs)->H' b=some (.tup xs)
 frzs:∀b o u,H b=some (.frz o u)->H' b=some (.frz o u)
 tbls:∀b ps,H b=some (.tbl ps)->∃more,H' b=some (.tbl (ps++more))
section
variable {fs fs' ex ex':List Addr} {H H1 H2:Hp} {h h1 h2 h':Heap} {a x e:Addr} {o:HO}
theorem Un.any (u:Un fs ex H H1 h h1) {b:Addr} {ob:Obj} (q:h.get? b=some ob) (n:H b=none) (hx:b∉ex):∃sl,h1.get? b=some { ob with slots:=sl }:=by
 by_cases hb:b∈fs
 .exact u.slot b ob q n hb hx
 .exact⟨ob.slots,u.keep b ob q n hb hx⟩
theorem Un.kept (k:∀b u,h.get? b=some u->h'.get? b=some u):Un fs ex H H h h':=
 ⟨fun b ob q _ _ _=>k b ob q,fun b ob q _ _ _=>⟨ob.slots,k b ob q⟩,fun _ _ _ n _=>n,fun b ob q _=>⟨ob,k b ob q⟩,fun _ _ q=>q,fun _ _ _ q=>q,fun _ ps q=>⟨#[],by rw[q];simp⟩⟩
theorem Un.refl:Un fs ex H H h h:=Un.kept fun _ _ q=>q
theorem Un.laid (k:∀b u,h.get? b=some u->h'.get? b=some u) (hp:h.objs.size<=a) (hn:H a=none):Un fs ex H (upd H a o) h h' where
 keep:=fun b u q _ _ _=>k b u q
 slot:=fun b u q _ _ _=>⟨u.slots,k b u q⟩
 free:=fun b u q n _=>by rw[upd_ne (Nat.ne_of_lt (Nat.lt_of_lt_of_le (Heap.lt_size q) hp))];exact n
 there:=fun b u q _=>⟨u,k b u q⟩
 tups:=fun b xs q=>by rw[upd_ne (ne_of_none q hn)];exact q
 frzs:=fun b u xs q=>by rw[upd_ne (ne_of_none q hn)];exact q
 tbls:=fun b ps q=>⟨#[],by rw[upd_ne (ne_of_none q hn),q];simp⟩
theorem Un.write (mu:Mut (H x)) (he:e=x\/H e=some (.own x)) (k:∀b u,b≠e->h.get? b=some u->h'.get? b=some u) (heo:∃u,h'.get? e=some u):Un fs ex H (upd H x o) h h':=by
 have hx:∀b,H b=none->b≠x:=fun b n z=>by subst z;rw[n]at mu;exact mu
 have hb:∀b,H b=none->b≠e:=fun b n z=>by
  subst z
  rcases he with r|r
  .exact hx b n r
  .rw[n]at r;cases r
 have hm:∀b u,H b=some u->¬Mut (some u)->b≠x:=fun b u q nm z=>by subst z;rw[q]at mu;exact nm mu
 refine⟨fun b u q n _ _=>k b u (hb b n) q,fun b u q n _ _=>⟨u.slots,k b u (hb b n) q⟩,fun b u q n _=>by rw[upd_ne (hx b n)];exact n,fun b u q _=>?_,
  fun b xs q=>by rw[upd_ne (hm b _ q fun z=>z)];exact q,fun b u xs q=>by rw[upd_ne (hm b _ q fun z=>z)];exact q,fun b ps q=>⟨#[],by rw[upd_ne (hm b _ q fun z=>z),q];simp⟩⟩
 by_cases hbe:b=e
 .subst hbe;exact heo
 .exact⟨u,k b u hbe q⟩
end
noncomputable def trk (h:Heap) (H:Hp):List Addr:=(List.range h.objs.size).filter fun a=>(H a).isSome
noncomputable def hidT (h:Heap) (H:Hp):Heap:=W.hideAll h (trk h H)
theorem hidT_size (h:Heap) (H:Hp):(hidT h H).objs.size=h.objs.size:=W.hideAll_size _ _
theorem hidT_get {h:Heap} {H:Hp} {b:Addr} {o:Obj} (e:h.get? b=some o) (n:H b=none):(hidT h H).get? b=some o:=
 W.hideAll_get _ e fun hm=>by
  have q:(H b).isSome=true:=(List.mem_filter.mp hm).2
  rw[n]at q;simp at q
theorem of_hidT {h:Heap} {H:Hp} {b:Addr} {o:Obj} (e:(hidT h H).get? b=some o):h.get? b=some o/\H b=none:=by
 have e':h.get? b=some o:=W.of_hideAll (trk h H) e
 refine⟨e',?_⟩
 cases q:H b with
 |none=>rfl
 |some x=>
  have hm:b∈trk h H:=List.mem_filter.mpr ⟨List.mem_range.mpr (Heap.lt_size e'),by simp[q]⟩
  have z:(hidT h H).get? b=none:=W.hideAll_none (trk h H) hm
  rw[z]at e;cases e
noncomputable def allNews (g h:Heap) (L:Addr):List (Addr×Obj):=(List.range h.objs.size).filterMap fun a=>if a=L\/(g.get? a).isSome=true then none else(h.get? a).map fun o=>(a,o)
noncomputable def rest (g h:Heap) (L d:Addr):List (Addr×Obj):=(allNews g h L).filter fun p=>decide (p.1≠d)
structure Mod (K:W.Frag) (mg:Str->Option Value) (base:Heap):Prop where
 kin:K.In base
 glob:base.Ns mainGlobals mg
 blt:∃mb,base.Ns builtinsNs mb/\∀x:Str,x≠"__name__"->mb x=bootBuiltins x
 nolimit:base.NoLimit
structure Cx where
 prog:Program
 w:World
 K:W.Frag
 mg:Str->Option Value
 base:Heap
 A:Around
 N:List Str
 s₀:Shared
 H₀:Hp
 env:Env
 outer:List Env
 stack:List Env
 ex:List Addr
 fn:Str->Bool
 calm:Bool
 pn:List (Addr×Obj)
 xe:Value->Shared->Prop
noncomputable def frs (l:List Env):List Addr:=l.filterMap (·.frame)
noncomputable abbrev Cx.fs (X:Cx):List Addr:=frs X.outer
def Vis (sc:Scope) (x:Str):Prop:=sc.names.lookup x=some .local\/sc.names.lookup x=some .cell\/sc.names.lookup x=some .free
def Loc (sc:Scope) (x:Str):Prop:=sc.names.lookup x=some .local\/sc.names.lookup x=some .cell
def Look (env:Env) (h:Heap) (m:Str->Option Value) (x:Str) (u:Value):Prop:=
 (env.kindOf x=some .local/\m x=some u)\/((env.kindOf x=some .cell\/env.kindOf x=some .free)/\∃c,env.cells.lookup x=some c/\h.IsCell c (some u))
structure Cx.Ok (X:Cx):Prop where
 mod:Mod X.K X.mg X.base
 kind:X.env.scope.kind=.function
 glob:X.env.globals=mainGlobals
 blt:X.env.builtins=builtinsNs
 above:X.s₀.heap.objs.size<=X.env.locals
 inj:∀x y c,X.env.cells.lookup x=some c->X.env.cells.lookup y=some c->x=y
 has:∀x,(X.env.kindOf x=some .cell\/X.env.kindOf x=some .free)->∃c,X.env.cells.lookup x=some c
 cab:∀x c,X.fn x=true->X.env.cells.lookup x=some c->X.s₀.heap.objs.size<=c
 hd:X.calm=true->X.A.handled=none
 frames:X.A.frames=some X.stack
 stk:X.stack=X.outer\/(X.stack=X.env :: X.outer/\X.env.frame=some X.env.locals)
 exf:∀b∈X.ex,b≠X.env.locals/\∀x c,X.env.cells.lookup x=some c->c≠b
 bs:∀b o,X.base.get? b=some o->X.s₀.heap.get? b=some o/\X.H₀ b=none
 bsz:X.base.objs.size<=X.s₀.heap.objs.size
 noex:∀b o,X.base.get? b=some o->b∉X.ex
 exfs:∀b∈X.ex,b∉X.fs
 funs:X.s₀.heap.FunFrames X.base X.outer
 frf:∀b∈X.fs,X.H₀ b=none
structure Inv (X:Cx) (pins:List (Addr×Obj)) (σ:List (Option V)) (H:Hp) (s:Shared):Prop where
 ok:X.Ok
 os:s.os=X.s₀.os
 bare:AllBare s.gens
 base:Un X.fs X.ex X.H₀ H X.s₀.heap s.heap
 loc:∃m,s.heap.Ns X.env.locals m/\∀(i:Nat) (x:Str) (v:V),X.N[i]?=some x->σ[i]?=some (some v)->Vis X.env.scope x->∃u,RelV v u/\Look X.env s.heap m x u
 cell:∀x c,X.env.cells.lookup x=some c->∃v,s.heap.IsCell c v
 free:H X.env.locals=none
 freeC:∀x c,X.env.cells.lookup x=some c->H c=none
 pin:∀p∈X.pn++pins,s.heap.get? p.1=some p.2/\H p.1=none/\p.1≠X.env.locals/\p.1∉X.fs/\∀v,p.2.data≠.cell v
 hok:HOk X.prog X.w H s.heap
 len:σ.length=X.N.length
section
variable {X:Cx} {pins:List (Addr×Obj)} {σ:List (Option V)} {H H':Hp} {s:Shared} {h':Heap}
theorem Cx.Ok.nofr (ok:X.Ok) {b:Addr} {o:Obj} (e:X.base.get? b=some o):b∉X.fs:=fun hb=>by
 have:=(ok.funs.mem hb).1
 rw[e]at this;cases this
theorem Inv.bs (I:Inv X pins σ H s):∀b o,X.base.get? b=some o->s.heap.get? b=some o/\H b=none:=fun b o e=>
 ⟨I.base.keep b o (I.ok.bs b o e).1 (I.ok.bs b o e).2 (I.ok.nofr e) (I.ok.noex b o e),I.base.free b o (I.ok.bs b o e).1 (I.ok.bs b o e).2 (I.ok.noex b o e)⟩
theorem Inv.bk (I:Inv X pins σ H s):∀b o,X.base.get? b=some o->s.heap.get? b=some o:=fun b o e=>(I.bs b o e).1
theorem Inv.mod (I:Inv X pins σ H s):Mod X.K X.mg X.base:=I.ok.mod
theorem Inv.kIn (I:Inv X pins σ H s):X.K.In s.heap:=I.ok.mod.kin.keeps I.bk
theorem Inv.fr (I:Inv X pins σ H s):∃m,Fr X.base X.env.locals s.heap m:=
 let⟨m,hn,_⟩:=I.loc
 ⟨m,hn,I.bk,Nat.le_trans I.ok.bsz I.ok.above⟩
theorem Inv.lt (I:Inv X pins σ H s):X.env.locals<s.heap.objs.size:=let⟨_,hn,_⟩:=I.loc;hn.lt
theorem Inv.sz (I:Inv X pins σ H s):X.s₀.heap.objs.size<=s.heap.objs.size:=Nat.le_trans I.ok.above (Nat.le_of_lt I.lt)
theorem Inv.nofs (I:Inv X pins σ H s) {a:Addr} (h:s.heap.objs.size<=a):a∉X.fs:=fun hb=>by
 obtain⟨_,o,ho,_⟩:=I.ok.funs.mem hb
 exact absurd (Nat.lt_of_lt_of_le (Heap.lt_size ho) (Nat.le_trans I.sz h)) (Nat.lt_irrefl _)
theorem Inv.cne (I:Inv X pins σ H s):∀x c,X.env.cells.lookup x=some c->c≠X.env.locals:=fun x c e z=>by
 obtain⟨v,o,ho,hd⟩:=I.cell x c e
 obtain⟨m,⟨o',es,ep,ho',hd',_⟩,_⟩:=I.loc
 rw[z,ho']at ho;cases ho;rw[hd']at hd;cases hd
theorem Inv.funs (I:Inv X pins σ H s):s.heap.FunFrames X.base X.outer:=by
 have all:∀(l:List Env),(∀b∈frs l,b∈X.fs)->X.s₀.heap.FunFrames X.base l->s.heap.FunFrames X.base l:=by
  intro l
  induction l with
  |nil=>intro _ _;trivial
  |cons env r ih=>
   intro hs hl
   obtain⟨hk,⟨L,o,hf,hn,ho,hd⟩,hr⟩:=hl
   have hL:L∈X.fs:=hs L (by unfold frs;rw[List.filterMap_cons,hf];exact List.mem_cons_self)
   obtain⟨sl,e⟩:=I.base.slot L o ho (I.ok.frf L hL) hL fun z=>I.ok.exfs L z hL
   exact⟨hk,⟨L,_,hf,hn,e,hd⟩,ih (fun b hb=>hs b (by unfold frs;rw[List.filterMap_cons,hf];exact List.mem_cons_of_mem _ hb)) hr⟩
 exact all X.outer (fun _ hb=>hb) I.ok.funs
theorem Inv.stack (I:Inv X pins σ H s):s.heap.FunFrames X.base X.stack:=by
 rcases I.ok.stk with e|⟨e,hf⟩
 .rw[e];exact I.funs
 .rw[e]
  obtain⟨m,hn,_⟩:=I.loc
  refine .cons (by rw[I.ok.kind];decide) hf hn ?_ I.funs
  exact Heap.get?_none_of_le (Nat.le_trans I.ok.bsz I.ok.above)
theorem Inv.stkSub (I:Inv X pins σ H s):∀b∈frs X.stack,b∈X.env.locals :: X.fs:=fun b hb=>by
 rcases I.ok.stk with e|⟨e,hf⟩
 .rw[e]at hb;exact List.mem_cons_of_mem _ hb
 .rw[e]at hb
  unfold frs at hb
  rw[List.filterMap_cons,hf]at hb
  exact hb
theorem Inv.stkFree (I:Inv X pins σ H s):∀b∈frs X.stack,H b=none:=fun b hb=>by
 rcases List.mem_cons.mp (I.stkSub b hb)with e|hb
 .rw[e];exact I.free
 .obtain⟨_,o,ho,_⟩:=I.ok.funs.mem hb
  exact I.base.free b o ho (I.ok.frf b hb) fun z=>I.ok.exfs b z hb
theorem Inv.step {g':Array GenState} {t':Nat} {d':Drawn} {ch:List Addr} (I:Inv X pins σ H s)
  (hch:∀b∈ch,(b∈X.ex\/X.s₀.heap.objs.size<=b)/\b≠X.env.locals/\(∀x c,X.env.cells.lookup x=some c->c≠b)/\∀p∈X.pn++pins,p.1≠b)
  (keep:∀b o,b≠X.env.locals->b∉X.fs->b∉ch->s.heap.get? b=some o->H b=none->h'.get? b=some o)
  (slot:∀b o,b≠X.env.locals->b∈X.fs->b∉ch->s.heap.get? b=some o->H b=none->∃sl,h'.get? b=some { o with slots:=sl }) (free:∀b o,b∉ch->s.heap.get? b=some o->H b=none->H' b=none)
  (there:∀b o,b∉ch->s.heap.get? b=some o->∃o',h'.get? b=some o')
  (tups:∀b xs,H b=some (.tup xs)->H' b=some (.tup xs)) (frzs:∀b o u,H b=some (.frz o u)->H' b=some (.frz o u)) (tbls:∀b ps,H b=some (.tbl ps)->∃more,H' b=some (.tbl (ps++more)))
  (ns:∀m,s.heap.Ns X.env.locals m->h'.Ns X.env.locals m) (hok:HOk X.prog X.w H' h') (hg:AllBare g'):
  Inv X pins σ H' { s with heap:=h',gens:=g',drawn:=d',toks:=t' }:=by
 have neL:∀b o,X.s₀.heap.get? b=some o->b≠X.env.locals:=fun b o e=>Nat.ne_of_lt (Nat.lt_of_lt_of_le (Heap.lt_size e) I.ok.above)
 have neC:∀b o,X.s₀.heap.get? b=some o->b∉X.ex->b∉ch:=fun b o e hx hb=>by
  rcases(hch b hb).1 with z|z
  .exact hx z
  .exact absurd (Nat.lt_of_lt_of_le (Heap.lt_size e) z) (Nat.lt_irrefl _)
 have cellK:∀x c,X.env.cells.lookup x=some c->∀v,s.heap.IsCell c v->h'.IsCell c v:=fun x c e v ⟨o,ho,hd⟩=>by
  have nch:c∉ch:=fun z=>(hch c z).2.2.1 x c e rfl
  by_cases hc:c∈X.fs
  .obtain⟨sl,q⟩:=slot c o (I.cne x c e) hc nch ho (I.freeC x c e)
   exact⟨_,q,hd⟩
  .exact⟨o,keep c o (I.cne x c e) hc nch ho (I.freeC x c e),hd⟩
 refine⟨I.ok,I.os,hg,⟨fun b o e n hb hx=>?_,fun b o e n hb hx=>?_,fun b o e n hx=>?_,fun b o e hx=>?_,fun b xs e=>tups b xs (I.base.tups b xs e),fun b o xs e=>frzs b o xs (I.base.frzs b o xs e),fun b ps e=>?_⟩,?_,fun x c e=>?_,?_,fun x c e=>?_,fun p hp=>?_,hok,I.len⟩
 .exact keep b o (neL b o e) hb (neC b o e hx) (I.base.keep b o e n hb hx) (I.base.free b o e n hx)
 .obtain⟨sl,e1⟩:=I.base.slot b o e n hb hx
  obtain⟨sl',e2⟩:=slot b _ (neL b o e) hb (neC b o e hx) e1 (I.base.free b o e n hx)
  exact⟨sl',e2⟩
 .obtain⟨o',e1⟩:=I.base.there b o e hx
  exact free b o' (neC b o e hx) e1 (I.base.free b o e n hx)
 .obtain⟨o',e1⟩:=I.base.there b o e hx
  exact there b o' (neC b o e hx) e1
 .obtain⟨m1,e1⟩:=I.base.tbls b ps e
  obtain⟨m2,e2⟩:=tbls b _ e1
  exact⟨m1++m2,by rw[e2,Array.append_assoc]⟩
 .obtain⟨m,hn,hl⟩:=I.loc
  refine⟨m,ns m hn,fun i x v e1 e2 e3=>?_⟩
  obtain⟨u,r,l⟩:=hl i x v e1 e2 e3
  refine⟨u,r,?_⟩
  rcases l with l|⟨k,c,e,z⟩
  .exact .inl l
  .exact .inr ⟨k,c,e,cellK x c e _ z⟩
 .obtain⟨v,z⟩:=I.cell x c e
  exact⟨v,cellK x c e v z⟩
 .obtain⟨m,⟨o,_,_,ho,_⟩,_⟩:=I.loc
  exact free _ o (fun z=>(hch _ z).2.1 rfl) ho I.free
 .obtain⟨v,o,ho,hd⟩:=I.cell x c e
  exact free c o (fun z=>(hch c z).2.2.1 x c e rfl) ho (I.freeC x c e)
 .obtain⟨e,n,ne,nf,d⟩:=I.pin p hp
  have nch:p.1∉ch:=fun z=>(hch p.1 z).2.2.2 p hp rfl
  exact⟨keep p.1 p.2 ne nf nch e n,free p.1 p.2 nch e n,ne,nf,d⟩
theorem Inv.un {t':Nat} (I:Inv X pins σ H s) (u:Un X.fs [] H H' s.heap h') (hok:HOk X.prog X.w H' h'):Inv X pins σ H' { s with heap:=h',toks:=t' }:=by
 obtain⟨m,⟨o,es,ep,ho,r⟩,_⟩:=id I.loc
 obtain⟨sl,hL⟩:=u.any ho I.free (by simp)
 exact I.step (g':=s.gens) (d':=s.drawn) (ch:=[]) (fun _ z=>nomatch z) (fun b o _ hb _ e n=>u.keep b o e n hb (by simp)) (fun b o _ hb _ e n=>u.slot b o e n hb (by simp)) (fun b o _ e n=>u.free b o e n (by simp)) (fun b o _ e=>u.there b o e (by simp)) u.tups u.frzs u.tbls (fun m' hm=>by
  obtain⟨o',es',ep',ho',r'⟩:=hm
  rw[ho]at ho';cases ho'
  exact⟨_,es',ep',hL,r'⟩) hok I.bare
theorem Inv.call {g':Array GenState} {t':Nat} {d':Drawn} {ch:List Addr} (I:Inv X pins σ H s) (u:Un (frs X.stack) ch H H' s.heap h') (hok:HOk X.prog X.w H' h') (hg:AllBare g')
  (hch:∀b∈ch,(b∈X.ex\/X.s₀.heap.objs.size<=b)/\b≠X.env.locals/\(∀x c,X.env.cells.lookup x=some c->c≠b)/\∀p∈X.pn++pins,p.1≠b):
  Inv X pins σ H' { s with heap:=h',gens:=g',drawn:=d',toks:=t' }:=by
 obtain⟨m,⟨o,es,ep,ho,r⟩,_⟩:=id I.loc
 obtain⟨sl,hL⟩:=u.any ho I.free fun z=>(hch _ z).2.1 rfl
 exact I.step (ch:=ch) hch (fun b o hL hb hc e n=>u.keep b o e n (fun z=>(List.mem_cons.mp (I.stkSub b z)).elim hL hb) hc) (fun b o _ _ hc e n=>u.any e n hc) (fun b o hc e n=>u.free b o e n hc) (fun b o hc e=>u.there b o e hc) u.tups u.frzs u.tbls (fun m' hm=>by
  obtain⟨o',es',ep',ho',r'⟩:=hm
  rw[ho]at ho';cases ho'
  exact⟨_,es',ep',hL,r'⟩) hok hg
theorem Inv.turned {t':Nat} {it:Addr} (I:Inv X pins σ H s) (k:∀b o,b≠it->s.heap.get? b=some o->h'.get? b=some o) (hn:H it=none) (hL:it≠X.env.locals)
  (h1:it∈X.ex\/X.s₀.heap.objs.size<=it) (h2:∀x c,X.env.cells.lookup x=some c->c≠it) (h3:∀p∈X.pn++pins,p.1≠it):Inv X pins σ H { s with heap:=h',toks:=t' }:=by
 have nit:∀b u,H b=some u->b≠it:=fun b u e z=>by rw[z,hn]at e;cases e
 refine I.step (g':=s.gens) (d':=s.drawn) (ch:=[it]) (fun b hb=>?_) (fun b o _ _ hc e _=>k b o (fun z=>hc (by simp[z])) e) (fun b o _ _ hc e _=>⟨o.slots,k b o (fun z=>hc (by simp[z])) e⟩) (fun _ _ _ _ n=>n)
  (fun b o hc e=>⟨o,k b o (fun z=>hc (by simp[z])) e⟩) (fun _ _ e=>e) (fun _ _ _ e=>e) (fun b ps e=>⟨#[],by rw[e];simp⟩) (fun m hm=>?_) (fun b u e=>?_) I.bare
 .have e:b=it:=by simpa using hb
  subst e
  exact⟨h1,hL,h2,h3⟩
 .obtain⟨o,es,ep,ho,r⟩:=hm
  exact⟨o,es,ep,k _ o (Ne.symm hL) ho,r⟩
 .refine(I.hok b u e).stay (fun c v hc q=>k c v ?_ q) (fun _ q=>q) fun _ _ q=>q
  rcases hc with z|z
  .rw[z];exact nit b u e
  .exact nit c _ z
theorem Inv.tok (I:Inv X pins σ H s) (t:Nat):Inv X pins σ H { s with toks:=t }:=I.un (h':=s.heap) (t':=t) Un.refl I.hok
theorem Inv.kept {t':Nat} (I:Inv X pins σ H s) (k:∀b u,s.heap.get? b=some u->h'.get? b=some u):Inv X pins σ H { s with heap:=h',toks:=t' }:=I.un (Un.kept k) (I.hok.kept k)
theorem Inv.laid {a:Addr} {o:HO} {t':Nat} (I:Inv X pins σ H s) (k:∀b u,s.heap.get? b=some u->h'.get? b=some u) (hp:s.heap.objs.size<=a) (new:ObjOk X.prog X.w (upd H a o) h' a o):
  Inv X pins σ (upd H a o) { s with heap:=h',toks:=t' }:=I.un (Un.laid k hp (I.hok.fresh hp)) (I.hok.laid k hp new)
theorem Inv.write {x e:Addr} {o:HO} {t':Nat} (I:Inv X pins σ H s) (mu:Mut (H x)) (he:e=x\/H e=some (.own x)) (k:∀b u,b≠e->s.heap.get? b=some u->h'.get? b=some u) (heo:∃u,h'.get? e=some u)
  (new:ObjOk X.prog X.w (upd H x o) h' x o):Inv X pins σ (upd H x o) { s with heap:=h',toks:=t' }:=I.un (Un.write mu he k heo) (I.hok.write mu he k heo new)
theorem Inv.weak {σ':List (Option V)} (I:Inv X pins σ H s) (hl:σ'.length=σ.length) (w:∀(i:Nat) v,σ'[i]?=some (some v)->σ[i]?=some (some v)):Inv X pins σ' H s:=
 ⟨I.ok,I.os,I.bare,I.base,let⟨m,hn,hl'⟩:=I.loc;⟨m,hn,fun i x v e1 e2 e3=>hl' i x v e1 (w i v e2) e3⟩,I.cell,I.free,I.freeC,I.pin,I.hok,hl.trans I.len⟩
theorem Inv.pins_of {pins':List (Addr×Obj)} (I:Inv X pins σ H s) (h:∀p∈pins',s.heap.get? p.1=some p.2/\H p.1=none/\p.1≠X.env.locals/\p.1∉X.fs/\∀v,p.2.data≠.cell v):Inv X pins' σ H s:=
 ⟨I.ok,I.os,I.bare,I.base,I.loc,I.cell,I.free,I.freeC,fun p hp=>(List.mem_append.mp hp).elim (fun z=>I.pin p (List.mem_append_left _ z)) (h p),I.hok,I.len⟩
theorem nodup_ix {N:List Str} (hN:N.Nodup) {i j:Nat} {x:Str} (a:N[i]?=some x) (b:N[j]?=some x):i=j:=by
 obtain⟨h1,e1⟩:=List.getElem?_eq_some_iff.mp a
 obtain⟨h2,e2⟩:=List.getElem?_eq_some_iff.mp b
 exact(List.getElem_inj hN).mp (e1.trans e2.symm)
theorem store_ok2 {M:Model} {A:Around} {E:Value->Shared->Prop} {i:Nat} {x:Str} {v:V} {u:Value} {Q:Unit->Shared->Prop} (I:Inv X pins σ H s) (hN:X.N.Nodup) (hi:X.N[i]?=some x) (hx:Loc X.env.scope x) (r:RelV v u)
  (h:∀s',Inv X pins (σ.set i (some v)) H s'->(∃a,Heap.SameBut a s.heap s'.heap/\(a=X.env.locals\/X.env.cells.lookup x=some a))->Q () s') (hf:X.fn x=true\/X.env.scope.names.lookup x=some .local:=by first|exact .inl rfl|exact .inr rfl|assumption):wpAny M A (storeName X.env x u) Q E s:=by
 obtain⟨m,hn,hl⟩:=id I.loc
 have hcls:(X.env.scope.kind == .class || (X.env.scope.kind == .module&&X.env.locals != X.env.globals))=false:=by rw[I.ok.kind];rfl
 have hiσ:i<σ.length:=by rw[I.len];exact(List.getElem?_eq_some_iff.mp hi).1
 have cne:=I.cne
 have tracked:∀{a:Addr} {h':Heap},(∃o,s.heap.get? a=some o/\H a=none)->Heap.SameBut a s.heap h'->HOk X.prog X.w H h':=fun {a h'} ha hs b ob e=>by
  obtain⟨_,_,hfree⟩:=ha
  refine(I.hok b ob e).stay (fun c w' hc q=>(hs.2 c ?_).trans q) (fun _ q=>q) fun _ _ q=>q
  rintro rfl
  rcases hc with rfl|hc
  .rw[hfree]at e;cases e
  .rw[hfree]at hc;cases hc
 rcases hx with hk|hk
 .refine wpAny_storeName_local hk hn (fun h' hn' hs=>?_) hcls
  obtain⟨oL,_,_,hoL,_⟩:=id hn
  refine h _ ⟨I.ok,I.os,I.bare,⟨fun b o e n hb hx=>?_,fun b o e n hb hx=>?_,I.base.free,fun b o e hx=>?_,I.base.tups,I.base.frzs,I.base.tbls⟩,⟨_,hn',fun j y v' e1 e2 e3=>?_⟩,fun y c e=>?_,I.free,I.freeC,fun p hp=>?_,tracked ⟨oL,hoL,I.free⟩ hs,by simpa using I.len⟩ ⟨_,hs,.inl rfl⟩
  .exact(hs.2 b (Nat.ne_of_lt (Nat.lt_of_lt_of_le (Heap.lt_size e) I.ok.above))).trans (I.base.keep b o e n hb hx)
  .obtain⟨sl,e1⟩:=I.base.slot b o e n hb hx
   exact⟨sl,(hs.2 b (Nat.ne_of_lt (Nat.lt_of_lt_of_le (Heap.lt_size e) I.ok.above))).trans e1⟩
  .obtain⟨o',e1⟩:=I.base.there b o e hx
   exact⟨o',(hs.2 b (Nat.ne_of_lt (Nat.lt_of_lt_of_le (Heap.lt_size e) I.ok.above))).trans e1⟩
  .by_cases hj:j=i
   .subst hj
    rw[hi]at e1;cases e1
    rw[List.getElem?_set_self hiσ]at e2
    cases e2
    exact⟨u,r,.inl ⟨hk,by simp⟩⟩
   .rw[List.getElem?_set_ne (Ne.symm hj)]at e2
    obtain⟨u',r',q⟩:=hl j y v' e1 e2 e3
    refine⟨u',r',?_⟩
    rcases q with⟨k,e⟩|⟨k,c,e,z⟩
    .refine .inl ⟨k,?_⟩
     have:y≠x:=fun e=>hj (nodup_ix hN e1 (e ▸ hi))
     simp[this,e]
    .exact .inr ⟨k,c,e,z.sameBut hs (cne y c e)⟩
  .obtain⟨w',z⟩:=I.cell y c e
   exact⟨w',z.sameBut hs (cne y c e)⟩
  .obtain⟨e,n,ne,nf,d⟩:=I.pin p hp
   exact⟨(hs.2 p.1 ne).trans e,n,ne,nf,d⟩
 .have hfn:X.fn x=true:=by
   rcases hf with z|z
   .exact z
   .rw[z]at hk;cases hk
  obtain⟨c,hc⟩:=I.ok.has x (.inl hk)
  obtain⟨w',z⟩:=I.cell x c hc
  refine wpAny_storeName_cell I.ok.kind hk hc z (fun h' hc' hs=>?_)
  obtain⟨oc,hoc,hocd⟩:=id z
  refine h { s with heap:=h' } ⟨I.ok,I.os,I.bare,⟨fun b o e n hb hx=>?_,fun b o e n hb hx=>?_,I.base.free,fun b o e hx=>?_,I.base.tups,I.base.frzs,I.base.tbls⟩,⟨m,hn.sameBut hs (Ne.symm (cne x c hc)),fun j y v' e1 e2 e3=>?_⟩,fun y c' e=>?_,I.free,I.freeC,fun p hp=>?_,tracked ⟨oc,hoc,I.freeC x c hc⟩ hs,by simpa using I.len⟩ ⟨c,hs,.inr hc⟩
  .exact(hs.2 b (Nat.ne_of_lt (Nat.lt_of_lt_of_le (Heap.lt_size e) (I.ok.cab x c hfn hc)))).trans (I.base.keep b o e n hb hx)
  .obtain⟨sl,e1⟩:=I.base.slot b o e n hb hx
   exact⟨sl,(hs.2 b (Nat.ne_of_lt (Nat.lt_of_lt_of_le (Heap.lt_size e) (I.ok.cab x c hfn hc)))).trans e1⟩
  .obtain⟨o',e1⟩:=I.base.there b o e hx
   exact⟨o',(hs.2 b (Nat.ne_of_lt (Nat.lt_of_lt_of_le (Heap.lt_size e) (I.ok.cab x c hfn hc)))).trans e1⟩
  .by_cases hj:j=i
   .subst hj
    rw[hi]at e1;cases e1
    rw[List.getElem?_set_self hiσ]at e2
    cases e2
    exact⟨u,r,.inr ⟨.inl hk,c,hc,hc'⟩⟩
   .rw[List.getElem?_set_ne (Ne.symm hj)]at e2
    obtain⟨u',r',q⟩:=hl j y v' e1 e2 e3
    refine⟨u',r',?_⟩
    rcases q with q|⟨k,c',e,z'⟩
    .exact .inl q
    .refine .inr ⟨k,c',e,z'.sameBut hs ?_⟩
     rintro rfl
     exact hj (nodup_ix hN e1 (I.ok.inj _ _ _ e hc ▸ hi))
  .by_cases hcc:c'=c
   .subst hcc;exact⟨_,hc'⟩
   .obtain⟨w2,z2⟩:=I.cell y c' e
    exact⟨w2,z2.sameBut hs hcc⟩
  .obtain⟨e,n,ne,nf,d⟩:=I.pin p hp
   refine⟨(hs.2 p.1 ?_).trans e,n,ne,nf,d⟩
   intro q
   rw[q,hoc]at e
   have q':oc=p.2:=Option.some.inj e
   exact d w' (by rw[<- q'];exact hocd)
theorem store_ok {M:Model} {A:Around} {E:Value->Shared->Prop} {i:Nat} {x:Str} {v:V} {u:Value} {Q:Unit->Shared->Prop} (I:Inv X pins σ H s) (hN:X.N.Nodup) (hi:X.N[i]?=some x) (hx:Loc X.env.scope x) (r:RelV v u)
  (h:∀s',Inv X pins (σ.set i (some v)) H s'->Q () s') (hf:X.fn x=true\/X.env.scope.names.lookup x=some .local:=by first|exact .inl rfl|exact .inr rfl|assumption):wpAny M A (storeName X.env x u) Q E s:=
 store_ok2 I hN hi hx r (fun s' I' _=>h s' I') hf
theorem Inv.call' {s':Shared} {ch:List Addr} (I:Inv X pins σ H s) (ho:s'.os=s.os) (u:Un (frs X.stack) ch H H' s.heap s'.heap) (hok:HOk X.prog X.w H' s'.heap) (hg:AllBare s'.gens)
  (hch:∀b∈ch,(b∈X.ex\/X.s₀.heap.objs.size<=b)/\b≠X.env.locals/\(∀x c,X.env.cells.lookup x=some c->c≠b)/\∀p∈X.pn++pins,p.1≠b):Inv X pins σ H' s':=by
 obtain⟨h',g',d',t',o'⟩:=s'
 have e:o'=s.os:=ho
 subst e
 exact I.call (g':=g') (t':=t') (d':=d') u hok hg hch
end
noncomputable abbrev XK:=Value->Option Addr->Hp->Prop
noncomputable abbrev St:=List (Option V)
noncomputable abbrev VK:=V->Hp->Prop
noncomputable abbrev TE:=St->Hp->VK->Prop
noncomputable abbrev TT:=St->Hp->(Bool->Hp->Prop)->Prop
noncomputable abbrev TA:=St->Hp->(List V->Hp->Prop)->Prop
structure Ends where
 nx:St->Hp->Prop
 rt:VK
 bk:St->Hp->Prop:=fun _ _=>False
 ct:St->Hp->Prop:=fun _ _=>False
noncomputable abbrev TS:=Ends->St->Hp->Prop
def EP (X:Cx) (pins:List (Addr×Obj)) (σ:St) (Q:VK) (u:Value) (s':Shared):Prop:=∃v H',Inv X pins σ H' s'/\RelV v u/\Q v H'
def TP (X:Cx) (pins:List (Addr×Obj)) (σ:St) (Q:Bool->Hp->Prop) (b:Bool) (s':Shared):Prop:=∃H',Inv X pins σ H' s'/\Q b H'
def AP (X:Cx) (pins:List (Addr×Obj)) (σ:St) (Q:List V->Hp->Prop) (us:List Value) (s':Shared):Prop:=∃vs H',Inv X pins σ H' s'/\Vals vs us/\Q vs H'
def SP (X:Cx) (pins:List (Addr×Obj)) (D:Ends) (f:Flow) (s':Shared):Prop:=
 match f with
 | .next=>∃σ' H',Inv X pins σ' H' s'/\D.nx σ' H'
 | .brk=>∃σ' H',Inv X pins σ' H' s'/\D.bk σ' H'
 | .cont=>∃σ' H',Inv X pins σ' H' s'/\D.ct σ' H'
 | .ret u=>∃v σ' H',Inv X pins σ' H' s'/\RelV v u/\D.rt v H'
def PE (X:Cx) (e:Expr) (t:TE):Prop:=
 ∀(pins:List (Addr×Obj)) (s:Shared) (σ:St) (H:Hp) (Q:VK),Inv X pins σ H s->t σ H Q->wpAny (model X.prog X.w) X.A (eval e X.env) (EP X pins σ Q) X.xe s
def PT (X:Cx) (e:Expr) (t:TT):Prop:=
 ∀(pins:List (Addr×Obj)) (s:Shared) (σ:St) (H:Hp) (Q:Bool->Hp->Prop),Inv X pins σ H s->t σ H Q->wpAny (model X.prog X.w) X.A (isTrue e X.env (eval e X.env)) (TP X pins σ Q) X.xe s
def PW (X:Cx) (e:Expr) (t:TT):Prop:=
 ∀(whole:Sem Value) (pins:List (Addr×Obj)) (s:Shared) (σ:St) (H:Hp) (Q:Bool->Hp->Prop),Inv X pins σ H s->t σ H Q->wpAny (model X.prog X.w) X.A (isTrue e X.env whole) (TP X pins σ Q) X.xe s
theorem PW.pt {X:Cx} {e:Expr} {t:TT} (h:PW X e t):PT X e t:=h _
def PA (X:Cx) (es:List Expr) (t:TA):Prop:=
 ∀(pos:Pos) (pins:List (Addr×Obj)) (s:Shared) (σ:St) (H:Hp) (Q:List V->Hp->Prop),Inv X pins σ H s->t σ H Q->wpAny (model X.prog X.w) X.A (spliced (backTo pos (starEach es X.env))) (AP X pins σ Q) X.xe s
def PS (X:Cx) (st:Stmt) (t:TS):Prop:=
 ∀(pins:List (Addr×Obj)) (s:Shared) (σ:St) (H:Hp) (D:Ends),Inv X pins σ H s->t D σ H->wpAny (model X.prog X.w) X.A (exec st X.env) (SP X pins D) X.xe s
def PSs (X:Cx) (st:List Stmt) (t:TS):Prop:=
 ∀(pins:List (Addr×Obj)) (s:Shared) (σ:St) (H:Hp) (D:Ends),Inv X pins σ H s->t D σ H->wpAny (model X.prog X.w) X.A (execs st X.env) (SP X pins D) X.xe s
theorem thn {α:Type} {t:Sem α} {Q Q':α->Shared->Prop} {M:Model} {A:Around} {E:Value->Shared->Prop} {s:Shared} (h:wpAny M A t Q E s) (hQ:∀a s,Q a s->Q' a s):wpAny M A t Q' E s:=wpAny_mono h hQ fun _ _ x=>x
section
variable {X:Cx}
theorem bin {a b:Expr} {ta tb:TE} (ha:PE X a ta) (hb:PE X b tb) {pins:List (Addr×Obj)} {s:Shared} {σ:St} {H:Hp} {R:V->V->Hp->Prop} (I:Inv X pins σ H s) (h:ta σ H fun x H1=>tb σ H1 fun y H2=>R x y H2)
  {α:Type} {Q:α->Shared->Prop} {f:Value->Value->Sem α}
  (hf:∀v u s2 x y H2,Inv X pins σ H2 s2->RelV x v->RelV y u->R x y H2->wpAny (model X.prog X.w) X.A (f v u) Q X.xe s2):
  wpAny (model X.prog X.w) X.A (eval a X.env) (fun v s₁=>wpAny (model X.prog X.w) X.A (eval b X.env) (fun u s₂=>wpAny (model X.prog X.w) X.A (f v u) Q X.xe s₂) X.xe s₁) X.xe s:=by
 refine thn (ha pins s σ H _ I h) fun v s1 ⟨x,H1,I1,r1,q1⟩=>?_
 refine thn (hb pins s1 σ H1 _ I1 q1) fun u s2 ⟨y,H2,I2,r2,q2⟩=>?_
 exact hf v u s2 x y H2 I2 r1 r2 q2
noncomputable def tVar (i:Nat):TE:=fun σ H Q=>∃v,σ[i]?=some (some v)/\Q v H
noncomputable def tC (v:V):TE:=fun _ H Q=>Q v H
theorem pe_var {i:Nat} {x:Str} {pos:Pos} (hN:X.N[i]?=some x) (hv:Vis X.env.scope x) (hd:(x == ("__debug__":Str))=false:=by decide) (hcd:(x == ("__classdict__":Str))=false:=by decide):PE X (.Name x pos) (tVar i):=by
 intro pins s σ H Q I h
 obtain⟨v,e,h⟩:=h
 obtain⟨m,hn,hl⟩:=I.loc
 obtain⟨u,r,l⟩:=hl i x v hN e hv
 have fin:EP X pins σ Q u s:=⟨v,H,I,r,h⟩
 rcases l with⟨hk,hm⟩|⟨hk,c,hc,hcell⟩
 .exact wpAny_Name (wpAny_loadName_local I.ok.kind hk hn hm fin) hd
 .rcases hk with hk|hk
  .exact wpAny_Name (wpAny_loadName_cell I.ok.kind hk hc hcell fin) hd
  .exact wpAny_Name (wpAny_loadName_free I.ok.kind hk hc hcell fin hcd) hd
theorem pe_int {i j pos}:PE X (.Constant (.int i) j pos) (tC (.int i)):=fun _ _ _ H _ I h=>wpAny_Constant_int ⟨.int i,H,I.tok _,⟨_,rfl⟩,h⟩
theorem pe_bl {b j pos}:PE X (.Constant (.bool b) j pos) (tC (.bl b)):=fun _ _ _ H _ I h=>Constant_bool ⟨.bl b,H,I,rfl,h⟩
theorem pe_non {j pos}:PE X (.Constant .none j pos) (tC .non):=fun _ _ _ H _ I h=>Constant_none ⟨.non,H,I,rfl,h⟩
theorem pe_str {x j pos}:PE X (.Constant (.str x) j pos) (tC (.str x)):=fun _ _ _ H _ I h=>Calls.Constant_str ⟨.str x,H,I.tok _,⟨_,rfl⟩,h⟩
def Gl (X:Cx) (x:Str):Prop:=X.env.kindOf x=some .globalImplicit
theorem ld_glob {E:Value->Shared->Prop} {pins:List (Addr×Obj)} {s:Shared} {σ:St} {H:Hp} {x:Str} {u:Value} {pos:Pos} {Q:Value->Shared->Prop} (I:Inv X pins σ H s) (hg:Gl X x) (hm:X.mg x=some u) (h:Q u s)
  (hd:(x == ("__debug__":Str))=false:=by decide):wpAny (model X.prog X.w) X.A (eval (.Name x pos) X.env) Q E s:=
 Calls.Name_function_global I.ok.kind hg (Calls.loadGlobal_global (by rw[I.ok.glob];exact I.mod.glob.keeps I.bk) hm h) hd
theorem ld_blt {E:Value->Shared->Prop} {pins:List (Addr×Obj)} {s:Shared} {σ:St} {H:Hp} {x:Str} {u:Value} {pos:Pos} {Q:Value->Shared->Prop} (I:Inv X pins σ H s) (hg:Gl X x) (hm:X.mg x=none) (hv:bootBuiltins x=some u) (h:Q u s)
  (hn:x≠"__name__":=by decide) (hd:(x == ("__debug__":Str))=false:=by decide):wpAny (model X.prog X.w) X.A (eval (.Name x pos) X.env) Q E s:=by
 obtain⟨mb,h1,h2⟩:=I.mod.blt
 exact Calls.Name_function_global I.ok.kind hg (Calls.loadGlobal_builtin (by rw[I.ok.glob];exact I.mod.glob.keeps I.bk) hm (by rw[I.ok.blt];exact h1.keeps I.bk) ((h2 x hn).trans hv) h) hd
theorem pe_bltn {x:Str} {v:V} {u:Value} {pos:Pos} (hg:Gl X x) (hm:X.mg x=none) (hv:bootBuiltins x=some u) (r:RelV v u) (hn:x≠"__name__":=by decide) (hd:(x == ("__debug__":Str))=false:=by decide):PE X (.Name x pos) (tC v):=
 fun _ _ _ H _ I h=>ld_blt I hg hm hv ⟨v,H,I,r,h⟩ hn hd
variable {a b:Expr} {ta tb:TE} {pos:Pos}
variable {tA tB':TT} {rest:List Expr}
noncomputable def tAnd (t u:TT):TT:=fun σ H Q=>t σ H fun c H1=>if c=true then u σ H1 Q else Q false H1
noncomputable def tOr (t u:TT):TT:=fun σ H Q=>t σ H fun c H1=>if c=true then Q true H1 else u σ H1 Q
noncomputable def tNot (t:TT):TT:=fun σ H Q=>t σ H fun c H1=>Q (!c) H1
theorem pw_and1 (ha:PT X a tA):PW X (.BoolOp .And [a] pos) tA:=by
 intro wh pins s σ H Q I h
 refine isTrue_and (thn (ha pins s σ H Q I h) fun c s1 e=>?_)
 cases c with
 |true=>exact isTrue_and_nil e
 |false=>exact e
theorem pw_or1 (ha:PT X a tA):PW X (.BoolOp .Or [a] pos) tA:=by
 intro wh pins s σ H Q I h
 refine isTrue_or (thn (ha pins s σ H Q I h) fun c s1 e=>?_)
 cases c with
 |false=>exact isTrue_or_nil e
 |true=>exact e
theorem pw_and (ha:PT X a tA) (hb:PW X (.BoolOp .And (b :: rest) pos) tB'):PW X (.BoolOp .And (a :: b :: rest) pos) (tAnd tA tB'):=by
 intro wh pins s σ H Q I h
 refine isTrue_and (thn (ha pins s σ H _ I h) fun c s1 ⟨H1,I1,q1⟩=>?_)
 cases c with
 |true=>exact hb wh pins s1 σ H1 Q I1 q1
 |false=>exact⟨H1,I1,q1⟩
theorem pw_or (ha:PT X a tA) (hb:PW X (.BoolOp .Or (b :: rest) pos) tB'):PW X (.BoolOp .Or (a :: b :: rest) pos) (tOr tA tB'):=by
 intro wh pins s σ H Q I h
 refine isTrue_or (thn (ha pins s σ H _ I h) fun c s1 ⟨H1,I1,q1⟩=>?_)
 cases c with
 |true=>exact⟨H1,I1,q1⟩
 |false=>exact hb wh pins s1 σ H1 Q I1 q1
theorem pt_not (ha:PT X a tA):PT X (.UnaryOp .Not a pos) (tNot tA):=by
 intro pins s σ H Q I h
 exact isTrue_not (ha pins s σ H (fun c H1=>Q (!c) H1) I h)
noncomputable def tAndV (ta tb:TE):TE:=fun σ H Q=>ta σ H fun x H1=>∃c,x=.bl c/\if c=true then tb σ H1 Q else Q (.bl false) H1
noncomputable def tOrV (ta tb:TE):TE:=fun σ H Q=>ta σ H fun x H1=>∃c,x=.bl c/\if c=true then Q (.bl true) H1 else tb σ H1 Q
noncomputable def tNotV (ta:TE):TE:=fun σ H Q=>ta σ H fun x H1=>∃c,x=.bl c/\Q (.bl (!c)) H1
theorem pe_one {op} {t:TE} (h:PE X a t):PE X (.BoolOp op [a] pos) t:=fun pins s σ H Q I hw=>BoolOp_one (h pins s σ H Q I hw)
theorem pe_and (ha:PE X a ta) (hb:PE X (.BoolOp .And (b :: rest) pos) tb):PE X (.BoolOp .And (a :: b :: rest) pos) (tAndV ta tb):=by
 intro pins s σ H Q I h
 refine BoolOp_and (thn (ha pins s σ H _ I h) fun v s1 ⟨x,H1,I1,r1,q1⟩=>?_)
 obtain⟨c,rfl,q1⟩:=q1
 cases r1
 refine wpAny_truthy_bool ?_
 cases c with
 |true=>exact hb pins s1 σ H1 Q I1 q1
 |false=>exact⟨.bl false,H1,I1,rfl,q1⟩
theorem pe_or (ha:PE X a ta) (hb:PE X (.BoolOp .Or (b :: rest) pos) tb):PE X (.BoolOp .Or (a :: b :: rest) pos) (tOrV ta tb):=by
 intro pins s σ H Q I h
 refine BoolOp_or (thn (ha pins s σ H _ I h) fun v s1 ⟨x,H1,I1,r1,q1⟩=>?_)
 obtain⟨c,rfl,q1⟩:=q1
 cases r1
 refine wpAny_truthy_bool ?_
 cases c with
 |false=>exact hb pins s1 σ H1 Q I1 q1
 |true=>exact⟨.bl true,H1,I1,rfl,q1⟩
theorem pe_not (ha:PE X a ta):PE X (.UnaryOp .Not a pos) (tNotV ta):=by
 intro pins s σ H Q I h
 refine UnaryOp_ (thn (ha pins s σ H _ I h) fun v s1 ⟨x,H1,I1,r1,q1⟩=>?_)
 obtain⟨c,rfl,q1⟩:=q1
 cases r1
 exact not_of (wpAny_truthy_bool ⟨.bl (!c),H1,I1,rfl,q1⟩)
end
def SqL (K:W.Frag) (H:Hp) (a:Addr) (xs:List V):Prop:=
 Rd H a (.lst xs)\/
  ∃(o:Obj) (its:Array Value) (n:Nat),K.lookup a=some o/\o.cls=.type "list"/\o.dict=none/\o.data=.seq its n/\its.size<=sizeLine/\Vals xs its.toList
def SqT (K:W.Frag) (H:Hp) (a:Addr) (xs:List V):Prop:=
 Rd H a (.tup xs)\/
  ∃(o:Obj) (its:Array Value) (n:Nat),K.lookup a=some o/\o.cls=.type "tuple"/\o.data=.seq its n/\its.size<=sizeLine/\Vals xs its.toList
noncomputable def absV:Value->Option V
 | .none=>some .non
 | .bool b=>some (.bl b)
 | .int i _=>some (.int i)
 | .str x _=>some (.str x)
 | .bytes b _=>some (.byt b)
 | .float b _=>some (.flt b)
 | .ref a=>some (.ref a)
 | .type n=>some (.ty n)
 |_=>none
theorem RelV.abs {x:V} {u:Value} (r:RelV x u):absV u=some x:=by
 cases x with
 |non=>cases r;rfl
 |bl _=>cases r;rfl
 |int _=>obtain⟨t,rfl⟩:=r;rfl
 |str _=>obtain⟨t,rfl⟩:=r;rfl
 |byt _=>obtain⟨t,rfl⟩:=r;rfl
 |flt _=>obtain⟨t,rfl⟩:=r;rfl
 |ref _=>cases r;rfl
 |ty _=>cases r;rfl
theorem RelV.inj {x y:V} {u:Value} (r:RelV x u) (q:RelV y u):x=y:=Option.some.inj (r.abs.symm.trans q.abs)
theorem Vals.inj:∀{xs ys:List V} {us:List Value},Vals xs us->Vals ys us->xs=ys
 |_,_,_,.nil,.nil=>rfl
 |_,_,_,.cons r t,.cons r' t'=>by rw[r.inj r',Vals.inj t t']
section
variable {X:Cx} {pins:List (Addr×Obj)} {σ:St} {H:Hp} {s:Shared} {a:Addr} {xs ys:List V}
theorem SqL.of {K:W.Frag} (h:H a=some (.lst xs)):SqL K H a xs:=.inl (.inl h)
theorem SqT.of {K:W.Frag} (h:H a=some (.tup xs)):SqT K H a xs:=.inl (.inl h)
theorem Inv.list (I:Inv X pins σ H s) (h:SqL X.K H a xs):∃its:List Value,Vals xs its/\PlainL s.heap a its.toArray/\xs.length<=sizeLine:=by
 rcases h with h|⟨o,its,n,hk,hc,hd,hs,hz,r⟩
 .obtain⟨z,its,n,r,e⟩:=h.ok I.hok
  exact⟨its,r,⟨_,n,e,rfl,rfl,rfl⟩,z⟩
 .refine⟨its.toList,r,⟨o,n,I.kIn a o hk,hc,hd,by simpa using hs⟩,?_⟩
  have e:=r.length
  simp only[Array.length_toList]at e
  omega
theorem Inv.tuple (I:Inv X pins σ H s) (h:SqT X.K H a xs):∃its:List Value,Vals xs its/\IsTup s.heap a its.toArray/\xs.length<=sizeLine:=by
 rcases h with h|⟨o,its,n,hk,hc,hs,hz,r⟩
 .obtain⟨z,its,r,p⟩:=h.ok I.hok
  exact⟨its,r,p.tup,z⟩
 .refine⟨its.toList,r,⟨o,I.kIn a o hk,hc,n,by simpa using hs⟩,?_⟩
  have e:=r.length
  simp only[Array.length_toList]at e
  omega
theorem Inv.list_inj (I:Inv X pins σ H s) (h:SqL X.K H a xs) (h':SqL X.K H a ys):xs=ys:=by
 obtain⟨its,r,⟨o,n,e,_,_,d⟩,_⟩:=I.list h
 obtain⟨its',r',⟨o',n',e',_,_,d'⟩,_⟩:=I.list h'
 rw[e]at e';cases e'
 rw[d]at d'
 injection d' with d1 _
 have:its=its':=by simpa using congrArg Array.toList d1
 subst this
 exact r.inj r'
theorem Inv.tuple_inj (I:Inv X pins σ H s) (h:SqT X.K H a xs) (h':SqT X.K H a ys):xs=ys:=by
 obtain⟨its,r,⟨o,e,_,n,d⟩,_⟩:=I.tuple h
 obtain⟨its',r',⟨o',e',_,n',d'⟩,_⟩:=I.tuple h'
 rw[e]at e';cases e'
 rw[d]at d'
 injection d' with d1 _
 have:its=its':=by simpa using congrArg Array.toList d1
 subst this
 exact r.inj r'
end
noncomputable abbrev Cx.wish (X:Cx) (E:Value->Shared->Prop):Cx:={ X with xe:=E }
noncomputable abbrev Cx.nox (X:Cx):Cx:=X.wish fun _ _=>False
theorem Cx.Ok.wish {X:Cx} (ok:X.Ok) (E:Value->Shared->Prop):(X.wish E).Ok:=
 ⟨ok.mod,ok.kind,ok.glob,ok.blt,ok.above,ok.inj,ok.has,ok.cab,ok.hd,ok.frames,ok.stk,ok.exf,ok.bs,ok.bsz,ok.noex,ok.exfs,ok.funs,ok.frf⟩
theorem Cx.Ok.unwish {X:Cx} {E:Value->Shared->Prop} (ok:(X.wish E).Ok):X.Ok:=
 ⟨ok.mod,ok.kind,ok.glob,ok.blt,ok.above,ok.inj,ok.has,ok.cab,ok.hd,ok.frames,ok.stk,ok.exf,ok.bs,ok.bsz,ok.noex,ok.exfs,ok.funs,ok.frf⟩
section
variable {X:Cx} {pins:List (Addr×Obj)} {σ:St} {H:Hp} {s:Shared} {E:Value->Shared->Prop}
theorem Inv.wish (I:Inv X pins σ H s) (E:Value->Shared->Prop):Inv (X.wish E) pins σ H s:=⟨I.ok.wish E,I.os,I.bare,I.base,I.loc,I.cell,I.free,I.freeC,I.pin,I.hok,I.len⟩
theorem Inv.unwish (I:Inv (X.wish E) pins σ H s):Inv X pins σ H s:=⟨I.ok.unwish,I.os,I.bare,I.base,I.loc,I.cell,I.free,I.freeC,I.pin,I.hok,I.len⟩
theorem SP.unwish {D:Ends} {f:Flow} {s':Shared} (h:SP (X.wish E) pins D f s'):SP X pins D f s':=by
 cases f with
 |next=>obtain⟨σ',H',I,q⟩:=h;exact⟨σ',H',I.unwish,q⟩
 |brk=>obtain⟨σ',H',I,q⟩:=h;exact⟨σ',H',I.unwish,q⟩
 |cont=>obtain⟨σ',H',I,q⟩:=h;exact⟨σ',H',I.unwish,q⟩
 |ret u=>obtain⟨v,σ',H',I,r,q⟩:=h;exact⟨v,σ',H',I.unwish,r,q⟩
theorem PSs.nox {st:List Stmt} {t:TS} (h:PSs X.nox st t):PSs X st t:=fun pins s σ H D I hw=>
 wpAny_mono (h pins s σ H D (I.wish _) hw) (fun _ _ q=>q.unwish) fun _ _ z=>False.elim z
end
section
variable {X:Cx} {st:Stmt} {rest:List Stmt} {t u:TS} {e:Expr} {te:TE} {pos:Pos}
noncomputable def tNext:TS:=fun D σ H=>D.nx σ H
noncomputable def tSeq (t u:TS):TS:=fun D σ H=>t { D with nx:=u D } σ H
theorem pss_nil:PSs X [] tNext:=fun _ _ σ H _ I h=>wpAny_execs_nil ⟨σ,H,I,h⟩
theorem pss_cons (h1:PS X st t) (h2:PSs X rest u):PSs X (st :: rest) (tSeq t u):=by
 intro pins s σ H D I h
 refine wpAny_execs_cons (thn (h1 pins s σ H { D with nx:=u D } I h) fun f s1 q=>?_)
 cases f with
 |next=>
  obtain⟨σ',H',I',q⟩:=q
  exact h2 pins s1 σ' H' D I' q
 |ret v=>exact q
 |brk=>exact q
 |cont=>exact q
theorem Inv.quiet {pins:List (Addr×Obj)} {σ:St} {H:Hp} {s:Shared} (I:Inv X pins σ H s):interactive X.env=false:=by simp[interactive,I.ok.kind]
noncomputable def tDrop (te:TE):TS:=fun D σ H=>te σ H fun _ H1=>D.nx σ H1
theorem ps_expr (he:PE X e te) (hs:swapsWith e none pos.line X.env=pure false:=by rfl):PS X (.Expr e pos) (tDrop te):=by
 intro pins s σ H D I h
 exact wpAny_Expr_any (thn (he pins s σ H _ I h) fun v s1 ⟨x,H1,I1,r1,q1⟩=>⟨σ,H1,I1,q1⟩) I.quiet hs
noncomputable def tRet (te:TE):TS:=fun D σ H=>te σ H D.rt
theorem ps_ret (he:PE X e te):PS X (.Return (some e) pos) (tRet te):=by
 intro pins s σ H D I h
 exact wpAny_Return_some (thn (he pins s σ H _ I h) fun v s1 ⟨x,H1,I1,r1,q1⟩=>⟨x,σ,H1,I1,r1,q1⟩)
noncomputable def tIfS (c:TT) (t u:TS):TS:=fun D σ H=>c σ H fun b H1=>if b=true then t D σ H1 else u D σ H1
theorem ps_if {c:Expr} {a b:List Stmt} {tc:TT} (hc:PT X c tc) (ha:PSs X a t) (hb:PSs X b u):PS X (.If c a b pos) (tIfS tc t u):=by
 intro pins s σ H D I h
 refine wpAny_If (thn (hc pins s σ H _ I h) fun d s1 ⟨H1,I1,q1⟩=>?_)
 cases d with
 |true=>exact ha pins s1 σ H1 D I1 q1
 |false=>exact hb pins s1 σ H1 D I1 q1
noncomputable def tNever:TS:=fun _ _ _=>False
theorem ps_never:PS X st tNever:=fun _ _ _ _ _ _ h=>h.elim
end
noncomputable abbrev TG:=V->St->Hp->(St->Hp->Prop)->Prop
noncomputable abbrev TGs:=List V->St->Hp->(St->Hp->Prop)->Prop
def PG (X:Cx) (target:Expr) (t:TG):Prop:=
 ∀(pins:List (Addr×Obj)) (s:Shared) (σ:St) (H:Hp) (v:V) (u:Value) (Q:St->Hp->Prop),Inv X pins σ H s->RelV v u->t v σ H Q->
  wpAny (model X.prog X.w) X.A (assign target X.env u) (fun _ s'=>∃σ' H',Inv X pins σ' H' s'/\Q σ' H') X.xe s
def PGs (X:Cx) (ts:List Expr) (t:TGs):Prop:=
 ∀(pins:List (Addr×Obj)) (s:Shared) (σ:St) (H:Hp) (vs:List V) (us:List Value) (Q:St->Hp->Prop),Inv X pins σ H s->Vals vs us->t vs σ H Q->
  wpAny (model X.prog X.w) X.A (assignInOrder ((assignEach ts X.env).map (·.2)) us) (fun _ s'=>∃σ' H',Inv X pins σ' H' s'/\Q σ' H') X.xe s
noncomputable abbrev TSet:=V->V->V->Hp->(Hp->Prop)->Prop
def PSet (X:Cx) (t:TSet):Prop:=
 ∀(pins:List (Addr×Obj)) (s:Shared) (σ:St) (H:Hp) (o i v:V) (ov iv u:Value) (Q:Hp->Prop),Inv X pins σ H s->RelV o ov->RelV i iv->RelV v u->t o i v H Q->
  wpAny (model X.prog X.w) X.A (setItem ov iv u) (fun _ s'=>∃H',Inv X pins σ H' s'/\Q H') X.xe s
noncomputable abbrev TIp:=V->V->Hp->VK->Prop
def PIp (X:Cx) (op:Operator) (t:TIp):Prop:=
 ∀(pins:List (Addr×Obj)) (s:Shared) (σ:St) (H:Hp) (x y:V) (v u:Value) (Q:VK),Inv X pins σ H s->RelV x v->RelV y u->t x y H Q->
  wpAny (model X.prog X.w) X.A (inplaceOp op v u) (EP X pins σ Q) X.xe s
section
variable {X:Cx} {pos:Pos}
noncomputable def gName (i:Nat):TG:=fun v σ H Q=>Q (σ.set i (some v)) H
theorem pg_name {i:Nat} {x:Str} (hN:X.N.Nodup) (hi:X.N[i]?=some x) (hx:Loc X.env.scope x) (hf:X.fn x=true\/X.env.scope.names.lookup x=some .local:=by first|exact .inl rfl|exact .inr rfl|assumption):PG X (.Name x pos) (gName i):=by
 intro pins s σ H v u Q I r h
 exact wpAny_assign_Name (store_ok I hN hi hx r (fun s' I'=>⟨_,H,I',h⟩) hf)
noncomputable def gNil:TGs:=fun vs σ H Q=>vs=[]/\Q σ H
noncomputable def gCons (t:TG) (u:TGs):TGs:=fun vs σ H Q=>∃v r,vs=v :: r/\t v σ H fun σ' H'=>u r σ' H' Q
theorem pgs_nil:PGs X [] gNil:=by
 intro pins s σ H vs us Q I r h
 obtain⟨e,h⟩:=h
 subst e
 cases r
 exact assignInOrder_nil ⟨σ,H,I,h⟩
theorem pgs_cons {e:Expr} {es:List Expr} {t:TG} {u:TGs} (h1:PG X e t) (h2:PGs X es u)
  (hs:(assignEach (e :: es) X.env).map (·.2)=assign e X.env :: (assignEach es X.env).map (·.2):=by rfl):PGs X (e :: es) (gCons t u):=by
 intro pins s σ H vs us Q I r h
 obtain⟨v,vr,e1,h⟩:=h
 subst e1
 cases r with
 |cons r rr=>
  rw[hs]
  refine assignInOrder_cons (thn (h1 pins s σ H _ _ _ I r h) fun _ s1 ⟨σ1,H1,I1,q1⟩=>?_)
  exact h2 pins s1 σ1 H1 _ _ Q I1 rr q1
noncomputable def gTup (K:W.Frag) (n:Nat) (t:TGs):TG:=fun v σ H Q=>∃a xs,v=.ref a/\SqT K H a xs/\xs.length=n/\t xs σ H Q
theorem pg_tup {es:List Expr} {k:Nat} {t:TGs} {n:Nat} (hc:X.calm=true) (h:PGs X es t)
  (hn:(assignEach es X.env).length=n:=by rfl) (hst:(assignEach es X.env).findIdx? (·.1)=none:=by rfl):PG X (.Tuple es k pos) (gTup X.K n t):=by
 intro pins s σ H v u Q I r hw
 obtain⟨a,xs,e1,hq,hl,hw⟩:=hw
 subst e1
 cases r
 obtain⟨its,rv,ht,hz⟩:=I.tuple hq
 refine assign_Tuple_tuple (I.ok.hd hc) ht (by simp[hn,<- hl,rv.length]) hst fun h' hx=>?_
 have I1:Inv X pins σ H { s with heap:=h' }:=I.kept (t':=s.toks) fun b o e=>hx b o (Nat.ne_of_lt (Heap.lt_size e)) e
 exact h pins _ σ H xs _ Q I1 (by simpa using rv) hw
noncomputable def gSub (to ti:TE) (t:TSet):TG:=fun v σ H Q=>to σ H fun o H1=>ti σ H1 fun i H2=>t o i v H2 fun H3=>Q σ H3
theorem pg_sub {o i:Expr} {to ti:TE} {t:TSet} (ho:PE X o to) (hi:PE X i ti) (hs:PSet X t)
  (ha:∀v,assign (.Subscript o i pos) X.env v=(do
   let ov <- holding [v] (eval o X.env)
   let iv <- holding [v,ov] (eval i X.env)
   standAt pos
   holding [v,ov,iv] (setItem ov iv v)
   release [v,ov,iv] []):=by intro _;rfl):PG X (.Subscript o i pos) (gSub to ti t):=by
 intro pins s σ H v u Q I r h
 rw[ha]
 refine wpAny_bind (wpAny_holding (thn (ho pins s σ H _ I h) fun ov s1 ⟨x,H1,I1,r1,q1⟩=>?_))
 refine wpAny_bind (wpAny_holding (thn (hi pins s1 σ H1 _ I1 q1) fun iv s2 ⟨y,H2,I2,r2,q2⟩=>?_))
 refine wpAny_bind (wpAny_standAt (wpAny_bind (wpAny_holding (thn (hs pins s2 σ H2 x y v ov iv u _ I2 r1 r2 r q2) fun _ s3 ⟨H3,I3,q3⟩=>?_))))
 exact wpAny_release ⟨σ,H3,I3,q3⟩
noncomputable def tAsg (te:TE) (g:TG):TS:=fun D σ H=>te σ H fun x H1=>g x σ H1 D.nx
theorem ps_asg {tg e:Expr} {te:TE} {g:TG} (he:PE X e te) (hg:PG X tg g) (hs:swapsWithSole [tg] e pos.line X.env=pure false:=by rfl) (hw:swappedStores [tg] e X.env=pure none:=by rfl)
  (h1:(assignEach [tg] X.env).map (·.2)=[assign tg X.env]:=by rfl):PS X (.Assign [tg] e pos) (tAsg te g):=by
 intro pins s σ H D I h
 refine wpAny_Assign_stores (thn (he pins s σ H _ I h) fun v s1 ⟨x,H1,I1,r1,q1⟩=>?_) hs hw
 rw[h1]
 exact thn (hg pins s1 σ H1 x v _ I1 r1 q1) fun _ s2 q=>q
noncomputable def tPar (i j:Nat) (ta:TA):TS:=fun D σ H=>ta σ H fun vs H1=>∃v w,vs=[v,w]/\D.nx ((σ.set i (some v)).set j (some w)) H1
theorem ps_par {i j:Nat} {x y:Str} {a b:Expr} {ta:TA} {px py pt:Pos} {kt k2 pt2} (hc:X.calm=true) (hN:X.N.Nodup) (hi:X.N[i]?=some x) (hj:X.N[j]?=some y) (hij:i≠j)
  (hx:X.env.scope.names.lookup x=some .local) (hy:X.env.scope.names.lookup y=some .local) (ha:PA X [a,b] ta)
  (hw:swappedStores [.Tuple [.Name x px,.Name y py] kt pt] (.Tuple [a,b] k2 pt2) X.env=pure (some [x,y]))
  (hs:swapsWithSole [.Tuple [.Name x px,.Name y py] kt pt] (.Tuple [a,b] k2 pt2) pos.line X.env=pure false:=by rfl):
  PS X (.Assign [.Tuple [.Name x px,.Name y py] kt pt] (.Tuple [a,b] k2 pt2) pos) (tPar i j ta):=by
 intro pins s σ H D I h
 rw[exec_Assign_arm]
 refine wpAny_bind (wpAny_standAt ?_)
 rw[hs]
 refine wpAny_bind (wpAny_pure ?_)
 rw[if_neg (by decide)]
 refine wpAny_bind (Tuple_ (thn (ha _ pins s σ H _ I h) fun us s1 ⟨vs,H1,I1,r1,q1⟩=>?_))
 obtain⟨v,w,e1,q1⟩:=q1
 subst e1
 obtain⟨u1,u2,rfl,rv,rw'⟩:∃u1 u2,us=[u1,u2]/\RelV v u1/\RelV w u2:=by
  cases r1 with
  |cons p q=>
   cases q with
   |cons p' q'=>
    cases q'
    exact⟨_,_,rfl,p,p'⟩
 refine wpAny_newObj_type ?_ (by show 2<=sizeLine;decide)
 have I2:Inv X pins σ H1 { s1 with heap:=s1.heap.push { cls:=.type "tuple",data:=.seq [u1,u2].toArray } }:=I1.kept (t':=s1.toks) fun b o e=>Heap.get?_push_of_some _ e
 rw[hw]
 refine wpAny_bind (wpAny_pure ?_)
 show wpAny (model X.prog X.w) X.A (do rule "assign.swapped-stores";let items <- unpackItems (.ref s1.heap.objs.size) 2 none;assignInOrder [fun v=>bindName X.env y v,fun v=>bindName X.env x v] items.reverse;pure Flow.next) _ _ _
 refine wpAny_bind (wpAny_rule (wpAny_bind (unpackItems_tuple (items:=#[u1,u2]) (I.ok.hd hc) (IsTup.new s1.heap _) fun h' hx'=>?_)))
 have I3:=I2.kept (h':=h') (t':=s1.toks) fun b o e=>hx' b o (Nat.ne_of_lt (Heap.lt_size e)) e
 show wpAny _ _ (assignInOrder [fun v=>bindName X.env y v,fun v=>bindName X.env x v] [u2,u1] >>= fun _=>pure Flow.next) _ _ _
 refine wpAny_bind (assignInOrder_cons (wpAny_bindName (store_ok I3 hN hj (.inl hy) rw' (fun s2 I4=>?_) (.inr hy))))
 refine assignInOrder_cons (wpAny_bindName (store_ok I4 hN hi (.inl hx) rv (fun s3 I5=>assignInOrder_nil (wpAny_pure ?_)) (.inr hx)))
 rw[List.set_comm _ _ (Ne.symm hij)]at I5
 exact⟨_,H1,I5,q1⟩
noncomputable def tAug (i:Nat) (te:TE) (ti:TIp):TS:=fun D σ H=>∃x,σ[i]?=some (some x)/\te σ H fun y H1=>ti x y H1 fun z H2=>D.nx (σ.set i (some z)) H2
theorem ps_aug {i:Nat} {x:Str} {e:Expr} {te:TE} {op:Operator} {ti:TIp} {pos':Pos} (hN:X.N.Nodup) (hi:X.N[i]?=some x) (hx:Loc X.env.scope x) (he:PE X e te) (ho:PIp X op ti) (hf:X.fn x=true\/X.env.scope.names.lookup x=some .local:=by first|exact .inl rfl|exact .inr rfl|assumption):
  PS X (.AugAssign (.Name x pos') op e pos) (tAug i te ti):=by
 intro pins s σ H D I h
 obtain⟨v,e1,h⟩:=h
 obtain⟨m,hn,hl⟩:=I.loc
 have vis:Vis X.env.scope x:=by rcases hx with k|k;exact .inl k;exact .inr (.inl k)
 obtain⟨u,r,l⟩:=hl i x v hi e1 vis
 refine wpAny_AugAssign_Name ?_
 have go:wpAny (model X.prog X.w) X.A (eval e X.env) (fun w s₂=>wpAny (model X.prog X.w) X.A (inplaceOp op u w) (fun r s₃=>wpAny (model X.prog X.w) X.A (storeName X.env x r) (fun _=>SP X pins D .next) X.xe s₃) X.xe s₂) X.xe s:=by
  refine thn (he pins s σ H _ I h) fun w s1 ⟨y,H1,I1,r1,q1⟩=>?_
  refine thn (ho pins s1 σ H1 v y u w _ I1 r r1 q1) fun z s2 ⟨zv,H2,I2,r2,q2⟩=>?_
  exact store_ok I2 hN hi hx r2 (fun s3 I3=>⟨_,H2,I3,q2⟩) hf
 rcases l with⟨hk,hm⟩|⟨hk,c,hc,hcell⟩
 .exact wpAny_loadName_local I.ok.kind hk hn hm go
 .rcases hk with hk|hk
  .exact wpAny_loadName_cell I.ok.kind hk hc hcell go
  .rcases hx with k|k
   .have:X.env.scope.names.lookup x=some .free:=hk
    rw[k]at this;cases this
   .have:X.env.scope.names.lookup x=some .free:=hk
    rw[k]at this;cases this
noncomputable def ipI (f:Int->Int->Int):TIp:=fun x y H Q=>∃i j,x=.int i/\y=.int j/\Q (.int (f i j)) H
theorem ip_add:PIp X .Add (ipI fun i j=>i+j):=by
 intro pins s σ H x y v u Q I r1 r2 h
 obtain⟨i,j,e1,e2,q⟩:=h
 subst e1;subst e2
 obtain⟨t,rfl⟩:=r1
 obtain⟨t',rfl⟩:=r2
 exact iadd_int ⟨.int _,H,I.tok _,⟨_,rfl⟩,q⟩
theorem ip_sub:PIp X .Sub (ipI fun i j=>i-j):=by
 intro pins s σ H x y v u Q I r1 r2 h
 obtain⟨i,j,e1,e2,q⟩:=h
 subst e1;subst e2
 obtain⟨t,rfl⟩:=r1
 obtain⟨t',rfl⟩:=r2
 exact isub_int ⟨.int _,H,I.tok _,⟨_,rfl⟩,q⟩
end
section
variable {X:Cx} {pos:Pos}
noncomputable def tWhile (c:TT) (tb:TS):TS:=fun D σ H=>∃W:Nat->St->Hp->Prop,(∃m,W m σ H)/\∀m σ H,W m σ H->
 c σ H fun b H1=>if b=true then ∃N:St->Hp->Prop,(∀σ' H',N σ' H'->∃m',m'<m/\W m' σ' H')/\tb { D with nx:=N,ct:=N,bk:=D.nx } σ H1 else D.nx σ H1
theorem ps_while {c:Expr} {body:List Stmt} {tc:TT} {tb:TS} (hp:PassesOwn (model X.prog X.w) X.A X.env X.xe) (hc:PT X c tc) (hb:PSs X body tb):PS X (.While c body [] pos) (tWhile tc tb):=by
 intro pins s σ H D I h
 obtain⟨W,⟨m0,w0⟩,turn⟩:=h
 refine wpAny_While (codeAny_whileLoop (fun n s'=>∃σ' H',Inv X pins σ' H' s'/\W n σ' H') ?_ m0 ⟨σ,H,I,w0⟩)
 rintro n s1 ⟨σ1,H1,I1,w1⟩
 refine wpAny_passesOwn hp (thn (hc pins s1 σ1 H1 _ I1 (turn n σ1 H1 w1)) fun b s2 ⟨H2,I2,q2⟩=>?_)
 cases b with
 |true=>
  obtain⟨N,hN,q2⟩:=q2
  rw[if_pos rfl]
  refine wpAny_passesOwn hp (thn (hb pins s2 σ1 H2 _ I2 q2) fun f s3 q3=>?_)
  cases f with
  |next=>
   obtain⟨σ3,H3,I3,n3⟩:=q3
   obtain⟨m',hm,w3⟩:=hN σ3 H3 n3
   exact⟨m',hm,σ3,H3,I3,w3⟩
  |cont=>
   obtain⟨σ3,H3,I3,n3⟩:=q3
   obtain⟨m',hm,w3⟩:=hN σ3 H3 n3
   exact⟨m',hm,σ3,H3,I3,w3⟩
  |brk=>exact q3
  |ret v=>exact q3
 |false=>
  rw[if_neg Bool.false_ne_true]
  exact wpAny_execs_nil ⟨σ1,H2,I2,q2⟩
end
structure It where
 go:Nat->Hp->Prop
 yld:Nat->Hp->V->Hp->Prop
 stop:Nat->Hp->Prop
def FpOk (X:Cx) (pins:List (Addr×Obj)) (H:Hp) (b:Addr):Prop:=
 H b=none/\b≠X.env.locals/\b∉X.fs/\(b∈X.ex\/X.s₀.heap.objs.size<=b)/\(∀x c,X.env.cells.lookup x=some c->c≠b)/\∀p∈X.pn++pins,p.1≠b
theorem Inv.fpOk {X:Cx} {pins:List (Addr×Obj)} {σ:St} {H H':Hp} {s:Shared} {b:Addr} (I:Inv X pins σ H s) (hb:s.heap.objs.size<=b) (hn:H' b=none):FpOk X pins H' b:=by
 refine⟨hn,Nat.ne_of_gt (Nat.lt_of_lt_of_le I.lt hb),I.nofs hb,.inr (Nat.le_trans I.sz hb),fun x c e z=>?_,fun p hp z=>?_⟩
 .obtain⟨v,q⟩:=I.cell x c e
  exact absurd (Nat.lt_of_lt_of_le q.lt (by rw[z];exact hb)) (Nat.lt_irrefl _)
 .exact absurd (Nat.lt_of_lt_of_le (Heap.lt_size (I.pin p hp).1) (by rw[z];exact hb)) (Nat.lt_irrefl _)
structure Turn (P:Program) (w:World) (K:W.Frag) (tg:Expr) (J:It) (fp:List Addr) (it:Addr) (tn:Nat->Heap->Prop):Prop where
 mem:it∈fp
 obj:∀i h,tn i h->∀b∈fp,∃o,h.get? b=some o/\∀v,o.data≠.cell v
 keep:∀i h h',tn i h->(∀b∈fp,∀o,h.get? b=some o->h'.get? b=some o)->tn i h'
 item:∀(X:Cx),X.prog=P->X.w=w->X.K=K->X.calm=true->∀(i:Nat) (pins:List (Addr×Obj)) (s:Shared) (σ:St) (H:Hp) (E:Value->Shared->Prop),Inv X pins σ H s->(∀b∈fp,FpOk X pins H b)->tn i s.heap->J.go i H->
  wpAny (model P w) X.A (pyNext (.ref it)) (fun r s1=>∃u,r=some u/\
   wpAny (model P w) X.A (letOwnedTupleGo tg (.ref it) u) (fun _ s2=>∃x H',Inv X pins σ H' s2/\RelV x u/\J.yld i H x H'/\tn (i+1) s2.heap/\∀b∈fp,H' b=none) E s1) E s
 done:∀(X:Cx),X.prog=P->X.w=w->X.K=K->X.calm=true->∀(i:Nat) (pins:List (Addr×Obj)) (s:Shared) (σ:St) (H:Hp) (E:Value->Shared->Prop),Inv X pins σ H s->(∀b∈fp,FpOk X pins H b)->tn i s.heap->J.stop i H->
  wpAny (model P w) X.A (pyNext (.ref it)) (fun r s1=>r=none/\Inv X pins σ H s1) E s
 self:∀(A:Around) (i:Nat) (s:Shared) (Q:Value->Shared->Prop) (E:Value->Shared->Prop),tn i s.heap->Q (.ref it) s->wpAny (model P w) A (pyIter (.ref it)) Q E s
noncomputable abbrev TI:=St->Hp->(It->Hp->Prop)->Prop
def PIE (X:Cx) (pins:List (Addr×Obj)) (σ:St) (tg:Expr) (R:It->Hp->Prop) (itv:Value) (s2:Shared):Prop:=
 ∃(it:Addr) (fp:List Addr) (tn:Nat->Heap->Prop) (J:It) (H':Hp),itv=.ref it/\Inv X pins σ H' s2/\Turn X.prog X.w X.K tg J fp it tn/\tn 0 s2.heap/\(∀b∈fp,FpOk X pins H' b)/\R J H'
def PI (X:Cx) (tg iter:Expr) (wi:TI):Prop:=
 ∀(pins:List (Addr×Obj)) (s:Shared) (σ:St) (H:Hp) (R:It->Hp->Prop),Inv X pins σ H s->wi σ H R->
  wpAny (model X.prog X.w) X.A (eval iter X.env) (fun v s1=>wpAny (model X.prog X.w) X.A (pyIter v) (PIE X pins σ tg R) X.xe s1) X.xe s
theorem go_of {M:Model} {A:Around} {E:Value->Shared->Prop} {s:Shared} {tg:Expr} {it:Addr} {u:Value} {o:Obj} {n:String} {vs:Array Value} {Q:Unit->Shared->Prop} (ho:s.heap.get? it=some o) (hc:o.cls=.type n) (hd:o.data=.fields vs)
  (hn:["enumerate","zip","dict_itemiterator","dict_reverseitemiterator","odict_iterator","itertools.zip_longest","itertools.pairwise"].contains n=false) (hQ:Q () s):wpAny M A (letOwnedTupleGo tg (.ref it) u) Q E s:=by
 unfold letOwnedTupleGo
 cases tg<;>first
  |exact wpAny_pure hQ
  |(cases u<;>first
    |exact wpAny_pure hQ
    |(refine wpAny_bind (wpAny_load ho ?_)
      rw[hc,hd]
      show wpAny M A (if(["enumerate","zip","dict_itemiterator","dict_reverseitemiterator","odict_iterator","itertools.zip_longest","itertools.pairwise"].contains n&&vs[0]? == some (rawInt _))=true then _ else _) Q E s
      rw[if_neg (by intro h;rw[hn,Bool.false_and]at h;cases h)]
      exact wpAny_pure hQ))
noncomputable def Itl (K:W.Frag) (a:Addr):It:=
 ⟨fun i H=>∃xs x,SqL K H a xs/\xs[i]?=some x,fun i H x H'=>H'=H/\∀xs,SqL K H a xs->xs[i]?=some x,fun i H=>∃xs,SqL K H a xs/\xs.length<=i⟩
noncomputable def Itt (K:W.Frag) (a:Addr):It:=
 ⟨fun i H=>∃xs x,SqT K H a xs/\xs[i]?=some x,fun i H x H'=>H'=H/\∀xs,SqT K H a xs->xs[i]?=some x,fun i H=>∃xs,SqT K H a xs/\xs.length<=i⟩
noncomputable def Itr (lo:Int) (n:Nat):It:=⟨fun i _=>i<n,fun i H x H'=>H'=H/\x=.int (lo+i),fun i _=>n<=i⟩
theorem turn_list {P:Program} {w:World} {K:W.Frag} {tg:Expr} (a it:Addr):Turn P w K tg (Itl K a) [it] it (fun i h=>h.IsListIter it a i) where
 mem:=by simp
 obj:=fun i h st b hb=>by
  have e:b=it:=by simpa using hb
  subst e
  obtain⟨o,e,c,d⟩:=st
  exact⟨o,e,fun v z=>by rw[d]at z;cases z⟩
 keep:=fun i h h' st k=>st.at fun o e=>k it (by simp) o e
 item:=by
  intro X hP hw hK hc i pins s σ H E I hf st hg
  subst hP hw hK
  obtain⟨xs,x,hq,hx⟩:=hg
  obtain⟨its,rv,p,hz⟩:=I.list hq
  obtain⟨u,hu,ru⟩:=rv.get hx
  obtain⟨f0,f1,f2,f3,f4,f5⟩:=hf it (by simp)
  refine wpAny_pyNext_list_item st p.isList (x:=u) (by simpa using hu) fun h' st' sb=>?_
  have I1:Inv X pins σ H { s with heap:=h' }:=I.turned (t':=s.toks) (fun b o hb e=>(sb.2 b hb).trans e) f0 f1 f3 f4 f5
  obtain⟨o,e,c,d⟩:=id st'
  exact⟨u,rfl,go_of (s:={ s with heap:=h' }) e c d (by decide) ⟨x,H,I1,ru,⟨rfl,fun ys hy=>by rw[I.list_inj hy hq];exact hx⟩,st',fun b hb=>(hf b hb).1⟩⟩
 done:=by
  intro X hP hw hK hc i pins s σ H E I hf st hg
  subst hP hw hK
  obtain⟨xs,hq,hx⟩:=hg
  obtain⟨its,rv,p,hz⟩:=I.list hq
  obtain⟨f0,f1,f2,f3,f4,f5⟩:=hf it (by simp)
  have hl:=rv.length
  exact wpAny_pyNext_list_end (I.ok.hd hc) st p.isList (by simp;omega) fun h' eb=>⟨rfl,I.turned (t':=s.toks) (fun b o hb e=>eb b o hb e) f0 f1 f3 f4 f5⟩
 self:=fun _ _ _ _ _ st h=>wpAny_pyIter_listiter st h
theorem turn_tuple {P:Program} {w:World} {K:W.Frag} {tg:Expr} (a it:Addr):Turn P w K tg (Itt K a) [it] it (fun i h=>h.IsTupleIter it a i) where
 mem:=by simp
 obj:=fun i h st b hb=>by
  have e:b=it:=by simpa using hb
  subst e
  obtain⟨o,e,c,d⟩:=st
  exact⟨o,e,fun v z=>by rw[d]at z;cases z⟩
 keep:=fun i h h' st k=>st.at fun o e=>k it (by simp) o e
 item:=by
  intro X hP hw hK hc i pins s σ H E I hf st hg
  subst hP hw hK
  obtain⟨xs,x,hq,hx⟩:=hg
  obtain⟨its,rv,p,hz⟩:=I.tuple hq
  obtain⟨u,hu,ru⟩:=rv.get hx
  obtain⟨f0,f1,f2,f3,f4,f5⟩:=hf it (by simp)
  refine wpAny_pyNext_tuple_item st (show s.heap.IsTuple a its.toArray from p) (x:=u) (by simpa using hu) fun h' st' sb=>?_
  have I1:Inv X pins σ H { s with heap:=h' }:=I.turned (t':=s.toks) (fun b o hb e=>(sb.2 b hb).trans e) f0 f1 f3 f4 f5
  obtain⟨o,e,c,d⟩:=id st'
  exact⟨u,rfl,go_of (s:={ s with heap:=h' }) e c d (by decide) ⟨x,H,I1,ru,⟨rfl,fun ys hy=>by rw[I.tuple_inj hy hq];exact hx⟩,st',fun b hb=>(hf b hb).1⟩⟩
 done:=by
  intro X hP hw hK hc i pins s σ H E I hf st hg
  subst hP hw hK
  obtain⟨xs,hq,hx⟩:=hg
  obtain⟨its,rv,p,hz⟩:=I.tuple hq
  obtain⟨f0,f1,f2,f3,f4,f5⟩:=hf it (by simp)
  have hl:=rv.length
  exact wpAny_pyNext_tuple_end (I.ok.hd hc) st (show s.heap.IsTuple a its.toArray from p) (by simp;omega) fun h' eb=>⟨rfl,I.turned (t':=s.toks) (fun b o hb e=>eb b o hb e) f0 f1 f3 f4 f5⟩
 self:=fun _ _ _ _ _ st h=>wpAny_pyIter_tupleiter st h
theorem turn_range {P:Program} {w:World} {K:W.Frag} {tg:Expr} (it:Addr) (lo:Int) (n:Nat):Turn P w K tg (Itr lo n) [it] it (fun i h=>IsRangeIter h it (lo+(i:Nat)*1) ((n:Int)-(i:Nat)) 1) where
 mem:=by simp
 obj:=fun i h st b hb=>by
  have e:b=it:=by simpa using hb
  subst e
  exact⟨_,st,fun v z=>by
   have z':Data.fields _=Data.cell v:=z
   cases z'⟩
 keep:=fun i h h' st k=>k it (by simp) _ st
 item:=by
  intro X hP hw hK hc i pins s σ H E I hf st hg
  subst hP hw hK
  obtain⟨f0,f1,f2,f3,f4,f5⟩:=hf it (by simp)
  have W:=Walks.range (prog:=X.prog) (w:=X.w) (I.ok.hd hc) it lo 1 n
  refine W.item i s _ _ hg st fun v h' tk hv st' kk=>?_
  obtain⟨t,rfl⟩:=hv
  have I1:Inv X pins σ H { s with heap:=h',toks:=tk }:=I.turned (fun b o hb e=>kk b o (by simpa using hb) e) f0 f1 f3 f4 f5
  refine⟨_,rfl,go_of (s:={ s with heap:=h',toks:=tk }) (n:="range_iterator") st' rfl rfl (by decide) ⟨.int (lo+i),H,I1,⟨t,?_⟩,⟨rfl,rfl⟩,st',fun b hb=>(hf b hb).1⟩⟩
  rw[Int.mul_one]
 done:=by
  intro X hP hw hK hc i pins s σ H E I hf st hg
  subst hP hw hK
  obtain⟨f0,f1,f2,f3,f4,f5⟩:=hf it (by simp)
  exact wpAny_pyNext_range_end (I.ok.hd hc) st (by have:n<=i:=hg;omega) fun h' eb=>⟨rfl,I.turned (t':=s.toks) (fun b o hb e=>eb b o hb e) f0 f1 f3 f4 f5⟩
 self:=fun _ _ _ _ _ st h=>wpAny_pyIter_rangeiter st h
section
variable {X:Cx} {tg:Expr}
theorem range_it {pins:List (Addr×Obj)} {σ:St} {H:Hp} {s:Shared} {R:It->Hp->Prop} {E:Value->Shared->Prop} {lo hi:Int} {t u v:Tok} {tk:Nat} (I:Inv X pins σ H s) (h1:-(2 ^ 62)<=lo) (h2:lo<2 ^ 62) (h3:-(2 ^ 62)<=hi) (h4:hi<2 ^ 62)
  (q:R (Itr lo (hi-lo).toNat) H):wpAny (model X.prog X.w) X.A (pyIter (.ref s.heap.objs.size)) (PIE X pins σ tg R) E { s with heap:=s.heap.push { cls:=.type "range",data:=.fields #[.int lo t,.int hi u,.int 1 v] },toks:=tk }:=by
 refine wpAny_pyIter_range (IsRange.new ..) (small_one h1 h2 h3 h4) ?_
 have I1:Inv X pins σ H { s with heap:=s.heap.push { cls:=.type "range",data:=.fields #[.int lo t,.int hi u,.int 1 v] },toks:=tk }:=I.kept fun b o e=>Heap.get?_push_of_some _ e
 refine⟨(s.heap.push { cls:=.type "range",data:=.fields #[.int lo t,.int hi u,.int 1 v] }).objs.size,[(s.heap.push { cls:=.type "range",data:=.fields #[.int lo t,.int hi u,.int 1 v] }).objs.size],_,_,H,rfl,
  I1.kept (t':=tk) fun b o e=>Heap.get?_push_of_some _ e,turn_range _ lo (hi-lo).toNat,?_,fun b hb=>?_,q⟩
 .have e1:lo+((0:Nat):Int)*1=lo:=by simp
  have e2:(((hi-lo).toNat:Nat):Int)-((0:Nat):Int)=Builtin.Range.rangeSize lo hi 1:=by rw[rangeSize_one];split<;>omega
  show IsRangeIter _ _ (lo+((0:Nat):Int)*1) ((((hi-lo).toNat:Nat):Int)-((0:Nat):Int)) 1
  rw[e1,e2]
  exact Heap.get?_push_size _ rfl
 .have e:b=(s.heap.push { cls:=.type "range",data:=.fields #[.int lo t,.int hi u,.int 1 v] }).objs.size:=by simpa using hb
  subst e
  exact I1.fpOk (Nat.le_refl _) (I1.hok.fresh (Nat.le_refl _))
noncomputable def iRng1 (ta:TA):TI:=fun σ H R=>ta σ H fun vs H1=>∃j:Int,vs=[.int j]/\-(2 ^ 62)<=j/\j<2 ^ 62/\R (Itr 0 j.toNat) H1
noncomputable def iRng2 (ta:TA):TI:=fun σ H R=>ta σ H fun vs H1=>∃i j:Int,vs=[.int i,.int j]/\(-(2 ^ 62)<=i/\i<2 ^ 62/\-(2 ^ 62)<=j/\j<2 ^ 62)/\R (Itr i (j-i).toNat) H1
theorem pi_range1 {a:Expr} {ta:TA} {p pos:Pos} (hg:Gl X "range") (hm:X.mg "range"=none) (ha:PA X [a] ta) (hs:starEach [a] X.env=[(false,eval a X.env)]:=by rfl):PI X tg (.Call (.Name "range" p) [a] [] pos) (iRng1 ta):=by
 intro pins s σ H R I h
 refine Call_ (ld_blt I hg hm boot_range (PyProof.Rows.callWith_type1 (thn (ha pos pins s σ H _ I h) fun us s1 ⟨vs,H1,I1,r1,q1⟩=>?_) hs rfl))
 obtain⟨j,e,q1,q2,q⟩:=q1
 subst e
 cases r1 with
 |cons r rr=>
  cases rr
  obtain⟨t,rfl⟩:=r
  exact call_range_1 (range_it I1 (by omega) (by omega) q1 q2 (by simpa using q))
theorem pi_range2 {a b:Expr} {ta:TA} {p pos:Pos} (hg:Gl X "range") (hm:X.mg "range"=none) (ha:PA X [a,b] ta) (hs:starEach [a,b] X.env=[(false,eval a X.env),(false,eval b X.env)]:=by rfl) (hs2:starEach [b] X.env=[(false,eval b X.env)]:=by rfl):
  PI X tg (.Call (.Name "range" p) [a,b] [] pos) (iRng2 ta):=by
 intro pins s σ H R I h
 refine Call_ (ld_blt I hg hm boot_range (PyProof.Rows.callWith_type1 (thn (ha pos pins s σ H _ I h) fun us s1 ⟨vs,H1,I1,r1,q1⟩=>?_) (by rw[hs,hs2]) (by rw[hs2];rfl)))
 obtain⟨i,j,e,⟨q1,q2,q3,q4⟩,q⟩:=q1
 subst e
 cases r1 with
 |cons r rr=>
  cases rr with
  |cons r' rr=>
   cases rr
   obtain⟨t,rfl⟩:=r
   obtain⟨t',rfl⟩:=r'
   exact call_range_2 (range_it I1 q1 q2 q3 q4 q)
noncomputable def tFor (wi:TI) (g:TG) (tb:TS):TS:=fun D σ H=>wi σ H fun J H1=>∃W:Nat->Nat->St->Hp->Prop,(∃m,W 0 m σ H1)/\∀i m σ H,W i m σ H->
 (J.stop i H/\D.nx σ H)\/(J.go i H/\∃N:St->Hp->Prop,(∀σ' H',N σ' H'->∃m',m'<m/\W (i+1) m' σ' H')/\∀x H',J.yld i H x H'->g x σ H' fun σ2 H2=>tb { D with nx:=N,ct:=N,bk:=D.nx } σ2 H2)
noncomputable def pinsAt (fp:List Addr) (h:Heap):List (Addr×Obj):=fp.filterMap fun b=>(h.get? b).map fun o=>(b,o)
theorem mem_pinsAt {fp:List Addr} {h:Heap} {b:Addr} {o:Obj} (hb:b∈fp) (e:h.get? b=some o):(b,o)∈pinsAt fp h:=List.mem_filterMap.mpr ⟨b,hb,by rw[e];rfl⟩
theorem of_pinsAt {fp:List Addr} {h:Heap} {p:Addr×Obj} (hp:p∈pinsAt fp h):p.1∈fp/\h.get? p.1=some p.2:=by
 obtain⟨b,hb,e⟩:=List.mem_filterMap.mp hp
 cases q:h.get? b with
 |none=>rw[q]at e;cases e
 |some o=>
  rw[q]at e
  have e':(b,o)=p:=Option.some.inj e
  subst e'
  exact⟨hb,q⟩
theorem Inv.pinned {pins:List (Addr×Obj)} {σ:St} {H:Hp} {s:Shared} {fp:List Addr} (I:Inv X pins σ H s) (hf:∀b∈fp,FpOk X pins H b) (ho:∀b∈fp,∃o,s.heap.get? b=some o/\∀v,o.data≠.cell v):Inv X (pins++pinsAt fp s.heap) σ H s:=
 I.pins_of fun p hp=>(List.mem_append.mp hp).elim (fun z=>I.pin p (List.mem_append_right _ z)) fun z=>by
  obtain⟨hb,e⟩:=of_pinsAt z
  obtain⟨f0,f1,f2,_⟩:=hf p.1 hb
  obtain⟨o,e',d⟩:=ho p.1 hb
  rw[e]at e';cases e'
  exact⟨e,f0,f1,f2,d⟩
theorem Inv.unpinned {pins pl:List (Addr×Obj)} {σ:St} {H:Hp} {s:Shared} (I:Inv X (pins++pl) σ H s):Inv X pins σ H s:=I.pins_of fun p hp=>I.pin p (List.mem_append_right _ (List.mem_append_left _ hp))
theorem ps_for {iter:Expr} {body:List Stmt} {wi:TI} {g:TG} {tb:TS} {pos:Pos} (hp:PassesOwn (model X.prog X.w) X.A X.env X.xe) (hc:X.calm=true) (hi:PI X tg iter wi) (hg:PG X tg g) (hb:PSs X body tb)
  (hs:∀x,foldedSetIterable iter X.env x=pure x:=by intro _;rfl):PS X (.For tg iter body [] pos) (tFor wi g tb):=by
 intro pins s σ H D I h
 refine wpAny_For (thn (hi pins s σ H _ I h) fun v s1 h1=>thn h1 fun itv s2 h2=>?_) hs
 obtain⟨it,fp,tn,J,H2,e,I2,T,st2,f2,W,⟨m0,w0⟩,turn⟩:=h2
 subst e
 have stat:∀{H':Hp},(∀b∈fp,H' b=none)->∀b∈fp,FpOk X pins H' b:=fun hn b hb=>⟨hn b hb,(f2 b hb).2⟩
 refine codeAny_forLoop_any (fun n s'=>∃i σ' H',Inv X pins σ' H' s'/\tn i s'.heap/\(∀b∈fp,H' b=none)/\W i n σ' H') ?_ m0 ⟨0,σ,H2,I2,st2,fun b hb=>(f2 b hb).1,w0⟩
 rintro n s3 ⟨i,σ3,H3,I3,st3,fr3,w3⟩
 rcases turn i n σ3 H3 w3 with⟨stop,qn⟩|⟨go,N,hN,step⟩
 .refine wpAny_passesOwn hp (thn (T.done X rfl rfl rfl hc i pins s3 σ3 H3 X.xe I3 (stat fr3) st3 stop) fun r s4 ⟨hr,I4⟩=>?_)
  subst hr
  exact wpAny_execs_nil ⟨σ3,H3,I4,qn⟩
 .refine wpAny_passesOwn hp (thn (T.item X rfl rfl rfl hc i pins s3 σ3 H3 X.xe I3 (stat fr3) st3 go) fun r s4 ⟨u,hr,h4⟩=>?_)
  subst hr
  refine wpAny_passesOwn hp (thn h4 fun _ s5 ⟨x,H5,I5,r5,y5,st5,fr5⟩=>?_)
  have I5':=I5.pinned (stat fr5) (T.obj _ _ st5)
  refine wpAny_passesOwn hp (thn (hg _ s5 σ3 H5 x u _ I5' r5 (step x H5 y5)) fun _ s6 ⟨σ6,H6,I6,q6⟩=>?_)
  refine wpAny_passesOwn hp (thn (hb _ s6 σ6 H6 _ I6 q6) fun f s7 q7=>?_)
  have again:∀{σ7:St} {H7:Hp},Inv X (pins++pinsAt fp s5.heap) σ7 H7 s7->N σ7 H7->∃m,m<n/\∃i σ' H',Inv X pins σ' H' s7/\tn i s7.heap/\(∀b∈fp,H' b=none)/\W i m σ' H':=fun {σ7 H7} I7 n7=>by
   obtain⟨m',hm,w7⟩:=hN σ7 H7 n7
   refine⟨m',hm,i+1,σ7,H7,I7.unpinned,T.keep _ _ _ st5 fun b hb o e=>(I7.pin (b,o) (List.mem_append_right _ (List.mem_append_right _ (mem_pinsAt hb e)))).1,fun b hb=>?_,w7⟩
   obtain⟨o,e,d⟩:=T.obj _ _ st5 b hb
   exact(I7.pin (b,o) (List.mem_append_right _ (List.mem_append_right _ (mem_pinsAt hb e)))).2.1
  cases f with
  |next=>obtain⟨σ7,H7,I7,n7⟩:=q7;exact again I7 n7
  |cont=>obtain⟨σ7,H7,I7,n7⟩:=q7;exact again I7 n7
  |brk=>obtain⟨σ7,H7,I7,q7⟩:=q7;exact⟨σ7,H7,I7.unpinned,q7⟩
  |ret v=>obtain⟨x7,σ7,H7,I7,r7,q7⟩:=q7;exact⟨x7,σ7,H7,I7.unpinned,r7,q7⟩
end
theorem for_tup {K:W.Frag} {a:Addr} {xs:List V} {g:TG} {tb:TS} {D:Ends} {σ:St} {H:Hp} (Pv:Nat->St->Hp->Prop) (h0:Pv 0 σ H) (hl:∀i σ H,i<=xs.length->Pv i σ H->SqT K H a xs)
  (hs:∀i x σ H,xs[i]?=some x->Pv i σ H->g x σ H fun σ2 H2=>tb { D with nx:=Pv (i+1),ct:=Pv (i+1),bk:=D.nx } σ2 H2) (hd:∀σ H,Pv xs.length σ H->D.nx σ H):
  ∃W:Nat->Nat->St->Hp->Prop,(∃m,W 0 m σ H)/\∀i m σ H,W i m σ H->
   ((Itt K a).stop i H/\D.nx σ H)\/((Itt K a).go i H/\∃N:St->Hp->Prop,(∀σ' H',N σ' H'->∃m',m'<m/\W (i+1) m' σ' H')/\∀x H',(Itt K a).yld i H x H'->g x σ H' fun σ2 H2=>tb { D with nx:=N,ct:=N,bk:=D.nx } σ2 H2):=by
 refine⟨fun i m σ H=>m=xs.length-i/\i<=xs.length/\Pv i σ H,⟨xs.length,by simp,Nat.zero_le _,h0⟩,?_⟩
 rintro i m σ H ⟨rfl,hi,p⟩
 have q:=hl i σ H hi p
 by_cases hlt:i<xs.length
 .refine .inr ⟨⟨xs,xs[i],q,by simp[hlt]⟩,Pv (i+1),fun σ' H' p'=>⟨xs.length-(i+1),by omega,rfl,hlt,p'⟩,fun x H' y=>?_⟩
  obtain⟨e,y⟩:=y
  subst e
  exact hs i x σ _ (y xs q) p
 .have e:i=xs.length:=by omega
  subst e
  exact .inl ⟨⟨xs,q,Nat.le_refl _⟩,hd σ H p⟩
theorem for_range {lo:Int} {n:Nat} {g:TG} {tb:TS} {D:Ends} {σ:St} {H:Hp} (Pv:Nat->St->Hp->Prop) (h0:Pv 0 σ H)
  (hs:∀i σ H,i<n->Pv i σ H->g (.int (lo+i)) σ H fun σ2 H2=>tb { D with nx:=Pv (i+1),ct:=Pv (i+1),bk:=D.nx } σ2 H2) (hd:∀σ H,Pv n σ H->D.nx σ H):
  ∃W:Nat->Nat->St->Hp->Prop,(∃m,W 0 m σ H)/\∀i m σ H,W i m σ H->
   ((Itr lo n).stop i H/\D.nx σ H)\/((Itr lo n).go i H/\∃N:St->Hp->Prop,(∀σ' H',N σ' H'->∃m',m'<m/\W (i+1) m' σ' H')/\∀x H',(Itr lo n).yld i H x H'->g x σ H' fun σ2 H2=>tb { D with nx:=N,ct:=N,bk:=D.nx } σ2 H2):=by
 refine⟨fun i m σ H=>m=n-i/\i<=n/\Pv i σ H,⟨n,by simp,Nat.zero_le _,h0⟩,?_⟩
 rintro i m σ H ⟨rfl,hi,p⟩
 by_cases hlt:i<n
 .refine .inr ⟨hlt,Pv (i+1),fun σ' H' p'=>⟨n-(i+1),by omega,rfl,hlt,p'⟩,fun x H' y=>?_⟩
  obtain⟨e,y⟩:=y
  subst e y
  exact hs i σ _ hlt p
 .have e:i=n:=by omega
  subst e
  exact .inl ⟨Nat.le_refl _,hd σ H p⟩
noncomputable abbrev R2:=V->V->Hp->VK->Prop
def OpR (X:Cx) (f:Value->Value->Sem Value) (r:R2):Prop:=
 ∀(pins:List (Addr×Obj)) (s:Shared) (σ:St) (H:Hp) (x y:V) (v u:Value) (Q:VK),Inv X pins σ H s->RelV x v->RelV y u->r x y H Q->
  wpAny (model X.prog X.w) X.A (f v u) (EP X pins σ Q) X.xe s
def UnR (X:Cx) (f:Value->Sem Value) (r:V->Hp->VK->Prop):Prop:=
 ∀(pins:List (Addr×Obj)) (s:Shared) (σ:St) (H:Hp) (x:V) (v:Value) (Q:VK),Inv X pins σ H s->RelV x v->r x H Q->
  wpAny (model X.prog X.w) X.A (f v) (EP X pins σ Q) X.xe s
def CallR (X:Cx) (f:Value) (r:List V->Hp->VK->Prop):Prop:=
 ∀(pins:List (Addr×Obj)) (s:Shared) (σ:St) (H:Hp) (xs:List V) (us:List Value) (Q:VK),Inv X pins σ H s->Vals xs us->r xs H Q->
  wpAny (model X.prog X.w) X.A (call f us) (EP X pins σ Q) X.xe s
def TruR (X:Cx) (r:V->Hp->(Bool->Hp->Prop)->Prop):Prop:=
 ∀(pins:List (Addr×Obj)) (s:Shared) (σ:St) (H:Hp) (x:V) (v:Value) (Q:Bool->Hp->Prop),Inv X pins σ H s->RelV x v->r x H Q->
  wpAny (model X.prog X.w) X.A (truthy v) (TP X pins σ Q) X.xe s
noncomputable def tOp (r:R2) (ta tb:TE):TE:=fun σ H Q=>ta σ H fun x H1=>tb σ H1 fun y H2=>r x y H2 Q
noncomputable def tUn (r:V->Hp->VK->Prop) (ta:TE):TE:=fun σ H Q=>ta σ H fun x H1=>r x H1 Q
noncomputable def rI (C:Int->Int->Prop) (g:Int->Int->V):R2:=fun x y H Q=>∃i j,x=.int i/\y=.int j/\C i j/\Q (g i j) H
noncomputable def rI0 (g:Int->Int->V):R2:=fun x y H Q=>∃i j,x=.int i/\y=.int j/\Q (g i j) H
noncomputable def rU (g:Int->V):V->Hp->VK->Prop:=fun x H Q=>∃i,x=.int i/\Q (g i) H
section
variable {X:Cx} {a b c:Expr} {ta tb tc:TE} {pos:Pos}
theorem binT (ha:PE X a ta) (hb:PE X b tb) {pins:List (Addr×Obj)} {s:Shared} {σ:St} {H:Hp} {R:V->V->Hp->Prop} (I:Inv X pins σ H s)
  (h:ta σ H fun x H1=>tb σ H1 fun y H2=>R x y H2) {Q:Value->Shared->Prop} {f:Value->Value->Sem Value}
  (hf:∀v u s2 x y H2,Inv X pins σ H2 s2->RelV x v->RelV y u->R x y H2->wpAny (model X.prog X.w) X.A (f v u) Q X.xe s2):
  wpAny (model X.prog X.w) X.A (eval a X.env) (fun v s₁=>wpAny (model X.prog X.w) X.A (eval b X.env) (fun u s₂=>wpAny (model X.prog X.w) X.A (f v u) Q X.xe s₂) X.xe s₁) X.xe s:=by
 refine thn (ha pins s σ H _ I h) fun v s1 ⟨x,H1,I1,r1,q1⟩=>?_
 refine thn (hb pins s1 σ H1 _ I1 q1) fun u s2 ⟨y,H2,I2,r2,q2⟩=>?_
 exact hf v u s2 x y H2 I2 r1 r2 q2
theorem pe_op {op:Operator} {r:R2} (ho:OpR X (binaryOp op) r) (ha:PE X a ta) (hb:PE X b tb):PE X (.BinOp a op b pos) (tOp r ta tb):=by
 intro pins s σ H Q I h
 exact wpAny_BinOp (binT ha hb I h fun v u s2 x y H2 I2 rx ry q=>ho pins s2 σ H2 x y v u Q I2 rx ry q)
theorem pe_un {op:UnaryOp} {r:V->Hp->VK->Prop} (ho:UnR X (unaryOp op) r) (ha:PE X a ta):PE X (.UnaryOp op a pos) (tUn r ta):=by
 intro pins s σ H Q I h
 exact UnaryOp_ (thn (ha pins s σ H _ I h) fun v s1 ⟨x,H1,I1,r1,q1⟩=>ho pins s1 σ H1 x v Q I1 r1 q1)
theorem opI {f:Value->Value->Sem Value} {C:Int->Int->Prop} {g:Int->Int->Int}
  (rule:∀(i j:Int) (t u:Tok) (s:Shared) (Q:Value->Shared->Prop) (E:Value->Shared->Prop),C i j->Q (.int (g i j) s.toks) { s with toks:=s.toks+1 }->wpAny (model X.prog X.w) X.A (f (.int i t) (.int j u)) Q E s):
  OpR X f (rI C fun i j=>.int (g i j)):=by
 intro pins s σ H x y v u Q I rx ry h
 obtain⟨i,j,rfl,rfl,hc,q⟩:=h
 obtain⟨t,rfl⟩:=rx
 obtain⟨t',rfl⟩:=ry
 exact rule i j t t' s _ _ hc ⟨.int (g i j),H,I.tok _,⟨_,rfl⟩,q⟩
theorem opI0 {f:Value->Value->Sem Value} {g:Int->Int->Int}
  (rule:∀(i j:Int) (t u:Tok) (s:Shared) (Q:Value->Shared->Prop) (E:Value->Shared->Prop),Q (.int (g i j) s.toks) { s with toks:=s.toks+1 }->wpAny (model X.prog X.w) X.A (f (.int i t) (.int j u)) Q E s):
  OpR X f (rI0 fun i j=>.int (g i j)):=by
 intro pins s σ H x y v u Q I rx ry h
 obtain⟨i,j,rfl,rfl,q⟩:=h
 obtain⟨t,rfl⟩:=rx
 obtain⟨t',rfl⟩:=ry
 exact rule i j t t' s _ _ ⟨.int (g i j),H,I.tok _,⟨_,rfl⟩,q⟩
theorem opB0 {f:Value->Value->Sem Value} {g:Int->Int->Bool}
  (rule:∀(i j:Int) (t u:Tok) (s:Shared) (Q:Value->Shared->Prop) (E:Value->Shared->Prop),Q (.bool (g i j)) s->wpAny (model X.prog X.w) X.A (f (.int i t) (.int j u)) Q E s):
  OpR X f (rI0 fun i j=>.bl (g i j)):=by
 intro pins s σ H x y v u Q I rx ry h
 obtain⟨i,j,rfl,rfl,q⟩:=h
 obtain⟨t,rfl⟩:=rx
 obtain⟨t',rfl⟩:=ry
 exact rule i j t t' s _ _ ⟨.bl (g i j),H,I,rfl,q⟩
def CDiv (i j:Int):Prop:=0<j/\j<1073741824
def CPow (i j:Int):Prop:=0<=j/\j<=1000000/\i.natAbs<2 ^ 64
def CMul (i j:Int):Prop:=(-(2 ^ 64)<i/\i<2 ^ 64)\/(-(2 ^ 64)<j/\j<2 ^ 64)
theorem CMul.ok {i j:Int} (h:CMul i j):IntMulOk i j:=by
 rcases h with⟨h1,h2⟩|⟨h1,h2⟩
 .exact .of_left (intBits_le_64 h1 h2)
 .exact .of_right (intBits_le_64 h1 h2)
theorem two_pow_nn (k:Nat):(0:Int)<=2 ^ k:=by
 rw[two_pow_cast]
 exact Int.natCast_nonneg _
theorem op_add:OpR X (binaryOp .Add) (rI0 fun i j=>.int (i+j)):=opI0 fun _ _ _ _ _ _ _ q=>add_int q
theorem op_sub:OpR X (binaryOp .Sub) (rI0 fun i j=>.int (i-j)):=opI0 fun _ _ _ _ _ _ _ q=>sub_int q
theorem op_fdiv:OpR X (binaryOp .FloorDiv) (rI CDiv fun i j=>.int (i / j)):=opI fun i j _ _ _ _ _ hc q=>by
 have h1:(0:Int)<j:=hc.1
 have h2:j<1073741824:=hc.2
 exact floordiv_int (by omega) (by rw[Int.fdiv_eq_ediv_of_nonneg i (by omega)];exact q) (.inl (PyProof.noPylong_small (by omega)))
theorem op_mod:OpR X (binaryOp .Mod) (rI (fun _ j=>0<j) fun i j=>.int (i % j)):=opI fun i j _ _ _ _ _ hc q=>by
 have h1:(0:Int)<j:=hc
 exact mod_int' (by omega) (by rw[Int.fmod_eq_emod_of_nonneg i (by omega)];exact q)
theorem op_pow:OpR X (binaryOp .Pow) (rI CPow fun i j=>.int (i ^ j.toNat)):=opI fun _ _ _ _ _ _ _ hc q=>pow_int_small hc.1 hc.2.1 hc.2.2 q
theorem op_shr:OpR X (binaryOp .RShift) (rI (fun _ j=>0<=j) fun i j=>.int (i / 2 ^ j.toNat)):=opI fun i j _ _ _ _ _ hc q=>
 rshift_int hc (by rw[Int.fdiv_eq_ediv_of_nonneg i (two_pow_nn _)];exact q)
theorem op_and:OpR X (binaryOp .BitAnd) (rI0 fun i j=>.int (Builtin.bitAnd i j)):=opI0 fun _ _ _ _ _ _ _ q=>and_int q
theorem unI {f:Value->Sem Value} {g:Int->Int}
  (rule:∀(i:Int) (t:Tok) (s:Shared) (Q:Value->Shared->Prop) (E:Value->Shared->Prop),Q (.int (g i) s.toks) { s with toks:=s.toks+1 }->wpAny (model X.prog X.w) X.A (f (.int i t)) Q E s):
  UnR X f (rU fun i=>.int (g i)):=by
 intro pins s σ H x v Q I rx h
 obtain⟨i,rfl,q⟩:=h
 obtain⟨t,rfl⟩:=rx
 exact rule i t s _ _ ⟨.int (g i),H,I.tok _,⟨_,rfl⟩,q⟩
theorem un_neg:UnR X (unaryOp .USub) (rU fun i=>.int (-i)):=unI fun _ _ _ _ _ q=>neg_int q
end
noncomputable def scal:V->V->Bool
 | .non,.non=>true | .non,.int _=>true | .int _,.non=>true | .non,.bl _=>true | .bl _,.non=>true | .non,.str _=>true | .str _,.non=>true
 | .int _,.int _=>true | .bl _,.bl _=>true | .str _,.str _=>true | .byt _,.byt _=>true
 | .int _,.str _=>true | .str _,.int _=>true | .bl _,.str _=>true | .str _,.bl _=>true
 |_,_=>false
noncomputable def rEq:R2:=fun x y H Q=>scal x y=true/\Q (.bl (decide (x=y))) H
noncomputable def rNe:R2:=fun x y H Q=>scal x y=true/\Q (.bl (!decide (x=y))) H
theorem dec_int {i j:Int}:decide (V.int i=V.int j)=(i == j):=by
 rw[Bool.eq_iff_iff]
 simp
theorem dec_bl {i j:Bool}:decide (V.bl i=V.bl j)=(i == j):=by
 rw[Bool.eq_iff_iff]
 simp
theorem dec_str {i j:Str}:decide (V.str i=V.str j)=(i == j):=by
 rw[Bool.eq_iff_iff]
 simp
theorem dec_byt {i j:Array UInt8}:decide (V.byt i=V.byt j)=(i.toList == j.toList):=by
 rw[Bool.eq_iff_iff]
 cases i
 cases j
 simp
section
variable {X:Cx} {a b c:Expr} {ta tb tc:TE} {pos:Pos}
theorem fin_bl {pins:List (Addr×Obj)} {σ:St} {H:Hp} {s:Shared} {Q:VK} {k k':Bool} (I:Inv X pins σ H s) (q:Q (.bl k) H) (e:k=k'):EP X pins σ Q (.bool k') s:=by
 subst e
 exact⟨.bl k,H,I,rfl,q⟩
theorem op_eq:OpR X (compareOp .Eq) rEq:=by
 intro pins s σ H x y v u Q I rx ry h
 obtain⟨hs,q⟩:=h
 cases x with
 |non=>
  cases rx
  cases y with
  |non=>cases ry;exact PySem.EqNone.eq_none_none (fin_bl I q (by simp))
  |bl j=>cases ry;exact PySem.EqNone.eq_none_bool (fin_bl I q (by simp))
  |int j=>obtain⟨t',rfl⟩:=ry;exact PySem.EqNone.eq_none_int (fin_bl I q (by simp))
  |str j=>obtain⟨t',rfl⟩:=ry;exact PySem.EqNone.eq_none_str (fin_bl I q (by simp))
  |_=>exact absurd (show false=true from hs) Bool.false_ne_true
 |bl i=>
  cases rx
  cases y with
  |non=>cases ry;exact PySem.EqNone.eq_bool_none (fin_bl I q (by simp))
  |bl j=>cases ry;exact eq_bool (fin_bl I q dec_bl)
  |str j=>obtain⟨t',rfl⟩:=ry;exact PySem.EqMixed.eq_bool_str (fin_bl I q (by simp))
  |_=>exact absurd (show false=true from hs) Bool.false_ne_true
 |int i=>
  obtain⟨t,rfl⟩:=rx
  cases y with
  |non=>cases ry;exact PySem.EqNone.eq_int_none (fin_bl I q (by simp))
  |int j=>obtain⟨t',rfl⟩:=ry;exact eq_int (fin_bl I q dec_int)
  |str j=>obtain⟨t',rfl⟩:=ry;exact PySem.EqMixed.eq_int_str (fin_bl I q (by simp))
  |_=>exact absurd (show false=true from hs) Bool.false_ne_true
 |str i=>
  obtain⟨t,rfl⟩:=rx
  cases y with
  |non=>cases ry;exact PySem.EqNone.eq_str_none (fin_bl I q (by simp))
  |bl j=>cases ry;exact PySem.EqMixed.eq_str_bool (fin_bl I q (by simp))
  |int j=>obtain⟨t',rfl⟩:=ry;exact PySem.EqMixed.eq_str_int (fin_bl I q (by simp))
  |str j=>obtain⟨t',rfl⟩:=ry;exact eq_str (fin_bl I q dec_str)
  |_=>exact absurd (show false=true from hs) Bool.false_ne_true
 |byt i=>
  obtain⟨t,rfl⟩:=rx
  cases y with
  |byt j=>obtain⟨t',rfl⟩:=ry;exact W.eq_bytes (fin_bl I q dec_byt)
  |_=>exact absurd (show false=true from hs) Bool.false_ne_true
 |_=>cases y<;>exact absurd (show false=true from hs) Bool.false_ne_true
theorem op_ne:OpR X (compareOp .NotEq) rNe:=by
 intro pins s σ H x y v u Q I rx ry h
 obtain⟨hs,q⟩:=h
 cases x with
 |non=>
  cases rx
  cases y with
  |non=>cases ry;exact PySem.EqNone.ne_none_none (fin_bl I q (by simp))
  |bl j=>cases ry;exact PySem.EqNone.ne_none_bool (fin_bl I q (by simp))
  |int j=>obtain⟨t',rfl⟩:=ry;exact PySem.EqNone.ne_none_int (fin_bl I q (by simp))
  |str j=>obtain⟨t',rfl⟩:=ry;exact PySem.EqNone.ne_none_str (fin_bl I q (by simp))
  |_=>exact absurd (show false=true from hs) Bool.false_ne_true
 |bl i=>
  cases rx
  cases y with
  |non=>cases ry;exact PySem.EqNone.ne_bool_none (fin_bl I q (by simp))
  |bl j=>cases ry;exact ne_bool (fin_bl I q (congrArg not dec_bl))
  |str j=>obtain⟨t',rfl⟩:=ry;exact PySem.EqMixed.ne_bool_str (fin_bl I q (by simp))
  |_=>exact absurd (show false=true from hs) Bool.false_ne_true
 |int i=>
  obtain⟨t,rfl⟩:=rx
  cases y with
  |non=>cases ry;exact PySem.EqNone.ne_int_none (fin_bl I q (by simp))
  |int j=>obtain⟨t',rfl⟩:=ry;exact ne_int (fin_bl I q (congrArg not dec_int))
  |str j=>obtain⟨t',rfl⟩:=ry;exact PySem.EqMixed.ne_int_str (fin_bl I q (by simp))
  |_=>exact absurd (show false=true from hs) Bool.false_ne_true
 |str i=>
  obtain⟨t,rfl⟩:=rx
  cases y with
  |non=>cases ry;exact PySem.EqNone.ne_str_none (fin_bl I q (by simp))
  |bl j=>cases ry;exact PySem.EqMixed.ne_str_bool (fin_bl I q (by simp))
  |int j=>obtain⟨t',rfl⟩:=ry;exact PySem.EqMixed.ne_str_int (fin_bl I q (by simp))
  |str j=>obtain⟨t',rfl⟩:=ry;exact ne_str (fin_bl I q (congrArg not dec_str))
  |_=>exact absurd (show false=true from hs) Bool.false_ne_true
 |byt i=>
  obtain⟨t,rfl⟩:=rx
  cases y with
  |byt j=>obtain⟨t',rfl⟩:=ry;exact W.ne_bytes (fin_bl I q (congrArg not dec_byt))
  |_=>exact absurd (show false=true from hs) Bool.false_ne_true
 |_=>cases y<;>exact absurd (show false=true from hs) Bool.false_ne_true
theorem op_lt:OpR X (compareOp .Lt) (rI0 fun i j=>.bl (decide (i<j))):=opB0 fun _ _ _ _ _ _ _ q=>lt_int q
theorem op_le:OpR X (compareOp .LtE) (rI0 fun i j=>.bl (decide (i<=j))):=opB0 fun _ _ _ _ _ _ _ q=>le_int q
theorem op_gt:OpR X (compareOp .Gt) (rI0 fun i j=>.bl (decide (j<i))):=opB0 fun _ _ _ _ _ _ _ q=>gt_int q
theorem op_ge:OpR X (compareOp .GtE) (rI0 fun i j=>.bl (decide (j<=i))):=opB0 fun _ _ _ _ _ _ _ q=>ge_int q
theorem op_lt_str:OpR X (compareOp .Lt) (fun x y H Q=>∃i j,x=.str i/\y=.str j/\Q (.bl (decide (i.cps.toList<j.cps.toList))) H):=by
 intro pins s σ H x y v u Q I rx ry h
 obtain⟨i,j,rfl,rfl,q⟩:=h
 obtain⟨t,rfl⟩:=rx
 obtain⟨t',rfl⟩:=ry
 exact lt_str (fin_bl I q rfl)
theorem op_isN:OpR X (compareOp .Is) (fun x y H Q=>y=.non/\Q (.bl (decide (x=.non))) H):=by
 intro pins s σ H x y v u Q I rx ry h
 obtain⟨rfl,q⟩:=h
 cases ry
 refine is_none_gen (fin_bl I q ?_)
 cases x<;>first
  |(cases rx;rfl)
  |(obtain⟨t,rfl⟩:=rx;rfl)
theorem op_notN:OpR X (compareOp .IsNot) (fun x y H Q=>y=.non/\Q (.bl (!decide (x=.non))) H):=by
 intro pins s σ H x y v u Q I rx ry h
 obtain⟨rfl,q⟩:=h
 cases ry
 refine isnot_none_gen (fin_bl I q ?_)
 cases x<;>first
  |(cases rx;rfl)
  |(obtain⟨t,rfl⟩:=rx;rfl)
theorem OpR.or {f:Value->Value->Sem Value} {r r':R2} (h:OpR X f r) (h':OpR X f r'):OpR X f (fun x y H Q=>r x y H Q\/r' x y H Q):=by
 intro pins s σ H x y v u Q I rx ry q
 rcases q with q|q
 .exact h pins s σ H x y v u Q I rx ry q
 .exact h' pins s σ H x y v u Q I rx ry q
theorem pe_cmpR {op:CmpOp} {r:R2} (ho:OpR X (compareOp op) r) (ha:PE X a ta) (hb:PE X b tb) (hm:behindInMarks op b=false):PE X (.Compare a [op] [b] pos) (tOp r ta tb):=by
 intro pins s σ H Q I h
 exact wpAny_Compare1 (binT ha hb I h fun v u s2 x y H2 I2 rx ry q=>ho pins s2 σ H2 x y v u Q I2 rx ry q) hm
noncomputable def tTest (t:TE):TT:=fun σ H Q=>t σ H fun x H'=>∃k,x=.bl k/\Q k H'
theorem pt_cmpR {op:CmpOp} {r:R2} (ho:OpR X (compareOp op) r) (ha:PE X a ta) (hb:PE X b tb) (hm:behindInMarks op b=false):PT X (.Compare a [op] [b] pos) (tTest (tOp r ta tb)):=by
 intro pins s σ H Q I h
 refine wpAny_isTrue_Compare1 (thn (ha pins s σ H _ I h) fun v s1 ⟨x,H1,I1,r1,q1⟩=>thn (hb pins s1 σ H1 _ I1 q1) fun u s2 ⟨y,H2,I2,r2,q2⟩=>
  thn (ho pins s2 σ H2 x y v u _ I2 r1 r2 q2) fun c s3 ⟨z,H3,I3,r3,k,e,q3⟩=>?_) hm
 subst e
 cases r3
 exact wpAny_truthy_bool ⟨H3,I3,q3⟩
noncomputable def tChain (r r':R2) (ta tb tc:TE):TE:=fun σ H Q=>ta σ H fun x H1=>tb σ H1 fun y H2=>r x y H2 fun z H3=>∃k,z=.bl k/\
 (if k=true then tc σ H3 fun w' H4=>r' y w' H4 Q else Q (.bl false) H3)
theorem pe_chain {op op':CmpOp} {r r':R2} (ho:OpR X (compareOp op) r) (ho':OpR X (compareOp op') r') (ha:PE X a ta) (hb:PE X b tb) (hc:PE X c tc)
  (hm:lastMarks [op,op'] [b,c]=false:=by with_unfolding_all rfl):PE X (.Compare a [op,op'] [b,c] pos) (tChain r r' ta tb tc):=by
 intro pins s σ H Q I h
 refine Compare_chain (thn (ha pins s σ H _ I h) fun v s1 ⟨x,H1,I1,r1,q1⟩=>chain_link (thn (hb pins s1 σ H1 _ I1 q1) fun u s2 ⟨y,H2,I2,r2,q2⟩=>
  thn (ho pins s2 σ H2 x y v u _ I2 r1 r2 q2) fun d s3 ⟨z,H3,I3,r3,k,e,q3⟩=>?_)) hm
 subst e
 cases r3
 refine wpAny_truthy_bool ?_
 cases k with
 |false=>exact ite_ff ⟨.bl false,H3,I3,rfl,q3⟩
 |true=>exact ite_tt (chain_last (thn (hc pins s3 σ H3 _ I3 q3) fun w' s4 ⟨z',H4,I4,r4,q4⟩=>ho' pins s4 σ H4 y z' u w' Q I4 r2 r4 q4))
theorem pt_chain {op op':CmpOp} {r r':R2} (ho:OpR X (compareOp op) r) (ho':OpR X (compareOp op') r') (ha:PE X a ta) (hb:PE X b tb) (hc:PE X c tc)
  (hm:lastMarks [op,op'] [b,c]=false:=by with_unfolding_all rfl):PT X (.Compare a [op,op'] [b,c] pos) (tTest (tChain r r' ta tb tc)):=by
 intro pins s σ H Q I h
 refine isTrue_chain (thn (ha pins s σ H _ I h) fun v s1 ⟨x,H1,I1,r1,q1⟩=>test_link (thn (hb pins s1 σ H1 _ I1 q1) fun u s2 ⟨y,H2,I2,r2,q2⟩=>
  thn (ho pins s2 σ H2 x y v u _ I2 r1 r2 q2) fun d s3 ⟨z,H3,I3,r3,k,e,q3⟩=>?_)) hm
 subst e
 cases r3
 refine wpAny_truthy_bool ?_
 cases k with
 |false=>
  obtain⟨k',e',q'⟩:=q3
  cases e'
  exact ite_ff ⟨H3,I3,q'⟩
 |true=>
  refine ite_tt (test_last (thn (hc pins s3 σ H3 _ I3 q3) fun w' s4 ⟨z',H4,I4,r4,q4⟩=>thn (ho' pins s4 σ H4 y z' u w' _ I4 r2 r4 q4) fun d' s5 ⟨z2,H5,I5,r5,k2,e2,q5⟩=>?_))
  subst e2
  cases r5
  exact wpAny_truthy_bool ⟨H5,I5,q5⟩
def TruV (K:W.Frag) (x:V) (H:Hp) (k:Bool):Prop:=
 match x with
 | .non=>k=false
 | .bl b=>k=b
 | .int i=>k=(i != 0)
 | .str y=>y.length<=sizeLine/\k=((y.length:Int) != 0)
 | .byt y=>y.size<=sizeLine/\k=((y.size:Int) != 0)
 | .ref p=>(∃xs,SqL K H p xs/\k=!xs.isEmpty)\/(∃xs,SqT K H p xs/\k=!xs.isEmpty)\/∃kvs,H p=some (.dK kvs)/\k=!kvs.isEmpty
 |_=>False
theorem isEmpty_kv {κ:Type} {kvs:List (κ×V)} {vs:List (κ×Value)} (r:KV kvs vs):(!vs.isEmpty)=!kvs.isEmpty:=by
 cases r<;>rfl
theorem isEmpty_of {xs:List V} {its:List Value} (r:Vals xs its):(!its.toArray.isEmpty)=!xs.isEmpty:=by
 cases r<;>simp
theorem line63:(sizeLine:Nat)<2 ^ 63:=by rw[sizeLine_eq];decide
theorem tru_ok:TruR X (fun x H Q=>∃k,TruV X.K x H k/\Q k H):=by
 intro pins s σ H x v Q I rx h
 obtain⟨k,e,q⟩:=h
 have hl:=line63
 have hs:sizeLine=16777216:=sizeLine_eq
 cases x with
 |non=>
  cases rx
  have e':k=false:=e
  subst e'
  exact truthy_none ⟨H,I,q⟩
 |bl b=>
  cases rx
  have e':k=b:=e
  subst e'
  exact wpAny_truthy_bool ⟨H,I,q⟩
 |int i=>
  obtain⟨t,rfl⟩:=rx
  have e':k=(i != 0):=e
  subst e'
  exact PySem.P.truthy_int ⟨H,I,q⟩
 |str y=>
  obtain⟨t,rfl⟩:=rx
  obtain⟨hy,e'⟩:y.length<=sizeLine/\k=((y.length:Int) != 0):=e
  subst e'
  exact PySem.P.truthy_str (by omega) ⟨H,I.tok _,q⟩
 |byt y=>
  obtain⟨t,rfl⟩:=rx
  obtain⟨hy,e'⟩:y.size<=sizeLine/\k=((y.size:Int) != 0):=e
  subst e'
  exact W.truthy_bytes (by omega) ⟨H,I.tok _,q⟩
 |ref p=>
  cases rx
  have e':(∃xs,SqL X.K H p xs/\k=!xs.isEmpty)\/(∃xs,SqT X.K H p xs/\k=!xs.isEmpty)\/∃kvs,H p=some (.dK kvs)/\k=!kvs.isEmpty:=e
  rcases e' with⟨xs,hx,e'⟩|⟨xs,hx,e'⟩|⟨kvs,hx,e'⟩
  .subst e'
   obtain⟨its,r,pl,hz⟩:=I.list hx
   have hlen:=r.length
   exact wpAny_truthy_list pl.isList (by simp only[List.size_toArray];omega) ⟨H,I.tok _,by rw[isEmpty_of r];exact q⟩
  .subst e'
   obtain⟨its,r,pl,hz⟩:=I.tuple hx
   have hlen:=r.length
   exact truthy_tuple pl (by simp only[List.size_toArray];omega) ⟨H,I.tok _,by rw[isEmpty_of r];exact q⟩
  .subst e'
   obtain⟨hz,hS,vs,r,m⟩:kvs.length<=sizeLine/\(p == sysModules)=false/\∃vs,KV kvs vs/\s.heap.DictOf (mixKind X.prog X.w) p vs:=I.hok p _ hx
   have hlen:kvs.length=vs.length:=Paired.length r
   exact wpAny_truthy_dict hS m (by omega) ⟨H,I.tok _,by rw[isEmpty_kv r];exact q⟩
 |_=>exact(show False from e).elim
theorem pt_truth (ha:PE X a ta) (he:∀whole,isTrue a X.env whole=(do let v <- whole;standAt a.pos;holding [v] (truthy v))):
  PT X a (fun σ H Q=>ta σ H fun x H'=>∃k,TruV X.K x H' k/\Q k H'):=by
 intro pins s σ H Q I h
 exact isTrue_plain (thn (ha pins s σ H _ I h) fun v s1 ⟨x,H1,I1,r1,q1⟩=>tru_ok pins s1 σ H1 x v Q I1 r1 q1) (he _)
theorem op_add_str:OpR X (binaryOp .Add) (fun x y H Q=>∃i j,x=.str i/\y=.str j/\i.length+j.length<=sizeLine/\Q (.str (i++j)) H):=by
 intro pins s σ H x y v u Q I rx ry h
 obtain⟨i,j,rfl,rfl,hz,q⟩:=h
 obtain⟨t,rfl⟩:=rx
 obtain⟨t',rfl⟩:=ry
 exact add_str (fun t' tk=>⟨.str (i++j),H,I.tok _,⟨_,rfl⟩,q⟩) hz
theorem vals1 {x:V} {us:List Value} (r:Vals [x] us):∃u,us=[u]/\RelV x u:=by
 cases r with
 |cons r1 r2=>cases r2;exact⟨_,rfl,r1⟩
theorem vals2 {x y:V} {us:List Value} (r:Vals [x,y] us):∃u w',us=[u,w']/\RelV x u/\RelV y w':=by
 cases r with
 |cons r1 r2=>
  cases r2 with
  |cons r3 r4=>cases r4;exact⟨_,_,rfl,r1,r3⟩
theorem call_abs:CallR X (.builtin "abs") (fun xs H Q=>∃i,xs=[.int i]/\Q (.int (if i<0 then -i else i)) H):=by
 intro pins s σ H xs us Q I r h
 obtain⟨i,rfl,q⟩:=h
 obtain⟨u,rfl,t,rfl⟩:=vals1 r
 exact call_abs_int fun u tk=>⟨.int (if i<0 then -i else i),H,I.tok _,⟨_,rfl⟩,q⟩
theorem call_min2 (hc:X.calm=true):CallR X (.builtin "min") (fun xs H Q=>∃i j,xs=[.int i,.int j]/\Q (.int (if j<i then j else i)) H):=by
 intro pins s σ H xs us Q I r h
 obtain⟨i,j,rfl,q⟩:=h
 obtain⟨u,w',rfl,⟨t,rfl⟩,⟨t',rfl⟩⟩:=vals2 r
 refine min_two_ints (I.ok.hd hc) fun h' tk k=>⟨_,H,I.kept k,?_,q⟩
 by_cases hj:j<i
 .rw[if_pos hj,if_pos hj];exact⟨_,rfl⟩
 .rw[if_neg hj,if_neg hj];exact⟨_,rfl⟩
theorem call_int1:CallR X (.type "int") (fun xs H Q=>(∃i,xs=[.int i]/\Q (.int i) H)\/∃k,xs=[.bl k]/\Q (.int (if k then 1 else 0)) H):=by
 intro pins s σ H xs us Q I r h
 rcases h with⟨i,rfl,q⟩|⟨k,rfl,q⟩
 .obtain⟨u,rfl,t,rfl⟩:=vals1 r
  exact call_int_int ⟨.int i,H,I,⟨_,rfl⟩,q⟩
 .obtain⟨u,rfl,r1⟩:=vals1 r
  cases r1
  exact call_int_bool ⟨.int (if k then 1 else 0),H,I.tok _,⟨_,rfl⟩,q⟩
def LenV (K:W.Frag) (x:V) (H:Hp) (n:Nat):Prop:=
 match x with
 | .str y=>y.length<=sizeLine/\n=y.length
 | .byt y=>y.size<=sizeLine/\n=y.size
 | .ref p=>(∃xs,SqL K H p xs/\n=xs.length)\/∃xs,SqT K H p xs/\n=xs.length
 |_=>False
theorem call_len:CallR X (.builtin "len") (fun xs H Q=>∃x n,xs=[x]/\LenV X.K x H n/\Q (.int n) H):=by
 intro pins s σ H xs us Q I r h
 obtain⟨x,n,rfl,e,q⟩:=h
 obtain⟨u,rfl,rx⟩:=vals1 r
 have hl:=line63
 have hs:sizeLine=16777216:=sizeLine_eq
 cases x with
 |str y=>
  obtain⟨t,rfl⟩:=rx
  obtain⟨hy,e'⟩:y.length<=sizeLine/\n=y.length:=e
  subst e'
  exact len_str (by omega) ⟨.int _,H,I.tok _,⟨_,rfl⟩,q⟩
 |byt y=>
  obtain⟨t,rfl⟩:=rx
  obtain⟨hy,e'⟩:y.size<=sizeLine/\n=y.size:=e
  subst e'
  exact W.len_bytes (by omega) ⟨.int _,H,I.tok _,⟨_,rfl⟩,q⟩
 |ref p=>
  cases rx
  have e':(∃xs,SqL X.K H p xs/\n=xs.length)\/∃xs,SqT X.K H p xs/\n=xs.length:=e
  rcases e' with⟨xs,hx,e'⟩|⟨xs,hx,e'⟩
  .subst e'
   obtain⟨its,r',pl,hz⟩:=I.list hx
   have hlen:=r'.length
   exact Calls.call_len_list pl.isList (by simp only[List.size_toArray];omega) ⟨.int xs.length,H,I.tok _,⟨_,by simp only[List.size_toArray];rw[hlen]⟩,q⟩
  .subst e'
   obtain⟨its,r',pl,hz⟩:=I.tuple hx
   have hlen:=r'.length
   exact len_tuple pl (by simp only[List.size_toArray];omega) ⟨.int xs.length,H,I.tok _,⟨_,by simp only[List.size_toArray];rw[hlen]⟩,q⟩
 |_=>exact(show False from e).elim
end
structure ObjM (h:Heap) (x dx C:Addr) (mA:Str->Option Value):Prop where
 obj:h.get? x=some (W.instObj C dx)
 ns:h.Ns1 dx mA
 ne:dx≠x
theorem lookIn_ns {h:Heap} {dx:Addr} {mA:Str->Option Value} (n:h.Ns1 dx mA):∃od,h.get? dx=some od/\∀name,W.lookIn name od=some (mA name):=by
 obtain⟨o,es,ep,ho,hd,hk,_,hm⟩:=n
 refine⟨o,ho,fun name=>?_⟩
 have e:=hm name
 unfold nsFind findBy at e
 rw[<- Array.find?_toList]at e
 unfold W.lookIn
 rw[hd]
 dsimp only
 split
 .rename_i y q
  rw[q]at e
  exact congrArg some e
 .rename_i q
  rw[q]at e
  have a:es.toList.any (·.refKey)=false:=by
   rw[List.any_eq_false]
   intro y hy
   obtain⟨z,t,hkey⟩:=hk y (Array.mem_toList_iff.mp hy)
   simp[DictEntry.refKey,hkey]
  have a':¬es.toList.any (·.refKey)=true:=by rw[a];exact Bool.false_ne_true
  rw[if_neg a']
  exact congrArg some e
theorem ObjM.look {h:Heap} {x dx C:Addr} {mA:Str->Option Value} (I:ObjM h x dx C mA):∃od,W.InstAt h x (W.instObj C dx) C (some od)/\∀name,W.lookIn name od=some (mA name):=
 let⟨od,ho,hl⟩:=lookIn_ns I.ns
 ⟨od,⟨I.obj,rfl,rfl,ho⟩,hl⟩
section
variable {prog:Program} {w:World} {A:Around} {E:Value->Shared->Prop} {s:Shared} {K:W.Frag} {x dx C f:Addr} {mA:Str->Option Value} {name:Str} {v:Value}
end
theorem RelO.some_of {v:V} {o:Option Value} (r:RelO (some v) o):∃u,o=some u/\RelV v u:=by
 cases o with
 |none=>exact(show False from r).elim
 |some u=>exact⟨u,rfl,r⟩
section
variable {P:Program} {w:World} {H H':Hp} {h h':Heap} {a C dx:Addr} {fs fs':List (Str×V)}
theorem ins_get (hok:HOk P w H h) (e:H a=some (.ins C dx fs)):∃mA,ObjM h a dx C mA/\(∀f,RelO (fs.lookup f) (mA f))/\PySem.Within mA (fs.map (·.1))/\fs.length<=1000/\H dx=some (.own a):=by
 obtain⟨d,z,ne,ob,mA,n,r,q⟩:=(show ObjOk P w H h a (.ins C dx fs) from hok a _ e)
 exact⟨mA,⟨ob,n,ne⟩,r,q,z,d⟩
end
structure Cls (K:W.Frag) (C:Addr):Prop where
 pg:W.plainGet K C Str.empty=true
 hd:W.hasDictIn K C=true
 po:W.plainOver K C=true
 sa:W.findIn K (.ref C) "__setattr__"=some (some (.builtin "object.__setattr__"))
theorem Cls.get {K:W.Frag} {C:Addr} (c:Cls K C) (f:Str):W.plainGet K C f=true:=c.pg
structure Con (K:W.Frag) (C:Addr) (f:Str) (v:V) (u:Value):Prop where
 at_:W.findIn K (.ref C) f=some (some u)
 rel:RelV v u
 get:W.specialIn K u "__get__"=some none
 cp:W.copiedNames.contains f=false
structure Meth (K:W.Frag) (C:Addr) (m:Str) (f:Addr):Prop where
 at_:W.findIn K (.ref C) m=some (some (.ref f))
 fn:W.isFn K (.ref f)=true
 kp:W.keepIn K (.ref f)=true
section
variable {X:Cx} {pins:List (Addr×Obj)} {σ:St} {H:Hp} {s:Shared} {a C dx:Addr} {fs:List (Str×V)} {f:Str} {v:V} {A:Around} {E:Value->Shared->Prop}
end
section
variable {X:Cx} {o e value:Expr} {f:Str} {pos pos' tpos:Pos} {ta tv:TE}
end
section
variable {X:Cx} {pins:List (Addr×Obj)} {σ:St} {H:Hp} {s:Shared} {A:Around} {E:Value->Shared->Prop} {Q:Value->Shared->Prop} {c:Value} {b:Bool}
inductive TyOf (K:W.Frag) (H:Hp):V->Value->Prop where
 |non:TyOf K H .non (.type "NoneType")
 |bl (x:Bool):TyOf K H (.bl x) (.type "bool")
 |int (i:Int):TyOf K H (.int i) (.type "int")
 |str (x:Str):TyOf K H (.str x) (.type "str")
 |flt (x:UInt64):TyOf K H (.flt x) (.type "float")
 |lst {a:Addr} {xs:List V} (e:H a=some (.lst xs)):TyOf K H (.ref a) (.type "list")
 |frz {a:Addr} {o:Obj} {xs:List V} (e:H a=some (.frz o (.lst xs))):TyOf K H (.ref a) (.type "list")
 |tup {a:Addr} {xs:List V} (e:H a=some (.tup xs)):TyOf K H (.ref a) (.type "tuple")
 |dK {a:Addr} {kvs:List (Key×V)} (e:H a=some (.dK kvs)):TyOf K H (.ref a) (.type "dict")
 |dT {a:Addr} {kvs:List (List Key×V)} (e:H a=some (.dT kvs)):TyOf K H (.ref a) (.type "dict")
 |ins {a C dx:Addr} {fs:List (Str×V)} (e:H a=some (.ins C dx fs)) (cl:Cls K C) (ha:W.findIn K (.ref C) "__class__"=some (some (.builtin "object.__class__")))
   (hn:W.specialIn K (.builtin "object.__class__") "__get__"=some (some (.builtin "getset_descriptor.__get__"))) (htk:W.takesIn K (.builtin "object.__class__")=some true)
   (hm:W.mroIn K C (.type "object")=some true):TyOf K H (.ref a) (.ref C)
theorem isinst_ok {x:V} {u t:Value} (I:Inv X pins σ H s) (rx:RelV x u) (ty:TyOf X.K H x t) (e:W.kitOne X.K t c=some b) (h:∀tk,Q (.bool b) { s with toks:=tk }):
  wpAny (model X.prog X.w) A (call (.builtin "isinstance") [u,c]) Q E s:=by
 cases ty with
 |non=>cases(show u=Value.none from rx);exact W.kia_one W.kitx_none I.kIn True.intro e (fun z=>nomatch z) h
 |bl y=>cases(show u=Value.bool y from rx);exact W.kia_one W.kitx_bool I.kIn True.intro e (fun z=>nomatch z) h
 |int i=>obtain⟨t,q⟩:=(show ∃t,u=Value.int i t from rx);cases q;exact W.kia_one W.kitx_int I.kIn True.intro e (fun z=>nomatch z) h
 |str y=>obtain⟨t,q⟩:=(show ∃t,u=Value.str y t from rx);cases q;exact W.kia_one W.kitx_str I.kIn True.intro e (fun z=>nomatch z) h
 |flt y=>obtain⟨t,q⟩:=(show ∃t,u=Value.float y t from rx);cases q;exact W.kia_one W.kitx_float I.kIn True.intro e (fun z=>nomatch z) h
 | @lst a xs ea=>
  cases(show u=Value.ref a from rx)
  obtain⟨_,_,n,_,h1⟩:=(show ObjOk X.prog X.w H s.heap a (.lst xs) from I.hok a _ ea)
  exact W.kia_one W.kitx_list I.kIn ⟨_,h1,rfl⟩ e (fun z=>nomatch z) h
 | @frz a ob xs ea=>
  cases(show u=Value.ref a from rx)
  obtain⟨_,_,_,n,_,h1⟩:=(show ObjOk X.prog X.w H s.heap a (.frz ob (.lst xs)) from I.hok a _ ea)
  exact W.kia_one W.kitx_list I.kIn ⟨_,h1,rfl⟩ e (fun z=>nomatch z) h
 | @tup a xs ea=>
  cases(show u=Value.ref a from rx)
  obtain⟨_,_,_,p⟩:=(show ObjOk X.prog X.w H s.heap a (.tup xs) from I.hok a _ ea)
  obtain⟨o,h1,h2,_⟩:=p
  exact W.kia_one W.kitx_tuple I.kIn ⟨o,h1,h2⟩ e (fun z=>nomatch z) h
 | @dK a kvs ea=>
  cases(show u=Value.ref a from rx)
  obtain⟨_,_,vs,_,p⟩:=(show ObjOk X.prog X.w H s.heap a (.dK kvs) from I.hok a _ ea)
  obtain⟨o,es,ep,h1,h2,_⟩:=p
  exact W.kia_one W.kitx_dict I.kIn ⟨o,h1,h2.1⟩ e (fun z=>nomatch z) h
 | @dT a kvs ea=>
  cases(show u=Value.ref a from rx)
  obtain⟨_,_,xs,_,o,es,ep,h1,h2,_⟩:=(show ObjOk X.prog X.w H s.heap a (.dT kvs) from I.hok a _ ea)
  exact W.kia_one W.kitx_dict I.kIn ⟨o,h1,h2.1⟩ e (fun z=>nomatch z) h
 | @ins a C dx fs ea cl ha hn htk hm=>
  cases(show u=Value.ref a from rx)
  obtain⟨mA,O,_⟩:=ins_get I.hok ea
  obtain⟨od,J,_⟩:=O.look
  exact W.kia_one (W.kitx_own (cl.get _) cl.hd ha hn htk hm) I.kIn J e (fun z=>nomatch z) h
end
structure Room (k:Nat) (A:Around):Prop where
 hd:A.handled=none
 dp:A.depth+3*k+5<recursionLimit
 un:A.units+16*k+200<cLine
 gd:A.guards=some []
theorem Room.mono {j k:Nat} {A:Around} (r:Room k A) (h:j<=k):Room j A:=⟨r.hd,by have:=r.dp;omega,by have:=r.un;omega,r.gd⟩
theorem Room.deeper {k:Nat} {A:Around} (r:Room (k+1) A) (env:Env):Room k (A.deeper env):=
 ⟨r.hd,by have:=r.dp;show A.depth+1+3*k+5<_;omega,by have:=r.un;show A.units+3+16*k+200<_;omega,r.gd⟩
theorem Room.depth {k:Nat} {A:Around} (r:Room k A):A.depth<recursionLimit:=by have:=r.dp;omega
theorem Room.units {k:Nat} {A:Around} (r:Room k A):A.units+64<cLine:=by have:=r.un;omega
noncomputable def tNil:TA:=fun _ H Q=>Q [] H
noncomputable def tCons (ta:TE) (tr:TA):TA:=fun σ H Q=>ta σ H fun x H1=>tr σ H1 fun xs H2=>Q (x :: xs) H2
section
variable {X:Cx} {e:Expr} {es:List Expr} {te:TE} {t:TA} {pos:Pos}
theorem pa_nil:PA X [] tNil:=fun _ _ _ _ H Q I h=>Calls.spliced_nil ⟨[],H,I,.nil,h⟩
theorem pa_cons (ha:PE X e te) (hr:PA X es t) (hs:starEach (e :: es) X.env=(false,eval e X.env) :: starEach es X.env:=by rfl):PA X (e :: es) (tCons te t):=by
 intro pos pins s σ H Q I h
 rw[hs]
 show wpAny _ _ (spliced ((false,eval e X.env) :: backTo pos (starEach es X.env))) _ _ s
 refine Calls.spliced_cons (thn (ha pins s σ H _ I h) fun u s1 ⟨x,H1,I1,r1,q1⟩=>?_)
 exact thn (hr pos pins s1 σ H1 _ I1 q1) fun us s2 ⟨xs,H2,I2,r2,q2⟩=>⟨x :: xs,H2,I2,.cons r1 r2,q2⟩
noncomputable def tTup (t:TA):TE:=fun σ H Q=>t σ H fun xs H1=>xs.length<=sizeLine/\∀p,H1 p=none->Q (.ref p) (upd H1 p (.tup xs))
noncomputable def tLst (t:TA):TE:=fun σ H Q=>t σ H fun xs H1=>xs.length<=sizeLine/\∀p,H1 p=none->Q (.ref p) (upd H1 p (.lst xs))
theorem pe_tup {x1} (h:PA X es t):PE X (.Tuple es x1 pos) (tTup t):=by
 intro pins s σ H Q I hq
 refine wpAny_Tuple_spliced (thn (h pos pins s σ H _ I hq) fun us s1 ⟨xs,H1,I1,r,z,q⟩=>⟨by rw[<- r.length];exact z,?_⟩)
 have hf:H1 s1.heap.objs.size=none:=I1.hok.fresh (Nat.le_refl _)
 refine⟨.ref s1.heap.objs.size,upd H1 s1.heap.objs.size (.tup xs),I1.laid (t':=s1.toks) (fun b u e=>Heap.get?_push_of_some _ e) (Nat.le_refl _) ?_,rfl,q _ hf⟩
 exact⟨z,us,r,⟨_,Heap.get?_push_size _ rfl,rfl,⟨_,rfl⟩,rfl⟩⟩
theorem pe_lst (h:PA X es t):PE X (.List es pos) (tLst t):=by
 intro pins s σ H Q I hq
 refine wpAny_List_spliced (thn (h pos pins s σ H _ I hq) fun us s1 ⟨xs,H1,I1,r,z,q⟩=>⟨by rw[<- r.length];exact z,?_⟩)
 have hf:H1 s1.heap.objs.size=none:=I1.hok.fresh (Nat.le_refl _)
 refine⟨.ref s1.heap.objs.size,upd H1 s1.heap.objs.size (.lst xs),I1.laid (t':=s1.toks) (fun b u e=>Heap.get?_push_of_some _ e) (Nat.le_refl _) ?_,rfl,q _ hf⟩
 exact⟨z,us,0,r,Heap.get?_push_size _ rfl⟩
end
noncomputable abbrev Sp:=List V->Hp->VK->XK->Prop
noncomputable abbrev CXT:=List Env->Hp->Shared->XK->Value->Shared->Prop
structure Env0 (P:Program) (w:World) (K:W.Frag) (mg:Str->Option Value) (base:Heap) (A:Around) (outer:List Env) (s:Shared) (H:Hp):Prop where
 frames:A.frames=some outer
 mod:Mod K mg base
 bs:∀b o,base.get? b=some o->s.heap.get? b=some o/\H b=none
 bsz:base.objs.size<=s.heap.objs.size
 funs:s.heap.FunFrames base outer
 frf:∀b∈frs outer,H b=none
 hok:HOk P w H s.heap
 bare:AllBare s.gens
def CE (outer:List Env) (P:Program) (w:World) (H:Hp) (s:Shared) (Q:VK) (u:Value) (s':Shared):Prop:=
 ∃v H',s'.os=s.os/\AllBare s'.gens/\Un (frs outer) [] H H' s.heap s'.heap/\HOk P w H' s'.heap/\RelV v u/\Q v H'
def CR (CX:CXT) (outer:List Env) (P:Program) (w:World) (H:Hp) (s:Shared) (Q:VK) (E:XK) (r:Result) (s':Shared):Prop:=
 match r with
 | .ok (.ret u)=>CE outer P w H s Q u s'
 | .ok _=>False
 | .error e=>CX outer H s E e s'
structure FnOk (P:Program) (w:World) (K:W.Frag) (mg:Str->Option Value) (base:Heap) (CX:CXT) (k:Nat) (f:Addr) (fd:FuncData) (ps:List Str) (sp:Sp):Prop where
 len:∀vs H Q E,sp vs H Q E->vs.length=ps.length
 run:∀(A:Around) (outer:List Env) (s:Shared) (H:Hp) (args:Args) (us:List Value) (vs:List V) (Q:VK) (E:XK),Room k A->Env0 P w K mg base A outer s H->BindsTo s fd args (ps.zip us)->Vals vs us->sp vs H Q E->
  codeAny (model P w) A (.call (.ref f) args) (CR CX outer P w H s Q E) s
theorem FnOk.mono {P:Program} {w:World} {K:W.Frag} {mg:Str->Option Value} {base:Heap} {CX:CXT} {j k:Nat} {f:Addr} {fd:FuncData} {ps:List Str} {sp:Sp} (F:FnOk P w K mg base CX j f fd ps sp) (h:j<=k):
  FnOk P w K mg base CX k f fd ps sp:=⟨F.len,fun A outer s H args us vs Q E hr=>F.run A outer s H args us vs Q E (hr.mono h)⟩
section
variable {X:Cx} {pins:List (Addr×Obj)} {σ:St} {H:Hp} {s s':Shared}
theorem Inv.env0 (I:Inv X pins σ H s):Env0 X.prog X.w X.K X.mg X.base X.A X.stack s H:=
 ⟨I.ok.frames,I.ok.mod,I.bs,Nat.le_trans I.ok.bsz I.sz,I.stack,I.stkFree,I.hok,I.bare⟩
theorem Inv.after {Q:VK} {u:Value} (I:Inv X pins σ H s) (h:CE X.stack X.prog X.w H s Q u s'):EP X pins σ Q u s':=by
 obtain⟨v,H',os,bare,un,hok,r,q⟩:=h
 obtain⟨hh,g,d,t,os'⟩:=s'
 obtain rfl:os'=s.os:=os
 exact⟨v,H',I.call (h':=hh) (g':=g) (d':=d) (t':=t) (ch:=[]) un hok bare (fun b z=>absurd z (by simp)),r,q⟩
end
noncomputable def tCall (sp:Sp) (dvs:List V) (E:XK) (t:TA):TE:=fun σ H Q=>t σ H fun vs H1=>sp (vs++dvs) H1 Q E
def Binds (K:W.Frag) (fd:FuncData) (ps:List Str) (ds:List Value):Prop:=
 ∀(s:Shared) (us:List Value),K.In s.heap->(us++ds).length=ps.length->BindsTo s fd ⟨us,[]⟩ (ps.zip (us++ds))
theorem Binds.all {K:W.Frag} {fd:FuncData} {ps:List Str} (h:∀us:List Value,us.length=ps.length->bindArgs fd ⟨us,[]⟩=pure (ps.zip us)):Binds K fd ps []:=fun s us _ hl=>by
 rw[List.append_nil]at hl ⊢
 exact .of_eq (h us hl)
section
variable {X:Cx} {CX:CXT} {k:Nat} {f C:Addr} {fd:FuncData} {ps:List Str} {sp:Sp} {dvs:List V} {ds:List Value} {E:XK} {x m:Str} {p pos apos:Pos} {e o:Expr} {es:List Expr} {ta:TE} {t:TA}
structure Mk (K:W.Frag) (C f:Addr):Prop where
 makes:W.makesIn K C=true
 init:W.findIn K (.ref C) "__init__"=some (some (.ref f))
 fn:W.isFn K (.ref f)=true
 kp:W.keepIn K (.ref C)=true
end
section
variable {X:Cx} {CX:CXT} {k:Nat} {f C:Addr} {fd:FuncData} {ps ks:List Str} {sp:Sp} {E:XK} {x m:Str} {p pos apos kpos:Pos} {e o:Expr} {es:List Expr} {kws:List Keyword} {te ta:TE} {t tk:TA} {nm:Option Str}
structure KBinds (K:W.Frag) (fd:FuncData) (ps ks:List Str) (g:List Value->List Value->List Value) (gV:List V->List V->List V):Prop where
 to:∀(s:Shared) (us ws:List Value),K.In s.heap->(g us ws).length=ps.length->BindsTo s fd ⟨us,ks.zip ws⟩ (ps.zip (g us ws))
 rel:∀{vs:List V} {us:List Value} {zs:List V} {ws:List Value},Vals vs us->Vals zs ws->Vals (gV vs zs) (g us ws)
variable {g:List Value->List Value->List Value} {gV:List V->List V->List V}
end
structure FnScope (N P:List Str) (sc:Scope):Prop where
 kind:sc.kind=.function
 co:sc.isCoroutine=false
 gen:sc.isGenerator=false
 nd:N.Nodup
 pre:N.take P.length=P
 par:∀x∈P,sc.names.lookup x=some .local\/sc.names.lookup x=some .cell
 nofree:∀y∈sc.names,y.2≠.free
theorem bindL_out {kindOf:Str->Option NameKind} {x:Str}:∀{binds:List (Str×Value)} {m:Str->Option Value},(∀v,(x,v)∉binds)->bindL kindOf binds m x=m x
 | [],_,_=>rfl
 |(n,v) :: r,m,h=>by
  unfold bindL
  rw[bindL_out fun w hw=>h w (List.mem_cons_of_mem _ hw)]
  split
  .have:x≠n:=by rintro rfl;exact h v List.mem_cons_self
   simp[this]
  .rfl
theorem bindC_out {kindOf:Str->Option NameKind} {x:Str}:∀{binds:List (Str×Value)} {m:Str->Option Value},(∀v,(x,v)∉binds)->bindC kindOf binds m x=m x
 | [],_,_=>rfl
 |(n,v) :: r,m,h=>by
  unfold bindC
  rw[bindC_out fun w hw=>h w (List.mem_cons_of_mem _ hw)]
  split
  .rfl
  .have:x≠n:=by rintro rfl;exact h v List.mem_cons_self
   simp[this]
theorem bindL_get {kindOf:Str->Option NameKind} {x:Str} {v:Value}:∀{P:List Str} {vs:List Value} {i:Nat} {m:Str->Option Value},P.Nodup->P[i]?=some x->vs[i]?=some v->kindOf x=some .local->
  bindL kindOf (P.zip vs) m x=some v
 | [],_,_,_,_,h,_,_=>by simp at h
 |_ :: _,[],_,_,_,_,h,_=>by simp at h
 |p :: P,w :: vs,0,m,nd,h1,h2,hk=>by
  simp at h1 h2;subst h1;subst h2
  show bindL kindOf ((p,w) :: P.zip vs) m p=_
  unfold bindL
  rw[bindL_out fun v hv=>(List.nodup_cons.mp nd).1 (List.of_mem_zip hv).1,if_pos hk]
  simp
 |p :: P,w :: vs,i+1,m,nd,h1,h2,hk=>by
  show bindL kindOf ((p,w) :: P.zip vs) m x=_
  unfold bindL
  exact bindL_get (i:=i) (List.nodup_cons.mp nd).2 (by simpa using h1) (by simpa using h2) hk
theorem bindC_get {kindOf:Str->Option NameKind} {x:Str} {v:Value}:∀{P:List Str} {vs:List Value} {i:Nat} {m:Str->Option Value},P.Nodup->P[i]?=some x->vs[i]?=some v->kindOf x≠some .local->
  bindC kindOf (P.zip vs) m x=some v
 | [],_,_,_,_,h,_,_=>by simp at h
 |_ :: _,[],_,_,_,_,h,_=>by simp at h
 |p :: P,w :: vs,0,m,nd,h1,h2,hk=>by
  simp at h1 h2;subst h1;subst h2
  show bindC kindOf ((p,w) :: P.zip vs) m p=_
  unfold bindC
  rw[bindC_out fun v hv=>(List.nodup_cons.mp nd).1 (List.of_mem_zip hv).1,if_neg hk]
  simp
 |p :: P,w :: vs,i+1,m,nd,h1,h2,hk=>by
  show bindC kindOf ((p,w) :: P.zip vs) m x=_
  unfold bindC
  exact bindC_get (i:=i) (List.nodup_cons.mp nd).2 (by simpa using h1) (by simpa using h2) hk
noncomputable def start (N:List Str) (vs:List V):St:=vs.map some++List.replicate (N.length-vs.length) none
noncomputable def cxOf (CX:CXT) (P:Program) (w:World) (K:W.Frag) (mg:Str->Option Value) (base:Heap) (N:List Str) (qual:Str) (scope:Scope) (f:Addr) (cd:Value) (A:Around) (outer:List Env) (s:Shared) (H:Hp) (E:XK):Cx where
 prog:=P
 w:=w
 K:=K
 mg:=mg
 base:=base
 A:=A.deeper (envOfC qual scope s.heap.objs.size f cd)
 N:=N
 s₀:=s
 H₀:=H
 env:=envOfC qual scope s.heap.objs.size f cd
 outer:=outer
 stack:=envOfC qual scope s.heap.objs.size f cd :: outer
 ex:=[]
 calm:=true
 fn:=fun _=>true
 pn:=[]
 xe:=fun e s'=>wpAny (model P w) (A.deeper (envOfC qual scope s.heap.objs.size f cd)) (leaving (envOfC qual scope s.heap.objs.size f cd) e) (fun _ s''=>CX outer H s E e s'') (fun e' s''=>CX outer H s E e' s'') s'
theorem cell_has {sc:Scope} {n:Nat} {x:Str} (h:sc.names.lookup x=some .cell):∃c,(cellsFrom n sc.names []).lookup x=some c:=by
 have q:=W.cellsFrom_some sc.names n [] (.inl h)
 exact Option.isSome_iff_exists.mp q
theorem inv_start {CX:CXT} {P:Program} {w:World} {K:W.Frag} {mg:Str->Option Value} {base:Heap} {N ps:List Str} {qual:Str} {scope:Scope} {f:Addr} {cd:Value} {A:Around} {outer:List Env} {s s1:Shared} {H:Hp} {E:XK} {us:List Value} {vs:List V}
  (S:FnScope N ps scope) (hd:A.handled=none) (e0:Env0 P w K mg base A outer s H) (hl:vs.length=ps.length) (r:Vals vs us)
  (x:InCallC s s.heap.objs.size (bindL (envOfC qual scope s.heap.objs.size f cd).kindOf (ps.zip us) fun _=>none) (cellsFrom (s.heap.objs.size+1) scope.names []) (bindC (envOfC qual scope s.heap.objs.size f cd).kindOf (ps.zip us) fun _=>none) s1):
  Inv (cxOf CX P w K mg base N qual scope f cd A outer s H E) [] (start N vs) H s1:=by
 have hpl:ps.length<=N.length:=by have:=congrArg List.length S.pre;rw[List.length_take]at this;omega
 obtain⟨h1,tk,rfl,hk⟩:=x.done
 have noA:∀b:Addr,b∉(cxOf CX P w K mg base N qual scope f cd A outer s H E).ex:=fun b z=>absurd (show b∈([]:List Addr) from z) (by simp)
 refine⟨⟨e0.mod,S.kind,rfl,rfl,Nat.le_refl _,fun y z c h1 h2=>?_,fun y hy=>?_,fun y c _ h=>?_,fun _=>hd,Around.frames_deeper e0.frames,.inr ⟨rfl,rfl⟩,fun b z=>absurd z (noA b),e0.bs,e0.bsz,fun b _ _=>noA b,fun b z=>absurd z (noA b),e0.funs,e0.frf⟩,
  rfl,e0.bare,Un.kept hk,⟨_,x.toInCall.ns,fun i y v h1 h2 h3=>?_⟩,fun y c h=>⟨_,x.cell y c h⟩,e0.hok.fresh (Nat.le_refl _),fun y c h=>?_,fun p hp=>absurd (show p∈([]:List (Addr×Obj)) from hp) (by simp),e0.hok.kept hk,?_⟩
 .exact name_of_addr x.apart (PySem.mem_of_lookup h1) (PySem.mem_of_lookup h2)
 .have hy:scope.names.lookup y=some .cell\/scope.names.lookup y=some .free:=hy
  rcases hy with hy|hy
  .exact cell_has hy
  .exact absurd rfl (S.nofree _ (PySem.mem_of_lookup hy))
 .exact Nat.le_of_lt (x.above y c (PySem.mem_of_lookup h))
 .have hi:i<vs.length:=by
   unfold start at h2
   by_cases hi:i<vs.length
   .exact hi
   .rw[List.getElem?_append_right (by simpa using hi)]at h2
    rw[List.getElem?_replicate]at h2
    split at h2<;>cases h2
  have ha:vs[i]?=some v:=by
   unfold start at h2
   rw[List.getElem?_append_left (by simpa using hi),List.getElem?_map]at h2
   cases e:vs[i]? with
   |none=>rw[e]at h2;cases h2
   |some a=>rw[e]at h2;cases h2;rfl
  obtain⟨u,hu,rv⟩:=r.get ha
  have hp:ps[i]?=some y:=by
   rw[<- S.pre,List.getElem?_take_of_lt (by omega)];exact h1
  have ndP:ps.Nodup:=by rw[<- S.pre];exact S.nd.sublist (List.take_sublist _ _)
  refine⟨u,rv,?_⟩
  rcases S.par y (List.mem_of_getElem? hp)with k|k
  .exact .inl ⟨k,bindL_get ndP hp hu k⟩
  .obtain⟨c,e⟩:=cell_has (n:=s.heap.objs.size+1) k
   refine .inr ⟨.inl k,c,e,?_⟩
   have q:=x.cell y c e
   rw[bindC_get ndP hp hu (by show scope.names.lookup y≠_;rw[k];decide)]at q
   exact q
 .exact e0.hok.fresh (Nat.le_of_lt (x.above y c (PySem.mem_of_lookup h)))
 .unfold start
  show _=N.length
  rw[List.length_append,List.length_map,List.length_replicate]
  omega
theorem fn_of {CX:CXT} {P:Program} {w:World} {K:W.Frag} {mg:Str->Option Value} {base:Heap} {k:Nat} {f:Addr} {name qual:Str} {params:Arguments} {body:List Stmt} {scope:Scope} {dV kV doc pm cdv ct oc:Value} {an od:Option Addr}
  {osl:Array (Option Value)} {N ps:List Str} {sp:Sp} (lk:K.lookup f=some ⟨oc,od,.func (W.fnOf name qual params body scope dV kV doc pm an cdv ct),osl⟩) (hcd:W.codeIn K cdv qual=true) (S:FnScope N ps scope)
  (len:∀vs H Q E,sp vs H Q E->vs.length=ps.length)
  (hbody:∀(A:Around) (outer:List Env) (s:Shared) (H:Hp) (vs:List V) (Q:VK) (E:XK),Room k (A.deeper (envOfC qual scope s.heap.objs.size f cdv))->sp vs H Q E->
   ∃t,PSs (cxOf CX P w K mg base N qual scope f cdv A outer s H E) body t/\t { nx:=fun _ H'=>Q .non H',rt:=Q } (start N vs) H):
  FnOk P w K mg base CX (k+1) f (W.fnOf name qual params body scope dV kV doc pm an cdv ct) ps sp:=by
 refine⟨len,fun A outer s H args us vs Q E hr e0 hb r hsp=>?_⟩
 have hl:=len _ _ _ _ hsp
 have KX:K.In s.heap:=e0.mod.kin.keeps fun b o e=>(e0.bs b o e).1
 have lim:s.heap.NoLimit:=e0.mod.nolimit.keeps fun b o e=>(e0.bs b o e).1
 have hkind:∀y∈ps.zip us,scope.names.lookup y.1=some .local\/(scope.names.lookup y.1=some .cell/\((cellsFrom (s.heap.objs.size+1) scope.names []).lookup y.1).isSome=true):=fun⟨n,v⟩ hy=>by
  rcases S.par n (List.of_mem_zip hy).1 with q|q
  .exact .inl q
  .exact .inr ⟨q,W.cellsFrom_some _ _ _ (.inl q)⟩
 refine codeAny_call_function hr.depth (KX _ _ lk) rfl S.co S.gen rfl (W.codeRec_of KX hcd) (hb _ _ _ _ ?_)
 refine wpAny_newFunctionEnv_cells S.kind hkind fun env he s1 x=>?_
 subst he
 refine⟨lim.keeps x.toInCall.keep,codeAny_func ?_⟩
 obtain⟨t,ht,hq⟩:=hbody A outer s H vs Q E (hr.deeper _) hsp
 have I:Inv (cxOf CX P w K mg base N qual scope f cdv A outer s H E) [] (start N vs) H s1:=inv_start S hr.hd e0 hl r x
 refine wpAny_mono (ht [] s1 (start N vs) H _ I hq) (fun fl s' hs=>?_) fun e s' hs=>hs
 have fin:∀{σ':St} {H':Hp} {v:V} {u:Value},Inv (cxOf CX P w K mg base N qual scope f cdv A outer s H E) [] σ' H' s'->RelV v u->Q v H'->CE outer P w H s Q u s':=
  fun {σ' H' v u} J rv q=>⟨v,H',J.os,J.bare,J.base,J.hok,rv,q⟩
 cases fl with
 |ret u=>
  obtain⟨v,σ',H',J,rv,q⟩:=hs
  exact fin J rv q
 |next=>
  obtain⟨σ',H',J,q⟩:=hs
  exact fin (v:=V.non) (u:=Value.none) J rfl q
 |brk=>
  obtain⟨_,_,_,q⟩:=hs
  exact False.elim q
 |cont=>
  obtain⟨_,_,_,q⟩:=hs
  exact False.elim q
section
variable {X:Cx} {x:Str} {p pos:Pos} {e:Expr} {es:List Expr} {t:TA} {id T:String} {r:List V->Hp->VK->Prop}
noncomputable def tCB (r:List V->Hp->VK->Prop) (t:TA):TE:=fun σ H Q=>t σ H fun vs H1=>r vs H1 Q
theorem pe_callB (hc:CallR X (.builtin id) r) (hg:Gl X x) (hm:X.mg x=none) (hv:bootBuiltins x=some (.builtin id)) (ha:PA X (e :: es) t) (hn:x≠"__name__":=by decide) (hdb:(x == ("__debug__":Str))=false:=by decide)
  (he:starEach (e :: es) X.env=(false,eval e X.env) :: starEach es X.env:=by rfl) (hpl:(backTo pos (starEach es X.env)).any (·.1)=false:=by rfl):PE X (.Call (.Name x p) (e :: es) [] pos) (tCB r t):=by
 intro pins s σ H Q I h
 refine wpAny_Call_Name_kw (ld_blt I hg hm hv ?_ hn hdb)
 exact PyProof.Rows.callWith_builtin1 (thn (ha pos pins s σ H _ I h) fun us s1 ⟨vs,H1,I1,r1,q1⟩=>hc pins s1 σ H1 vs us Q I1 r1 q1) he hpl
theorem pe_callTy (hc:CallR X (.type T) r) (hg:Gl X x) (hm:X.mg x=none) (hv:bootBuiltins x=some (.type T)) (ha:PA X (e :: es) t) (hn:x≠"__name__":=by decide) (hdb:(x == ("__debug__":Str))=false:=by decide)
  (he:starEach (e :: es) X.env=(false,eval e X.env) :: starEach es X.env:=by rfl) (hpl:(backTo pos (starEach es X.env)).any (·.1)=false:=by rfl):PE X (.Call (.Name x p) (e :: es) [] pos) (tCB r t):=by
 intro pins s σ H Q I h
 refine wpAny_Call_Name_kw (ld_blt I hg hm hv ?_ hn hdb)
 exact PyProof.Rows.callWith_type1 (thn (ha pos pins s σ H _ I h) fun us s1 ⟨vs,H1,I1,r1,q1⟩=>hc pins s1 σ H1 vs us Q I1 r1 q1) he hpl
end
end L2
namespace HT
open PySem PyProof.Rows
section
open PySem.SeqAt
open PySem.AutoSeq1 (wpAny_loadPart')
open PySem.MeetsSeq PySem.MeetsSeq2 PySem.MeetsSeq3
end
section
variable {prog:Program} {w:World} {A:Around} {E:Value->Shared->Prop} {s:Shared}
theorem cat_tup {t b:Addr} {vs ws:List Value} {Q:Value->Shared->Prop} (ht:IsTup s.heap t vs.toArray) (hb:IsTup s.heap b ws.toArray) (hv:vs≠[])
  (h1:ws=[]->Q (.ref t) s) (h2:ws≠[]->Q (.ref s.heap.objs.size) { s with heap:=s.heap.push { cls:=.type "tuple",data:=.seq (vs++ws).toArray } })
  (hsz:vs.length+ws.length<=sizeLine):wpAny (model prog w) A (binaryOp .Add (.ref t) (.ref b)) Q E s:=by
 obtain⟨⟨cls,dd,data,sl⟩,ho,hc,n,hd⟩:=id ht
 obtain⟨⟨cls2,dd2,data2,sl2⟩,ho2,hc2,n2,hd2⟩:=id hb
 simp only at hc hd hc2 hd2
 subst hc hd hc2 hd2
 have e:vs.toArray++ws.toArray=(vs++ws).toArray:=by simp
 by_cases hw:ws=[]
 .exact concat_meets ⟨_,ho,rfl⟩ ⟨_,ho2,rfl⟩ noFill_tuple_add seq_tuple_add PySem.F.slot_tuple_add PySem.F.entry_tuple_add (PySem.F.args_tuple_add_2 _ _)
   (tuple_addW1 t b vs.toArray ws.toArray n n2 dd dd2 sl sl2 (by simpa using hv) (by simp[hw])) ⟨ho,ho2,h1 hw⟩
 .refine concat_meets ⟨_,ho,rfl⟩ ⟨_,ho2,rfl⟩ noFill_tuple_add seq_tuple_add PySem.F.slot_tuple_add PySem.F.entry_tuple_add (PySem.F.args_tuple_add_2 _ _)
   (tuple_addW2 t b vs.toArray ws.toArray n n2 dd dd2 sl sl2 (by simpa using hv) (by simpa using hw) (by rw[List.size_toArray,List.size_toArray];exact hsz)) ⟨ho,ho2,?_⟩
  rw[e]
  exact h2 hw
noncomputable def sIx (n d:Nat):Option Int->Nat
 |none=>d
 |some v=>if v<0 then(v+(n:Int)).toNat else min v.toNat n
end
end HT
namespace L2
open PySem PySem.Spec PyProof.Rows
noncomputable abbrev TO:=St->Hp->(Option Int->Hp->Prop)->Prop
def PO (X:Cx) (e:Option Expr) (t:TO):Prop:=
 ∀(pins:List (Addr×Obj)) (s:Shared) (σ:St) (H:Hp) (Q:Option Int->Hp->Prop),Inv X pins σ H s->t σ H Q->
  wpAny (model X.prog X.w) X.A (evalPart e X.env) (fun u s'=>∃o H',Inv X pins σ H' s'/\IsPart u o/\Q o H') X.xe s
noncomputable def tNoPart:TO:=fun _ H Q=>Q none H
noncomputable def tPart (t:TE):TO:=fun σ H Q=>t σ H fun x H1=>∃i,x=.int i/\Q (some i) H1
theorem intsAre_of {ns:List Int}:∀{us:List Value},Vals (ns.map V.int) us->IntsAre us ns:=by
 induction ns with
 |nil=>intro us r;rw[List.map_nil]at r;cases r;exact .nil
 |cons n ns ih=>
  intro us r
  rw[List.map_cons]at r
  cases r with
  |cons r1 r2=>
   obtain⟨t,e⟩:=r1
   subst e
   exact .cons n t (ih r2)
section
variable {X:Cx} {e:Expr} {te:TE} {lo hi:Option Expr} {tl th:TO} {pos p2:Pos}
theorem po_none:PO X none tNoPart:=by
 intro pins s σ H Q I h
 rw[evalPart_none]
 exact wpAny_pure ⟨none,H,I,.none,h⟩
theorem po_some (h:PE X e te):PO X (some e) (tPart te):=by
 intro pins s σ H Q I hw
 rw[evalPart_some]
 refine thn (h pins s σ H _ I hw) fun u s1 ⟨x,H1,I1,r1,q1⟩=>?_
 obtain⟨i,rfl,q⟩:=q1
 obtain⟨t,rfl⟩:=r1
 exact⟨some i,H1,I1,.int i t,q⟩
def SlR (X:Cx) (r:V->Option Int->Option Int->Hp->VK->Prop):Prop:=
 ∀(pins:List (Addr×Obj)) (s:Shared) (σ:St) (H:Hp) (x:V) (v vl vu:Value) (lo hi:Option Int) (sl:Addr) (Q:VK),Inv X pins σ H s->RelV x v->s.heap.IsSliceOf sl vl vu .none->IsPart vl lo->IsPart vu hi->r x lo hi H Q->
  ∃T id,typeLookup (.type T) "__getitem__"=pure (some (.builtin id))/\s.TypeIs v T/\wpAny (model X.prog X.w) X.A (getItem v (.ref sl)) (EP X pins σ Q) X.xe s
theorem SlR.or {r r':V->Option Int->Option Int->Hp->VK->Prop} (h:SlR X r) (h':SlR X r'):SlR X (fun x lo hi H Q=>r x lo hi H Q\/r' x lo hi H Q):=by
 intro pins s σ H x v vl vu lo hi sl Q I rx hs pl pu q
 rcases q with q|q
 .exact h pins s σ H x v vl vu lo hi sl Q I rx hs pl pu q
 .exact h' pins s σ H x v vl vu lo hi sl Q I rx hs pl pu q
noncomputable def cutV (xs:List V) (lo hi:Option Int):List V:=(xs.drop (HT.sIx xs.length 0 lo)).take (HT.sIx xs.length xs.length hi-HT.sIx xs.length 0 lo)
noncomputable def rSlT (K:W.Frag):V->Option Int->Option Int->Hp->VK->Prop:=fun x lo hi H Q=>∃a xs,x=.ref a/\SqT K H a xs/\
 ¬(HT.sIx xs.length 0 lo=0/\HT.sIx xs.length xs.length hi=xs.length)/\∀p,H p=none->Q (.ref p) (upd H p (.tup (cutV xs lo hi)))
noncomputable def rCatT (K:W.Frag):R2:=fun x y H Q=>∃a b xs ys,x=.ref a/\y=.ref b/\SqT K H a xs/\SqT K H b ys/\xs≠[]/\xs.length+ys.length<=sizeLine/\
 (ys=[]->Q (.ref a) H)/\(ys≠[]->∀p,H p=none->Q (.ref p) (upd H p (.tup (xs++ys))))
theorem Vals.nil_iff {xs:List V} {us:List Value} (r:Vals xs us):us=[]↔xs=[]:=by
 cases r with
 |nil=>simp
 |cons _ _=>simp
theorem op_catT:OpR X (binaryOp .Add) (rCatT X.K):=by
 intro pins s σ H x y v u Q I rx ry h
 obtain⟨a,b,xs,ys,rfl,rfl,ha,hb,hx,hz,q1,q2⟩:=h
 cases rx
 cases ry
 obtain⟨its,r1,p1,_⟩:=I.tuple ha
 obtain⟨its2,r2,p2,_⟩:=I.tuple hb
 refine HT.cat_tup p1 p2 (fun z=>hx (r1.nil_iff.mp z)) (fun z=>⟨.ref a,H,I,rfl,q1 (r2.nil_iff.mp z)⟩) (fun z=>?_) (by rw[<- r1.length,<- r2.length];exact hz)
 refine⟨.ref s.heap.objs.size,_,I.laid (t':=s.toks) (o:=.tup (xs++ys)) (fun b ob q=>Heap.get?_push_of_some _ q) (Nat.le_refl _) ?_,rfl,q2 (fun w=>z (r2.nil_iff.mpr w)) _ (I.hok.fresh (Nat.le_refl _))⟩
 exact⟨by rw[List.length_append];exact hz,_,r1.append r2,TupD.new _ _⟩
end
noncomputable def ixN (n:Nat) (i:Int):Option Nat:=if 0<=i then(if i<n then some i.toNat else none)else if -(n:Int)<=i then some (i+n).toNat else none
noncomputable def atI {α:Type} (xs:List α) (i:Int):Option α:=(ixN xs.length i).bind fun j=>xs[j]?
theorem ixN_seq {n:Nat} {i:Int} {j:Nat} (h:ixN n i=some j):seqIndex? i n=some j/\j<n/\-(n:Int)<=i/\i<n:=by
 unfold ixN at h
 by_cases h0:0<=i
 .rw[if_pos h0]at h
  by_cases h1:i<n
  .rw[if_pos h1]at h
   have e:i.toNat=j:=Option.some.inj h
   exact⟨by rw[seqIndex_of h0 h1,e],by omega,by omega,h1⟩
  .rw[if_neg h1]at h;cases h
 .rw[if_neg h0]at h
  by_cases h1:-(n:Int)<=i
  .rw[if_pos h1]at h
   have e:(i+n).toNat=j:=Option.some.inj h
   exact⟨by rw[seqIndex_neg (by omega) h1,e],by omega,h1,by omega⟩
  .rw[if_neg h1]at h;cases h
theorem atI_get {α:Type} {xs:List α} {i:Int} {v:α} (h:atI xs i=some v):∃j,seqIndex? i xs.length=some j/\xs[j]?=some v/\j<xs.length/\-(xs.length:Int)<=i/\i<xs.length:=by
 unfold atI at h
 cases e:ixN xs.length i with
 |none=>rw[e]at h;cases h
 |some j=>
  rw[e]at h
  obtain⟨h1,h2,h3,h4⟩:=ixN_seq e
  exact⟨j,h1,h,h2,h3,h4⟩
theorem atI_nat {α:Type} {xs:List α} {j:Nat} {v:α} (h:xs[j]?=some v):atI xs (j:Int)=some v:=by
 have hj:j<xs.length:=(List.getElem?_eq_some_iff.mp h).1
 have e:ixN xs.length (j:Int)=some j:=by
  unfold ixN
  rw[if_pos (by omega),if_pos (by omega)];simp
 unfold atI;rw[e];exact h
def PlainIx (b:Expr):Prop:=∀o i,subscripted b false o i=operate [o,i] (getItem o i)
def IxR (X:Cx) (r:R2):Prop:=
 ∀(value slice:Expr) (pins:List (Addr×Obj)) (s:Shared) (σ:St) (H:Hp) (x y:V) (v u:Value) (Q:VK),Inv X pins σ H s->RelV x v->RelV y u->r x y H Q->
  subscripted slice false v u=operate [v,u] (getItem v u)->wpAny (model X.prog X.w) X.A (subscriptTail value slice v u) (EP X pins σ Q) X.xe s
def MtR (X:Cx) (id:String) (r:V->List V->Hp->VK->Prop):Prop:=
 ∀(pins:List (Addr×Obj)) (s:Shared) (σ:St) (H:Hp) (x:V) (xs:List V) (v:Value) (us:List Value) (Q:VK),Inv X pins σ H s->RelV x v->Vals xs us->r x xs H Q->
  wpAny (model X.prog X.w) X.A (call (.builtin id) (v :: us)) (EP X pins σ Q) X.xe s
section
variable {X:Cx} {a b:Expr} {ta tb:TE} {pos:Pos}
theorem IxR.or {r r':R2} (h:IxR X r) (h':IxR X r'):IxR X (fun x y H Q=>r x y H Q\/r' x y H Q):=by
 intro value slice pins s σ H x y v u Q I rx ry q hs
 rcases q with q|q
 .exact h value slice pins s σ H x y v u Q I rx ry q hs
 .exact h' value slice pins s σ H x y v u Q I rx ry q hs
theorem pe_ix {r:R2} (hr:IxR X r) (ha:PE X a ta) (hb:PE X b tb) (hs:PlainIx b):PE X (.Subscript a b pos) (tOp r ta tb):=by
 intro pins s σ H Q I h
 exact Subscript_ (binT ha hb I h fun v u s2 x y H2 I2 rx ry q=>hr a b pins s2 σ H2 x y v u Q I2 rx ry q (hs _ _))
noncomputable def rIxL (K:W.Frag):R2:=fun x y H Q=>∃p xs i v,x=.ref p/\y=.int i/\SqL K H p xs/\atI xs i=some v/\Q v H
noncomputable def rIxT (K:W.Frag):R2:=fun x y H Q=>∃p xs i v,x=.ref p/\y=.int i/\SqT K H p xs/\atI xs i=some v/\Q v H
noncomputable def rIxS:R2:=fun x y H Q=>∃z i c,x=.str z/\y=.int i/\z.length<=sizeLine/\atI z.cps.toList i=some c/\Q (.str ⟨#[c]⟩) H
theorem ix_list:IxR X (rIxL X.K):=by
 intro value slice pins s σ H x y v u Q I rx ry h hs
 obtain⟨p,xs,i,z,rfl,rfl,hq,he,q⟩:=h
 cases rx
 obtain⟨t,rfl⟩:=ry
 obtain⟨its,r,pl,hz⟩:=I.list hq
 obtain⟨j,h1,h2,h3,h4,h5⟩:=atI_get he
 obtain⟨w,ew,rw'⟩:=r.get h2
 have hl:=r.length
 have hn:=line63
 have fin:EP X pins σ Q w s:=⟨z,H,I,rw',q⟩
 by_cases h0:0<=i
 .have hj:i.toNat=j:=by
   rw[seqIndex_of h0 h5]at h1
   exact Option.some.inj h1
  exact item_listR pl.isList h0 (by omega) (by rw[hj];simpa using ew) fin hs
 .have hj:(i+(its.toArray.size:Int)).toNat=j:=by
   rw[seqIndex_neg (by omega) h4]at h1
   rw[List.size_toArray,<- hl]
   exact Option.some.inj h1
  exact subscriptTail_builtinR (x:=w) pl.isList.typeIs slot_list_getitem.lookup
   (wpAny_getItem_list_neg (Q:=fun r s'=>r=w/\EP X pins σ Q r s') pl.isList (by omega) (by rw[List.size_toArray]<;>omega) (by omega) (by rw[hj];simpa using ew) ⟨rfl,fin⟩) hs
theorem ix_tup:IxR X (rIxT X.K):=by
 intro value slice pins s σ H x y v u Q I rx ry h hs
 obtain⟨p,xs,i,z,rfl,rfl,hq,he,q⟩:=h
 cases rx
 obtain⟨t,rfl⟩:=ry
 obtain⟨its,r,pl,hz⟩:=I.tuple hq
 obtain⟨j,h1,h2,h3,h4,h5⟩:=atI_get he
 obtain⟨w,ew,rw'⟩:=r.get h2
 have hl:=r.length
 have hn:=line63
 have fin:EP X pins σ Q w s:=⟨z,H,I,rw',q⟩
 exact subscriptTail_builtinR (x:=w) pl.typeIs slot_tuple_getitem.lookup
  (getItem_tuple (j:=j) (Q:=fun r s'=>r=w/\EP X pins σ Q r s') pl (by omega) (by omega) (by rw[List.size_toArray,<- hl];exact h1) (by simpa using ew) ⟨rfl,fin⟩) hs
theorem ix_str:IxR X rIxS:=by
 intro value slice pins s σ H x y v u Q I rx ry h hs
 obtain⟨z,i,c,rfl,rfl,hz,he,q⟩:=h
 obtain⟨t,rfl⟩:=rx
 obtain⟨t',rfl⟩:=ry
 obtain⟨j,h1,h2,h3,h4,h5⟩:=atI_get he
 have hl:z.cps.toList.length=z.length:=by simp[Str.length]
 rw[hl]at h1 h4 h5
 have hn:=line63
 exact tail_any (typeIs_str s z t) slot_str_getitem.lookup (getItem_str (c:=c) (by
  have e1:decide (i < -(2 ^ 63:Int))=false:=decide_eq_false (by omega)
  have e2:decide (i ≥ 2 ^ 63)=false:=decide_eq_false (by omega)
  rw[e1,e2,Bool.or_false]) (by rw[h1];simpa using h2) ⟨.str ⟨#[c]⟩,H,I.tok _,⟨_,rfl⟩,q⟩) hs
noncomputable def rIx (K:W.Frag):R2:=fun x y H Q=>rIxL K x y H Q\/rIxT K x y H Q\/rIxS x y H Q
theorem ix_seq:IxR X (rIx X.K):=ix_list.or (ix_tup.or ix_str)
theorem mapSeq_set (its:List Value) (n j:Nat) (u:Value):Obj.mapSeq (·.setIfInBounds j u) { cls:=.type "list",data:=.seq its.toArray n }={ cls:=.type "list",data:=.seq (its.set j u).toArray n }:=by
 simp[Obj.mapSeq]
theorem Inv.lst {pins:List (Addr×Obj)} {σ:St} {H:Hp} {s:Shared} {p:Addr} {xs:List V} (I:Inv X pins σ H s) (h:H p=some (.lst xs)):
  ∃(its:List Value) (n:Nat),Vals xs its/\s.heap.get? p=some { cls:=.type "list",data:=.seq its.toArray n }/\xs.length<=sizeLine:=by
 obtain⟨z,its,n,r,e⟩:=I.hok p _ h
 exact⟨its,n,r,e,z⟩
theorem Inv.lstUpd {pins:List (Addr×Obj)} {σ:St} {H:Hp} {s:Shared} {p:Addr} {xs ys:List V} {its its':List Value} {n n':Nat} {f:Obj->Obj} (I:Inv X pins σ H s) (h:H p=some (.lst xs))
  (ho:s.heap.get? p=some { cls:=.type "list",data:=.seq its.toArray n }) (hf:f { cls:=.type "list",data:=.seq its.toArray n }={ cls:=.type "list",data:=.seq its'.toArray n' }) (r:Vals ys its') (hz:ys.length<=sizeLine) (t:Nat):
  Inv X pins σ (upd H p (.lst ys)) { s with heap:=s.heap.update p f,toks:=t }:=by
 have e:(s.heap.update p f).get? p=some { cls:=.type "list",data:=.seq its'.toArray n' }:=by
  rw[Heap.get?_update_self f ho (by rw[hf]<;>rfl),hf]
 refine I.write (x:=p) (e:=p) (by rw[h];trivial) (.inl rfl) (fun b u hb q=>(Heap.get?_update_other _ _ (Ne.symm hb)).trans q) ⟨_,e⟩ ?_
 exact⟨hz,its',n',r,e⟩
noncomputable def rSetL:V->V->V->Hp->(Hp->Prop)->Prop:=fun o i v H Q=>∃p xs k j,o=.ref p/\i=.int k/\H p=some (.lst xs)/\ixN xs.length k=some j/\Q (upd H p (.lst (xs.set j v)))
theorem set_list:PSet X rSetL:=by
 intro pins s σ H o i v ov iv u Q I ro ri rv h
 obtain⟨p,xs,k,j,rfl,rfl,hp,hj,q⟩:=h
 cases ro
 obtain⟨t,rfl⟩:=ri
 obtain⟨its,n,r,ho,hz⟩:=I.lst hp
 obtain⟨h1,h2,h3,h4⟩:=ixN_seq hj
 have hl:=r.length
 have hn:=line63
 have I':Inv X pins σ (upd H p (.lst (xs.set j v))) { s with heap:=s.heap.update p (Obj.mapSeq (·.setIfInBounds j u)) }:=
  I.lstUpd hp ho (mapSeq_set its n j u) (r.set rv j) (by rw[List.length_set];exact hz) s.toks
 by_cases h0:0<=k
 .have hk:k.toNat=j:=by
   rw[seqIndex_of h0 h4]at h1
   exact Option.some.inj h1
  exact W.ki_setAt ho h0 (by omega) (by rw[List.size_toArray,<- hl];exact h4) (by rw[hk];exact⟨_,I',q⟩)
 .have hk:(k+(its.toArray.size:Int)).toNat=j:=by
   rw[seqIndex_neg (by omega) h3]at h1
   rw[List.size_toArray,<- hl]
   exact Option.some.inj h1
  exact W.ki_setBack ho (by omega) (by rw[List.size_toArray,<- hl];exact h3) (by omega) (by rw[hk];exact⟨_,I',q⟩)
noncomputable def rSlL (K:W.Frag):V->Option Int->Option Int->Hp->VK->Prop:=fun x lo hi H Q=>∃a xs,x=.ref a/\SqL K H a xs/\∀p,H p=none->Q (.ref p) (upd H p (.lst (cutV xs lo hi)))
noncomputable def flatV:V->Bool
 | .non=>true
 | .bl _=>true
 | .int _=>true
 | .str _=>true
 |_=>false
noncomputable def eqV:V->V->Bool
 | .non,.non=>true
 | .bl a,.bl b=>a == b
 | .bl a,.int b=>(if a then 1 else 0) == b
 | .int a,.bl b=>a == (if b then 1 else 0)
 | .int a,.int b=>a == b
 | .str a,.str b=>a == b
 |_,_=>false
theorem eqAt_V {A:Around} {s:Shared} {y x:V} {u v:Value} (ry:RelV y u) (rx:RelV x v) (fy:flatV y=true) (fx:flatV x=true):SeqAt.EqAt A s u v (eqV y x):=by
 cases y with
 |non=>
  cases ry
  cases x with
  |non=>cases rx;exact SeqAt.EqAt.same _
  |bl b=>cases rx;exact SeqAt.EqAt.none_bool b
  |int b=>obtain⟨t,rfl⟩:=rx;exact SeqAt.EqAt.none_int b t
  |str b=>obtain⟨t,rfl⟩:=rx;exact SeqAt.EqAt.none_str b t
  |_=>exact absurd (show false=true from fx) Bool.false_ne_true
 |bl a=>
  cases ry
  cases x with
  |non=>cases rx;exact SeqAt.EqAt.bool_none a
  |bl b=>cases rx;exact SeqAt.EqAt.bool_bool a b
  |int b=>obtain⟨t,rfl⟩:=rx;exact SeqAt.EqAt.bool_int a b t
  |str b=>obtain⟨t,rfl⟩:=rx;exact SeqAt.EqAt.bool_str a b t
  |_=>exact absurd (show false=true from fx) Bool.false_ne_true
 |int a=>
  obtain⟨t',rfl⟩:=ry
  cases x with
  |non=>cases rx;exact SeqAt.EqAt.int_none a t'
  |bl b=>cases rx;exact SeqAt.EqAt.int_bool a t' b
  |int b=>obtain⟨t,rfl⟩:=rx;exact SeqAt.EqAt.int_int a t' b t
  |str b=>obtain⟨t,rfl⟩:=rx;exact SeqAt.EqAt.int_str a t' b t
  |_=>exact absurd (show false=true from fx) Bool.false_ne_true
 |str a=>
  obtain⟨t',rfl⟩:=ry
  cases x with
  |non=>cases rx;exact SeqAt.EqAt.str_none a t'
  |bl b=>cases rx;exact SeqAt.EqAt.str_bool a t' b
  |int b=>obtain⟨t,rfl⟩:=rx;exact SeqAt.EqAt.str_int a t' b t
  |str b=>obtain⟨t,rfl⟩:=rx;exact SeqAt.EqAt.str_str a t' b t
  |_=>exact absurd (show false=true from fx) Bool.false_ne_true
 |_=>exact absurd (show false=true from fy) Bool.false_ne_true
noncomputable def eqU (x:V) (u:Value):Bool:=match u with
 | .none=>eqV .non x
 | .bool b=>eqV (.bl b) x
 | .int i _=>eqV (.int i) x
 | .str z _=>eqV (.str z) x
 |_=>false
theorem eqU_of {x y:V} {u:Value} (r:RelV y u) (f:flatV y=true):eqU x u=eqV y x:=by
 cases y with
 |non=>cases r;rfl
 |bl b=>cases r;rfl
 |int i=>obtain⟨t,rfl⟩:=r;rfl
 |str z=>obtain⟨t,rfl⟩:=r;rfl
 |_=>exact absurd (show false=true from f) Bool.false_ne_true
theorem any_eqU {x:V}:∀{xs:List V} {us:List Value},Vals xs us->xs.all flatV=true->us.any (eqU x)=xs.any fun y=>eqV y x
 |_,_,.nil,_=>rfl
 |y :: xs,u :: us,.cons r t,f=>by
  rw[List.all_cons,Bool.and_eq_true]at f
  rw[List.any_cons,List.any_cons,eqU_of r f.1,any_eqU t f.2]
theorem mem_eqAt {A:Around} {s:Shared} {x:V} {v:Value} (rx:RelV x v) (fx:flatV x=true):∀{xs:List V} {us:List Value},Vals xs us->xs.all flatV=true->∀u∈us,SeqAt.EqAt A s u v (eqU x u)
 |_,_,.nil,_=>fun u hu=>by cases hu
 |y :: xs,u :: us,.cons r t,f=>fun u' hu=>by
  rw[List.all_cons,Bool.and_eq_true]at f
  rcases List.mem_cons.mp hu with rfl|hu
  .rw[eqU_of r f.1];exact eqAt_V r rx f.1 fx
  .exact mem_eqAt rx fx t f.2 u' hu
noncomputable def inV (x:V) (xs:List V):Bool:=xs.any fun y=>eqV y x
noncomputable def rIn (K:W.Frag) (neg:Bool):R2:=fun x y H Q=>∃p xs,y=.ref p/\(SqL K H p xs\/SqT K H p xs)/\flatV x=true/\xs.all flatV=true/\Q (.bl (if neg then !inV x xs else inV x xs)) H
theorem op_in_seq:OpR X (compareOp .In) (rIn X.K false):=by
 intro pins s σ H x y v u Q I rx ry h
 obtain⟨p,xs,rfl,hq,fx,fs,q⟩:=h
 cases ry
 rcases hq with hq|hq
 .obtain⟨its,r,pl,hz⟩:=I.list hq
  refine SeqAt.in_listAt (eqU x) pl.isList (fun w hw=>mem_eqAt rx fx r fs w (by simpa using hw)) ⟨.bl _,H,I,rfl,?_⟩
  rw[show its.toArray.any (eqU x)=its.any (eqU x) by simp,any_eqU r fs]
  exact q
 .obtain⟨its,r,pl,hz⟩:=I.tuple hq
  refine SeqAt.in_tupleAt (eqU x) pl (fun w hw=>mem_eqAt rx fx r fs w (by simpa using hw)) ⟨.bl _,H,I,rfl,?_⟩
  rw[show its.toArray.any (eqU x)=its.any (eqU x) by simp,any_eqU r fs]
  exact q
theorem op_notIn_seq:OpR X (compareOp .NotIn) (rIn X.K true):=by
 intro pins s σ H x y v u Q I rx ry h
 obtain⟨p,xs,rfl,hq,fx,fs,q⟩:=h
 cases ry
 rcases hq with hq|hq
 .obtain⟨its,r,pl,hz⟩:=I.list hq
  refine SeqAt.notIn_listAt (eqU x) pl.isList (fun w hw=>mem_eqAt rx fx r fs w (by simpa using hw)) ⟨.bl _,H,I,rfl,?_⟩
  rw[show its.toArray.any (eqU x)=its.any (eqU x) by simp,any_eqU r fs]
  exact q
 .obtain⟨its,r,pl,hz⟩:=I.tuple hq
  refine SeqAt.notIn_tupleAt (eqU x) pl (fun w hw=>mem_eqAt rx fx r fs w (by simpa using hw)) ⟨.bl _,H,I,rfl,?_⟩
  rw[show its.toArray.any (eqU x)=its.any (eqU x) by simp,any_eqU r fs]
  exact q
theorem CallR.or {f:Value} {r r':List V->Hp->VK->Prop} (h:CallR X f r) (h':CallR X f r'):CallR X f (fun xs H Q=>r xs H Q\/r' xs H Q):=by
 intro pins s σ H xs us Q I rs q
 rcases q with q|q
 .exact h pins s σ H xs us Q I rs q
 .exact h' pins s σ H xs us Q I rs q
theorem call_list_of:CallR X (.type "list") (fun xs H Q=>∃p ys,xs=[.ref p]/\(SqL X.K H p ys\/SqT X.K H p ys)/\∀l,H l=none->Q (.ref l) (upd H l (.lst ys))):=by
 intro pins s σ H xs us Q I r h
 obtain⟨p,ys,rfl,hq,q⟩:=h
 obtain⟨u,rfl,rx⟩:=vals1 r
 cases rx
 have fin:∀(its:List Value),Vals ys its->ys.length<=sizeLine->∀(h':Heap) (c':Nat),(∀b o',s.heap.get? b=some o'->h'.get? b=some o')->
   h'.get? s.heap.objs.size=some { cls:=.type "list",dict:=none,data:=.seq its.toArray c',slots:=#[] }->EP X pins σ Q (.ref s.heap.objs.size) { s with heap:=h' }:=fun its r' hz h' c' kp e=>
  ⟨.ref s.heap.objs.size,_,I.laid (t':=s.toks) kp (Nat.le_refl _) (show ObjOk X.prog X.w _ h' _ (.lst ys) from⟨hz,its,c',r',e⟩),rfl,q _ (I.hok.fresh (Nat.le_refl _))⟩
 rcases hq with hq|hq
 .obtain⟨its,r',pl,hz⟩:=I.list hq
  have hlen:=r'.length
  obtain⟨o,ho,hc,n,hd⟩:=pl.isList
  exact call_list_seq p (.inl rfl) ho hc hd (fun h' c' kp e=>fin its r' hz h' c' kp e) (by simp only[List.size_toArray]<;>omega)
 .obtain⟨its,r',pl,hz⟩:=I.tuple hq
  have hlen:=r'.length
  obtain⟨o,ho,hc,n,hd⟩:=pl
  exact call_list_seq p (.inr rfl) ho hc hd (fun h' c' kp e=>fin its r' hz h' c' kp e) (by simp only[List.size_toArray]<;>omega)
def tyV (K:W.Frag) (T:String) (x:V) (H:Hp):Prop:=match x with
 | .str _=>T="str"
 | .int _=>T="int"
 | .ref p=>(T="list"/\∃xs,SqL K H p xs)\/(T="tuple"/\((∃o,K.lookup p=some o/\o.cls=.type "tuple"/\o.dict=none)\/∃xs,H p=some (.tup xs)))\/
   (T="dict"/\((∃kvs,H p=some (.dK kvs))\/∃kvs,H p=some (.dT kvs)))\/(T="set"/\∃S n,H p=some (.set S n))
 |_=>False
theorem tyV_is {pins:List (Addr×Obj)} {σ:St} {H:Hp} {s:Shared} {T:String} {x:V} {v:Value} (I:Inv X pins σ H s) (r:RelV x v) (ty:tyV X.K T x H):
  s.TypeIs v T/\∀a,v=.ref a->∃ob,s.heap.get? a=some ob/\ob.dict=none:=by
 cases x with
 |str z=>
  obtain⟨t,rfl⟩:=r
  cases(show T="str" from ty)
  exact⟨typeIs_str s z t,fun _ e=>nomatch e⟩
 |int i=>
  obtain⟨t,rfl⟩:=r
  cases(show T="int" from ty)
  exact⟨typeIs_int s i t,fun _ e=>nomatch e⟩
 |ref p=>
  cases r
  rcases ty with⟨rfl,xs,hq⟩|⟨rfl,⟨o,hk,hc,hd⟩|⟨xs,hk⟩⟩|⟨rfl,hk⟩|⟨rfl,S,n,hk⟩
  .obtain⟨its,_,pl,_⟩:=I.list hq
   refine⟨pl.isList.typeIs,fun a e=>?_⟩
   cases e
   obtain⟨o,n,e,c,hd,_⟩:=pl
   exact⟨o,e,hd⟩
  .refine⟨⟨o,I.kIn p o hk,hc⟩,fun a e=>?_⟩
   cases e
   exact⟨o,I.kIn _ o hk,hd⟩
  .obtain⟨_,_,_,o,e,c,_,hd⟩:=I.hok p _ hk
   refine⟨⟨o,e,c⟩,fun a e2=>?_⟩
   cases e2
   exact⟨o,e,hd⟩
  .have z:∃o,s.heap.get? p=some o/\o.ExactDict:=by
    rcases hk with⟨kvs,hk⟩|⟨kvs,hk⟩
    .obtain⟨_,_,_,_,o,_,_,e,ex,_⟩:=I.hok p _ hk
     exact⟨o,e,ex⟩
    .obtain⟨_,_,_,_,o,_,_,e,ex,_⟩:=I.hok p _ hk
     exact⟨o,e,ex⟩
   obtain⟨o,e,ex⟩:=z
   refine⟨⟨o,e,ex.1⟩,fun a e2=>?_⟩
   cases e2
   exact⟨o,e,ex.2.1⟩
  .obtain⟨o,_,_,_,e,ex,_⟩:=I.hok p _ hk
   refine⟨⟨o,e,ex.1⟩,fun a e2=>?_⟩
   cases e2
   exact⟨o,e,ex.2.1⟩
 |_=>exact False.elim ty
noncomputable def tBM0 (K:W.Frag) (T:String) (r:V->List V->Hp->VK->Prop) (to:TE):TE:=fun σ H Q=>to σ H fun x H1=>tyV K T x H1/\r x [] H1 Q
noncomputable def tBM (K:W.Frag) (T:String) (r:V->List V->Hp->VK->Prop) (to:TE) (t:TA):TE:=fun σ H Q=>to σ H fun x H1=>tyV K T x H1/\t σ H1 fun xs H2=>r x xs H2 Q
variable {o e:Expr} {es:List Expr} {to:TE} {t:TA} {name:Str} {apos cpos:Pos} {T id:String} {r:V->List V->Hp->VK->Prop}
theorem pe_bm0 (pa:PlainAttrs T) (slot:Slot T name id) (hty:typeOf (.builtin id)=pure (.type "method_descriptor")) (hm:MtR X id r) (ho:PE X o to)
  (hbase:attributeBase o name X.env (eval o X.env)=eval o X.env:=by rfl) (hline:(apos.endLine == cpos.line)=true:=by rfl):PE X (.Call (.Attribute o name apos) [] [] cpos) (tBM0 X.K T r to):=by
 intro pins s σ H Q I h
 refine wpAny_Call_method0_late hbase hline (thn (ho pins s σ H _ I h) fun v s1 ⟨x,H1,I1,r1,ty,q1⟩=>?_)
 obtain⟨h1,h2⟩:=tyV_is I1 r1 ty
 exact⟨T,id,pa,slot,hty,h1,h2,Calls.callWith_builtin rfl (PySem.evalArgs_none (hm pins s1 σ H1 x [] v [] Q I1 r1 .nil q1))⟩
theorem pe_bm (pa:PlainAttrs T) (slot:Slot T name id) (hty:typeOf (.builtin id)=pure (.type "method_descriptor")) (hm:MtR X id r) (ho:PE X o to) (ha:PA X (e :: es) t)
  (hbase:attributeBase o name X.env (eval o X.env)=eval o X.env:=by rfl)
  (hfew:((backTo cpos (starEach (e :: es) X.env)).all (fun x=>!x.1)&&(backToKw cpos (keywordEach [] X.env)).all (fun x=>x.1.isSome)
   && decide ((e :: es).length+([]:List Keyword).length+(if([]:List Keyword).isEmpty then 0 else 1)<30))=true:=by rfl)
  (hline:(apos.endLine == cpos.line)=true:=by rfl) (hs:starEach (e :: es) X.env=(false,eval e X.env) :: starEach es X.env:=by rfl) (hplain:(backTo cpos (starEach es X.env)).any (·.1)=false:=by rfl):
  PE X (.Call (.Attribute o name apos) (e :: es) [] cpos) (tBM X.K T r to t):=by
 intro pins s σ H Q I h
 refine wpAny_Call_method_late hbase hfew hline rfl (thn (ho pins s σ H _ I h) fun v s1 ⟨x,H1,I1,r1,ty,q1⟩=>?_)
 obtain⟨h1,h2⟩:=tyV_is I1 r1 ty
 refine⟨T,id,pa,slot,hty,h1,h2,?_⟩
 have hA:=ha cpos pins s1 σ H1 _ I1 q1
 rw[hs]at hA ⊢
 refine Calls.callWith_builtin (by show(false || (backTo cpos (starEach es X.env)).any (·.1))=false;rw[hplain]<;>rfl) (Calls.evalArgs_plain ?_)
 exact thn hA fun us s2 ⟨vs,H2,I2,r2,q2⟩=>hm pins s2 σ H2 x vs v us Q I2 r1 r2 q2
end
def MtM (X:Cx) (id:String) (r:V->List V->Hp->VK->Prop):Prop:=
 ∀(pins:List (Addr×Obj)) (s:Shared) (σ:St) (H:Hp) (x:V) (xs:List V) (v:Value) (us:List Value) (Q:VK),Inv X pins σ H s->RelV x v->Vals xs us->r x xs H Q->
  wpAny (model X.prog X.w) X.A (call (.builtin id) (v :: us)) (EP X pins σ Q) X.xe s
theorem Vals.one:∀{x:V} {us:List Value},Vals [x] us->∃u,us=[u]/\RelV x u
 |_,_,.cons r .nil=>⟨_,rfl,r⟩
theorem Vals.zero:∀{us:List Value},Vals [] us->us=[]
 |_,.nil=>rfl
theorem Vals.reverse {xs:List V} {us:List Value} (h:Vals xs us):Vals xs.reverse us.reverse:=by
 induction h with
 |nil=>exact .nil
 |cons r t ih=>rw[List.reverse_cons,List.reverse_cons];exact Vals.append ih (.cons r .nil)
theorem Vals.rep {xs:List V} {us:List Value} (h:Vals xs us):∀k:Nat,Vals (List.replicate k xs).flatten (List.replicate k us).flatten
 |0=>.nil
 |k+1=>by
  rw[List.replicate_succ,List.replicate_succ,List.flatten_cons,List.flatten_cons]
  exact Vals.append h (Vals.rep h k)
theorem foldl_rep (its:List Value):∀(k:Nat) (acc:List Value),
  List.foldl (fun x1 x2=>x1++x2) acc.toArray (List.replicate k its.toArray)=(acc++(List.replicate k its).flatten).toArray
 |0,acc=>by simp
 |k+1,acc=>by
  have e:acc.toArray++its.toArray=(acc++its).toArray:=by simp
  have e2:(acc++its)++(List.replicate k its).flatten=acc++(List.replicate (k+1) its).flatten:=by
   rw[List.replicate_succ,List.flatten_cons,List.append_assoc]
  rw[<- e2,<- foldl_rep its k (acc++its),<- e,List.replicate_succ,List.foldl_cons]
section
variable {X:Cx} {pins:List (Addr×Obj)} {σ:St} {H:Hp} {s:Shared} {l b:Addr} {xs ys zs:List V}
theorem Inv.lset {its its':List Value} {n:Nat} {f:Array Value->Array Value} {t':Nat} (I:Inv X pins σ H s) (hH:H l=some (.lst xs))
  (e:s.heap.get? l=some { cls:=.type "list",data:=.seq its.toArray n }) (hf:f its.toArray=its'.toArray) (hv:Vals ys its') (hz:ys.length<=sizeLine):
  Inv X pins σ (upd H l (.lst ys)) { s with heap:=s.heap.update l (Obj.mapSeq f),toks:=t' }:=by
 have q:=PySem.IsL.update e f
 rw[hf]at q
 refine I.write (x:=l) (e:=l) (by rw[hH];exact trivial) (.inl rfl) (fun b' u hb hu=>(Heap.get?_update_other s.heap (Obj.mapSeq f) (Ne.symm hb)).trans hu) ⟨_,q⟩ ?_
 exact⟨hz,its',_,hv,q⟩
theorem Inv.lnew {its:List Value} {t':Nat} (I:Inv X pins σ H s) (hv:Vals ys its) (hz:ys.length<=sizeLine):
  Inv X pins σ (upd H s.heap.objs.size (.lst ys)) { s with heap:=s.heap.push { cls:=.type "list",data:=.seq its.toArray },toks:=t' }:=
 I.laid (fun _ _ q=>Heap.get?_push_of_some _ q) (Nat.le_refl _) ⟨hz,its,0,hv,Heap.get?_push_size _ rfl⟩
theorem Inv.fresh (I:Inv X pins σ H s):H s.heap.objs.size=none:=I.hok.fresh (Nat.le_refl _)
theorem Inv.lstM (I:Inv X pins σ H s) (hH:H l=some (.lst xs)):xs.length<=sizeLine/\∃(its:List Value) (n:Nat),Vals xs its/\xs.length=its.length/\s.heap.get? l=some { cls:=.type "list",data:=.seq its.toArray n }:=by
 obtain⟨z,its,n,r,e⟩:=I.hok l _ hH
 exact⟨z,its,n,r,r.length,e⟩
theorem notLongL {n:Nat} (h:n<=sizeLine):Builtin.List.listTooLong n=false:=by
 unfold Builtin.List.listTooLong
 exact decide_eq_false (by omega)
end
section
variable {X:Cx}
noncomputable def rAppend:V->List V->Hp->VK->Prop:=fun x vs H Q=>∃l xs y,x=.ref l/\vs=[y]/\H l=some (.lst xs)/\xs.length<sizeLine/\Q .non (upd H l (.lst (xs++[y])))
theorem mt_append:MtM X "list.append" rAppend:=by
 intro pins s σ H x vs v us Q I rx rv h
 obtain⟨l,xs,y,rfl,rfl,hH,hz,q⟩:=h
 cases rx
 obtain⟨u,rfl,ru⟩:=rv.one
 obtain⟨z,its,n,r,hl,e⟩:=I.lstM hH
 refine call_meets F.slot_list_append ⟨_,e,rfl⟩ F.entry_list_append (F.args_list_append_2 _ _) (PySem.list_append l its.toArray n u (by rw[List.size_toArray];omega)) ⟨e,?_⟩
 refine⟨.non,_,I.lset (its':=its++[u]) hH e (by simp) (r.append (.cons ru .nil)) ?_,rfl,q⟩
 rw[List.length_append,List.length_singleton]
 omega
noncomputable def rCat:R2:=fun x y H Q=>∃l b xs zs,x=.ref l/\y=.ref b/\H l=some (.lst xs)/\H b=some (.lst zs)/\xs.length+zs.length<=sizeLine/\∀p,H p=none->Q (.ref p) (upd H p (.lst (xs++zs)))
theorem op_cat:OpR X (binaryOp .Add) rCat:=by
 intro pins s σ H x y v u Q I rx ry h
 obtain⟨l,b,xs,zs,rfl,rfl,hH,hB,hz,q⟩:=h
 cases rx
 cases ry
 obtain⟨z,its,n,r,hl,e⟩:=I.lstM hH
 obtain⟨z2,its2,n2,r2,hl2,e2⟩:=I.lstM hB
 refine PySem.P.add_list e e2 ?_ (by rw[List.size_toArray,List.size_toArray];omega)
 have ea:its.toArray++its2.toArray=(its++its2).toArray:=by simp
 rw[ea]
 exact⟨.ref _,_,I.lnew (t':=s.toks) (r.append r2) (by rw[List.length_append];omega),rfl,q _ I.fresh⟩
noncomputable def rRep:R2:=fun x y H Q=>∃l k xs,x=.ref l/\y=.int k/\H l=some (.lst xs)/\-(2 ^ 63)<=k/\k<2 ^ 63/\xs.length*k.toNat<=sizeLine/\
 ∀p,H p=none->Q (.ref p) (upd H p (.lst (List.replicate k.toNat xs).flatten))
theorem len_rep {α:Type} (xs:List α) (k:Nat):(List.replicate k xs).flatten.length=k*xs.length:=by
 induction k with
 |zero=>simp
 |succ k ih=>rw[List.replicate_succ,List.flatten_cons,List.length_append,ih,Nat.succ_mul,Nat.add_comm]
theorem op_rep:OpR X (binaryOp .Mult) rRep:=by
 intro pins s σ H x y v u Q I rx ry h
 obtain⟨l,k,xs,rfl,rfl,hH,h1,h2,hz,q⟩:=h
 cases rx
 obtain⟨t,rfl⟩:=ry
 obtain⟨z,its,n,r,hl,e⟩:=I.lstM hH
 have hlen:its.toArray.size*k.toNat<=sizeLine:=by rw[List.size_toArray,<- hl];exact hz
 have hcap:¬its.toArray.size*k.toNat > (2 ^ 63-1) / 8:=by
  have:(sizeLine:Nat)<=(2 ^ 63-1) / 8:=by decide
  omega
 have hfit:¬(!Builtin.List.listFitsIndex k)=true:=by
  rw[fitsIndex_both h1 h2]
  exact Bool.false_ne_true
 have hlong:¬Builtin.List.listTooLong (its.toArray.size*k.toNat)=true:=by
  rw[notLongL hlen]
  exact Bool.false_ne_true
 have hnew:List.foldl (fun x1 x2=>x1++x2) #[] (List.replicate (if its.toArray.isEmpty=true then 0 else k.toNat) its.toArray)=(List.replicate k.toNat its).flatten.toArray:=by
  have f0:∀m:Nat,List.foldl (fun x1 x2=>x1++x2) #[] (List.replicate m its.toArray)=(List.replicate m its).flatten.toArray:=fun m=>by
   have:=foldl_rep its m []
   rw[List.nil_append]at this
   exact this
  rw[f0]
  cases its with
  |nil=>simp
  |cons a r'=>rw[if_neg (by simp)]
 refine wpAny_binaryOp_repeat_ref (T:="list") (U:="int") (by decide) ⟨_,e,rfl⟩ (fun s'=>typeIs_int s' k t) noFill_list_mul F.fills_int_mul F.slot_int_rmul repeat_list F.slot_int_index.lookup
  (call_meets F.slot_int_rmul (typeIs_int s k t) F.entry_int_rmul (F.args_int_rmul_2 _ _) (int___rmul___int_list k t l its.toArray n)
   ⟨e,rfl,⟨_,e,rfl⟩,call_meets F.slot_list_mul ⟨_,e,rfl⟩ F.entry_list_mul (F.args_list_mul_2 _ _) (AutoListH.list___mul___list_int_3 l its.toArray n k t hfit hcap hlong) ⟨e,?_⟩⟩)
 rw[hnew]
 exact⟨.ref _,_,I.lnew (t':=s.toks) (r.rep k.toNat) (by rw[len_rep,Nat.mul_comm];exact hz),rfl,q _ I.fresh⟩
end
section
variable {prog:Program} {w:World} {A:Around} {E:Value->Shared->Prop} {s:Shared}
end
section
variable {X:Cx}
end
end L2
namespace Att
open PySem PySem.W PySem.Calls PyProof.Rows
theorem ints_of_wellAll {P:Params} {h:Heap}:∀(ns:List Int) (vs:List Value),WellAll P h vs (ns.map WData.int)->IntsAre vs ns:=by
 intro ns
 induction ns with
 |nil=>
  intro vs w
  rw[List.map_nil]at w
  cases w
  exact .nil
 |cons n ns ih=>
  intro vs w
  rw[List.map_cons]at w
  cases w with
  |cons a b=>
   cases a
   exact .cons _ _ (ih _ b)
theorem script_of {l:OpenLaw} {n:Nat} (hn:l.most=some n) {P:Params} {h:Heap} {args:List WData} {vals:List Value}
  (hpre:l.row.toRowW.claim.pre args=true) (hwl:WellAll P h vals args):
  ∃a vs ns,vals=[Value.ref a]/\args=[WData.list (ns.map WData.int)]/\h.get? a=some { cls:=.type "list",data:=.seq vs.toArray }/\IntsAre vs ns/\ns.length<=n:=by
 have hsh:WShape.hasAll [] args [.list .int]=true:=(pre_splitW hpre).1
 have hc:l.pre.holds [] { args:=args }=true:=(pre_splitW hpre).2
 obtain⟨d,r,rfl,h1,h2⟩:=hasAllW_cons hsh
 obtain rfl:=hasAllW_nil h2
 obtain⟨xs,rfl,h3⟩:=hasW_list h1
 obtain⟨ns,rfl⟩:=items_int h3
 have hlen:ns.length<=n:=by
  unfold OpenLaw.pre at hc
  have h4:(WTm.not (.lt (.lit (.int (n:Int))) (.len (.arg 0)))).holds [] { args:=[.list (ns.map .int)] }=true:=by
   have h4:=(holds_andW hc).1
   rw[hn]at h4
   exact h4
  have h5:=condW_of h4 (w_not (w_lt w_lit (w_len_list (w_arg rfl))))
  rw[List.length_map]at h5
  refine Nat.le_of_not_lt fun q=>?_
  have q':(n:Int)<((ns.length:Nat):Int):=by omega
  first
   |(rw[decide_eq_true q']at h5;exact absurd h5 (by decide))
   |(simp at h5;omega)
 cases hwl with
 |cons w1 w2=>
  cases w2
  cases w1 with
  |list ho hall=>exact⟨_,_,ns,rfl,rfl,ho,ints_of_wellAll ns _ hall,hlen⟩
theorem post_true (l:OpenLaw) (args:List WData):l.row.toRowW.claim.post args (.bool true) args=true:=
 postW_of (r:=l.row.toRowW) (X:=(true == true))
  (show WShape.has [] (.bool true) .bool=true by first|rfl|decide|simp[WShape.has,WShape.arms,WShape.armsAll])
  (show(WTm.eq .res (.lit (.bool true))).value [] { args:=args,res:=some (.bool true),after:=args }=some (.bool (true == true)) from w_eq_bool (w_res rfl) w_lit) rfl
theorem attach_call {l:OpenLaw} {n:Nat} {q:Program} {loose:List Str} {XP:(Str->Option Value)->Heap->Prop} {YP:World->Heap->Prop} {d:DefRec}
  (hn:l.most=some n) (hdf:d.params.defaults=[])
  (call:∀(w:World) (s₀ s₁:Shared) (mg mb:Str->Option Value) (fa:Addr) (o:Obj) (pm cd doc:Value) (a:Addr) (vs:List Value) (ns:List Int),
   Ground q loose [] XP w s₀ mg mb s₁.heap->YP w s₁.heap->
   s₁.heap.get? fa=some o->o.data=.func (docDef d.name d.params d.body d.scope pm cd doc)->s₁.heap.CodeRec cd d.name->mg d.name=some (.ref fa)->
   s₁.heap.get? a=some { cls:=.type "list",data:=.seq vs.toArray }->IntsAre vs ns->ns.length<=n->s₁.gens=#[]->
   codeAny (model l.prog w) callerA (.call (.ref fa) ⟨[.ref a],[]⟩) (fun r s'=>r=.ok (.ret (.bool true))/\OldK s₁.heap s'.heap/\s'.os=s₁.os/\AllBare s'.gens) s₁):
  WalkO q loose XP YP l.row.toRowW d [] (fun f vs=>PySem.call f vs):=by
 intro w s₀ s₁ mg mb G Y fa o pm cd doc dV kV ho hd hcd hD hmg hg args vals as hpre hlay hrd hwl hlo
 obtain rfl:dV=.none:=Dflts.none hD hdf
 obtain rfl:kV=.none:=Dflts.noKw hD
 obtain⟨a,vs,ns,rfl,rfl,hobj,hints,hlen⟩:=script_of hn hpre hwl
 refine enter_call (codeAny_mono (call w s₀ s₁ mg mb fa o pm cd doc a vs ns G Y ho (fd_plain hd) hcd hmg hobj hints hlen hg) fun r s' hq=>?_)
 obtain⟨rfl,h2,h3,h4⟩:=hq
 exact⟨.inl ⟨.bool true,.bool true,[],rfl,fun _=>rfl,.bool true,post_true l _,fun _=>⟨List.Pairwise.nil,fun _ hm=>(nomatch hm)⟩⟩,h2,h3,h4⟩
section
variable {prog:Program} {w:World} {A:Around} {E:Value->Shared->Prop} {s:Shared} {K:Frag}
end
end Att
namespace L2
open PySem PySem.Spec PyProof.Rows
theorem vals_ints:∀{vs:List Value} {ns:List Int},IntsAre vs ns->Vals (ns.map V.int) vs
 |_,_,.nil=>.nil
 |_,_,.cons n t h=>.cons ⟨t,rfl⟩ (vals_ints h)
def Only (H:Hp):Prop:=∀b,H b=none\/∃o xs,H b=some (.frz o (.lst xs))
theorem law_call {P:Program} {w:World} {K:W.Frag} {mg mb:Str->Option Value} {CX:CXT} {k:Nat} {fa a:Addr} {fd:FuncData} {x:Str} {sp:Sp} {s₁:Shared} {vs:List Value} {ns:List Int}
  (KX:K.In s₁.heap) (hns:s₁.heap.Ns mainGlobals mg) (hb:s₁.heap.Ns builtinsNs mb) (hbb:∀x:Str,x≠"__name__"->mb x=bootBuiltins x) (hlim:s₁.heap.NoLimit) (hg:s₁.gens=#[])
  (ha:s₁.heap.get? a=some { cls:=.type "list",data:=.seq vs.toArray }) (hi:IntsAre vs ns) (hl:ns.length<=sizeLine) (hr:Room k callerA)
  (F:∀base:Heap,K.In base->base.Ns mainGlobals mg->FnOk P w K mg base CX k fa fd [x] sp) (hbind:∀(s:Shared) (u:Value),BindsTo s fd ⟨[u],[]⟩ [(x,u)])
  (hsp:∀H:Hp,Only H->SqL K H a (ns.map V.int)->sp [.ref a] H (fun v _=>v=.bl true) fun _ _ _=>False)
  (hCX:∀H e s',CX [] H s₁ (fun _ _ _=>False) e s'->False):
  codeAny (model P w) callerA (.call (.ref fa) ⟨[.ref a],[]⟩) (fun r s'=>r=.ok (.ret (.bool true))/\OldK s₁.heap s'.heap/\s'.os=s₁.os/\AllBare s'.gens) s₁:=by
 have rv:=vals_ints hi
 have lenV:=hi.length
 have core:∀H:Hp,Only H->SqL K H a (ns.map V.int)->HOk P w H s₁.heap->(∀b,H b≠none->b=a)->(H a≠none->K.lookup a=none)->
   codeAny (model P w) callerA (.call (.ref fa) ⟨[.ref a],[]⟩) (fun r s'=>r=.ok (.ret (.bool true))/\OldK s₁.heap s'.heap/\s'.os=s₁.os/\AllBare s'.gens) s₁:=by
  intro H hO hS hok hA hK
  have base_of:∀{b:Addr} {o:Obj},s₁.heap.get? b=some o->H b=none->(hidT s₁.heap H).get? b=some o:=fun e n=>hidT_get e n
  have noA:∀{b:Addr} {o:Obj} {es:Array DictEntry} {ep:Nat},s₁.heap.get? b=some o->o.data=.dict es ep->H b=none:=fun {b o es ep} e d=>by
   cases q:H b with
   |none=>rfl
   |some u=>
    have e':b=a:=hA b (by rw[q];simp)
    subst e'
    rw[ha]at e;cases e
    have d':Data.seq vs.toArray _=Data.dict es ep:=d
    cases d'
  have nsK:∀{b:Addr} {m:Str->Option Value},s₁.heap.Ns b m->(hidT s₁.heap H).Ns b m:=fun {b m} ⟨o,es,ep,e,d,r⟩=>⟨o,es,ep,base_of e (noA e d),d,r⟩
  have hKb:K.In (hidT s₁.heap H):=fun b o e=>base_of (KX b o e) (by
   cases q:H b with
   |none=>rfl
   |some u=>
    have e':b=a:=hA b (by rw[q];simp)
    subst e'
    rw[hK (by rw[q];simp)]at e;cases e)
  have hM:Mod K mg (hidT s₁.heap H):=⟨hKb,nsK hns,⟨mb,nsK hb,hbb⟩,let⟨mc,h1,h2⟩:=hlim;⟨mc,nsK h1,h2⟩⟩
  have e0:Env0 P w K mg (hidT s₁.heap H) callerA [] s₁ H:=⟨rfl,hM,fun b o e=>of_hidT e,Nat.le_of_eq (hidT_size _ _),trivial,fun b hb=>absurd (show b∈([]:List Addr) from hb) (by simp),hok,.of_eq hg⟩
  refine codeAny_mono ((F _ hKb (nsK hns)).run callerA [] s₁ H ⟨[.ref a],[]⟩ [.ref a] [.ref a] _ _ hr e0 (hbind s₁ (.ref a)) (.cons rfl .nil) (hsp H hO hS)) fun r s' h=>?_
  cases r with
  |error e=>exact(hCX H e s' h).elim
  |ok fl=>
   cases fl with
   |next=>exact False.elim h
   |brk=>exact False.elim h
   |cont=>exact False.elim h
   |ret u=>
    obtain⟨v,H',os,bare,un,hok',r',q⟩:=h
    have q':v=.bl true:=q
    subst q'
    obtain rfl:u=Value.bool true:=r'
    refine⟨rfl,OldK.of_keep fun b o e=>?_,os,bare⟩
    cases q:H b with
    |none=>exact un.keep b o e q (by intro z;exact absurd (show b∈([]:List Addr) from z) (by simp)) (by simp)
    |some u=>
     rcases hO b with z|⟨ob,xs,z⟩
     .rw[q]at z;cases z
     .have z2:=un.frzs b ob _ z
      obtain⟨e1,_⟩:=hok b _ z
      obtain⟨e2,_⟩:=hok' b _ z2
      rw[e]at e1;cases e1
      exact e2
 cases hk:K.lookup a with
 |some o=>
  have e:=KX a o hk
  rw[ha]at e
  cases e
  refine core (fun _=>none) (fun _=>.inl rfl) (.inr ⟨_,vs.toArray,_,hk,rfl,rfl,rfl,by rw[List.size_toArray,lenV];exact hl,by simpa using rv⟩) (fun b u z=>by have z':(none:Option HO)=some u:=z;cases z') (fun b z=>absurd rfl z) fun z=>absurd rfl z
 |none=>
  refine core (fun b=>if b=a then some (.frz { cls:=.type "list",data:=.seq vs.toArray } (.lst (ns.map V.int)))else none) (fun b=>?_) (.inl (.inr ⟨{ cls:=.type "list",data:=.seq vs.toArray },if_pos rfl⟩)) (fun b u z=>?_) (fun b z=>?_) fun _=>hk
  .by_cases hb:b=a
   .exact .inr ⟨_,_,if_pos hb⟩
   .exact .inl (if_neg hb)
  .by_cases hb:b=a
   .have z':=(if_pos hb).symm.trans z
    cases z'
    subst hb
    exact⟨ha,by rw[List.length_map];exact hl,vs,_,rv,ha⟩
   .have z':=(if_neg hb).symm.trans z
    cases z'
  .by_cases hb:b=a
   .exact hb
   .exact absurd (if_neg hb) z
theorem walk_of {l:W.OpenLaw} {n k:Nat} {q:Program} {loose:List Str} {XP:(Str->Option Value)->Heap->Prop} {YP:World->Heap->Prop} {d:DefRec} {K:Params->W.Frag} {CX:World->CXT} {sp:World->Sp} {x:Str}
  (hn:l.most=some n) (hn2:n<=sizeLine) (hdf:d.params.defaults=[]) (hr:Room k callerA)
  (hY:∀(w:World) (h:Heap),YP w h->(K w.params).In h)
  (F:∀(w:World) (mg:Str->Option Value) (fa:Addr) (h:Heap),(K w.params).In h->h.Ns mainGlobals mg->mg d.name=some (.ref fa)->
   ∃fd:FuncData,(∀(s:Shared) (u:Value),BindsTo s fd ⟨[u],[]⟩ [(x,u)])/\
    ∀base:Heap,(K w.params).In base->base.Ns mainGlobals mg->FnOk l.prog w (K w.params) mg base (CX w) k fa fd [x] (sp w))
  (hsp:∀(w:World) (H:Hp) (a:Addr) (ns:List Int),ns.length<=n->Only H->SqL (K w.params) H a (ns.map V.int)->sp w [.ref a] H (fun v _=>v=.bl true) fun _ _ _=>False)
  (hCX:∀(w:World) (H:Hp) (s:Shared) (e:Value) (s':Shared),CX w [] H s (fun _ _ _=>False) e s'->False):
  W.WalkO q loose XP YP l.row.toRowW d [] (fun f vs=>PySem.call f vs):=by
 refine Att.attach_call hn hdf fun w s₀ s₁ mg mb fa o pm cd doc a vs ns G Y ho hd hcd hmg hobj hints hlen hg=>?_
 have KX:=hY w _ Y
 obtain⟨fd,hb,hF⟩:=F w mg fa _ KX G.T.g hmg
 exact law_call KX G.T.g G.T.b G.T.builtins G.T.nolimit hg hobj hints (Nat.le_trans hlen hn2) hr hF hb (fun H hO hS=>hsp w H a ns hlen hO hS) fun H e s'=>hCX w H s₁ e s'
noncomputable def defArgs (s:Stmt):Arguments:=match s with
 | .FunctionDef _ a _ _ _ _ _ _ _ _=>a
 |_=>{ posonlyargs:=[],args:=[],vararg:=none,kwonlyargs:=[],kw_defaults:=[],kwarg:=none,defaults:=[] }
noncomputable def defBody (s:Stmt):List Stmt:=match s with
 | .FunctionDef _ _ b _ _ _ _ _ _ _=>b
 |_=>[]
noncomputable def defScope (s:Stmt):Scope:=match s with
 | .FunctionDef _ _ _ _ _ _ sc _ _ _=>sc
 |_=>{ kind:=.function,names:=[],isGenerator:=false,isCoroutine:=false }
noncomputable abbrev CX0:CXT:=fun _ _ _ _ _ _=>False
noncomputable abbrev E0:XK:=fun _ _ _=>False
structure Fun (K:W.Frag) (x qual:Str) (st:Stmt) (f:Addr) (fd:FuncData):Prop where
 ex:∃(oc:Value) (od:Option Addr) (kV doc pm:Value) (an:Option Addr) (cdv ct:Value) (osl:Array (Option Value)),
  fd=W.fnOf x qual (defArgs st) (defBody st) (defScope st) .none kV doc pm an cdv ct/\K.lookup f=some ⟨oc,od,.func fd,osl⟩/\W.codeIn K cdv qual=true
 kp:W.keepIn K (.ref f)=true
section
variable {P:Program} {w:World} {K:W.Frag} {mg:Str->Option Value} {base:Heap}
theorem Fun.ok {x qual:Str} {st:Stmt} {f:Addr} {fd:FuncData} {N ps:List Str} {k:Nat} {sp:Sp} (F:Fun K x qual st f fd) (S:FnScope N ps (defScope st)) (len:∀vs H Q E,sp vs H Q E->vs.length=ps.length)
  (hbody:∀(cdv:Value) (A:Around) (outer:List Env) (s:Shared) (H:Hp) (vs:List V) (Q:VK) (E:XK),Room k (A.deeper (envOfC qual (defScope st) s.heap.objs.size f cdv))->sp vs H Q E->
   ∃t,PSs (cxOf CX0 P w K mg base N qual (defScope st) f cdv A outer s H E).nox (defBody st) t/\t { nx:=fun _ H'=>Q .non H',rt:=Q } (start N vs) H):FnOk P w K mg base CX0 (k+1) f fd ps sp:=by
 obtain⟨oc,od,kV,doc,pm,an,cdv,ct,osl,rfl,lk,hcd⟩:=F.ex
 refine fn_of lk hcd S len fun A outer s H vs Q E hr hsp=>?_
 obtain⟨t,h,q⟩:=hbody cdv A outer s H vs Q E hr hsp
 exact⟨t,h.nox,q⟩
theorem Fun.binds {x qual:Str} {st:Stmt} {f:Addr} {fd:FuncData} {ps:List Str} (F:Fun K x qual st f fd)
  (h:∀(kV doc pm:Value) (an:Option Addr) (cdv ct:Value) (us:List Value),us.length=ps.length->bindArgs (W.fnOf x qual (defArgs st) (defBody st) (defScope st) .none kV doc pm an cdv ct) ⟨us,[]⟩=pure (ps.zip us)):Binds K fd ps []:=by
 obtain⟨oc,od,kV,doc,pm,an,cdv,ct,osl,rfl,lk,hcd⟩:=F.ex
 exact .all (h kV doc pm an cdv ct)
theorem fun_mk {x qual:Str} {st:Stmt} {f:Addr} {oc:Value} {od an:Option Addr} {osl:Array (Option Value)} {kV doc pm cdv ct:Value} (l:K.lookup f=some ⟨oc,od,.func (W.fnOf x qual (defArgs st) (defBody st) (defScope st) .none kV doc pm an cdv ct),osl⟩)
  (c:W.codeIn K cdv qual=true) (k:W.keepIn K (.ref f)=true):Fun K x qual st f (W.fnOf x qual (defArgs st) (defBody st) (defScope st) .none kV doc pm an cdv ct):=⟨⟨oc,od,kV,doc,pm,an,cdv,ct,osl,rfl,l,c⟩,k⟩
end
theorem small1000 {n:Nat} (h:n<=1000):n<sizeLine:=Nat.lt_of_le_of_lt h (by decide)
section
variable {X:Cx}
theorem pv (i:Nat) {x:Str} {pos:Pos} (hN:X.N[i]?=some x:=by rfl) (hv:Vis X.env.scope x:=by first|exact Or.inl rfl|exact Or.inr (Or.inl rfl)|exact Or.inr (Or.inr rfl)) (hd:(x == ("__debug__":Str))=false:=by decide)
  (hcd:(x == ("__classdict__":Str))=false:=by decide):PE X (.Name x pos) (tVar i):=pe_var hN hv hd hcd
end
def Same (H H':Hp):Prop:=∀b o,H b=some o->H' b=some o
theorem Same.refl (H:Hp):Same H H:=fun _ _ h=>h
theorem Same.trans {H H1 H2:Hp} (a:Same H H1) (b:Same H1 H2):Same H H2:=fun c o h=>b c o (a c o h)
theorem Same.free {H H':Hp} (e:Same H H') {l:Addr} (h:H' l=Option.none):H l=Option.none:=by
 cases q:H l with
 |none=>rfl
 |some o=>
  rw[e l o q]at h
  cases h
theorem Same.seq {K:W.Frag} {H H':Hp} {a:Addr} {xs:List V} (e:Same H H') (h:SqL K H a xs):SqL K H' a xs:=by
 rcases h with(h|⟨o,h⟩)|h
 .exact .inl (.inl (e _ _ h))
 .exact .inl (.inr ⟨o,e _ _ h⟩)
 .exact .inr h
noncomputable def closL (cells:List (Str×Addr)):List (Str×NameKind)->List (Str×Addr)->List (Str×Addr)
 | [],acc=>acc
 |(n,k) :: r,acc=>if k == .free then closL cells r ((n,(cells.lookup n).getD 0) :: acc)else closL cells r acc
noncomputable def closF (env:Env) (x:Str×NameKind) (r:List (Str×Addr)):Sem (ForInStep (List (Str×Addr))):=
 match x with|(name,kind)=>if(kind == .free)=true then(do let a <- cellOf env name;pure (ForInStep.yield ((name,a) :: r)))else pure (ForInStep.yield r)
theorem closGo {env:Env}:∀(names:List (Str×NameKind)) (acc:List (Str×Addr)),(∀n,(n,NameKind.free)∈names->∃c,env.cells.lookup n=some c)->
   forIn names acc (closF env)=(pure (closL env.cells names acc):Sem _):=by
  intro names
  induction names with
  |nil=>intro acc _;rfl
  |cons x r ih=>
   intro acc hh
   obtain⟨n,k⟩:=x
   rw[List.forIn_cons]
   have hr:=fun m hm=>hh m (List.mem_cons_of_mem _ hm)
   by_cases hk:k=.free
   .subst hk
    obtain⟨c,hc⟩:=hh n List.mem_cons_self
    have e1:cellOf env n=(pure c:Sem Addr):=by unfold cellOf;rw[hc]
    have e2:closF env (n,NameKind.free) acc=pure (ForInStep.yield ((n,c) :: acc)):=by
     unfold closF
     dsimp only
     rw[if_pos (by rfl),e1]
     rfl
    rw[e2]
    have e3:=ih ((n,c) :: acc) hr
    have e4:closL env.cells ((n,NameKind.free) :: r) acc=closL env.cells r ((n,c) :: acc):=by
     show(if(NameKind.free == NameKind.free)=true then _ else _)=_
     rw[if_pos (by rfl),hc]
     rfl
    rw[e4,<- e3]
    rfl
   .have hb:(k == NameKind.free)=false:=by simpa using hk
    have e2:closF env (n,k) acc=pure (ForInStep.yield acc):=by
     unfold closF
     dsimp only
     rw[if_neg (by rw[hb];exact Bool.false_ne_true)]
    rw[e2]
    have e4:closL env.cells ((n,k) :: r) acc=closL env.cells r acc:=by
     show(if(k == NameKind.free)=true then _ else _)=_
     rw[if_neg (by rw[hb];exact Bool.false_ne_true)]
    rw[e4,<- ih acc hr]
    rfl
theorem closFor {env:Env} {scope:Scope} (h:∀n,(n,NameKind.free)∈scope.names->∃c,env.cells.lookup n=some c):closureFor scope env=pure (closL env.cells scope.names []):=by
 have e:=closGo (env:=env) scope.names [] h
 unfold closureFor
 have q:∀f:Str×NameKind->List (Str×Addr)->Sem (ForInStep (List (Str×Addr))),(∀x r,f x r=closF env x r)->(forIn scope.names ([]:List (Str×Addr)) f >>= fun r=>pure r)=(pure (closL env.cells scope.names []):Sem _):=by
  intro f hf
  have:f=closF env:=funext fun x=>funext fun r=>hf x r
  rw[this,e]
  rfl
 refine q _ fun x r=>?_
 obtain⟨n,k⟩:=x
 unfold closF
 first|done|(dsimp only;done)|(dsimp only;cases hk:k == NameKind.free<;>simp[hk])
theorem closL_mem {cells:List (Str×Addr)}:∀{names:List (Str×NameKind)} {acc:List (Str×Addr)} {n:Str} {c:Addr},(n,c)∈closL cells names acc->(n,c)∈acc\/((n,NameKind.free)∈names/\c=(cells.lookup n).getD 0)
 | [],_,_,_,h=>.inl h
 |(m,k) :: r,acc,n,c,h=>by
  unfold closL at h
  split at h
  .rename_i hk
   have hk':k=.free:=by simpa using hk
   subst hk'
   rcases closL_mem h with q|⟨q,e⟩
   .rcases List.mem_cons.mp q with q|q
    .cases q;exact .inr ⟨List.mem_cons_self,rfl⟩
    .exact .inl q
   .exact .inr ⟨List.mem_cons_of_mem _ q,e⟩
  .rcases closL_mem h with q|⟨q,e⟩
   .exact .inl q
   .exact .inr ⟨List.mem_cons_of_mem _ q,e⟩
theorem closL_has {cells:List (Str×Addr)}:∀{names:List (Str×NameKind)} {acc:List (Str×Addr)} {n:Str},((n,NameKind.free)∈names\/∃c,(n,c)∈acc)->∃c,(n,c)∈closL cells names acc
 | [],_,_,h=>by
  rcases h with h|h
  .simp at h
  .exact h
 |(m,k) :: r,acc,n,h=>by
  unfold closL
  split
  .rename_i hk
   refine closL_has ?_
   rcases h with h|⟨c,h⟩
   .rcases List.mem_cons.mp h with h|h
    .cases h;exact .inr ⟨_,List.mem_cons_self⟩
    .exact .inl h
   .exact .inr ⟨c,List.mem_cons_of_mem _ h⟩
  .rename_i hk
   refine closL_has ?_
   rcases h with h|h
   .rcases List.mem_cons.mp h with h|h
    .cases h;exact absurd rfl hk
    .exact .inl h
   .exact .inr h
theorem cellsFrom_app:∀(names:List (Str×NameKind)) (n:Nat) (acc:List (Str×Addr)),cellsFrom n names acc=cellsFrom n names []++acc
 | [],_,_=>rfl
 |(x,k) :: r,n,acc=>by
  unfold cellsFrom
  split
  .rw[cellsFrom_app r (n+1) ((x,n) :: acc),cellsFrom_app r (n+1) [(x,n)],List.append_assoc]
   rfl
  .exact cellsFrom_app r n acc
theorem lookup_some_of_mem {α:Type}:∀{l:List (Str×α)} {n:Str} {c:α},(n,c)∈l->∃c',l.lookup n=some c'
 |(k,v) :: r,n,c,h=>by
  rw[List.lookup_cons]
  cases hb:n == k with
  |true=>exact⟨v,rfl⟩
  |false=>
   rcases List.mem_cons.mp h with e|h
   .cases e;simp at hb
   .exact lookup_some_of_mem h
theorem relabel_lookup {env:Env}:∀{names:List (Str×NameKind)} {x:Str} {k':NameKind},
  (names.map fun(n,k)=>if(k == NameKind.free&&env.scope.kind == .function&&env.kindOf n == some .cell)then(n,NameKind.cell)else(n,k)).lookup x=some k'->∃k,names.lookup x=some k/\(k'=k\/(k=.free/\k'=.cell))
 | [],_,_,h=>by simp at h
 |(n,k) :: r,x,k',h=>by
  have ih:=@relabel_lookup env r x k'
  rw[List.map_cons]at h
  by_cases hc:(k == NameKind.free&&env.scope.kind == .function&&env.kindOf n == some .cell)=true
  .have e1:(match ((n,k):Str×NameKind)with|(n,k)=>if(k == NameKind.free&&env.scope.kind == .function&&env.kindOf n == some .cell)=true then(n,NameKind.cell)else(n,k))=(n,NameKind.cell):=if_pos hc
   rw[e1,List.lookup_cons]at h
   rw[List.lookup_cons]
   cases hx:x == n with
   |true=>
    rw[hx]at h
    cases h
    refine⟨k,rfl,.inr ⟨?_,rfl⟩⟩
    simp only[Bool.and_eq_true]at hc
    exact beq_iff_eq.mp hc.1.1
   |false=>rw[hx]at h;exact ih h
  .have e1:(match ((n,k):Str×NameKind)with|(n,k)=>if(k == NameKind.free&&env.scope.kind == .function&&env.kindOf n == some .cell)=true then(n,NameKind.cell)else(n,k))=(n,k):=if_neg hc
   rw[e1,List.lookup_cons]at h
   rw[List.lookup_cons]
   cases hx:x == n with
   |true=>rw[hx]at h;cases h;exact⟨k,rfl,.inl rfl⟩
   |false=>rw[hx]at h;exact ih h
theorem relabel_lookup' {env:Env}:∀{names:List (Str×NameKind)} {x:Str} {k:NameKind},names.lookup x=some k ->
  ∃k',(names.map fun(n,k)=>if(k == NameKind.free&&env.scope.kind == .function&&env.kindOf n == some .cell)then(n,NameKind.cell)else(n,k)).lookup x=some k'/\(k'=k\/(k=.free/\k'=.cell))
 | [],_,_,h=>by simp at h
 |(n,k0) :: r,x,k,h=>by
  have ih:=@relabel_lookup' env r x k
  rw[List.map_cons]
  by_cases hc:(k0 == NameKind.free&&env.scope.kind == .function&&env.kindOf n == some .cell)=true
  .have e1:(match ((n,k0):Str×NameKind)with|(n,k)=>if(k == NameKind.free&&env.scope.kind == .function&&env.kindOf n == some .cell)=true then(n,NameKind.cell)else(n,k))=(n,NameKind.cell):=if_pos hc
   rw[e1,List.lookup_cons]
   rw[List.lookup_cons]at h
   cases hx:x == n with
   |true=>
    rw[hx]at h
    cases h
    refine⟨_,rfl,.inr ⟨?_,rfl⟩⟩
    simp only[Bool.and_eq_true]at hc
    exact beq_iff_eq.mp hc.1.1
   |false=>rw[hx]at h;exact ih h
  .have e1:(match ((n,k0):Str×NameKind)with|(n,k)=>if(k == NameKind.free&&env.scope.kind == .function&&env.kindOf n == some .cell)=true then(n,NameKind.cell)else(n,k))=(n,k0):=if_neg hc
   rw[e1,List.lookup_cons]
   rw[List.lookup_cons]at h
   cases hx:x == n with
   |true=>rw[hx]at h;cases h;exact⟨_,rfl,.inl rfl⟩
   |false=>rw[hx]at h;exact ih h
section
variable {M:Model} {A:Around} {E:Value->Shared->Prop} {s:Shared}
noncomputable abbrev compHeap (h:Heap) (names:List (Str×NameKind)):Heap:=pushCells (h.push { cls:=.type "dict",data:=.dict #[] }) names
theorem wpAny_compEnv {scope:Scope} {globals:Addr} {cl:List (Str×Addr)} {qual:Str} {env:Env} {Q:Env->Shared->Prop}
  (h:Q (newEnv scope s.heap.objs.size globals (cellsFrom (s.heap.objs.size+1) scope.names cl) qual none .none (some env) builtinsNs) { s with heap:=compHeap s.heap scope.names }):
  wpAny M A (newFunctionEnv scope globals cl [] qual none .none (some env)) Q E s:=by
 simp only[newFunctionEnv,Option.isSome_some,if_true]
 refine wpAny_bind (wpAny_alloc ?_)
 refine wpAny_bind (wpAny_layCells _ (fun name kind cells=>by cases hkc:kind == NameKind.cell<;>simp[hkc]) _ _ _ _ ?_)
 rw[show({ s with heap:=s.heap.push { cls:=.type "dict",data:=.dict #[] } }:Shared).heap.objs.size=s.heap.objs.size+1 from Heap.size_push ..]
 exact wpAny_bind (wpAny_pure (wpAny_pure h))
end
noncomputable def Cx.comp (X:Cx) (scope:Scope) (s₀:Shared) (H₀:Hp) (ex:List Addr):Cx:=
 { X with
  s₀:=s₀,H₀:=H₀
  env:={ newEnv scope s₀.heap.objs.size X.env.globals (cellsFrom (s₀.heap.objs.size+1) scope.names (closL X.env.cells scope.names [])) X.env.qual none .none (some X.env) builtinsNs with scope:=relabel scope X.env }
  outer:=X.stack,ex:=ex,fn:=fun x=>((cellsFrom (s₀.heap.objs.size+1) scope.names []).lookup x).isSome,pn:=[],xe:=fun _ _=>False }
structure CompSc (X:Cx) (scope:Scope):Prop where
 kind:scope.kind=.function
 names:∀x∈scope.names,x.2=.local->scope.names.lookup x.1=some .local
 one:∀n,(n,NameKind.cell)∈scope.names->scope.names.lookup n=some .cell
 free:∀n,(n,NameKind.free)∈scope.names->X.env.kindOf n=some .cell\/X.env.kindOf n=some .free
theorem cellsFrom_mem:∀{names:List (Str×NameKind)} {n:Nat} {x:Str} {c:Addr},(x,c)∈cellsFrom n names []->(x,NameKind.cell)∈names
 | [],_,_,_,h=>by simp[cellsFrom]at h
 |(y,k) :: r,n,x,c,h=>by
  unfold cellsFrom at h
  split at h
  .rename_i hk
   have hk':k=.cell:=by simpa using hk
   subst hk'
   rw[cellsFrom_app]at h
   rcases List.mem_append.mp h with h|h
   .exact List.mem_cons_of_mem _ (cellsFrom_mem h)
   .have h':(x,c)=(y,n):=by simpa using h
    cases h'
    exact List.mem_cons_self
  .exact List.mem_cons_of_mem _ (cellsFrom_mem h)
noncomputable def clr (own:List Nat) (σ:St):St:=own.foldl (fun σ i=>σ.set i none) σ
theorem clr_len:∀(own:List Nat) (σ:St),(clr own σ).length=σ.length
 | [],_=>rfl
 |i :: r,σ=>by
  show(clr r (σ.set i none)).length=_
  rw[clr_len r,List.length_set]
theorem clr_get:∀{own:List Nat} {σ:St} {i:Nat} {v:V},(clr own σ)[i]?=some (some v)->σ[i]?=some (some v)/\i∉own
 | [],_,_,_,h=>⟨h,by simp⟩
 |j :: r,σ,i,v,h=>by
  obtain⟨h1,h2⟩:=clr_get (own:=r) (σ:=σ.set j none) h
  by_cases e:j=i
  .subst e
   rw[List.getElem?_set]at h1
   simp at h1
  .rw[List.getElem?_set_ne e]at h1
   exact⟨h1,by simp;exact⟨fun z=>e z.symm,h2⟩⟩
theorem clr_out:∀{own:List Nat} {σ:St} {i:Nat},i∉own->(clr own σ)[i]?=σ[i]?
 | [],_,_,_=>rfl
 |j :: r,σ,i,h=>by
  have h1:i≠j:=fun z=>h (by simp[z])
  have h2:i∉r:=fun z=>h (by simp[z])
  show(clr r (σ.set j none))[i]?=_
  rw[clr_out h2,List.getElem?_set_ne (Ne.symm h1)]
section
variable {X:Cx} {pins:List (Addr×Obj)} {σ:St} {H H':Hp} {s s':Shared} {scope:Scope} {ex:List Addr} {own:List Nat}
theorem comp_cells (I:Inv X pins σ H s) (S:CompSc X scope):
  (∀x c,(closL X.env.cells scope.names []).lookup x=some c->X.env.cells.lookup x=some c)/\
  (∀x,(x,NameKind.free)∈scope.names->∃c,(closL X.env.cells scope.names []).lookup x=some c)/\
  CellsOk (compHeap s.heap scope.names) (s.heap.objs.size+1) (cellsFrom (s.heap.objs.size+1) scope.names []):=by
 have hc:∀x c,(x,c)∈closL X.env.cells scope.names []->X.env.cells.lookup x=some c:=fun x c h=>by
  rcases closL_mem h with z|⟨z,e⟩
  .simp at z
  .obtain⟨c',e'⟩:=I.ok.has x (S.free x z)
   rw[e',Option.getD_some]at e
   rw[e',e]
 refine⟨fun x c h=>hc x c (PySem.mem_of_lookup h),fun x h=>?_,?_⟩
 .obtain⟨c,q⟩:=closL_has (cells:=X.env.cells) (acc:=[]) (.inl h)
  exact lookup_some_of_mem q
 .have q:=cellsFrom_ok scope.names (s.heap.push { cls:=.type "dict",data:=.dict #[] }) (s.heap.objs.size+1) [] ⟨fun _ _ hm=>(nomatch hm),List.Pairwise.nil⟩ (by rw[Heap.size_push];exact Nat.le_refl _)
  rw[Heap.size_push]at q
  exact q
theorem comp_start (I:Inv X pins σ H s) (hex:∀b∈ex,FpOk X pins H b) (hlt:∀b∈ex,b<s.heap.objs.size) (S:CompSc X scope)
  (hown:∀i x,X.N[i]?=some x->(scope.names.lookup x=some .local\/scope.names.lookup x=some .cell)->i∈own):
  Inv (X.comp scope s H ex) [] (clr own σ) H { s with heap:=compHeap s.heap scope.names }:=by
 obtain⟨hcl,hcf,ok⟩:=comp_cells I S
 have lk:∀x c,(X.comp scope s H ex).env.cells.lookup x=some c->(cellsFrom (s.heap.objs.size+1) scope.names []).lookup x=some c\/((cellsFrom (s.heap.objs.size+1) scope.names []).lookup x=none/\X.env.cells.lookup x=some c):=fun x c h=>by
  have h':(cellsFrom (s.heap.objs.size+1) scope.names (closL X.env.cells scope.names [])).lookup x=some c:=h
  rw[cellsFrom_app,List.lookup_append]at h'
  cases q:(cellsFrom (s.heap.objs.size+1) scope.names []).lookup x with
  |some d=>rw[q]at h';exact .inl h'
  |none=>rw[q]at h';exact .inr ⟨rfl,hcl x c h'⟩
 have newC:∀x c,(cellsFrom (s.heap.objs.size+1) scope.names []).lookup x=some c->(compHeap s.heap scope.names).IsCell c none/\s.heap.objs.size+1<=c:=fun x c h=>ok.empty x c (PySem.mem_of_lookup h)
 have oldC:∀x c,X.env.cells.lookup x=some c->c<s.heap.objs.size:=fun x c h=>let⟨_,q⟩:=I.cell x c h;q.lt
 have keep:∀b o,s.heap.get? b=some o->(compHeap s.heap scope.names).get? b=some o:=fun b o e=>pushCells_keeps _ _ b o (Heap.get?_push_of_some _ e)
 have fresh:∀b,s.heap.objs.size<=b->H b=none:=fun b hb=>I.hok.fresh hb
 have loc0:(X.comp scope s H ex).env.locals=s.heap.objs.size:=rfl
 refine⟨⟨I.ok.mod,S.kind,I.ok.glob,?_,Nat.le_refl _,fun x y c h1 h2=>?_,fun x hx=>?_,fun x c hf h=>?_,I.ok.hd,I.ok.frames,.inl rfl,fun b hb=>?_,I.bs,Nat.le_trans I.ok.bsz I.sz,fun b o e hb=>?_,fun b hb=>?_,I.stack,I.stkFree⟩,
  rfl,I.bare,Un.kept keep,⟨fun _=>none,?_,fun i x v h1 h2 h3=>?_⟩,fun x c h=>?_,fresh _ (Nat.le_refl _),fun x c h=>?_,fun p hp=>absurd (show p∈([]:List (Addr×Obj)) from hp) (by simp),I.hok.kept keep,?_⟩
 .show X.env.builtins=_
  exact I.ok.blt
 .rcases lk x c h1 with q1|⟨_,q1⟩<;>rcases lk y c h2 with q2|⟨_,q2⟩
  .exact name_of_addr ok.apart (PySem.mem_of_lookup q1) (PySem.mem_of_lookup q2)
  .exact absurd (Nat.lt_of_lt_of_le (oldC y c q2) (Nat.le_trans (Nat.le_succ _) (newC x c q1).2)) (Nat.lt_irrefl _)
  .exact absurd (Nat.lt_of_lt_of_le (oldC x c q1) (Nat.le_trans (Nat.le_succ _) (newC y c q2).2)) (Nat.lt_irrefl _)
  .exact I.ok.inj x y c q1 q2
 .have hx':(relabel scope X.env).names.lookup x=some .cell\/(relabel scope X.env).names.lookup x=some .free:=hx
  have fin:∀k,scope.names.lookup x=some k->(k=.cell\/k=.free)->∃c,(cellsFrom (s.heap.objs.size+1) scope.names (closL X.env.cells scope.names [])).lookup x=some c:=fun k hk hkk=>by
   rw[cellsFrom_app,List.lookup_append]
   rcases hkk with rfl|rfl
   .obtain⟨c,q⟩:=cell_has (n:=s.heap.objs.size+1) hk
    exact⟨c,by rw[q];rfl⟩
   .obtain⟨c,q⟩:=hcf x (PySem.mem_of_lookup hk)
    cases z:(cellsFrom (s.heap.objs.size+1) scope.names []).lookup x with
    |some d=>exact⟨d,rfl⟩
    |none=>exact⟨c,by rw[q];rfl⟩
  rcases hx' with hx'|hx'<;>obtain⟨k,hk,e⟩:=relabel_lookup hx'
  .rcases e with e|⟨e,_⟩
   .exact fin k hk (.inl e.symm)
   .exact fin k hk (.inr e)
  .rcases e with e|⟨e,_⟩
   .exact fin k hk (.inr e.symm)
   .exact fin k hk (.inr e)
 .rcases lk x c h with q|⟨q,_⟩
  .have:=(newC x c q).2
   show s.heap.objs.size<=c
   omega
  .have hf':((cellsFrom (s.heap.objs.size+1) scope.names []).lookup x).isSome=true:=hf
   rw[q]at hf'
   cases hf'
 .refine⟨?_,fun x c h=>?_⟩
  .show b≠s.heap.objs.size
   exact Nat.ne_of_lt (hlt b hb)
  .rcases lk x c h with q|⟨_,q⟩
   .intro e
    rw[e]at q
    exact absurd (Nat.lt_of_lt_of_le (hlt b hb) (Nat.le_trans (Nat.le_succ _) (newC x b q).2)) (Nat.lt_irrefl _)
   .exact(hex b hb).2.2.2.2.1 x c q
 .rcases(hex b hb).2.2.2.1 with z|z
  .exact I.ok.noex b o e z
  .exact absurd (Nat.lt_of_lt_of_le (Heap.lt_size e) (Nat.le_trans I.ok.bsz z)) (Nat.lt_irrefl _)
 .intro z
  rcases List.mem_cons.mp (I.stkSub b z)with e|e
  .exact(hex b hb).2.1 e
  .exact(hex b hb).2.2.1 e
 .show(compHeap s.heap scope.names).Ns s.heap.objs.size _
  exact(Heap.Ns.new s.heap (.type "dict")).keeps (pushCells_keeps _ _)
 .obtain⟨h2,hno⟩:=clr_get h2
  have h3':(relabel scope X.env).names.lookup x=some .local\/(relabel scope X.env).names.lookup x=some .cell\/(relabel scope X.env).names.lookup x=some .free:=h3
  have h3k:∃k',(relabel scope X.env).names.lookup x=some k'/\(k'=.local\/k'=.cell\/k'=.free):=by
   rcases h3' with z|z|z
   .exact⟨_,z,.inl rfl⟩
   .exact⟨_,z,.inr (.inl rfl)⟩
   .exact⟨_,z,.inr (.inr rfl)⟩
  obtain⟨k',hk',hkk⟩:=h3k
  obtain⟨k,hk,e⟩:=relabel_lookup hk'
  have hfree:k=.free:=by
   rcases e with e|⟨e,_⟩
   .subst e
    rcases hkk with z|z|z
    .subst z;exact absurd (hown i x h1 (.inl hk)) hno
    .subst z;exact absurd (hown i x h1 (.inr hk)) hno
    .exact z
   .exact e
  subst hfree
  have hm:=PySem.mem_of_lookup hk
  have hv:Vis X.env.scope x:=by
   rcases S.free x hm with z|z
   .exact .inr (.inl z)
   .exact .inr (.inr z)
  obtain⟨m,hn,hl⟩:=I.loc
  obtain⟨u,r,l⟩:=hl i x v h1 h2 hv
  refine⟨u,r,?_⟩
  have hkind:(X.comp scope s H ex).env.kindOf x=some .cell\/(X.comp scope s H ex).env.kindOf x=some .free:=by
   show(relabel scope X.env).names.lookup x=some .cell\/(relabel scope X.env).names.lookup x=some .free
   rcases e with e|⟨_,e⟩
   .subst e;exact .inr hk'
   .subst e;exact .inl hk'
  have hcc:∃c,X.env.cells.lookup x=some c/\s.heap.IsCell c (some u):=by
   rcases l with⟨kk,_⟩|⟨_,c,e1,e2⟩
   .rcases S.free x hm with z|z
    .rw[z]at kk;cases kk
    .rw[z]at kk;cases kk
   .exact⟨c,e1,e2⟩
  obtain⟨c,e1,e2⟩:=hcc
  refine .inr ⟨hkind,c,?_,e2.keeps keep⟩
  show(cellsFrom (s.heap.objs.size+1) scope.names (closL X.env.cells scope.names [])).lookup x=some c
  rw[cellsFrom_app,List.lookup_append]
  have hnone:(cellsFrom (s.heap.objs.size+1) scope.names []).lookup x=none:=by
   cases z:(cellsFrom (s.heap.objs.size+1) scope.names []).lookup x with
   |none=>rfl
   |some d=>
    exfalso
    have q1:=S.one x (cellsFrom_mem (PySem.mem_of_lookup z))
    rw[hk]at q1
    cases q1
  obtain⟨c',q⟩:=hcf x hm
  have q':=hcl x c' q
  rw[e1]at q'
  cases q'
  rw[hnone,q]
  rfl
 .rcases lk x c h with q|⟨_,q⟩
  .exact⟨_,(newC x c q).1⟩
  .obtain⟨v,z⟩:=I.cell x c q
   exact⟨v,z.keeps keep⟩
 .rcases lk x c h with q|⟨_,q⟩
  .have:=(newC x c q).2
   exact fresh c (by omega)
  .exact I.freeC x c q
 .rw[clr_len]
  exact I.len
end
section
variable {X:Cx} {pins:List (Addr×Obj)} {σ:St} {H H':Hp} {s s':Shared} {scope:Scope} {ex:List Addr} {own:List Nat}
theorem hok_but {P:Program} {w:World} {h h':Heap} {a:Addr} (x:HOk P w H h) (hn:H a=none) (hs:∀b o,b≠a->h.get? b=some o->h'.get? b=some o):HOk P w H h':=fun b ob e=>
 (x b ob e).stay (fun c w' hc q=>hs c w' (by
  rintro rfl
  rcases hc with rfl|hc
  .rw[hn]at e;cases e
  .rw[hn]at hc;cases hc) q) (fun _ q=>q) fun _ _ q=>q
theorem comp_end {σ':St} {pins':List (Addr×Obj)} {h':Heap} (I:Inv X pins σ H s) (hex:∀b∈ex,FpOk X pins H b) (J:Inv (X.comp scope s H ex) pins' σ' H' s') (hs:Heap.SameBut s.heap.objs.size s'.heap h'):
  Inv X pins σ H' { s' with heap:=h' }:=by
 have ne:∀b o,s.heap.get? b=some o->b≠s.heap.objs.size:=fun b o e=>Nat.ne_of_lt (Heap.lt_size e)
 have u:Un (frs X.stack) ex H H' s.heap s'.heap:=J.base
 have hf:H' s.heap.objs.size=none:=J.free
 refine I.call' (s':={ s' with heap:=h' }) (ch:=ex) J.os ⟨fun b o e n hb hx=>?_,fun b o e n hb hx=>?_,u.free,fun b o e hx=>?_,u.tups,u.frzs,u.tbls⟩ (hok_but J.hok hf fun b o hb e=>(hs.2 b hb).trans e) J.bare fun b hb=>?_
 .exact(hs.2 b (ne b o e)).trans (u.keep b o e n hb hx)
 .obtain⟨sl,q⟩:=u.slot b o e n hb hx
  exact⟨sl,(hs.2 b (ne b o e)).trans q⟩
 .obtain⟨o',q⟩:=u.there b o e hx
  exact⟨o',(hs.2 b (ne b o e)).trans q⟩
 .obtain⟨f0,f1,f2,f3,f4,f5⟩:=hex b hb
  exact⟨f3,f1,f4,f5⟩
end
def PTs (X:Cx) (ifs:List Expr) (t:TT):Prop:=∀(pins:List (Addr×Obj)) (s:Shared) (σ:St) (H:Hp) (Q:Bool->Hp->Prop),Inv X pins σ H s->t σ H Q->
 wpAny (model X.prog X.w) X.A (forIn ifs true fun c r=>if r=true then do let ok <- isTrue c X.env (eval c X.env);pure (ForInStep.yield ok)else pure (ForInStep.yield r)) (TP X pins σ Q) X.xe s
theorem pts_nil {X:Cx}:PTs X [] (fun _ H Q=>Q true H):=fun pins s σ H Q I h=>wpAny_tests_nil ⟨H,I,h⟩
theorem pts_one {X:Cx} {c:Expr} {t:TT} (hc:PT X c t):PTs X [c] t:=fun pins s σ H Q I h=>wpAny_tests_one (hc pins s σ H Q I h)
def Ext (ws:List Nat) (σ σ':St):Prop:=σ'.length=σ.length/\∀j,j∉ws->σ'[j]?=σ[j]?
theorem Ext.refl {ws:List Nat} {σ:St}:Ext ws σ σ:=⟨rfl,fun _ _=>rfl⟩
theorem Ext.trans {ws:List Nat} {σ σ1 σ2:St} (a:Ext ws σ σ1) (b:Ext ws σ1 σ2):Ext ws σ σ2:=⟨b.1.trans a.1,fun j hj=>(b.2 j hj).trans (a.2 j hj)⟩
theorem Ext.mono {ws ws':List Nat} {σ σ1:St} (a:Ext ws σ σ1) (h:∀j∈ws,j∈ws'):Ext ws' σ σ1:=⟨a.1,fun j hj=>a.2 j fun z=>hj (h j z)⟩
theorem Ext.clr {ws:List Nat} {σ:St}:Ext ws σ (clr ws σ):=⟨clr_len _ _,fun j hj=>clr_out hj⟩
theorem Ext.back {ws:List Nat} {σ σ':St} (a:Ext ws (L2.clr ws σ) σ') (i:Nat) (v:V) (h:(L2.clr ws σ)[i]?=some (some v)):σ'[i]?=some (some v):=by
 obtain⟨_,q⟩:=clr_get h
 rw[a.2 i q]
 exact h
def GExt (ws:List Nat) (g:TG):Prop:=∀(x:V) (σ:St) (H:Hp) (Q:St->Hp->Prop),g x σ H Q->g x σ H fun σ2 H2=>Q σ2 H2/\Ext ws σ σ2
theorem gext_name {i:Nat} {ws:List Nat} (h:i∈ws):GExt ws (gName i):=fun x σ H Q q=>⟨q,by simp,fun j hj=>by
 have:i≠j:=fun z=>hj (z ▸ h)
 rw[List.getElem?_set_ne this]⟩
noncomputable def turnCode (e:Expr) (d:Nat) (tg iter:Expr) (ifs:List Expr) (nx:Sem Unit) (it acc:Value) (env:Env):Sem Fin:=do
 standAt iter.pos
 match <- pyNext it with
 |none=>pure (.done .next)
 |some v=>
  letOwnedTupleGo tg it v
  assign tg env v
  let mut ok:=true
  for c in ifs do
   if ok then ok <- isTrue c env (eval c env)
  if ok then nx
  again (.compLoop e d it acc env)
noncomputable abbrev TL (α:Type):=St->α->Hp->(α->Hp->Prop)->Prop
def CompRun {α:Type} (X:Cx) (D:Addr) (Is:α->Obj->Prop) (ws:List Nat) (code:Sem Unit) (t:TL α):Prop:=
 ∀(pins:List (Addr×Obj)) (s:Shared) (σ:St) (H:Hp) (a:α) (o:Obj) (N:α->Hp->Prop),Inv X pins σ H s->FpOk X pins H D->s.heap.get? D=some o->Is a o->t σ a H N->
  wpAny (model X.prog X.w) X.A code (fun _ s'=>∃σ' a' o' H',Inv X pins σ' H' s'/\Ext ws σ σ'/\s'.heap.get? D=some o'/\Is a' o'/\H' D=none/\N a' H') (fun _ _=>False) s
noncomputable def tClause {α:Type} (ws:List Nat) (g:TG) (tc:TT) (rest:TL α) (J:It):TL α:=fun σ a H1 N=>
 ∃W:Nat->Nat->α->Hp->Prop,(∃m,W 0 m a H1)/\∀i m b H,W i m b H->
  (J.stop i H/\N b H)\/(J.go i H/\∀x H',J.yld i H x H'->g x (clr ws σ) H' fun σ2 H2=>tc σ2 H2 fun ok H3=>
   if ok=true then rest σ2 b H3 (fun c H4=>∃m',m'<m/\W (i+1) m' c H4)else ∃m',m'<m/\W (i+1) m' b H3)
theorem comp_loop {α:Type} {Is:α->Obj->Prop} {X:Cx} {e:Expr} {d:Nat} {tg iter:Expr} {ifs:List Expr} {nx:Sem Unit} {it D:Addr} {fp:List Addr} {tn:Nat->Heap->Prop} {J:It} {g:TG} {tc:TT} {rest:TL α} {ws ws':List Nat}
  (hxe:X.xe=fun _ _=>False) (hcalm:X.calm=true)
  (hq:(Code.compLoop e d (.ref it) (.ref D) X.env).quiet=true) (hu:X.A.under (Code.compLoop e d (.ref it) (.ref D) X.env)=X.A)
  (hT:(model X.prog X.w).den (.compLoop e d (.ref it) (.ref D) X.env)=(turnCode e d tg iter ifs nx (.ref it) (.ref D) X.env).onRaise (fun x=>do noteFrame x X.env;theTreesLotGoes x))
  (T:Turn X.prog X.w X.K tg J fp it tn) (hg:PG X tg g) (hge:GExt ws g) (ht:PTs X ifs tc) (hn:CompRun X D Is ws' nx rest) (hws:∀j∈ws',j∈ws) (hIs:∀a o,Is a o->∀v,o.data≠.cell v) (hDf:D∉fp)
  {pins:List (Addr×Obj)} {s:Shared} {σ:St} {H:Hp} {a:α} {o:Obj} {N:α->Hp->Prop} (I:Inv X pins σ H s) (hf:∀b∈fp,FpOk X pins H b) (hD:FpOk X pins H D) (ho:s.heap.get? D=some o) (ha:Is a o) (h0:tn 0 s.heap)
  (hw:tClause ws g tc rest J σ a H N):
  codeAny (model X.prog X.w) X.A (.compLoop e d (.ref it) (.ref D) X.env) (fun r s'=>r=.ok .next/\∃a' o' H',Inv X pins (clr ws σ) H' s'/\s'.heap.get? D=some o'/\Is a' o'/\H' D=none/\N a' H') s:=by
 obtain⟨W,⟨m0,w0⟩,turn⟩:=hw
 have stat:∀{H':Hp} {pl:List (Addr×Obj)},(∀b∈D :: fp,H' b=none)->(∀b∈D :: fp,FpOk X pins H' b):=fun {H' pl} hn b hb=>by
  rcases List.mem_cons.mp hb with rfl|hb'
  .exact⟨hn _ List.mem_cons_self,hD.2⟩
  .exact⟨hn b hb,(hf b hb').2⟩
 refine codeAny_loop hq (fun n s'=>∃i b ob H',Inv X pins (clr ws σ) H' s'/\tn i s'.heap/\(∀b∈D :: fp,H' b=none)/\s'.heap.get? D=some ob/\Is b ob/\W i n b H') ?_ m0
  ⟨0,a,o,H,I.weak (clr_len _ _) (fun i v q=>(clr_get q).1),h0,fun b hb=>by
   rcases List.mem_cons.mp hb with rfl|hb'
   .exact hD.1
   .exact(hf b hb').1,ho,ha,w0⟩
 rintro n s3 ⟨i,b,ob,H3,I3,st3,fr3,o3,is3,w3⟩
 rw[hu,hT]
 refine wpAny_noted ?_
 have hE:∀{β:Type} {c:Sem β} {Q:β->Shared->Prop} {s:Shared} {E:Value->Shared->Prop},wpAny (model X.prog X.w) X.A c Q (fun _ _=>False) s->wpAny (model X.prog X.w) X.A c Q E s:=fun h=>wpAny_mono h (fun _ _ q=>q) fun _ _ q=>q.elim
 refine hE ?_
 unfold turnCode
 refine wpAny_bind (wpAny_standAt (wpAny_bind ?_))
 have hxeE:∀{β:Type} {c:Sem β} {Q:β->Shared->Prop} {s:Shared},wpAny (model X.prog X.w) X.A c Q X.xe s->wpAny (model X.prog X.w) X.A c Q (fun _ _=>False) s:=fun h=>by rw[hxe]at h;exact h
 have pD:Inv X (pins++pinsAt [D] s3.heap) (clr ws σ) H3 s3:=I3.pinned (fun b hb=>by
  have e:b=D:=by simpa using hb
  subst e
  exact stat (pl:=[]) fr3 b List.mem_cons_self) (fun b hb=>by
  have e:b=D:=by simpa using hb
  subst e
  exact⟨ob,o3,hIs _ _ is3⟩)
 have mD:(D,ob)∈pinsAt [D] s3.heap:=mem_pinsAt (by simp) o3
 have fpD:∀{H':Hp},(∀b∈fp,H' b=none)->∀b∈fp,FpOk X (pins++pinsAt [D] s3.heap) H' b:=fun {H'} hn b hb=>by
  obtain⟨_,f1,f2,f3,f4,f5⟩:=hf b hb
  refine⟨hn b hb,f1,f2,f3,f4,fun p hp=>?_⟩
  rcases List.mem_append.mp hp with q|q
  .exact f5 p (List.mem_append_left _ q)
  .rcases List.mem_append.mp q with q|q
   .exact f5 p (List.mem_append_right _ q)
   .have e:p.1=D:=by simpa using(of_pinsAt q).1
    rw[e]
    rintro rfl
    exact hDf hb
 have fr3':∀b∈fp,H3 b=none:=fun b hb=>fr3 b (List.mem_cons_of_mem _ hb)
 rcases turn i n b H3 w3 with⟨stop,qn⟩|⟨go,step⟩
 .refine thn (T.done X rfl rfl rfl hcalm i _ s3 _ H3 _ pD (fpD fr3') st3 stop) fun r s4 ⟨hr,I4⟩=>?_
  subst hr
  have q4:=I4.pin (D,ob) (List.mem_append_right _ (List.mem_append_right _ mD))
  exact wpAny_pure ⟨rfl,b,ob,H3,I4.unpinned,q4.1,is3,q4.2.1,qn⟩
 .refine thn (T.item X rfl rfl rfl hcalm i _ s3 _ H3 _ pD (fpD fr3') st3 go) fun r s4 ⟨u,hr,h4⟩=>?_
  subst hr
  refine wpAny_bind (thn h4 fun _ s5 ⟨x,H5,I5,r5,y5,st5,fr5⟩=>?_)
  have I5':=I5.pinned (fpD fr5) (T.obj _ _ st5)
  refine wpAny_bind (thn (hxeE (hg _ s5 _ H5 x u _ I5' r5 (hge x _ H5 _ (step x H5 y5)))) fun _ s6 ⟨σ6,H6,I6,q6,x6⟩=>?_)
  refine wpAny_bind (thn (hxeE (ht _ s6 σ6 H6 _ I6 q6)) fun ok s7 ⟨H7,I7,q7⟩=>?_)
  have q7D:=I7.pin (D,ob) (List.mem_append_right _ (List.mem_append_left _ (List.mem_append_right _ mD)))
  have q7f:∀b∈fp,∀o,s5.heap.get? b=some o->s7.heap.get? b=some o/\H7 b=none:=fun b hb o e =>
   let q:=I7.pin (b,o) (List.mem_append_right _ (List.mem_append_right _ (mem_pinsAt hb e)))
   ⟨q.1,q.2.1⟩
  have st7:tn (i+1) s7.heap:=T.keep _ _ _ st5 fun b hb o e=>(q7f b hb o e).1
  have fr7:∀b∈fp,H7 b=none:=fun b hb=>by
   obtain⟨o,e,_⟩:=T.obj _ _ st5 b hb
   exact(q7f b hb o e).2
  have I7':Inv X pins σ6 H7 s7:=I7.unpinned.unpinned
  cases ok with
  |false=>
   have q7':∃m',m'<n/\W (i+1) m' b H7:=q7
   obtain⟨m',hm,w7⟩:=q7'
   refine wpAny_pure ⟨rfl,m',hm,i+1,b,ob,H7,I7'.weak ?_ x6.back,st7,fun c hc=>?_,q7D.1,is3,w7⟩
   .rw[x6.1]
   .rcases List.mem_cons.mp hc with rfl|hc'
    .exact q7D.2.1
    .exact fr7 c hc'
  |true=>
   have I7p:=I7'.pinned (fun b hb=>stat (pl:=[]) (fun c hc=>by
    rcases List.mem_cons.mp hc with rfl|hc'
    .exact q7D.2.1
    .exact fr7 c hc') b (List.mem_cons_of_mem _ hb)) (T.obj _ _ st7)
   have fD:FpOk X (pins++pinsAt fp s7.heap) H7 D:=by
    obtain⟨_,f1,f2,f3,f4,f5⟩:=hD
    refine⟨q7D.2.1,f1,f2,f3,f4,fun p hp=>?_⟩
    rcases List.mem_append.mp hp with q|q
    .exact f5 p (List.mem_append_left _ q)
    .rcases List.mem_append.mp q with q|q
     .exact f5 p (List.mem_append_right _ q)
     .intro z
      exact hDf (z ▸ (of_pinsAt q).1)
   refine wpAny_bind (thn (hn _ s7 σ6 H7 b ob _ I7p fD q7D.1 is3 q7) fun _ s8 ⟨σ8,b8,o8,H8,I8,x8,e8,is8,n8,m',hm,w8⟩=>?_)
   have q8f:∀b∈fp,∀o,s7.heap.get? b=some o->s8.heap.get? b=some o/\H8 b=none:=fun b hb o e =>
    let q:=I8.pin (b,o) (List.mem_append_right _ (List.mem_append_right _ (mem_pinsAt hb e)))
    ⟨q.1,q.2.1⟩
   have x8':Ext ws (clr ws σ) σ8:=x6.trans (x8.mono hws)
   refine wpAny_pure ⟨rfl,m',hm,i+1,b8,o8,H8,I8.unpinned.weak (by rw[x8'.1]) x8'.back,T.keep _ _ _ st7 fun b hb o e=>(q8f b hb o e).1,fun c hc=>?_,e8,is8,w8⟩
   rcases List.mem_cons.mp hc with rfl|hc'
   .exact n8
   .obtain⟨o,e,_⟩:=T.obj _ _ st7 c hc'
    exact(q8f c hc' o e).2
def IsL (xs:List V) (o:Obj):Prop:=xs.length<=sizeLine/\∃(its:List Value) (n:Nat),Vals xs its/\o={ cls:=.type "list",data:=.seq its.toArray n }
theorem isL_data (xs:List V) (o:Obj) (h:IsL xs o) (v:Option Value):o.data≠.cell v:=by
 obtain⟨_,its,n,_,rfl⟩:=h
 intro z
 cases z
noncomputable def tEmit (te:TE):TL (List V):=fun σ xs H N=>te σ H fun v H'=>xs.length<sizeLine/\N (xs++[v]) H'
theorem run_emit {X:Cx} {D:Addr} {elt:Expr} {te:TE} (hxe:X.xe=fun _ _=>False) (he:PE X elt te):CompRun X D IsL [] (do let _ <- call (.builtin "list.append") [.ref D,<- eval elt X.env]) (tEmit te):=by
 intro pins s σ H xs o N I hD ho hi hq
 have I1:Inv X (pins++pinsAt [D] s.heap) σ H s:=I.pinned (fun b hb=>by
  have e:b=D:=by simpa using hb
  subst e
  exact hD) (fun b hb=>by
  have e:b=D:=by simpa using hb
  subst e
  exact⟨o,ho,isL_data _ _ hi⟩)
 have h1:=he _ s σ H _ I1 hq
 rw[hxe]at h1
 refine wpAny_bind (thn h1 fun u s1 ⟨v,H1,J1,r1,z1,n1⟩=>?_)
 have q1:=J1.pin (D,o) (List.mem_append_right _ (List.mem_append_right _ (mem_pinsAt (by simp) ho)))
 obtain⟨zx,its,n,rv,rfl⟩:=hi
 have hl:=rv.length
 refine wpAny_bind (wpAny_list_append_plain (items:=its.toArray) ⟨n,q1.1⟩ (fun h' hp hs=>?_) (by rw[List.size_toArray,<- hl];exact zx))
 obtain⟨_,f1,f2,f3,f4,f5⟩:=hD
 have J2:Inv X pins σ H1 { s1 with heap:=h' }:=J1.unpinned.turned (it:=D) (t':=s1.toks) (fun b o hb e=>(hs.2 b hb).trans e) q1.2.1 f1 f3 f4 f5
 obtain⟨n',hp⟩:=hp
 refine wpAny_pure ⟨σ,xs++[v],_,H1,J2,Ext.refl,hp,⟨?_,its++[u],n',rv.append (.cons r1 .nil),?_⟩,q1.2.1,n1⟩
 .rw[List.length_append];exact z1
 .simp
theorem start_ok {M:Model} {A:Around} {e:Expr} {d:Nat} {it acc:Value} {env:Env} {R:Result->Shared->Prop} {s:Shared}
  (hq:(Code.compStart e d it acc env).quiet=true) (hu:A.under (Code.compStart e d it acc env)=A) (hql:∀it',(Code.compLoop e d it' acc env).quiet=true)
  (hden:M.den (.compStart e d it acc env)=(compStart e d it acc env).onRaise (fun x=>do noteFrame x env;standAt theWindowsPlace)) (hg:∃g,(clausesOf e)[d]?=some g/\g.is_async=0)
  (h0:codeAny M A (.compLoop e d it acc env) R s) (h1:∀E,wpAny M A (pyIter it) (fun it' s'=>it'=it/\s'=s) E s):codeAny M A (.compStart e d it acc env) R s:=by
 refine codeAny_of_tree ?_
 rw[hu,hden]
 refine wpAny_notedAt ?_
 obtain⟨g,eg,ea⟩:=hg
 unfold compStart
 rw[eg]
 have e1:((some g:Option Comprehension).elim false (fun x=>x.is_async != 0))=false:=by
  show(g.is_async != 0)=false
  rw[ea];rfl
 rw[e1]
 show wpAny _ _ (ask >>= _) _ _ s
 refine wpAny_bind (wpAny_askSetting (wpAny_ite ?_))
 have fin:wpAny M A (again (.compLoop e d it acc env)) (fun fin s'=>match fin with | .done f=>R (.ok f) s' | .again c=>c.quiet=true/\codeAny M A c R s') (notedBy M A env fun x s'=>R (.error x) s') s:=wpAny_pure ⟨hql it,h0⟩
 split
 .first
   |exact fin
   |exact wpAny_bind fin
   |exact wpAny_bind (wpAny_pure fin)
 .refine wpAny_bind (wpAny_rule ?_)
  refine wpAny_bind (wpAny_standAt ?_)
  refine wpAny_bind (wpAny_mono (h1 _) (fun it' s' q=>?_) fun _ _ q=>q)
  obtain⟨rfl,rfl⟩:=q
  exact fin
theorem clr_idem (own:List Nat) (σ:St):clr own (clr own σ)=clr own σ:=by
 apply List.ext_getElem?
 intro i
 by_cases h:i∈own
 .have z:∀τ:St,(clr own τ)[i]?=none\/(clr own τ)[i]?=some none:=fun τ=>by
   cases q:(clr own τ)[i]? with
   |none=>exact .inl rfl
   |some o=>
    cases o with
    |none=>exact .inr rfl
    |some v=>exact absurd h (clr_get q).2
  have hl:(clr own (clr own σ)).length=(clr own σ).length:=clr_len _ _
  rcases z (clr own σ)with a|a<;>rcases z σ with b|b<;>rw[a,b]
  .have q1:=List.getElem?_eq_none_iff.mp a
   have q2:=(List.getElem?_eq_some_iff.mp b).1
   omega
  .have q1:=List.getElem?_eq_none_iff.mp b
   have q2:=(List.getElem?_eq_some_iff.mp a).1
   omega
 .rw[clr_out h]
noncomputable def tNest {α:Type} (wi:TI) (c:It->TL α):TL α:=fun σ a H N=>wi σ H fun J H1=>c J σ a H1 N
noncomputable def tComp (own:List Nat) (wi:TI) (g:TG) (tc:TT) (rest:TL (List V)):TE:=fun σ H Q=>wi σ H fun J H1=>tClause own g tc rest J σ [] H1 fun xs H2=>∀p,H2 p=none->Q (.ref p) (upd H2 p (.lst xs))
structure CompIn (X:Cx) (e:Expr) (scope:Scope) (tg:Expr) (iter:Expr) (ifs:List Expr) (nx:Addr->Env->Sem Unit) (g:TG) (tc:TT) (rest:TL (List V)) (own:List Nat):Prop where
 sc:CompSc X scope
 ow:∀i x,X.N[i]?=some x->(scope.names.lookup x=some .local\/scope.names.lookup x=some .cell)->i∈own
 cl:∃gs,clausesOf e=⟨tg,iter,ifs,0⟩ :: gs
 fs:∀x,foldedSetIterable iter X.env x=pure x
 calm:X.calm=true
 q:∀it D env,(Code.compLoop e 0 it (.ref D) env).quiet=true/\(Code.compStart e 0 it (.ref D) env).quiet=true
 u:∀A it D env,Around.under A (Code.compLoop e 0 it (.ref D) env)=A/\Around.under A (Code.compStart e 0 it (.ref D) env)=A
 T:∀P w it D env,(model P w).den (.compLoop e 0 it (.ref D) env)=(turnCode e 0 tg iter ifs (nx D env) it (.ref D) env).onRaise (fun x=>do noteFrame x env;theTreesLotGoes x)
 S:∀P w it D env,(model P w).den (.compStart e 0 it (.ref D) env)=(compStart e 0 it (.ref D) env).onRaise (fun x=>do noteFrame x env;standAt theWindowsPlace)
 ge:GExt own g
 inn:∀s0 H0 ex D,PG (X.comp scope s0 H0 ex) tg g/\PTs (X.comp scope s0 H0 ex) ifs tc/\∃ws',(∀j∈ws',j∈own)/\CompRun (X.comp scope s0 H0 ex) D IsL ws' (nx D (X.comp scope s0 H0 ex).env) rest
section
variable {X:Cx} {e:Expr} {scope:Scope} {tg iter:Expr} {ifs:List Expr} {nx:Addr->Env->Sem Unit} {g:TG} {tc:TT} {rest:TL (List V)} {own:List Nat} {wi:TI}
theorem comp_all (C:CompIn X e scope tg iter ifs nx g tc rest own) (hi:PI X tg iter wi) {pins:List (Addr×Obj)} {s:Shared} {σ:St} {H:Hp} {R:V->Hp->Prop} (I:Inv X pins σ H s) (hw:tComp own wi g tc rest σ H R)
  {use:Option (Value->Sem Unit)} {Q:Value->Shared->Prop} {pos:Pos}
  (fin:∀(s3 s':Shared) (H0 H':Hp) (ex:List Addr) (D:Addr) (xs:List V) (o:Obj) (σ':St),Inv X pins σ H0 s3->(∀b∈ex,FpOk X pins H0 b)->Inv (X.comp scope s3 H0 ex) [] σ' H' s'->s'.heap.get? D=some o->D<s3.heap.objs.size->X.s₀.heap.objs.size<=D->FpOk X pins H0 D->IsL xs o->H' D=none->R (.ref D) (upd H' D (.lst xs))->
   compPost (model X.prog X.w) X.A X.xe use Q (.ref D) s3.heap.objs.size (.ok .next) s'):
  wpAny (model X.prog X.w) X.A (comprehension e scope X.env pos (newList []) false (eval iter X.env) use) Q X.xe s:=by
 obtain⟨gs,hcl⟩:=C.cl
 refine wpAny_comprehension_free hcl C.fs (closFor fun n hn=>I.ok.has n (C.sc.free n hn)) C.sc.kind C.sc.names ?_
 refine thn (hi pins s σ H _ I hw) fun v s1 h1=>thn h1 fun itv s2 h2=>?_
 obtain⟨it,fp,tn,J,H2,rfl,I2,T,st2,f2,hc⟩:=h2
 refine wpAny_newObj_type (wpAny_compEnv ?_)
 have keep:∀b o,s2.heap.get? b=some o->(s2.heap.push { cls:=.type "list",dict:=none,data:=.seq ([]:List Value).toArray }).get? b=some o:=fun b o e=>Heap.get?_push_of_some _ e
 have I3:Inv X pins σ H2 { s2 with heap:=s2.heap.push { cls:=.type "list",dict:=none,data:=.seq ([]:List Value).toArray } }:=I2.kept (t':=s2.toks) keep
 have hsz:(s2.heap.push { cls:=.type "list",dict:=none,data:=.seq ([]:List Value).toArray }).objs.size=s2.heap.objs.size+1:=Heap.size_push ..
 have fD:FpOk X pins H2 s2.heap.objs.size:=I2.fpOk (Nat.le_refl _) (I2.hok.fresh (Nat.le_refl _))
 have hlt:∀b∈fp,b<s2.heap.objs.size:=fun b hb=>by
  obtain⟨o,e,_⟩:=T.obj _ _ st2 b hb
  exact Heap.lt_size e
 have hDf:s2.heap.objs.size∉fp:=fun z=>Nat.lt_irrefl _ (hlt _ z)
 have hex:∀b∈s2.heap.objs.size :: fp,FpOk X pins H2 b:=fun b hb=>by
  rcases List.mem_cons.mp hb with rfl|hb
  .exact fD
  .exact f2 b hb
 generalize hs3:({ s2 with heap:=s2.heap.push { cls:=.type "list",dict:=none,data:=.seq ([]:List Value).toArray } }:Shared)=s3 at *
 have hs3s:s3.heap.objs.size=s2.heap.objs.size+1:=by rw[<- hs3];exact hsz
 have hlt3:∀b∈s2.heap.objs.size :: fp,b<s3.heap.objs.size:=fun b hb=>by
  rw[hs3s]
  rcases List.mem_cons.mp hb with rfl|hb
  .exact Nat.lt_succ_self _
  .exact Nat.lt_succ_of_lt (hlt b hb)
 have J0:=comp_start (own:=own) I3 hex hlt3 C.sc C.ow
 obtain⟨c1,c2,ws',c4,c5⟩:=C.inn s3 H2 (s2.heap.objs.size :: fp) s2.heap.objs.size
 have kp:∀b o,s2.heap.get? b=some o->(compHeap s3.heap scope.names).get? b=some o:=fun b o e=>pushCells_keeps _ _ b o (Heap.get?_push_of_some _ (by rw[<- hs3];exact keep b o e))
 have oD:(compHeap s3.heap scope.names).get? s2.heap.objs.size=some { cls:=.type "list",dict:=none,data:=.seq ([]:List Value).toArray }:=pushCells_keeps _ _ _ _ (Heap.get?_push_of_some _ (by rw[<- hs3];exact Heap.get?_push_size _ rfl))
 have stat:∀b∈s2.heap.objs.size :: fp,FpOk (X.comp scope s3 H2 (s2.heap.objs.size :: fp)) [] H2 b:=fun b hb=>
  ⟨(hex b hb).1,(J0.ok.exf b hb).1,J0.ok.exfs b hb,.inl hb,(J0.ok.exf b hb).2,fun p hp=>absurd (show p∈([]:List (Addr×Obj)) from hp) (by simp)⟩
 have T':Turn (X.comp scope s3 H2 (s2.heap.objs.size :: fp)).prog (X.comp scope s3 H2 (s2.heap.objs.size :: fp)).w (X.comp scope s3 H2 (s2.heap.objs.size :: fp)).K tg J fp it tn:=T
 have hc':tClause own g tc rest J (clr own σ) [] H2 (fun xs H2=>∀p,H2 p=none->R (.ref p) (upd H2 p (.lst xs))):=by
  obtain⟨W,w0,turn⟩:=hc
  refine⟨W,w0,?_⟩
  rw[clr_idem]
  exact turn
 have st3:tn 0 ({ s3 with heap:=compHeap s3.heap scope.names }:Shared).heap:=T.keep _ _ _ st2 fun b hb o e=>kp b o e
 have L:=comp_loop (X:=X.comp scope s3 H2 (s2.heap.objs.size :: fp)) (Is:=IsL) (D:=s2.heap.objs.size) rfl C.calm (C.q _ _ _).1 (C.u _ _ _ _).1 (C.T _ _ _ _ _) T' c1 C.ge c2 c5 c4 isL_data hDf J0
  (fun b hb=>stat b (List.mem_cons_of_mem _ hb)) (stat _ List.mem_cons_self) oD ⟨Nat.zero_le _,[],0,.nil,rfl⟩ st3 hc'
 have L2:=start_ok (C.q _ _ _).2 (C.u _ _ _ _).2 (fun it'=>(C.q it' _ _).1) (C.S _ _ _ _ _) ⟨_,by rw[hcl];rfl,rfl⟩ L (fun E=>T.self _ 0 _ _ E st3 ⟨rfl,rfl⟩)
 refine codeAny_mono L2 fun r s' h=>?_
 obtain⟨rfl,xs,o',H',J',e',is',n',hN⟩:=h
 exact fin s3 s' H2 H' _ _ xs o' _ I3 hex J' e' (hlt3 _ List.mem_cons_self) I2.sz fD is' n' (hN _ n')
end
section
variable {X:Cx} {pins:List (Addr×Obj)} {σ:St} {H H':Hp} {s s':Shared} {D:Addr} {o:HO}
theorem Inv.track (I:Inv X pins σ H s) (f:FpOk X pins H D) (h0:X.s₀.heap.objs.size<=D) (new:ObjOk X.prog X.w (upd H D o) s.heap D o):Inv X pins σ (upd H D o) s:=by
 obtain⟨f0,f1,f2,f3,f4,f5⟩:=f
 have ne:∀b ob,X.s₀.heap.get? b=some ob->b≠D:=fun b ob e=>Nat.ne_of_lt (Nat.lt_of_lt_of_le (Heap.lt_size e) h0)
 have neT:∀b u,H b=some u->b≠D:=fun b u e z=>by rw[z,f0]at e;cases e
 refine⟨I.ok,I.os,I.bare,⟨I.base.keep,I.base.slot,fun b ob e n hx=>by rw[upd_ne (ne b ob e)];exact I.base.free b ob e n hx,I.base.there,fun b xs e=>?_,fun b ob u e=>?_,fun b ps e=>?_⟩,I.loc,I.cell,?_,fun x c e=>?_,fun p hp=>?_,fun b u e=>?_,I.len⟩
 .have q:=I.base.tups b xs e
  rw[upd_ne (neT b _ q)];exact q
 .have q:=I.base.frzs b ob u e
  rw[upd_ne (neT b _ q)];exact q
 .obtain⟨m,q⟩:=I.base.tbls b ps e
  exact⟨m,by rw[upd_ne (neT b _ q)];exact q⟩
 .rw[upd_ne (Ne.symm f1)];exact I.free
 .rw[upd_ne (f4 x c e)];exact I.freeC x c e
 .obtain⟨e,n,r⟩:=I.pin p hp
  refine⟨e,?_,r⟩
  rw[upd_ne (f5 p hp)];exact n
 .by_cases hb:b=D
  .subst hb
   rw[upd_same]at e;cases e
   exact new
  .rw[upd_ne hb]at e
   exact(I.hok b u e).stay (fun _ _ _ q=>q) (fun c q=>by rw[upd_ne (neT c _ q)];exact q) fun c xs q=>by rw[upd_ne (neT c _ q)];exact q
end
section
variable {X:Cx} {e:Expr} {scope:Scope} {tg iter:Expr} {ifs:List Expr} {nx:Addr->Env->Sem Unit} {g:TG} {tc:TT} {rest:TL (List V)} {own:List Nat} {wi:TI}
theorem pe_comp (C:CompIn X e scope tg iter ifs nx g tc rest own) (hi:PI X tg iter wi) {pos:Pos} (he:eval e X.env=comprehension e scope X.env pos (newList []) false (eval iter X.env)):PE X e (tComp own wi g tc rest):=by
 intro pins s σ H Q I hw
 rw[he]
 refine comp_all C hi I hw fun s3 s' H0 H' ex D xs o σ' I3 hex J e' hlt h0 fD is' n' hR=>?_
 obtain⟨m,hn,_⟩:=J.loc
 refine⟨m,hn,fun h' hs=>?_⟩
 have J2:=comp_end I3 hex J hs
 obtain⟨z,its,n,rv,rfl⟩:=is'
 have neC:D≠s3.heap.objs.size:=Nat.ne_of_lt hlt
 refine⟨.ref D,upd H' D (.lst xs),J2.track (o:=.lst xs) ⟨n',fD.2⟩ h0 ⟨z,its,n,rv,(hs.2 D neC).trans e'⟩,rfl,hR⟩
theorem ps_setcomp (C:CompIn X e scope tg iter ifs nx g tc rest own) (hi:PI X tg iter wi) {i:Nat} {y:Str} {py pos pos2:Pos} (hN:X.N.Nodup) (hy:X.N[i]?=some y) (hx:Loc X.env.scope y) (hf:X.fn y=true\/X.env.scope.names.lookup y=some .local)
  (he:evalThenUse e X.env (assign (.Name y py) X.env)=(do let _ <- comprehension e scope X.env pos2 (newList []) false (eval iter X.env) (some (assign (.Name y py) X.env))))
  (hsw:swapsWith e (some (.Name y py)) pos.line X.env=pure true):PS X (.Assign [.Name y py] e pos) (tAsg (tComp own wi g tc rest) (gName i)):=by
 intro pins s σ H D I hw
 rw[exec_Assign_Name_used _ _ _ _ hsw]
 refine wpAny_bind (wpAny_standAt (wpAny_bind ?_))
 rw[he]
 refine wpAny_bind (thn (Q:=fun _ s'=>SP X pins D .next s') (comp_all C hi I hw fun s3 s' H0 H' ex D' xs o σ' I3 hex J e' hlt h0 fD is' n' hR=>?_) fun _ s' q=>wpAny_pure (wpAny_pure q))
 obtain⟨m,hn,_⟩:=J.loc
 have J2:Inv X pins σ H' s':=comp_end I3 hex J (Heap.SameBut.refl ..)
 obtain⟨z,its,n,rv,rfl⟩:=is'
 have neC:D'≠s3.heap.objs.size:=Nat.ne_of_lt hlt
 have J3:Inv X pins σ (upd H' D' (.lst xs)) s':=J2.track ⟨n',fD.2⟩ h0 ⟨z,its,n,rv,e'⟩
 have fC:FpOk X pins H0 s3.heap.objs.size:=I3.fpOk (Nat.le_refl _) (I3.hok.fresh (Nat.le_refl _))
 refine wpAny_assign_Name (store_ok2 J3 hN hy hx (v:=.ref D') rfl (fun s'' J4 hs=>?_) hf)
 obtain⟨a,hsa,ha⟩:=hs
 have haC:s3.heap.objs.size≠a:=by
  rcases ha with rfl|ha
  .exact fC.2.1
  .exact fun q=>fC.2.2.2.2.1 _ _ ha q.symm
 have hn':s'.heap.Ns s3.heap.objs.size m:=hn
 refine⟨m,hn'.sameBut hsa haC,fun h' hs'=>?_⟩
 have J5:Inv X pins (σ.set i (some (.ref D'))) (upd H' D' (.lst xs)) { s'' with heap:=h' }:=J4.turned (it:=s3.heap.objs.size) (t':=s''.toks) (fun b ob hb q=>(hs'.2 b hb).trans q) (by rw[upd_ne (Ne.symm neC)];exact J.free) fC.2.1 fC.2.2.2.1 fC.2.2.2.2.1 fC.2.2.2.2.2
 exact⟨_,_,J5,hR⟩
end
noncomputable def SItr:Bool->Heap->Addr->Addr->Nat->Prop
 |true,h,it,a,i=>h.IsTupleIter it a i
 |false,h,it,a,i=>h.IsListIter it a i
noncomputable def SObj:Bool->Heap->Addr->Array Value->Prop
 |true,h,a,xs=>h.IsTuple a xs
 |false,h,a,xs=>h.IsList a xs
noncomputable def itCls:Bool->String
 |true=>"tuple_iterator"
 |false=>"list_iterator"
theorem SItr.obj {k:Bool} {h:Heap} {it a:Addr} {i:Nat} (x:SItr k h it a i):∃o,h.get? it=some o/\o.data=.fields #[.ref a,.int i 0]:=by
 cases k
 .obtain⟨o,e,_,d⟩:=x;exact⟨o,e,d⟩
 .obtain⟨o,e,_,d⟩:=x;exact⟨o,e,d⟩
theorem SItr.at {k:Bool} {h h':Heap} {it a:Addr} {i:Nat} (x:SItr k h it a i) (hk:∀o,h.get? it=some o->h'.get? it=some o):SItr k h' it a i:=by
 cases k
 .obtain⟨o,e,r⟩:=x;exact⟨o,hk o e,r⟩
 .obtain⟨o,e,r⟩:=x;exact⟨o,hk o e,r⟩
theorem SObj.at {k:Bool} {h h':Heap} {a:Addr} {xs:Array Value} (x:SObj k h a xs) (hk:∀o,h.get? a=some o->h'.get? a=some o):SObj k h' a xs:=by
 cases k
 .obtain⟨o,e,r⟩:=x;exact⟨o,hk o e,r⟩
 .obtain⟨o,e,r⟩:=x;exact⟨o,hk o e,r⟩
theorem SObj.lt {k:Bool} {h:Heap} {a:Addr} {xs:Array Value} (x:SObj k h a xs):a<h.objs.size:=by
 cases k
 .obtain⟨o,e,r⟩:=x;exact Heap.lt_size e
 .obtain⟨o,e,r⟩:=x;exact Heap.lt_size e
section
variable {prog:Program} {w:World} {A:Around} {E:Value->Shared->Prop} {s:Shared}
theorem nextOf_item {k:Bool} {it l:Addr} {i:Nat} {items:Array Value} {x:Value} {Q:Value->Shared->Prop} (hit:SItr k s.heap it l i) (hl:SObj k s.heap l items) (hx:items[i]?=some x)
  (hQ:∀h',SItr k h' it l (i+1)->Heap.SameBut it s.heap h'->Q x { s with heap:=h' }):wpAny (model prog w) A (Builtin.SmallTypes.nextOf (.ref it)) Q E s:=by
 cases k
 .exact wpAny_nextOf_list_item hit hl hx hQ
 .have hit:s.heap.IsTupleIter it l i:=hit
  have hl:s.heap.IsTuple l items:=hl
  obtain⟨o,ho,hc,hd⟩:=id hit
  obtain⟨ol,hol,_,nl,hdl⟩:=hl
  unfold Builtin.SmallTypes.nextOf
  refine wpAny_bind (wpAny_callSpecial?_slot (name:=Str.ofString "__next__") hit.typeIs F.slot_tuple_iterator_next
   (wpAny_call_entry F.slot_tuple_iterator_next hit.typeIs F.entry_tuple_iterator_next ?_ (F.args_tuple_iterator_next_1 _)))
  show wpAny _ _ (field (.ref it) 0 >>= _) _ _ s
  refine wpAny_bind (wpAny_field ho hd (x:=.ref l) rfl ?_)
  show wpAny _ _ (if(Value.ref l == Value.none)=true then _ else _) _ _ s
  rw[if_neg (show ¬((Value.ref l == Value.none)=true) from Bool.false_ne_true)]
  show wpAny _ _ (field (.ref it) 1 >>= _) _ _ s
  refine wpAny_bind (wpAny_field ho hd (x:=.int i 0) rfl ?_)
  show wpAny _ _ (seqItems? (.ref l) >>= _) _ _ s
  refine wpAny_bind (wpAny_seqItems hol hdl ?_)
  simp only[Int.toNat_natCast,hx]
  refine wpAny_bind (wpAny_setField ho hd (by simp) (wpAny_pure ⟨x,rfl,wpAny_pure (hQ _ ?_ (Heap.SameBut.update ..))⟩))
  exact⟨_,Heap.get?_update_self _ ho (Obj.isFreed_of_fields (Obj.data_mapFields hd _)),(Obj.cls_mapFields ..).trans hc,by
   rw[Obj.data_mapFields hd];simp[rawInt]⟩
theorem nextOf_end {k:Bool} {it l:Addr} {i:Nat} {items:Array Value} {Q:Value->Shared->Prop} (hh:A.handled=none) (hit:SItr k s.heap it l i) (hl:SObj k s.heap l items) (hx:items[i]?=none)
  (hE:∀h' e,Heap.ExtBut it s.heap h'->(∃o,h'.get? e=some o/\o.cls=.type "StopIteration")->E (.ref e) { s with heap:=h' }):wpAny (model prog w) A (Builtin.SmallTypes.nextOf (.ref it)) Q E s:=by
 cases k
 .exact wpAny_nextOf_list_end hh hit hl hx hE
 .have hit:s.heap.IsTupleIter it l i:=hit
  have hl:s.heap.IsTuple l items:=hl
  obtain⟨o,ho,hc,hd⟩:=id hit
  obtain⟨ol,hol,_,nl,hdl⟩:=hl
  unfold Builtin.SmallTypes.nextOf
  refine wpAny_bind (wpAny_callSpecial?_slot (name:=Str.ofString "__next__") hit.typeIs F.slot_tuple_iterator_next
   (wpAny_call_entry F.slot_tuple_iterator_next hit.typeIs F.entry_tuple_iterator_next ?_ (F.args_tuple_iterator_next_1 _)))
  show wpAny _ _ (field (.ref it) 0 >>= _) _ _ s
  refine wpAny_bind (wpAny_field ho hd (x:=.ref l) rfl ?_)
  show wpAny _ _ (if(Value.ref l == Value.none)=true then _ else _) _ _ s
  rw[if_neg (show ¬((Value.ref l == Value.none)=true) from Bool.false_ne_true)]
  show wpAny _ _ (field (.ref it) 1 >>= _) _ _ s
  refine wpAny_bind (wpAny_field ho hd (x:=.int i 0) rfl ?_)
  show wpAny _ _ (seqItems? (.ref l) >>= _) _ _ s
  refine wpAny_bind (wpAny_seqItems hol hdl ?_)
  simp only[Int.toNat_natCast,hx]
  refine wpAny_bind (wpAny_rule (wpAny_bind (wpAny_setField ho hd (by simp) ?_)))
  show wpAny _ _ (newExc (.type "StopIteration") [] >>= _) _ _ _
  refine wpAny_bind ?_
  simp only[newExc,newTuple]
  refine wpAny_bind (wpAny_newObj_type ?_ (by size_fits))
  refine wpAny_bind (m:=firstArgMember _ _) (wpAny_of_eq (a:=Value.none) (by first|rfl|(simp only[firstArgMember];rfl)) ?_)
  refine wpAny_newObj_type ?_ (by size_fits)
  simp only[raiseNew]
  refine wpAny_bind (wpAny_handled ?_)
  first|rw[show A.in1.handled=none from hh]|rw[hh]
  refine wpAny_bind (wpAny_pure (wpAny_throw ?_))
  exact hE _ _ (((Heap.SameBut.update ..).extBut.push _).push _) ⟨_,Heap.get?_push_size _ rfl,rfl⟩
end
noncomputable abbrev zH1 (k:Bool) (h:Heap) (l1:Addr):Heap:=h.push { cls:=.type (itCls k),data:=.fields #[.ref l1,.int 0 0] }
noncomputable abbrev zH2 (k j:Bool) (h:Heap) (l1 l2:Addr):Heap:=(zH1 k h l1).push { cls:=.type (itCls j),data:=.fields #[.ref l2,.int 0 0] }
noncomputable abbrev zH3 (k j:Bool) (h:Heap) (l1 l2:Addr):Heap:=(zH2 k j h l1 l2).push { cls:=.type "tuple",data:=.seq #[.ref h.objs.size,.ref (zH1 k h l1).objs.size] }
noncomputable abbrev zH4 (k j:Bool) (h:Heap) (l1 l2:Addr):Heap:=(zH3 k j h l1 l2).push { cls:=.type "tuple",data:=.seq #[.none,.none] }
noncomputable abbrev zH5 (k j:Bool) (h:Heap) (l1 l2:Addr):Heap:=(zH4 k j h l1 l2).push { cls:=.type "zip",data:=.fields #[.none,.bool false,.bool false,.ref (zH2 k j h l1 l2).objs.size,.ref (zH3 k j h l1 l2).objs.size] }
set_option maxHeartbeats 4000000 in
theorem meets_zip (k j:Bool) (l1 l2:Addr) (xs ys:Array Value):
  Meets (Builtin.«zip.__new__» ⟨[.type "zip",.ref l1,.ref l2],[]⟩) (fun _ R s=>SObj k s.heap l1 xs/\SObj j s.heap l2 ys/\
   R (.ok (.ret (.ref (zH4 k j s.heap l1 l2).objs.size))) { s with heap:=zH5 k j s.heap l1 l2 }):=by
 cases k<;>cases j
 .exact meets_zip_new l1 l2 xs ys
 .exact .of_wp fun prog w A R s h=>by
   obtain⟨hp,g,d,tk,os⟩:=s;obtain⟨hl1,hl2,h⟩:=h
   have hsub:=sub_zip
   have hL1:Heap.IsList (Shared.heap ⟨hp,g,d,tk,os⟩) l1 xs:=hl1
   have hL2:Heap.IsTuple (Shared.heap ⟨hp.push { cls:=.type "list_iterator",data:=.fields #[.ref l1,.int 0 0] },g,d,tk,os⟩) l2 ys:=Heap.IsTuple.push hl2 _
   wp_walk using wpAny_pyIter_list hL1,wpAny_pyIter_tuple hL2
   exact⟨_,rfl,h⟩
 .exact .of_wp fun prog w A R s h=>by
   obtain⟨hp,g,d,tk,os⟩:=s;obtain⟨hl1,hl2,h⟩:=h
   have hsub:=sub_zip
   have hL1:Heap.IsTuple (Shared.heap ⟨hp,g,d,tk,os⟩) l1 xs:=hl1
   have hL2:Heap.IsList (Shared.heap ⟨hp.push { cls:=.type "tuple_iterator",data:=.fields #[.ref l1,.int 0 0] },g,d,tk,os⟩) l2 ys:=Heap.IsList.push hl2 _
   wp_walk using wpAny_pyIter_tuple hL1,wpAny_pyIter_list hL2
   exact⟨_,rfl,h⟩
 .exact .of_wp fun prog w A R s h=>by
   obtain⟨hp,g,d,tk,os⟩:=s;obtain⟨hl1,hl2,h⟩:=h
   have hsub:=sub_zip
   have hL1:Heap.IsTuple (Shared.heap ⟨hp,g,d,tk,os⟩) l1 xs:=hl1
   have hL2:Heap.IsTuple (Shared.heap ⟨hp.push { cls:=.type "tuple_iterator",data:=.fields #[.ref l1,.int 0 0] },g,d,tk,os⟩) l2 ys:=Heap.IsTuple.push hl2 _
   wp_walk using wpAny_pyIter_tuple hL1,wpAny_pyIter_tuple hL2
   exact⟨_,rfl,h⟩
section
variable {prog:Program} {w:World} {A:Around} {E:Value->Shared->Prop} {s:Shared}
theorem zip_new {k j:Bool} {l1 l2:Addr} {xs ys:Array Value} {Q:Value->Shared->Prop} (hl1:SObj k s.heap l1 xs) (hl2:SObj j s.heap l2 ys)
  (h:∀h',IsZip h' (s.heap.objs.size+4) (s.heap.objs.size+2) (s.heap.objs.size+3) .none->IsPair h' (s.heap.objs.size+2) (.ref s.heap.objs.size) (.ref (s.heap.objs.size+1))->
   IsPair h' (s.heap.objs.size+3) .none .none->SItr k h' s.heap.objs.size l1 0->SItr j h' (s.heap.objs.size+1) l2 0->h'.objs.size=s.heap.objs.size+5->
   (∀c o,s.heap.get? c=some o->h'.get? c=some o)->Q (.ref (s.heap.objs.size+4)) { s with heap:=h' }):
  wpAny (model prog w) A (call (.type "zip") [.ref l1,.ref l2]) Q E s:=by
 refine callType_new F.called_zip (by decide) (F.typeCall_zip_2 _ _) (F.newCall_zip_2 _ _) (fun obj=>F.args_object_init_3 obj _ _) F.entry_zip_new
  (meets_zip k j l1 l2 xs ys) ⟨hl1,hl2,?_⟩
 have z1:(zH1 k s.heap l1).objs.size=s.heap.objs.size+1:=Heap.size_push ..
 have z2:(zH2 k j s.heap l1 l2).objs.size=s.heap.objs.size+2:=by rw[Heap.size_push,z1]
 have z3:(zH3 k j s.heap l1 l2).objs.size=s.heap.objs.size+3:=by rw[Heap.size_push,z2]
 have z4:(zH4 k j s.heap l1 l2).objs.size=s.heap.objs.size+4:=by rw[Heap.size_push,z3]
 have z5:(zH5 k j s.heap l1 l2).objs.size=s.heap.objs.size+5:=by rw[Heap.size_push,z4]
 have g5:(zH5 k j s.heap l1 l2).get? (zH4 k j s.heap l1 l2).objs.size=some _:=Heap.get?_push_size _ rfl
 have g4:(zH5 k j s.heap l1 l2).get? (zH3 k j s.heap l1 l2).objs.size=some _:=Heap.get?_push_of_some _ (Heap.get?_push_size _ rfl)
 have g3:(zH5 k j s.heap l1 l2).get? (zH2 k j s.heap l1 l2).objs.size=some _:=Heap.get?_push_of_some _ (Heap.get?_push_of_some _ (Heap.get?_push_size _ rfl))
 have g2:(zH5 k j s.heap l1 l2).get? (zH1 k s.heap l1).objs.size=some { cls:=.type (itCls j),data:=.fields #[.ref l2,.int 0 0] }:=Heap.get?_push_of_some _ (Heap.get?_push_of_some _ (Heap.get?_push_of_some _ (Heap.get?_push_size _ rfl)))
 have g1:(zH5 k j s.heap l1 l2).get? s.heap.objs.size=some { cls:=.type (itCls k),data:=.fields #[.ref l1,.int 0 0] }:=Heap.get?_push_of_some _ (Heap.get?_push_of_some _ (Heap.get?_push_of_some _ (Heap.get?_push_of_some _ (Heap.get?_push_size _ rfl))))
 have gk:∀c o,s.heap.get? c=some o->(zH5 k j s.heap l1 l2).get? c=some o:=fun c o e=>Heap.get?_push_of_some _ (Heap.get?_push_of_some _ (Heap.get?_push_of_some _ (Heap.get?_push_of_some _ (Heap.get?_push_of_some _ e))))
 have mk:∀(c:Bool) (it l:Addr),(zH5 k j s.heap l1 l2).get? it=some { cls:=.type (itCls c),data:=.fields #[.ref l,.int 0 0] }->SItr c (zH5 k j s.heap l1 l2) it l 0:=fun c it l e=>by
  cases c
  .exact⟨_,e,rfl,rfl⟩
  .exact⟨_,e,rfl,rfl⟩
 show _/\_
 rw[z2,z3,z4]at g5
 rw[z1,z2]at g3
 rw[z3]at g4
 rw[z1]at g2
 rw[z4]
 exact⟨⟨_,g5,rfl⟩,h _ g5 g3 g4 (mk k _ _ g1) (mk j _ _ g2) z5 gk⟩
theorem zip_item {k j:Bool} {z TI TO i1 i2 l1 l2:Addr} {k1 k2:Nat} {xs ys:Array Value} {x y a b:Value} {Q:Option Value->Shared->Prop} (D:ZipApart z TI TO i1 i2 l1 l2)
  (hz:IsZip s.heap z TI TO .none) (hTI:IsPair s.heap TI (.ref i1) (.ref i2)) (hTO:IsPair s.heap TO a b)
  (h1:SItr k s.heap i1 l1 k1) (h2:SItr j s.heap i2 l2 k2) (hl1:SObj k s.heap l1 xs) (hl2:SObj j s.heap l2 ys) (hx:xs[k1]?=some x) (hy:ys[k2]?=some y)
  (hQ:∀h',IsZip h' z TI TO (rawInt s.heap.objs.size)->IsPair h' TO x y->SItr k h' i1 l1 (k1+1)->SItr j h' i2 l2 (k2+1)->IsPair h' s.heap.objs.size x y->h'.objs.size=s.heap.objs.size+1->
   (∀c o,c≠z->c≠TO->c≠i1->c≠i2->s.heap.get? c=some o->h'.get? c=some o)->Q (some (.ref s.heap.objs.size)) { s with heap:=h' }):
  wpAny (model prog w) A (pyNext (.ref z)) Q E s:=by
 have hT:s.TypeIs (.ref z) "zip":=⟨_,hz,rfl⟩
 unfold pyNext
 refine wpAny_bind (wpAny_attempt (wpAny_callSpecial?_slot (name:=Str.ofString "__next__") hT F.slot_zip_next
  (wpAny_call_entry F.slot_zip_next hT F.entry_zip_next ?_ (F.args_zip_next_1 _))))
 show wpAny _ _ (field (.ref z) 2 >>= _) _ _ _
 refine wpAny_bind (wpAny_field hz rfl (x:=.bool false) rfl ?_)
 show wpAny _ _ (field (.ref z) 3 >>= _) _ _ _
 refine wpAny_bind (wpAny_field hz rfl (x:=.ref TI) rfl ?_)
 refine wpAny_bind (wpAny_seqItems hTI rfl ?_)
 show wpAny _ _ (Builtin.SmallTypes.ownedTupleIsFree (.ref z) >>= _) _ _ _
 refine wpAny_bind ?_
 unfold Builtin.SmallTypes.ownedTupleIsFree
 refine wpAny_bind (wpAny_field hz rfl (x:=.none) rfl (wpAny_pure ?_))
 simp only[if_true]
 refine wpAny_bind (wpAny_rule ?_)
 refine wpAny_bind (wpAny_field hz rfl (x:=.ref TO) rfl ?_)
 refine wpAny_bind (wpAny_setField_rec hz (by simp) fun h₁ hz₁ hs₁=>?_)
 replace hz₁:IsZip h₁ z TI TO .ellipsis:=hz₁
 refine wpAny_bind ?_
 simp only[List.zipIdx_cons,List.zipIdx_nil,List.forIn_cons,List.forIn_nil]
 refine wpAny_bind (wpAny_bind (wpAny_onRaise ?_))
 show wpAny _ _ (Builtin.SmallTypes.nextOf (.ref i1) >>= _) _ _ _
 refine wpAny_bind (nextOf_item (h1.at fun o e=>hs₁.extBut _ _ D.i1z e) (hl1.at fun o e=>hs₁.extBut _ _ D.l1z e) hx fun h₂ h1₂ hs₂=>wpAny_pure ?_)
 have hTO₂:IsPair h₂ TO a b:=hs₂.extBut _ _ D.TOi1 (hs₁.extBut _ _ D.TOz hTO)
 refine wpAny_bind (wpAny_seqItems hTO₂ rfl ?_)
 refine wpAny_bind (wpAny_updateSeq_pair hTO₂ fun h₃ hTO₃ hs₃=>?_)
 replace hTO₃:IsPair h₃ TO x b:=hTO₃
 refine wpAny_bind (wpAny_letGo (wpAny_pure ?_))
 refine wpAny_bind (wpAny_bind (wpAny_onRaise ?_))
 show wpAny _ _ (Builtin.SmallTypes.nextOf (.ref i2) >>= _) _ _ _
 refine wpAny_bind (nextOf_item (h2.at fun o e=>hs₃.extBut _ _ D.TOi2.symm (hs₂.extBut _ _ D.i12.symm (hs₁.extBut _ _ D.i2z e)))
  (hl2.at fun o e=>hs₃.extBut _ _ D.l2TO (hs₂.extBut _ _ D.l2i1 (hs₁.extBut _ _ D.l2z e))) hy fun h₄ h2₄ hs₄=>wpAny_pure ?_)
 have hTO₄:IsPair h₄ TO x b:=hs₄.extBut _ _ D.TOi2 hTO₃
 refine wpAny_bind (wpAny_seqItems hTO₄ rfl ?_)
 refine wpAny_bind (wpAny_updateSeq_pair hTO₄ fun h₅ hTO₅ hs₅=>?_)
 replace hTO₅:IsPair h₅ TO x y:=hTO₅
 refine wpAny_bind (wpAny_letGo (wpAny_pure (wpAny_pure ?_)))
 refine wpAny_bind (wpAny_seqItems hTO₅ rfl ?_)
 refine wpAny_bind (wpAny_newTuple ?_)
 have hsz:h₅.objs.size=s.heap.objs.size:=by rw[hs₅.1,hs₄.1,hs₃.1,hs₂.1,hs₁.1]
 have hz₅:IsZip h₅ z TI TO .ellipsis:=hs₅.extBut _ _ D.TOz.symm (hs₄.extBut _ _ D.i2z.symm (hs₃.extBut _ _ D.TOz.symm (hs₂.extBut _ _ D.i1z.symm hz₁)))
 have hk₅:∀c o,c≠z->c≠TO->c≠i1->c≠i2->s.heap.get? c=some o->h₅.get? c=some o:=fun c o c1 c2 c3 c4 e=>
  hs₅.extBut _ _ c2 (hs₄.extBut _ _ c4 (hs₃.extBut _ _ c2 (hs₂.extBut _ _ c3 (hs₁.extBut _ _ c1 e))))
 have h1₅:SItr k h₅ i1 l1 (k1+1):=h1₂.at fun o e=>hs₅.extBut _ _ D.TOi1.symm (hs₄.extBut _ _ D.i12 (hs₃.extBut _ _ D.TOi1.symm e))
 have h2₅:SItr j h₅ i2 l2 (k2+1):=h2₄.at fun o e=>hs₅.extBut _ _ D.TOi2.symm e
 have hzlt:z<h₅.objs.size:=Heap.lt_size hz₅
 show wpAny _ _ (Builtin.SmallTypes.ownedTupleHandOut (.ref z) (.ref h₅.objs.size) >>= _) _ _ _
 refine wpAny_bind ?_
 unfold Builtin.SmallTypes.ownedTupleHandOut
 have hz₆:IsZip (h₅.push { cls:=.type "tuple",data:=.seq #[x,y] }) z TI TO .ellipsis:=Heap.get?_push_of_some _ hz₅
 refine wpAny_bind (wpAny_setField_rec hz₆ (by simp) fun h₇ hz₇ hs₇=>?_)
 replace hz₇:IsZip h₇ z TI TO (rawInt h₅.objs.size):=hz₇
 refine wpAny_setField_rec hz₇ (by simp) fun h₈ hz₈ hs₈=>?_
 replace hz₈:IsZip h₈ z TI TO (rawInt h₅.objs.size):=hz₈
 have up:∀c o,c≠z->h₅.get? c=some o->h₈.get? c=some o:=fun c o c1 e=>hs₈.extBut _ _ c1 (hs₇.extBut _ _ c1 (Heap.get?_push_of_some _ e))
 have hT₈:IsPair h₈ h₅.objs.size x y:=hs₈.extBut _ _ (Nat.ne_of_gt hzlt) (hs₇.extBut _ _ (Nat.ne_of_gt hzlt) (Heap.get?_push_size _ rfl))
 have hz8:h₈.objs.size=h₅.objs.size+1:=by rw[hs₈.1,hs₇.1,Heap.size_push]
 rw[hsz]at hz₈ hT₈ hz8
 refine wpAny_pure ⟨_,rfl,wpAny_pure ?_⟩
 show Q (some (.ref h₅.objs.size)) _
 rw[hsz]
 exact hQ h₈ hz₈ (up _ _ D.TOz hTO₅) (h1₅.at fun o e=>up _ o D.i1z e) (h2₅.at fun o e=>up _ o D.i2z e) hT₈ hz8 fun c o c1 c2 c3 c4 e=>up c o c1 (hk₅ c o c1 c2 c3 c4 e)
theorem zip_end {k j:Bool} {z TI TO i1 i2 l1 l2:Addr} {k1 k2:Nat} {xs ys:Array Value} {a b:Value} {Q:Option Value->Shared->Prop} (hh:A.handled=none) (D:ZipApart z TI TO i1 i2 l1 l2)
  (hz:IsZip s.heap z TI TO .none) (hTI:IsPair s.heap TI (.ref i1) (.ref i2)) (hTO:IsPair s.heap TO a b)
  (h1:SItr k s.heap i1 l1 k1) (h2:SItr j s.heap i2 l2 k2) (hl1:SObj k s.heap l1 xs) (hl2:SObj j s.heap l2 ys) (hend:xs[k1]?=none\/ys[k2]?=none)
  (hQ:∀h',(∀c o,c≠z->c≠TO->c≠i1->c≠i2->s.heap.get? c=some o->h'.get? c=some o)->Q none { s with heap:=h' }):wpAny (model prog w) A (pyNext (.ref z)) Q E s:=by
 have hT:s.TypeIs (.ref z) "zip":=⟨_,hz,rfl⟩
 unfold pyNext
 refine wpAny_bind (wpAny_attempt (wpAny_callSpecial?_slot (name:=Str.ofString "__next__") hT F.slot_zip_next
  (wpAny_call_entry F.slot_zip_next hT F.entry_zip_next ?_ (F.args_zip_next_1 _))))
 have fin:∀(h':Heap) (e:Addr),(∀c o,c≠z->c≠TO->c≠i1->c≠i2->s.heap.get? c=some o->h'.get? c=some o)->(∃o,h'.get? e=some o/\o.cls=.type "StopIteration")->
   wpAny (model prog w) A (do if <- isInstance (.ref e) (.type "StopIteration")then pure none else throw (.ref e)) Q E { s with heap:=h' }:=fun h' e hk ⟨o,ho,hc⟩=>
  wpAny_bind (wpAny_isInstance (T:="StopIteration") (b:=true) ⟨o,ho,hc⟩ isSubtype_stop (wpAny_pure (hQ _ hk)))
 show wpAny _ _ (field (.ref z) 2 >>= _) _ _ _
 refine wpAny_bind (wpAny_field hz rfl (x:=.bool false) rfl ?_)
 show wpAny _ _ (field (.ref z) 3 >>= _) _ _ _
 refine wpAny_bind (wpAny_field hz rfl (x:=.ref TI) rfl ?_)
 refine wpAny_bind (wpAny_seqItems hTI rfl ?_)
 show wpAny _ _ (Builtin.SmallTypes.ownedTupleIsFree (.ref z) >>= _) _ _ _
 refine wpAny_bind ?_
 unfold Builtin.SmallTypes.ownedTupleIsFree
 refine wpAny_bind (wpAny_field hz rfl (x:=.none) rfl (wpAny_pure ?_))
 simp only[if_true]
 refine wpAny_bind (wpAny_rule ?_)
 refine wpAny_bind (wpAny_field hz rfl (x:=.ref TO) rfl ?_)
 refine wpAny_bind (wpAny_setField_rec hz (by simp) fun h₁ hz₁ hs₁=>?_)
 replace hz₁:IsZip h₁ z TI TO .ellipsis:=hz₁
 refine wpAny_bind ?_
 simp only[List.zipIdx_cons,List.zipIdx_nil,List.forIn_cons,List.forIn_nil]
 refine wpAny_bind (wpAny_bind (wpAny_onRaise ?_))
 show wpAny _ _ (Builtin.SmallTypes.nextOf (.ref i1) >>= _) _ _ _
 have a1:=h1.at (h':=h₁) fun o e=>hs₁.extBut _ _ D.i1z e
 have b1:=hl1.at (h':=h₁) fun o e=>hs₁.extBut _ _ D.l1z e
 cases hx:xs[k1]? with
 |none=>
  refine wpAny_bind (nextOf_end (by first|exact hh|rfl) a1 b1 hx fun h₂ e hs₂ he=>?_)
  obtain⟨oe,hoe,hce⟩:=he
  have hz₂:IsZip h₂ z TI TO .ellipsis:=hs₂ _ _ D.i1z.symm hz₁
  have hez:e≠z:=fun x=>by subst x;rw[hz₂]at hoe;cases hoe;simp at hce
  refine wpAny_setField_rec hz₂ (by simp) fun h₃ _ hs₃=>fin h₃ e (fun c o c1 _ c3 _ x=>hs₃.extBut _ _ c1 (hs₂ _ _ c3 (hs₁.extBut _ _ c1 x))) ⟨oe,hs₃.extBut _ _ hez hoe,hce⟩
 |some x=>
  have hy:ys[k2]?=none:=by rcases hend with h|h;rw[hx]at h;cases h;exact h
  refine wpAny_bind (nextOf_item a1 b1 hx fun h₂ h1₂ hs₂=>wpAny_pure ?_)
  have hTO₂:IsPair h₂ TO a b:=hs₂.extBut _ _ D.TOi1 (hs₁.extBut _ _ D.TOz hTO)
  refine wpAny_bind (wpAny_seqItems hTO₂ rfl ?_)
  refine wpAny_bind (wpAny_updateSeq_pair hTO₂ fun h₃ hTO₃ hs₃=>?_)
  refine wpAny_bind (wpAny_letGo (wpAny_pure ?_))
  refine wpAny_bind (wpAny_bind (wpAny_onRaise ?_))
  show wpAny _ _ (Builtin.SmallTypes.nextOf (.ref i2) >>= _) _ _ _
  refine wpAny_bind (nextOf_end (by first|exact hh|rfl) (h2.at fun o e=>hs₃.extBut _ _ D.TOi2.symm (hs₂.extBut _ _ D.i12.symm (hs₁.extBut _ _ D.i2z e)))
   (hl2.at fun o e=>hs₃.extBut _ _ D.l2TO (hs₂.extBut _ _ D.l2i1 (hs₁.extBut _ _ D.l2z e))) hy fun h₄ e hs₄ he=>?_)
  obtain⟨oe,hoe,hce⟩:=he
  have hz₄:IsZip h₄ z TI TO .ellipsis:=hs₄ _ _ D.i2z.symm (hs₃.extBut _ _ D.TOz.symm (hs₂.extBut _ _ D.i1z.symm hz₁))
  have hez:e≠z:=fun x=>by subst x;rw[hz₄]at hoe;cases hoe;simp at hce
  refine wpAny_setField_rec hz₄ (by simp) fun h₅ _ hs₅=>fin h₅ e (fun c o c1 c2 c3 c4 x=>hs₅.extBut _ _ c1 (hs₄ _ _ c4 (hs₃.extBut _ _ c2 (hs₂.extBut _ _ c3 (hs₁.extBut _ _ c1 x))))) ⟨oe,hs₅.extBut _ _ hez hoe,hce⟩
end
noncomputable def Its (x:Str):It:=⟨fun i _=>i<x.cps.size,fun i H v H'=>H'=H/\∃c,x.cps[i]?=some c/\v=.str ⟨#[c]⟩,fun i _=>x.cps.size<=i⟩
theorem turn_str {P:Program} {w:World} {K:W.Frag} {tg:Expr} (it:Addr) (x:Str) (ty:String) (t:Tok) (hty:ty="str_ascii_iterator"\/ty="str_iterator"):
  Turn P w K tg (Its x) [it] it (fun i h=>h.IsStrIter it ty x t i) where
 mem:=by simp
 obj:=fun i h st b hb=>by
  have e:b=it:=by simpa using hb
  subst e
  obtain⟨o,e,c,d⟩:=st
  exact⟨o,e,fun v z=>by rw[d]at z;cases z⟩
 keep:=fun i h h' st k=>by
  obtain⟨o,e,r⟩:=st
  exact⟨o,k it (by simp) o e,r⟩
 item:=by
  intro X hP hw hK hc i pins s σ H E I hf st hg
  subst hP hw hK
  obtain⟨f0,f1,f2,f3,f4,f5⟩:=hf it (by simp)
  have hg':i<x.cps.size:=hg
  have hx:x.cps[i]?=some x.cps[i]:=by simp[hg']
  have fin:∀h',h'.IsStrIter it ty x t (i+1)->Heap.SameBut it s.heap h'->∃u,some (Value.str ⟨#[x.cps[i]]⟩ s.toks)=some u/\
    wpAny (model X.prog X.w) X.A (letOwnedTupleGo tg (.ref it) u) (fun _ s2=>∃y H',Inv X pins σ H' s2/\RelV y u/\(Its x).yld i H y H'/\s2.heap.IsStrIter it ty x t (i+1)/\∀b∈[it],H' b=none) E { s with heap:=h',toks:=s.toks+1 }:=fun h' st' sb=>by
   have I1:Inv X pins σ H { s with heap:=h',toks:=s.toks+1 }:=I.turned (fun b o hb e=>(sb.2 b hb).trans e) f0 f1 f3 f4 f5
   obtain⟨o,e,c,d⟩:=id st'
   refine⟨_,rfl,go_of (s:={ s with heap:=h',toks:=s.toks+1 }) e c d ?_ ⟨.str ⟨#[x.cps[i]]⟩,H,I1,⟨_,rfl⟩,⟨rfl,_,hx,rfl⟩,st',fun b hb=>(hf b hb).1⟩⟩
   rcases hty with rfl|rfl<;>decide
  rcases hty with rfl|rfl
  .exact wpAny_pyNext_ascii_item st hx fin
  .exact wpAny_pyNext_wide_item st hx fin
 done:=by
  intro X hP hw hK hc i pins s σ H E I hf st hg
  subst hP hw hK
  obtain⟨f0,f1,f2,f3,f4,f5⟩:=hf it (by simp)
  have hg':x.cps.size<=i:=hg
  have hx:x.cps[i]?=none:=by simp[hg']
  have fin:∀h',Heap.ExtBut it s.heap h'->(none:Option Value)=none/\Inv X pins σ H { s with heap:=h' }:=fun h' eb=>⟨rfl,I.turned (t':=s.toks) (fun b o hb e=>eb b o hb e) f0 f1 f3 f4 f5⟩
  rcases hty with rfl|rfl
  .exact wpAny_pyNext_ascii_end (I.ok.hd hc) st hx fin
  .exact wpAny_pyNext_wide_end (I.ok.hd hc) st hx fin
 self:=fun _ _ _ _ _ st h=>by
  rcases hty with rfl|rfl
  .exact wpAny_pyIter_striter_ascii st h
  .exact wpAny_pyIter_striter_wide st h
def Sq (k:Bool) (K:W.Frag) (H:Hp) (a:Addr) (xs:List V):Prop:=match k with
 |true=>SqT K H a xs
 |false=>SqL K H a xs
theorem Inv.sq {X:Cx} {pins:List (Addr×Obj)} {σ:St} {H:Hp} {s:Shared} {k:Bool} {a:Addr} {xs:List V} (I:Inv X pins σ H s) (h:Sq k X.K H a xs):∃its:List Value,Vals xs its/\SObj k s.heap a its.toArray/\xs.length<=sizeLine:=by
 cases k
 .obtain⟨its,r,p,z⟩:=I.list h
  exact⟨its,r,p.isList,z⟩
 .obtain⟨its,r,p,z⟩:=I.tuple h
  exact⟨its,r,p,z⟩
theorem Inv.sq_inj {X:Cx} {pins:List (Addr×Obj)} {σ:St} {H:Hp} {s:Shared} {k:Bool} {a:Addr} {xs ys:List V} (I:Inv X pins σ H s) (h:Sq k X.K H a xs) (h':Sq k X.K H a ys):xs=ys:=by
 cases k
 .exact I.list_inj h h'
 .exact I.tuple_inj h h'
noncomputable def Itz2 (k j:Bool) (K:W.Frag) (a b:Addr):It:=
 ⟨fun i H=>∃xs ys x y,Sq k K H a xs/\Sq j K H b ys/\xs[i]?=some x/\ys[i]?=some y,
  fun i H v H'=>∃p x y,v=.ref p/\H p=none/\(∀xs,Sq k K H a xs->xs[i]?=some x)/\(∀ys,Sq j K H b ys->ys[i]?=some y)/\H'=upd H p (.tup [x,y]),
  fun i H=>∃xs ys,Sq k K H a xs/\Sq j K H b ys/\(xs.length<=i\/ys.length<=i)⟩
noncomputable abbrev Itz (k:Bool) (K:W.Frag) (a b:Addr):It:=Itz2 k k K a b
def zTn (k j:Bool) (z TI TO i1 i2 l1 l2:Addr) (i:Nat) (h:Heap):Prop:=
 IsZip h z TI TO .none/\IsPair h TI (.ref i1) (.ref i2)/\(∃a b,IsPair h TO a b)/\SItr k h i1 l1 i/\SItr j h i2 l2 i
theorem turn_zip {P:Program} {w:World} {K:W.Frag} {elts:List Expr} {kt:Nat} {pt:Pos} {k j:Bool} {z TI TO i1 i2 l1 l2:Addr} (D:ZipApart z TI TO i1 i2 l1 l2):
  Turn P w K (.Tuple elts kt pt) (Itz2 k j K l1 l2) [z,TI,TO,i1,i2] z (zTn k j z TI TO i1 i2 l1 l2) where
 mem:=by simp
 obj:=fun i h st b hb=>by
  obtain⟨hz,hTI,⟨_,_,hTO⟩,h1,h2⟩:=st
  simp only[List.mem_cons,List.not_mem_nil,or_false]at hb
  rcases hb with rfl|rfl|rfl|rfl|rfl
  .exact⟨_,hz,fun v=>(nomatch ·)⟩
  .exact⟨_,hTI,fun v=>(nomatch ·)⟩
  .exact⟨_,hTO,fun v=>(nomatch ·)⟩
  .obtain⟨o,e,d⟩:=h1.obj
   exact⟨o,e,fun v q=>by rw[d]at q;cases q⟩
  .obtain⟨o,e,d⟩:=h2.obj
   exact⟨o,e,fun v q=>by rw[d]at q;cases q⟩
 keep:=fun i h h' st kk=>by
  obtain⟨hz,hTI,⟨a,b,hTO⟩,h1,h2⟩:=st
  exact⟨kk z (by simp) _ hz,kk TI (by simp) _ hTI,⟨a,b,kk TO (by simp) _ hTO⟩,h1.at fun o e=>kk i1 (by simp) o e,h2.at fun o e=>kk i2 (by simp) o e⟩
 item:=by
  intro X hP hw hK hc i pins s σ H E I hf st hg
  subst hP hw hK
  obtain⟨xs,ys,x,y,hxs,hys,hx,hy⟩:=hg
  obtain⟨hz,hTI,⟨a,b,hTO⟩,h1,h2⟩:=st
  obtain⟨us,rus,ous,_⟩:=I.sq hxs
  obtain⟨vs,rvs,ovs,_⟩:=I.sq hys
  obtain⟨u,hu,ru⟩:=rus.get hx
  obtain⟨v,hv,rv⟩:=rvs.get hy
  refine zip_item D hz hTI hTO h1 h2 ous ovs (x:=u) (y:=v) (by simpa using hu) (by simpa using hv) fun h' hz' hTO' h1' h2' hT hsz hk=>?_
  refine⟨_,rfl,wpAny_letOwnedTupleGo_zip (s:={ s with heap:=h' }) hz' fun h'' hz'' hs=>?_⟩
  have hs':Heap.SameBut z h' h'':=hs
  have zlt:z<s.heap.objs.size:=Heap.lt_size hz
  have neT:s.heap.objs.size≠z:=Nat.ne_of_gt zlt
  have hkk:∀c o,c∉[z,TO,i1,i2]->s.heap.get? c=some o->h''.get? c=some o:=fun c o hc e=>by
   simp only[List.mem_cons,List.not_mem_nil,or_false,not_or]at hc
   exact(hs'.2 c hc.1).trans (hk c o hc.1 hc.2.1 hc.2.2.1 hc.2.2.2 e)
  have sub:∀c∈[z,TO,i1,i2],c∈[z,TI,TO,i1,i2]:=fun c hc=>by
   simp only[List.mem_cons,List.not_mem_nil,or_false]at hc ⊢
   rcases hc with h|h|h|h
   .exact .inl h
   .exact .inr (.inr (.inl h))
   .exact .inr (.inr (.inr (.inl h)))
   .exact .inr (.inr (.inr (.inr h)))
  have hTn:H s.heap.objs.size=none:=I.hok.fresh (Nat.le_refl _)
  have trk:∀c o,H c=some o->c∉[z,TO,i1,i2]:=fun c o e hc=>by rw[(hf c (sub c hc)).1]at e;cases e
  have I1:Inv X pins σ (upd H s.heap.objs.size (.tup [x,y])) { s with heap:=h'' }:=by
   refine I.step (g':=s.gens) (d':=s.drawn) (t':=s.toks) (ch:=[z,TO,i1,i2]) (fun c hc=>?_) (fun c o _ _ hc e _=>hkk c o hc e) (fun c o _ _ hc e _=>⟨o.slots,hkk c o hc e⟩)
    (fun c o _ e n=>by rw[upd_ne (Nat.ne_of_lt (Heap.lt_size e))];exact n) (fun c o hc e=>⟨o,hkk c o hc e⟩) (fun c ps e=>by rw[upd_ne (ne_of_none e hTn)];exact e) (fun c o p e=>by rw[upd_ne (ne_of_none e hTn)];exact e)
    (fun c ps e=>⟨#[],by rw[upd_ne (ne_of_none e hTn),e];simp⟩) (fun m hm=>?_) (fun c o e=>?_) I.bare
   .obtain⟨f0,f1,f2,f3,f4,f5⟩:=hf c (sub c hc)
    exact⟨f3,f1,f4,f5⟩
   .obtain⟨oo,es,ep,ho,r⟩:=hm
    exact⟨oo,es,ep,hkk _ oo (fun hc=>(hf _ (sub _ hc)).2.1 rfl) ho,r⟩
   .by_cases hb:c=s.heap.objs.size
    .subst hb
     rw[upd_same]at e;cases e
     exact⟨by show 2<=sizeLine;decide,[u,v],.cons ru (.cons rv .nil),⟨_,(hs'.2 _ neT).trans hT,rfl,⟨_,rfl⟩,rfl⟩⟩
    .rw[upd_ne hb]at e
     refine(I.hok c o e).stay (fun d q hd eq=>hkk d q ?_ eq) (fun d q=>by rw[upd_ne (ne_of_none q hTn)];exact q) fun d qs q=>by rw[upd_ne (ne_of_none q hTn)];exact q
     rcases hd with rfl|hd
     .exact trk _ _ e
     .exact trk _ _ hd
  refine⟨.ref s.heap.objs.size,_,I1,rfl,⟨s.heap.objs.size,x,y,rfl,hTn,fun xs' h'=>by rw[I.sq_inj h' hxs];exact hx,fun ys' h'=>by rw[I.sq_inj h' hys];exact hy,rfl⟩,⟨hz'',?_,⟨u,v,?_⟩,?_,?_⟩,fun c hc=>?_⟩
  .exact(hs'.2 TI D.TIz).trans (hk TI _ D.TIz D.TITO D.TIi1 D.TIi2 hTI)
  .exact(hs'.2 TO D.TOz).trans hTO'
  .exact h1'.at fun o e=>(hs'.2 i1 D.i1z).trans e
  .exact h2'.at fun o e=>(hs'.2 i2 D.i2z).trans e
  .rw[upd_ne]
   .exact(hf c hc).1
   .intro q
    subst q
    simp only[List.mem_cons,List.not_mem_nil,or_false]at hc
    rcases hc with q|q|q|q|q
    .exact neT q
    .exact Nat.lt_irrefl _ (q ▸ Heap.lt_size hTI)
    .exact Nat.lt_irrefl _ (q ▸ Heap.lt_size hTO)
    .obtain⟨o,e,_⟩:=h1.obj
     exact Nat.lt_irrefl _ (q ▸ Heap.lt_size e)
    .obtain⟨o,e,_⟩:=h2.obj
     exact Nat.lt_irrefl _ (q ▸ Heap.lt_size e)
 done:=by
  intro X hP hw hK hc i pins s σ H E I hf st hg
  subst hP hw hK
  obtain⟨xs,ys,hxs,hys,hend⟩:=hg
  obtain⟨hz,hTI,⟨a,b,hTO⟩,h1,h2⟩:=st
  obtain⟨us,rus,ous,_⟩:=I.sq hxs
  obtain⟨vs,rvs,ovs,_⟩:=I.sq hys
  have l1':=rus.length
  have l2':=rvs.length
  refine zip_end (I.ok.hd hc) D hz hTI hTO h1 h2 ous ovs ?_ fun h' hk=>⟨rfl,?_⟩
  .rcases hend with q|q
   .exact .inl (by simp;omega)
   .exact .inr (by simp;omega)
  have sub:∀c∈[z,TO,i1,i2],c∈[z,TI,TO,i1,i2]:=fun c hc=>by
   simp only[List.mem_cons,List.not_mem_nil,or_false]at hc ⊢
   rcases hc with h|h|h|h
   .exact .inl h
   .exact .inr (.inr (.inl h))
   .exact .inr (.inr (.inr (.inl h)))
   .exact .inr (.inr (.inr (.inr h)))
  have hkk:∀c o,c∉[z,TO,i1,i2]->s.heap.get? c=some o->h'.get? c=some o:=fun c o hc e=>by
   simp only[List.mem_cons,List.not_mem_nil,or_false,not_or]at hc
   exact hk c o hc.1 hc.2.1 hc.2.2.1 hc.2.2.2 e
  have trk:∀c o,H c=some o->c∉[z,TO,i1,i2]:=fun c o e hc=>by rw[(hf c (sub c hc)).1]at e;cases e
  refine I.step (g':=s.gens) (d':=s.drawn) (t':=s.toks) (ch:=[z,TO,i1,i2]) (fun c hc=>?_) (fun c o _ _ hc e _=>hkk c o hc e) (fun c o _ _ hc e _=>⟨o.slots,hkk c o hc e⟩)
    (fun c o _ e n=>n) (fun c o hc e=>⟨o,hkk c o hc e⟩) (fun c ps e=>e) (fun c o p e=>e) (fun c ps e=>⟨#[],by rw[e];simp⟩) (fun m hm=>?_) (fun c o e=>?_) I.bare
  .obtain⟨f0,f1,f2,f3,f4,f5⟩:=hf c (sub c hc)
   exact⟨f3,f1,f4,f5⟩
  .obtain⟨oo,es,ep,ho,r⟩:=hm
   exact⟨oo,es,ep,hkk _ oo (fun hc=>(hf _ (sub _ hc)).2.1 rfl) ho,r⟩
  .refine(I.hok c o e).stay (fun d q hd eq=>hkk d q ?_ eq) (fun d q=>q) fun d qs q=>q
   rcases hd with rfl|hd
   .exact trk _ _ e
   .exact trk _ _ hd
 self:=fun _ _ _ _ _ st h=>wpAny_pyIter_zip st.1 h
section
variable {X:Cx} {tg:Expr}
noncomputable def iVal (K:W.Frag) (tl:TE):TI:=fun σ H R=>tl σ H fun x H1=>
 (∃a,x=.ref a/\(∃xs,SqL K H1 a xs)/\R (Itl K a) H1)\/(∃a,x=.ref a/\(∃xs,SqT K H1 a xs)/\R (Itt K a) H1)\/∃z,x=.str z/\R (Its z) H1
theorem pi_val {l:Expr} {tl:TE} (hl:PE X l tl):PI X tg l (iVal X.K tl):=by
 intro pins s σ H R I h
 refine thn (hl pins s σ H _ I h) fun v s1 ⟨x,H1,I1,r1,q1⟩=>?_
 rcases q1 with⟨a,e,⟨xs,hq⟩,q⟩|⟨a,e,⟨xs,hq⟩,q⟩|⟨z,e,q⟩
 .subst e
  cases r1
  obtain⟨its,rv,p,hz⟩:=I1.list hq
  refine wpAny_pyIter_list p.isList ?_
  refine⟨s1.heap.objs.size,[s1.heap.objs.size],_,_,H1,rfl,I1.kept (t':=s1.toks) fun b o e=>Heap.get?_push_of_some _ e,turn_list a _,⟨_,Heap.get?_push_size _ rfl,rfl,rfl⟩,fun b hb=>?_,q⟩
  have e:b=s1.heap.objs.size:=by simpa using hb
  subst e
  exact I1.fpOk (Nat.le_refl _) (I1.hok.fresh (Nat.le_refl _))
 .subst e
  cases r1
  obtain⟨its,rv,p,hz⟩:=I1.tuple hq
  refine wpAny_pyIter_tuple (show s1.heap.IsTuple a its.toArray from p) ?_
  refine⟨s1.heap.objs.size,[s1.heap.objs.size],_,_,H1,rfl,I1.kept (t':=s1.toks) fun b o e=>Heap.get?_push_of_some _ e,turn_tuple a _,⟨_,Heap.get?_push_size _ rfl,rfl,rfl⟩,fun b hb=>?_,q⟩
  have e:b=s1.heap.objs.size:=by simpa using hb
  subst e
  exact I1.fpOk (Nat.le_refl _) (I1.hok.fresh (Nat.le_refl _))
 .subst e
  obtain⟨t,rfl⟩:=r1
  have fin:∀(ty:String),(ty="str_ascii_iterator"\/ty="str_iterator")->PIE X pins σ tg R (.ref s1.heap.objs.size) { s1 with heap:=s1.heap.push { cls:=.type ty,data:=.fields #[.str z t,.int 0 0] } }:=fun ty hty=>by
   refine⟨s1.heap.objs.size,[s1.heap.objs.size],_,_,H1,rfl,I1.kept (t':=s1.toks) fun b o e=>Heap.get?_push_of_some _ e,turn_str _ z ty t hty,⟨_,Heap.get?_push_size _ rfl,rfl,rfl⟩,fun b hb=>?_,q⟩
   have e:b=s1.heap.objs.size:=by simpa using hb
   subst e
   exact I1.fpOk (Nat.le_refl _) (I1.hok.fresh (Nat.le_refl _))
  cases ha:z.cps.all (· < 128)
  .exact wpAny_pyIter_wide ha (fin _ (.inr rfl))
  .exact wpAny_pyIter_ascii ha (fin _ (.inl rfl))
noncomputable def iZip (K:W.Frag) (ta:TA):TI:=fun σ H R=>ta σ H fun vs H1=>∃(k j:Bool) (a b:Addr),vs=[.ref a,.ref b]/\(∃xs,Sq k K H1 a xs)/\(∃ys,Sq j K H1 b ys)/\R (Itz2 k j K a b) H1
theorem pi_zip {a b:Expr} {ta:TA} {p pos:Pos} {elts:List Expr} {kt:Nat} {pt:Pos} (hg:Gl X "zip") (hm:X.mg "zip"=none) (ha:PA X [a,b] ta) (hs:starEach [a,b] X.env=[(false,eval a X.env),(false,eval b X.env)]) (hs2:starEach [b] X.env=[(false,eval b X.env)]):
  PI X (.Tuple elts kt pt) (.Call (.Name "zip" p) [a,b] [] pos) (iZip X.K ta):=by
 intro pins s σ H R I h
 refine Call_ (ld_blt I hg hm boot_zip (PyProof.Rows.callWith_type1 (thn (ha pos pins s σ H _ I h) fun us s1 ⟨vs,H1,I1,r1,q1⟩=>?_) (by rw[hs,hs2]) (by rw[hs2];rfl)))
 obtain⟨k,j,a,b,e,⟨xs,hxs⟩,⟨ys,hys⟩,q⟩:=q1
 subst e
 cases r1 with
 |cons r rr=>
  cases rr with
  |cons r' rr=>
   cases rr
   cases r
   cases r'
   obtain⟨us,rus,ous,_⟩:=I1.sq hxs
   obtain⟨vs,rvs,ovs,_⟩:=I1.sq hys
   refine zip_new ous ovs fun h' hz hTI hTO h1 h2 hsz hk=>wpAny_pyIter_zip hz ?_
   refine⟨s1.heap.objs.size+4,[s1.heap.objs.size+4,s1.heap.objs.size+2,s1.heap.objs.size+3,s1.heap.objs.size,s1.heap.objs.size+1],_,_,H1,rfl,I1.kept (t':=s1.toks) hk,turn_zip (k:=k) (j:=j) (PyProof.Rows.zipApart_new ous.lt ovs.lt),⟨hz,hTI,⟨_,_,hTO⟩,h1,h2⟩,fun c hc=>?_,q⟩
   have hle:s1.heap.objs.size<=c:=by
    simp only[List.mem_cons,List.not_mem_nil,or_false]at hc
    rcases hc with rfl|rfl|rfl|rfl|rfl
    .exact Nat.le_add_right _ _
    .exact Nat.le_add_right _ _
    .exact Nat.le_add_right _ _
    .exact Nat.le_refl _
    .exact Nat.le_add_right _ _
   exact I1.fpOk hle (I1.hok.fresh hle)
end
noncomputable def Itd (go:Nat->Hp->Prop) (val:Nat->Hp->V->Prop) (stop:Nat->Hp->Prop):It:=
 ⟨go,fun i H v H'=>∃p x,v=.ref p/\H p=none/\val i H x/\H'=upd H p (.tup [.int i,x]),stop⟩
structure EnSrc (P:Program) (w:World) (K:W.Frag) (e it:Addr) (Sx:Nat->Heap->Prop) (go:Nat->Hp->Prop) (val:Nat->Hp->V->Prop) (stop:Nat->Hp->Prop):Prop where
 ne:e≠it
 obj:∀i h,Sx i h->∃o,h.get? it=some o/\∀v,o.data≠.cell v
 keep:∀i h h',Sx i h->(∀o,h.get? it=some o->h'.get? it=some o)->Sx i h'
 item:∀(X:Cx),X.prog=P->X.w=w->X.K=K->X.calm=true->∀(i:Nat) (pins:List (Addr×Obj)) (s:Shared) (σ:St) (H:Hp),Inv X pins σ H s->H e=none->H it=none->e<s.heap.objs.size->(∃old,IsEnum s.heap e it i old)->Sx i s.heap->go i H->
  ∃n Pd Sd fp,Draws P w X.A.in1 it fp n Pd Sd/\e∉fp/\i<n/\Sd i s.heap/\(∀j h,Sd j h->Sx j h)/\∀u,Pd i u->∃x,RelV x u/\val i H x
 done:∀(X:Cx),X.prog=P->X.w=w->X.K=K->X.calm=true->∀(i:Nat) (pins:List (Addr×Obj)) (s:Shared) (σ:St) (H:Hp),Inv X pins σ H s->H e=none->H it=none->(∃old,IsEnum s.heap e it i old)->Sx i s.heap->stop i H->
  ∃Pd Sd fp,Draws P w X.A.in1 it fp i Pd Sd/\Sd i s.heap
theorem turn_enum {P:Program} {w:World} {K:W.Frag} {elts:List Expr} {kt:Nat} {pt:Pos} {e it:Addr} {Sx:Nat->Heap->Prop} {go:Nat->Hp->Prop} {val:Nat->Hp->V->Prop} {stop:Nat->Hp->Prop} (S:EnSrc P w K e it Sx go val stop):
  Turn P w K (.Tuple elts kt pt) (Itd go val stop) [e,it] e (fun i h=>(∃old,IsEnum h e it i old)/\Sx i h) where
 mem:=by simp
 obj:=fun i h st b hb=>by
  obtain⟨⟨old,he⟩,hs⟩:=st
  simp only[List.mem_cons,List.not_mem_nil,or_false]at hb
  rcases hb with rfl|rfl
  .exact⟨_,he,fun v=>(nomatch ·)⟩
  .exact S.obj i h hs
 keep:=fun i h h' st kk=>by
  obtain⟨⟨old,he⟩,hs⟩:=st
  exact⟨⟨old,kk e (by simp) _ he⟩,S.keep i h h' hs fun o q=>kk it (by simp) o q⟩
 item:=by
  intro X hP hw hK hc i pins s σ H E I hf st hg
  have hfe:=hf e (by simp)
  have hfi:=hf it (by simp)
  obtain⟨n,Pd,Sd,fp,D,hefp,hin,hsd,hsub,hval⟩:=S.item X hP hw hK hc i pins s σ H I hfe.1 hfi.1 (Heap.lt_size st.1.choose_spec) st.1 st.2 hg
  obtain⟨⟨old,he⟩,hs⟩:=st
  subst hP hw hK
  refine wpAny_pyNext_enum_itemD D he hsd hin S.ne hefp fun u h' tk hPu ho hs' hT hsz hk=>?_
  obtain⟨x,rx,vx⟩:=hval u hPu
  refine⟨_,rfl,wpAny_letOwnedTupleGo_enum (s:={ s with heap:=h',toks:=tk+1 }) ho fun h'' he'' hb=>?_⟩
  have hb':Heap.SameBut e h' h'':=hb
  have elt:e<s.heap.objs.size:=Heap.lt_size he
  have neT:s.heap.objs.size≠e:=Nat.ne_of_gt elt
  have hTn:H s.heap.objs.size=none:=I.hok.fresh (Nat.le_refl _)
  have hkk:∀c o,c∉[e,it]->s.heap.get? c=some o->h''.get? c=some o:=fun c o hc q=>by
   simp only[List.mem_cons,List.not_mem_nil,or_false,not_or]at hc
   exact(hb'.2 c hc.1).trans (hk c o hc.1 hc.2 q)
  have trk:∀c o,H c=some o->c∉[e,it]:=fun c o q hc=>by rw[(hf c hc).1]at q;cases q
  have I1:Inv X pins σ (upd H s.heap.objs.size (.tup [.int i,x])) { s with heap:=h'',toks:=tk+1 }:=by
   refine I.step (g':=s.gens) (d':=s.drawn) (t':=tk+1) (ch:=[e,it]) (fun c hc=>?_) (fun c o _ _ hc q _=>hkk c o hc q) (fun c o _ _ hc q _=>⟨o.slots,hkk c o hc q⟩)
    (fun c o _ q n=>by rw[upd_ne (Nat.ne_of_lt (Heap.lt_size q))];exact n) (fun c o hc q=>⟨o,hkk c o hc q⟩) (fun c ps q=>by rw[upd_ne (ne_of_none q hTn)];exact q) (fun c o p q=>by rw[upd_ne (ne_of_none q hTn)];exact q)
    (fun c ps q=>⟨#[],by rw[upd_ne (ne_of_none q hTn),q];simp⟩) (fun m hm=>?_) (fun c o q=>?_) I.bare
   .obtain⟨f0,f1,f2,f3,f4,f5⟩:=hf c hc
    exact⟨f3,f1,f4,f5⟩
   .obtain⟨oo,es,ep,ho,r⟩:=hm
    exact⟨oo,es,ep,hkk _ oo (fun hc=>(hf _ hc).2.1 rfl) ho,r⟩
   .by_cases hb:c=s.heap.objs.size
    .subst hb
     rw[upd_same]at q;cases q
     exact⟨by show 2<=sizeLine;decide,[.int i tk,u],.cons ⟨_,rfl⟩ (.cons rx .nil),⟨_,(hb'.2 _ neT).trans hT,rfl,⟨_,rfl⟩,rfl⟩⟩
    .rw[upd_ne hb]at q
     refine(I.hok c o q).stay (fun d q hd eq=>hkk d q ?_ eq) (fun d q=>by rw[upd_ne (ne_of_none q hTn)];exact q) fun d qs q=>by rw[upd_ne (ne_of_none q hTn)];exact q
     rcases hd with rfl|hd
     .exact trk _ _ (by assumption)
     .exact trk _ _ hd
  refine⟨.ref s.heap.objs.size,_,I1,rfl,⟨s.heap.objs.size,x,rfl,hTn,vx,rfl⟩,⟨⟨_,he''⟩,S.keep _ _ _ (hsub _ _ hs') fun o q=>(hb'.2 it (Ne.symm S.ne)).trans q⟩,fun c hc=>?_⟩
  rw[upd_ne]
  .exact(hf c hc).1
  .intro q
   subst q
   simp only[List.mem_cons,List.not_mem_nil,or_false]at hc
   rcases hc with q|q
   .exact neT q
   .obtain⟨o,e1,_⟩:=S.obj _ _ hs
    exact Nat.lt_irrefl _ (q ▸ Heap.lt_size e1)
 done:=by
  intro X hP hw hK hc i pins s σ H E I hf st hg
  have hfe:=hf e (by simp)
  have hfi:=hf it (by simp)
  obtain⟨Pd,Sd,fp,D,hsd⟩:=S.done X hP hw hK hc i pins s σ H I hfe.1 hfi.1 st.1 st.2 hg
  obtain⟨⟨old,he⟩,hs⟩:=st
  subst hP hw hK
  refine wpAny_pyNext_enum_endD D he hsd fun h' hx=>⟨rfl,?_⟩
  obtain⟨f0,f1,f2,f3,f4,f5⟩:=hfi
  exact I.turned (t':=s.toks) (fun b o hb q=>hx b o hb q) f0 f1 f3 f4 f5
 self:=fun _ _ _ _ _ st h=>by
  obtain⟨⟨old,he⟩,_⟩:=st
  exact wpAny_pyIter_enum he h
noncomputable def Ite (K:W.Frag) (a:Addr):It:=Itd (fun i H=>∃xs x,SqL K H a xs/\xs[i]?=some x) (fun i H x=>∀xs,SqL K H a xs->xs[i]?=some x) (fun i H=>∃xs,SqL K H a xs/\xs.length=i)
theorem en_list {P:Program} {w:World} {K:W.Frag} {e it a:Addr} (ne:e≠it) (na:a≠e) (nai:a≠it):EnSrc P w K e it (fun i h=>h.IsListIter it a i) (fun i H=>∃xs x,SqL K H a xs/\xs[i]?=some x) (fun i H x=>∀xs,SqL K H a xs->xs[i]?=some x) (fun i H=>∃xs,SqL K H a xs/\xs.length=i) where
 ne:=ne
 obj:=fun i h st=>by
  obtain⟨o,q,c,d⟩:=st
  exact⟨o,q,fun v z=>by rw[d]at z;cases z⟩
 keep:=fun i h h' st k=>st.at k
 item:=by
  intro X hP hw hK hc i pins s σ H I _ _ _ _ st hg
  obtain⟨xs,x,hxs,hx⟩:=hg
  subst hP hw hK
  obtain⟨its,rv,p,hz⟩:=I.list hxs
  have hl:=rv.length
  obtain⟨u,hu,ru⟩:=rv.get hx
  refine⟨_,_,_,_,Draws.list (show X.A.in1.handled=none from I.ok.hd hc) it a nai its.toArray,?_,?_,⟨st,p.isList⟩,fun j h q=>q.1,fun u' hu'=>⟨x,?_,fun ys hys=>by rw[I.list_inj hys hxs];exact hx⟩⟩
  .simp only[List.mem_cons,List.not_mem_nil,or_false,not_or]
   exact⟨ne,Ne.symm na⟩
  .have:=(List.getElem?_eq_some_iff.mp hx).1
   simp;omega
  .have e2:its[i]?=some u':=by simpa using hu'
   rw[hu]at e2
   cases e2
   exact ru
 done:=by
  intro X hP hw hK hc i pins s σ H I _ _ _ st hg
  obtain⟨xs,hxs,hx⟩:=hg
  subst hP hw hK
  obtain⟨its,rv,p,hz⟩:=I.list hxs
  have hl:=rv.length
  have e:i=its.toArray.size:=by simp;omega
  subst e
  exact⟨_,_,_,Draws.list (show X.A.in1.handled=none from I.ok.hd hc) it a nai its.toArray,st,p.isList⟩
noncomputable def Iteg (z:Str):It:=Itd (fun i _=>i<z.cps.size) (fun i _ v=>∃c,z.cps[i]?=some c/\v=.str ⟨#[c]⟩) (fun i _=>z.cps.size=i)
theorem en_str {P:Program} {w:World} {K:W.Frag} {e it:Addr} {z:Str} {t:Tok} {ty:String} (hty:ty="str_ascii_iterator"\/ty="str_iterator") (ne:e≠it):EnSrc P w K e it (fun i h=>h.IsStrIter it ty z t i) (fun i _=>i<z.cps.size) (fun i _ v=>∃c,z.cps[i]?=some c/\v=.str ⟨#[c]⟩) (fun i _=>z.cps.size=i) where
 ne:=ne
 obj:=fun i h st=>by
  obtain⟨o,q,c,d⟩:=st
  exact⟨o,q,fun v z=>by rw[d]at z;cases z⟩
 keep:=fun i h h' st k=>by
  obtain⟨o,q,r⟩:=st
  exact⟨o,k o q,r⟩
 item:=by
  intro X hP hw hK hc i pins s σ H I _ _ _ _ st hg
  subst hP hw hK
  have hh:X.A.in1.handled=none:=I.ok.hd hc
  rcases hty with rfl|rfl
  .refine⟨_,_,_,_,Draws.strAscii hh it z t,by simpa using ne,hg,st,fun j h q=>q,fun u hu=>?_⟩
   obtain⟨c,t',hc',rfl⟩:=hu
   exact⟨.str ⟨#[c]⟩,⟨_,rfl⟩,c,hc',rfl⟩
  .refine⟨_,_,_,_,Draws.strWide hh it z t,by simpa using ne,hg,st,fun j h q=>q,fun u hu=>?_⟩
   obtain⟨c,t',hc',rfl⟩:=hu
   exact⟨.str ⟨#[c]⟩,⟨_,rfl⟩,c,hc',rfl⟩
 done:=by
  intro X hP hw hK hc i pins s σ H I _ _ _ st hg
  subst hP hw hK
  have hh:X.A.in1.handled=none:=I.ok.hd hc
  have hg':z.cps.size=i:=hg
  subst hg'
  rcases hty with rfl|rfl
  .exact⟨_,_,_,Draws.strAscii hh it z t,st⟩
  .exact⟨_,_,_,Draws.strWide hh it z t,st⟩
theorem draws_tup {prog:Program} {w:World} {A:Around} (hh:A.handled=none) (it l:Addr) (hne:l≠it) (items:Array Value):
  Draws prog w A it [it,l] items.size (fun i v=>items[i]?=some v) (fun i h=>SItr true h it l i/\SObj true h l items) where
 live:=fun _ _ st=>let⟨o,ho,_⟩:=st.1.obj;⟨o,ho⟩
 frame:=fun _ _ _ st hk=>⟨st.1.at fun o e=>hk it (by simp) o e,st.2.at fun o e=>hk l (by simp) o e⟩
 item:=fun i s Q E hi st hQ=>by
  refine nextOf_item st.1 st.2 (x:=items[i]) (by simp[hi]) fun h' hit' hs'=>?_
  exact hQ _ h' s.toks (by simp[hi]) ⟨hit',st.2.at fun o e=>hs'.extBut l o hne e⟩ hs'
 done:=fun s Q E st hE=>nextOf_end hh st.1 st.2 (by simp) hE
open AutoSeq1 (wpAny_loadPart') in
theorem meets_enumerate_newT (l:Addr) (items:Array Value) (n:Nat) (dct:Option Addr) (sl:Array (Option Value)):
  Meets (Builtin.«enumerate.__new__» ⟨[.type "enumerate",.ref l],[]⟩) (fun _ R s=>s.heap.get? l=some { cls:=.type "tuple",dict:=dct,data:=.seq items n,slots:=sl }/\
   R (.ok (.ret (.ref (s.heap.push { cls:=.type "tuple_iterator",data:=.fields #[.ref l,.int 0 0] }).objs.size)))
    { s with heap:=(s.heap.push { cls:=.type "tuple_iterator",data:=.fields #[.ref l,.int 0 0] }).push { cls:=.type "enumerate",data:=.fields #[.none,.bool false,.ref s.heap.objs.size,rawInt 0,.none,.none] } }):=
 .of_wp fun prog w A R s h=>by
  obtain⟨hp,g,d,tk,os⟩:=s;obtain⟨hl,h⟩:=h
  have hsub:=sub_enumerate
  have hL:Heap.IsTuple (Shared.heap ⟨hp,g,d,tk,os⟩) l items:=⟨_,hl,rfl,n,rfl⟩
  wp_walk using wpAny_loadPart' hl
  refine wpAny_stack_any fun st=>wpAny_pure ?_
  split
  .rename_i c _ _ _ _ _
   cases(c == Value.type "enumerate")
   .wp_walk using wpAny_loadPart' hl,wpAny_pyIter_tuple hL
    exact⟨_,rfl,h⟩
   .wp_walk using wpAny_loadPart' hl,wpAny_pyIter_tuple hL
    exact⟨_,rfl,h⟩
  .wp_walk using wpAny_loadPart' hl,wpAny_pyIter_tuple hL
   exact⟨_,rfl,h⟩
theorem call_enumerate_tuple {prog:Program} {w:World} {A:Around} {E:Value->Shared->Prop} {s:Shared} {l:Addr} {items:Array Value} {Q:Value->Shared->Prop} (hL:s.heap.IsTuple l items)
  (h:∀h',IsEnum h' (s.heap.objs.size+1) s.heap.objs.size 0 .none->SItr true h' s.heap.objs.size l 0->h'.objs.size=s.heap.objs.size+2->
   (∀b o,s.heap.get? b=some o->h'.get? b=some o)->Q (.ref (s.heap.objs.size+1)) { s with heap:=h' }):
  wpAny (model prog w) A (call (.type "enumerate") [.ref l]) Q E s:=by
 obtain⟨⟨c,dct,dt,sl⟩,hl,hc,n,hd⟩:=hL
 replace hc:c=.type "tuple":=hc
 replace hd:dt=.seq items n:=hd
 subst hc hd
 refine callType_new F.called_enumerate (by decide) (F.typeCall_enumerate_1 _) (F.newCall_enumerate_1 _) (fun obj=>F.args_object_init_2 obj _) F.entry_enumerate_new
  (meets_enumerate_newT l items n dct sl) ⟨hl,?_⟩
 have hz:(s.heap.push { cls:=.type "tuple_iterator",data:=.fields #[.ref l,.int 0 0] }).objs.size=s.heap.objs.size+1:=Heap.size_push ..
 show _/\_
 rw[hz]
 have he:IsEnum ((s.heap.push { cls:=.type "tuple_iterator",data:=.fields #[.ref l,.int 0 0] }).push
   { cls:=.type "enumerate",data:=.fields #[.none,.bool false,.ref s.heap.objs.size,rawInt 0,.none,.none] }) (s.heap.objs.size+1) s.heap.objs.size 0 .none:=by
  have:=Heap.get?_push_size (s.heap.push { cls:=.type "tuple_iterator",data:=.fields #[.ref l,.int 0 0] })
   (o:={ cls:=.type "enumerate",data:=.fields #[.none,.bool false,.ref s.heap.objs.size,rawInt 0,.none,.none] }) rfl
  rw[hz]at this;exact this
 refine⟨⟨_,he,rfl⟩,h _ he ⟨_,Heap.get?_push_of_some _ (Heap.get?_push_size _ rfl),rfl,rfl⟩ (by rw[Heap.size_push,hz]) fun b o x=>Heap.get?_push_of_some _ (Heap.get?_push_of_some _ x)⟩
noncomputable def Itet (K:W.Frag) (a:Addr):It:=Itd (fun i H=>∃xs x,SqT K H a xs/\xs[i]?=some x) (fun i H x=>∀xs,SqT K H a xs->xs[i]?=some x) (fun i H=>∃xs,SqT K H a xs/\xs.length=i)
theorem en_tup {P:Program} {w:World} {K:W.Frag} {e it a:Addr} (ne:e≠it) (na:a≠e) (nai:a≠it):EnSrc P w K e it (fun i h=>SItr true h it a i) (fun i H=>∃xs x,SqT K H a xs/\xs[i]?=some x) (fun i H x=>∀xs,SqT K H a xs->xs[i]?=some x) (fun i H=>∃xs,SqT K H a xs/\xs.length=i) where
 ne:=ne
 obj:=fun i h st=>by
  obtain⟨o,q,d⟩:=st.obj
  exact⟨o,q,fun v z=>by rw[d]at z;cases z⟩
 keep:=fun i h h' st k=>st.at k
 item:=by
  intro X hP hw hK hc i pins s σ H I _ _ _ _ st hg
  obtain⟨xs,x,hxs,hx⟩:=hg
  subst hP hw hK
  obtain⟨its,rv,p,hz⟩:=I.tuple hxs
  have hl:=rv.length
  obtain⟨u,hu,ru⟩:=rv.get hx
  refine⟨_,_,_,_,draws_tup (show X.A.in1.handled=none from I.ok.hd hc) it a nai its.toArray,?_,?_,⟨st,p⟩,fun j h q=>q.1,fun u' hu'=>⟨x,?_,fun ys hys=>by rw[I.tuple_inj hys hxs];exact hx⟩⟩
  .simp only[List.mem_cons,List.not_mem_nil,or_false,not_or]
   exact⟨ne,Ne.symm na⟩
  .have:=(List.getElem?_eq_some_iff.mp hx).1
   simp;omega
  .have e2:its[i]?=some u':=by simpa using hu'
   rw[hu]at e2
   cases e2
   exact ru
 done:=by
  intro X hP hw hK hc i pins s σ H I _ _ _ st hg
  obtain⟨xs,hxs,hx⟩:=hg
  subst hP hw hK
  obtain⟨its,rv,p,hz⟩:=I.tuple hxs
  have hl:=rv.length
  have e:i=its.toArray.size:=by simp;omega
  subst e
  exact⟨_,_,_,draws_tup (show X.A.in1.handled=none from I.ok.hd hc) it a nai its.toArray,st,p⟩
section
variable {X:Cx}
noncomputable def iEnum (K:W.Frag) (tl:TE):TI:=fun σ H R=>tCons tl tNil σ H fun vs H1=>∃x,vs=[x]/\
 ((∃a,x=.ref a/\(∃xs,SqL K H1 a xs)/\R (Ite K a) H1)\/(∃z,x=.str z/\R (Iteg z) H1)\/∃a,x=.ref a/\(∃xs,SqT K H1 a xs)/\R (Itet K a) H1)
theorem boot_enumerate:bootBuiltins "enumerate"=some (.type "enumerate"):=by decide +kernel
theorem pi_enum {a:Expr} {tl:TE} {p pos:Pos} {elts:List Expr} {kt:Nat} {pt:Pos} (hg:Gl X "enumerate") (hm:X.mg "enumerate"=none) (ha:PA X [a] (tCons tl tNil)) (hs:starEach [a] X.env=[(false,eval a X.env)]):
  PI X (.Tuple elts kt pt) (.Call (.Name "enumerate" p) [a] [] pos) (iEnum X.K tl):=by
 intro pins s σ H R I h
 have h':tCons tl tNil σ H (fun vs H1=>∃x,vs=[x]/\((∃a,x=.ref a/\(∃xs,SqL X.K H1 a xs)/\R (Ite X.K a) H1)\/(∃z,x=.str z/\R (Iteg z) H1)\/∃a,x=.ref a/\(∃xs,SqT X.K H1 a xs)/\R (Itet X.K a) H1)):=h
 refine Call_ (ld_blt I hg hm boot_enumerate (PyProof.Rows.callWith_type1 (thn (ha pos pins s σ H _ I h') fun us s1 ⟨vs,H1,I1,r1,q1⟩=>?_) (by rw[hs];rfl) (by rfl)))
 obtain⟨x,e,q1⟩:=q1
 subst e
 cases r1 with
 |cons r rr=>
  cases rr
  rcases q1 with⟨a,rfl,⟨xs,hxs⟩,q⟩|⟨z,rfl,q⟩|⟨a,rfl,⟨xs,hxs⟩,q⟩
  .cases r
   obtain⟨its,rv,pl,hz⟩:=I1.list hxs
   refine call_enumerate_list pl.isList fun h' he hit hsz hk=>wpAny_pyIter_enum he ?_
   have la:a<s1.heap.objs.size:=by
    obtain⟨o,q,_⟩:=pl.isList
    exact Heap.lt_size q
   refine⟨s1.heap.objs.size+1,[s1.heap.objs.size+1,s1.heap.objs.size],_,_,H1,rfl,I1.kept (t':=s1.toks) hk,turn_enum (en_list (Nat.succ_ne_self _) (Nat.ne_of_lt (Nat.lt_succ_of_lt la)) (Nat.ne_of_lt la)),⟨⟨_,he⟩,hit⟩,fun c hc=>?_,q⟩
   have hle:s1.heap.objs.size<=c:=by
    simp only[List.mem_cons,List.not_mem_nil,or_false]at hc
    rcases hc with rfl|rfl<;>omega
   exact I1.fpOk hle (I1.hok.fresh hle)
  .obtain⟨t,rfl⟩:=r
   refine call_enumerate_str fun h' he hit hsz hk=>wpAny_pyIter_enum he ?_
   have hty:strIterType z="str_ascii_iterator"\/strIterType z="str_iterator":=by
    unfold strIterType
    split
    .exact .inl rfl
    .exact .inr rfl
   refine⟨s1.heap.objs.size+1,[s1.heap.objs.size+1,s1.heap.objs.size],_,_,H1,rfl,I1.kept (t':=s1.toks) hk,turn_enum (en_str hty (Nat.succ_ne_self _)),⟨⟨_,he⟩,hit⟩,fun c hc=>?_,q⟩
   have hle:s1.heap.objs.size<=c:=by
    simp only[List.mem_cons,List.not_mem_nil,or_false]at hc
    rcases hc with rfl|rfl<;>omega
   exact I1.fpOk hle (I1.hok.fresh hle)
  .cases r
   obtain⟨its,rv,pl,hz⟩:=I1.tuple hxs
   refine call_enumerate_tuple (show s1.heap.IsTuple a its.toArray from pl) fun h' he hit hsz hk=>wpAny_pyIter_enum he ?_
   have la:a<s1.heap.objs.size:=by
    obtain⟨o,q,_⟩:=pl
    exact Heap.lt_size q
   refine⟨s1.heap.objs.size+1,[s1.heap.objs.size+1,s1.heap.objs.size],_,_,H1,rfl,I1.kept (t':=s1.toks) hk,turn_enum (en_tup (Nat.succ_ne_self _) (Nat.ne_of_lt (Nat.lt_succ_of_lt la)) (Nat.ne_of_lt la)),⟨⟨_,he⟩,hit⟩,fun c hc=>?_,q⟩
   have hle:s1.heap.objs.size<=c:=by
    simp only[List.mem_cons,List.not_mem_nil,or_false]at hc
    rcases hc with rfl|rfl<;>omega
   exact I1.fpOk hle (I1.hok.fresh hle)
end
section
variable {X:Cx}
theorem call_int_text:CallR X (.type "int") (fun xs H Q=>∃x n,xs=[.str x]/\PySem.intText? x=some n/\x.length<=640/\Q (.int n) H):=by
 intro pins s σ H xs us Q I r h
 obtain⟨x,n,rfl,hn,hl,q⟩:=h
 obtain⟨u,rfl,t,rfl⟩:=vals1 r
 exact W.KIN.call_text hn hl ⟨.int n,H,I.tok _,⟨_,rfl⟩,q⟩
noncomputable def rInt:List V->Hp->VK->Prop:=fun xs H Q=>((∃i,xs=[.int i]/\Q (.int i) H)\/∃k,xs=[.bl k]/\Q (.int (if k then 1 else 0)) H)\/∃x n,xs=[.str x]/\PySem.intText? x=some n/\x.length<=640/\Q (.int n) H
theorem call_intA:CallR X (.type "int") rInt:=call_int1.or call_int_text
noncomputable def rMulS:R2:=fun x y H Q=>∃a n,x=.str a/\y=.int n/\-1000000<=n/\n<=1000000/\a.length*n.toNat<=1000000/\Q (.str (Txt.mul a n)) H
theorem op_mul_str:OpR X (binaryOp .Mult) rMulS:=by
 intro pins s σ H x y v u Q I rx ry h
 obtain⟨a,n,rfl,rfl,h1,h2,h3,q⟩:=h
 obtain⟨t,rfl⟩:=rx
 obtain⟨t',rfl⟩:=ry
 refine SB.mul ⟨?_,fun hn hc=>?_,fun hn hc=>?_⟩ fun t' k=>⟨.str (Txt.mul a n),H,I.tok _,⟨_,rfl⟩,q⟩
 .have e1:¬n < -(2 ^ 63:Int):=by omega
  have e2:¬n ≥ 2 ^ 63:=by omega
  simp[e1,e2]
  omega
 .have hn0:0<n:=by omega
  intro hgt
  have h4:(a.length:Int)*n<=1000000:=by
   have:((a.length*n.toNat:Nat):Int)<=1000000:=by omega
   rw[Int.natCast_mul,Int.toNat_of_nonneg (by omega)]at this
   exact this
  have h5:=(Int.ediv_lt_iff_lt_mul hn0).mp hgt
  omega
 .have e:Builtin.Str.tooLong (a.length*n.toNat)=false:=by
   unfold Builtin.Str.tooLong
   have:sizeLine=16777216:=sizeLine_eq
   simp
   omega
  exact e
noncomputable def rJoin (K:W.Frag):V->List V->Hp->VK->Prop:=fun x xs H Q=>∃(sep:Str) (p:Addr) (ys:List Str),x=.str sep/\xs=[.ref p]/\(SqL K H p (ys.map V.str)\/SqT K H p (ys.map V.str))/\(ys.map (·.length)).sum+ys.length*sep.length<=16777216/\Q (.str (Txt.join sep ys)) H
theorem strsAre_of:∀{ys:List Str} {us:List Value},Vals (ys.map V.str) us->StrsAre us ys
 | [],us,h=>by
  have e:=h.zero
  subst e
  exact .nil
 |y :: ys,_,.cons r t=>by
  obtain⟨k,rfl⟩:=r
  exact .cons y k (strsAre_of t)
theorem mt_join:MtR X "str.join" (rJoin X.K):=by
 intro pins s σ H x xs v us Q I rx rv h
 obtain⟨sep,p,ys,rfl,rfl,hs,hz,q⟩:=h
 obtain⟨t,rfl⟩:=rx
 obtain⟨u,rfl,ru⟩:=rv.one
 cases ru
 rcases hs with hs|hs
 .obtain⟨its,r,pl,_⟩:=I.list hs
  exact join_list pl.isList (strsAre_of r) hz fun t' k=>⟨.str _,H,I.tok _,⟨_,rfl⟩,q⟩
 .obtain⟨its,r,pl,_⟩:=I.tuple hs
  exact join_tuple pl (strsAre_of r) hz fun t' k=>⟨.str _,H,I.tok _,⟨_,rfl⟩,q⟩
noncomputable def rCount:V->List V->Hp->VK->Prop:=fun x xs H Q=>∃a b,x=.str a/\xs=[.str b]/\Q (.int (Builtin.Str.occurrences a b 0 a.length (a.length+1)).length) H
theorem mt_count:MtR X "str.count" rCount:=by
 intro pins s σ H x xs v us Q I rx rv h
 obtain⟨a,b,rfl,rfl,q⟩:=h
 obtain⟨t,rfl⟩:=rx
 obtain⟨u,rfl,ru⟩:=rv.one
 obtain⟨t',rfl⟩:=ru
 exact call_gives F.slot_str_count (typeIs_str _ _ _) F.entry_str_count (F.args_str_count_2 _ _) (gives_str_count a b t t') ⟨.int _,H,I.tok _,⟨_,rfl⟩,q⟩
noncomputable def tyName (H:Hp):V->Option String
 | .non=>some "NoneType"
 | .bl _=>some "bool"
 | .int _=>some "int"
 | .str _=>some "str"
 | .ref a=>match H a with
  |some (.lst _)=>some "list"
  |some (.tup _)=>some "tuple"
  |some (.dK _)=>some "dict"
  |some (.dT _)=>some "dict"
  |some (.frz _ (.lst _))=>some "list"
  |_=>none
 |_=>none
theorem tyName_of {K:W.Frag} {H:Hp} {x:V} {T:String} (h:tyName H x=some T):TyOf K H x (.type T):=by
 cases x with
 |non=>cases h;exact .non
 |bl b=>cases h;exact .bl b
 |int i=>cases h;exact .int i
 |str y=>cases h;exact .str y
 |byt _=>cases h
 |flt _=>cases h
 |ty _=>cases h
 |ref a=>
  have h:(match H a with
   |some (.lst _)=>some "list"
   |some (.tup _)=>some "tuple"
   |some (.dK _)=>some "dict"
   |some (.dT _)=>some "dict"
   |some (.frz _ (.lst _))=>some "list"
   |_=>none)=some T:=h
  split at h
  .rename_i e;cases h;exact .lst e
  .rename_i e;cases h;exact .tup e
  .rename_i e;cases h;exact .dK e
  .rename_i e;cases h;exact .dT e
  .rename_i e;cases h;exact .frz e
  .cases h
noncomputable def isT (T c:String):Bool:=T == c || (T == "bool"&&c == "int")
noncomputable def tyKnown:List String:=["NoneType","bool","int","str","list","tuple","dict"]
theorem kitOne_known (K:W.Frag):∀T∈tyKnown,∀c∈["bool","int","str","list","tuple","dict"],W.kitOne K (.type T) (.type c)=some (isT T c):=by
 intro T hT c hc
 simp only[tyKnown,List.mem_cons,List.not_mem_nil,or_false]at hT hc
 rcases hT with rfl|rfl|rfl|rfl|rfl|rfl|rfl<;>rcases hc with rfl|rfl|rfl|rfl|rfl|rfl<;>rfl
noncomputable def rIsi:List V->Hp->VK->Prop:=fun xs H Q=>
 (∃x T c,xs=[x,.ty c]/\tyName H x=some T/\T∈tyKnown/\c∈["bool","int","str","list","tuple","dict"]/\Q (.bl (isT T c)) H)\/
 (∃(x:V) (T:String) (p:Addr) (cs:List String),xs=[x,.ref p]/\tyName H x=some T/\T∈tyKnown/\H p=some (.tup (cs.map V.ty))/\(∀c∈cs,c∈["bool","int","str","list","tuple","dict"])/\Q (.bl (cs.any (isT T))) H)
theorem vals_ty:∀{cs:List String} {us:List Value},Vals (cs.map V.ty) us->us=cs.map Value.type
 | [],us,h=>h.zero
 |c :: cs,_,.cons r t=>by
  have r':_=Value.type c:=r
  rw[r',vals_ty t]
  rfl
theorem kitAny_known (K:W.Frag) {T:String} (hT:T∈tyKnown):∀{cs:List String},(∀c∈cs,c∈["bool","int","str","list","tuple","dict"])->W.kitAny K (.type T) (cs.map Value.type)=some (cs.any (isT T))
 | [],_=>rfl
 |c :: cs,h=>by
  have h1:=kitOne_known K T hT c (h c List.mem_cons_self)
  have h2:=kitAny_known K hT (cs:=cs) fun c' hc'=>h c' (List.mem_cons_of_mem _ hc')
  show(match W.kitOne K (.type T) (.type c)with|some true=>some true|some false=>W.kitAny K (.type T) (cs.map Value.type)|none=>none)=_
  rw[h1]
  cases hb:isT T c
  .rw[List.any_cons,hb]
   exact h2
  .rw[List.any_cons,hb]
   rfl
theorem isinst_tup {pins:List (Addr×Obj)} {σ:St} {H:Hp} {s:Shared} {Q:Value->Shared->Prop} {E:Value->Shared->Prop} {b:Bool} {x:V} {u:Value} {T:String} {p:Addr} {dd:Option Addr} {its:List Value} {n:Nat} {sl:Array (Option Value)} (I:Inv X pins σ H s) (rx:RelV x u) (ty:tyName H x=some T)
  (hp:s.heap.get? p=some ⟨.type "tuple",dd,.seq its.toArray n,sl⟩) (e:W.kitAny X.K (.type T) its=some b) (h:∀tk,Q (.bool b) { s with toks:=tk }):
  wpAny (model X.prog X.w) X.A (call (.builtin "isinstance") [u,.ref p]) Q E s:=by
 cases x with
 |non=>cases ty;cases(show u=Value.none from rx);exact W.kia_tup W.kitx_none I.kIn True.intro hp e (fun z=>nomatch z) h
 |bl y=>cases ty;cases(show u=Value.bool y from rx);exact W.kia_tup W.kitx_bool I.kIn True.intro hp e (fun z=>nomatch z) h
 |int i=>cases ty;obtain⟨t,q⟩:=(show ∃t,u=Value.int i t from rx);cases q;exact W.kia_tup W.kitx_int I.kIn True.intro hp e (fun z=>nomatch z) h
 |str y=>cases ty;obtain⟨t,q⟩:=(show ∃t,u=Value.str y t from rx);cases q;exact W.kia_tup W.kitx_str I.kIn True.intro hp e (fun z=>nomatch z) h
 |byt _=>cases ty
 |flt _=>cases ty
 |ty _=>cases ty
 |ref a=>
  cases(show u=Value.ref a from rx)
  have ty:(match H a with
   |some (.lst _)=>some "list"
   |some (.tup _)=>some "tuple"
   |some (.dK _)=>some "dict"
   |some (.dT _)=>some "dict"
   |some (.frz _ (.lst _))=>some "list"
   |_=>none)=some T:=ty
  split at ty
  .rename_i xs ea
   cases ty
   obtain⟨_,_,n,_,h1⟩:=(show ObjOk X.prog X.w H s.heap a (.lst xs) from I.hok a _ ea)
   exact W.kia_tup W.kitx_list I.kIn ⟨_,h1,rfl⟩ hp e (fun z=>nomatch z) h
  .rename_i xs ea
   cases ty
   obtain⟨_,_,_,o,h1,h2,_⟩:=(show ObjOk X.prog X.w H s.heap a (.tup xs) from I.hok a _ ea)
   exact W.kia_tup W.kitx_tuple I.kIn ⟨o,h1,h2⟩ hp e (fun z=>nomatch z) h
  .rename_i kvs ea
   cases ty
   obtain⟨_,_,vs,_,o,es,ep,h1,h2,_⟩:=(show ObjOk X.prog X.w H s.heap a (.dK kvs) from I.hok a _ ea)
   exact W.kia_tup W.kitx_dict I.kIn ⟨o,h1,h2.1⟩ hp e (fun z=>nomatch z) h
  .rename_i kvs ea
   cases ty
   obtain⟨_,_,xs,_,o,es,ep,h1,h2,_⟩:=(show ObjOk X.prog X.w H s.heap a (.dT kvs) from I.hok a _ ea)
   exact W.kia_tup W.kitx_dict I.kIn ⟨o,h1,h2.1⟩ hp e (fun z=>nomatch z) h
  .rename_i ob xs ea
   cases ty
   obtain⟨_,_,_,n,_,h1⟩:=(show ObjOk X.prog X.w H s.heap a (.frz ob (.lst xs)) from I.hok a _ ea)
   exact W.kia_tup W.kitx_list I.kIn ⟨_,h1,rfl⟩ hp e (fun z=>nomatch z) h
  .cases ty
theorem call_isi:CallR X (.builtin "isinstance") rIsi:=by
 intro pins s σ H xs us Q I r h
 rcases h with⟨x,T,c,rfl,hT,hk,hc,q⟩|⟨x,T,p,cs,rfl,hT,hk,hp,hc,q⟩
 .obtain⟨u,w',rfl,r1,r2⟩:=vals2 r
  have r2:w'=Value.type c:=r2
  subst r2
  exact isinst_ok I r1 (tyName_of hT) (kitOne_known X.K T hk c hc) fun tk=>⟨.bl _,H,I.tok _,rfl,q⟩
 .obtain⟨u,w',rfl,r1,r2⟩:=vals2 r
  have r2:w'=Value.ref p:=r2
  subst r2
  obtain⟨_,its,rv,o,h1,h2,⟨n,h3⟩,_⟩:=(show ObjOk X.prog X.w H s.heap p (.tup (cs.map V.ty)) from I.hok p _ hp)
  have e:=vals_ty rv
  subst e
  obtain⟨oc,od,dat,osl⟩:=o
  have h2:oc=_:=h2
  have h3:dat=_:=h3
  subst h2 h3
  exact isinst_tup I r1 hT h1 (kitAny_known X.K hk hc) fun tk=>⟨.bl _,H,I.tok _,rfl,q⟩
noncomputable def rAll (K:W.Frag) (any:Bool):List V->Hp->VK->Prop:=fun xs H Q=>∃(p:Addr) (bs:List Bool),xs=[.ref p]/\SqL K H p (bs.map V.bl)/\Q (.bl (if any then bs.any id else bs.all id)) H
theorem bools_get:∀{bs:List Bool} {us:List Value} {i:Nat} {v:Value},Vals (bs.map V.bl) us->us[i]?=some v->∃b,bs[i]?=some b/\v=.bool b
 | [],us,i,v,h,e=>by rw[h.zero]at e;simp at e
 |b :: bs,_,0,v,.cons r t,e=>by
  have r:_=Value.bool b:=r
  simp at e
  exact⟨b,rfl,by rw[<- e];exact r⟩
 |b :: bs,_,i+1,v,.cons r t,e=>by
  obtain⟨b',h1,h2⟩:=bools_get (i:=i) t (by simpa using e)
  exact⟨b',by simpa using h1,h2⟩
theorem range_all (bs:List Bool):(List.range bs.length).all (fun i=>bs.getD i false)=bs.all id:=by
 rw[Bool.eq_iff_iff,List.all_eq_true,List.all_eq_true]
 constructor
 .intro h b hb
  obtain⟨i,hi,rfl⟩:=List.mem_iff_getElem.mp hb
  have:=h i (List.mem_range.mpr hi)
  simpa[List.getD_eq_getElem?_getD,hi]using this
 .intro h i hi
  have hi:=List.mem_range.mp hi
  have:=h bs[i] (List.getElem_mem hi)
  simpa[List.getD_eq_getElem?_getD,hi]using this
theorem call_allL (hc:X.calm=true):CallR X (.builtin "all") (rAll X.K false):=by
 intro pins s σ H xs us Q I r h
 obtain⟨p,bs,rfl,hs,q⟩:=h
 obtain⟨u,rfl,ru⟩:=vals1 r
 cases ru
 obtain⟨its,rv,pl,hz⟩:=I.list hs
 have hlen:its.toArray.size=bs.length:=by
  have:=rv.length
  rw[List.length_map]at this
  rw[List.size_toArray,this]
 refine call_all_walk (wpAny_pyIter_list pl.isList ?_)
 have hlt:p<s.heap.objs.size:=by obtain⟨o,n,e,_⟩:=pl;exact Heap.lt_size e
 refine⟨s.heap.objs.size,_,_,_,_,_,fun i=>bs.getD i false,rfl,Walks.list (A:=X.A.in1) (I.ok.hd hc) _ p (Nat.ne_of_lt hlt) its.toArray,⟨⟨_,Heap.get?_push_size _ rfl,rfl,rfl⟩,Heap.IsList.push pl.isList _⟩,?_,fun h' tk hk=>?_⟩
 .intro i v s' Q' E' hv hq
  obtain⟨b,hb,rfl⟩:=bools_get rv (i:=i) (by simpa using hv)
  refine wpAny_truthy_bool ?_
  have e:bs.getD i false=b:=by rw[List.getD_eq_getElem?_getD,hb];rfl
  have hq':Q' (bs.getD i false) s':=hq
  rw[e]at hq'
  exact hq'
 .rw[hlen,range_all]
  exact⟨.bl _,H,I.kept fun b o e=>hk b o (by simp;exact Nat.ne_of_lt (Heap.lt_size e)) (Heap.get?_push_of_some _ e),rfl,q⟩
noncomputable def rBest (K:W.Frag) (mx:Bool):List V->Hp->VK->Prop:=fun xs H Q=>∃(p:Addr) (ns:List Int),xs=[.ref p]/\SqL K H p (ns.map V.int)/\ns≠[]/\∀M,M∈ns->(∀a∈ns,if mx then a<=M else M<=a)->Q (.int M) H
theorem call_minL (hc:X.calm=true):CallR X (.builtin "min") (rBest X.K false):=by
 intro pins s σ H xs us Q I r h
 obtain⟨p,ns,rfl,hs,hne,q⟩:=h
 obtain⟨u,rfl,ru⟩:=vals1 r
 cases ru
 obtain⟨its,rv,pl,hz⟩:=I.list hs
 have hi:=intsAre_of rv
 obtain⟨xs,e⟩:=hi.allInts.items
 have hns:ns=xs.toList.map (·.1):=by
  rw[<- hi.numsOf,<- nums_intItems,<- e]
 have hsz:0<xs.size:=by
  have h3:=List.length_pos_iff.mpr hne
  rw[hns,List.length_map,Array.length_toList]at h3
  exact h3
 have hl:=pl.isList
 rw[e]at hl
 refine min_intList (I.ok.hd hc) hl hsz fun v h' tk hv hk=>?_
 obtain⟨t,rfl⟩:=intItems_at hv
 obtain⟨h1,h2⟩:=argBest_lt (numAt xs) (xs.size-1)
 refine⟨.int _,H,I.kept hk,⟨t,rfl⟩,q _ ?_ fun a ha=>?_⟩
 .rw[hns,numAt_eq];exact getD_mem (by rw[List.length_map,Array.length_toList];omega)
 .rw[hns]at ha
  obtain⟨j,hj,rfl⟩:=mem_getD ha
  rw[List.length_map,Array.length_toList]at hj
  rw[if_neg (by decide),<- numAt_eq];exact h2 j (by omega)
end
section
variable {X:Cx}
open PySem.SeqAt in
theorem eqAt_of {A:Around} {s:Shared} {x y:V} {u v:Value} (rx:RelV x u) (ry:RelV y v) (h:scal x y=true/\(∀b,x≠.byt b)\/x=y/\∃a,x=.ref a):EqAt A s u v (decide (x=y)):=by
 rcases h with⟨h,hb⟩|⟨rfl,a,rfl⟩
 .cases x with
  |non=>cases y with
   |non=>cases rx;cases ry;exact EqAt.same _
   |bl b=>cases rx;cases ry;exact EqAt.none_bool _
   |int b=>cases rx;obtain⟨t,rfl⟩:=ry;exact EqAt.none_int _ _
   |str b=>cases rx;obtain⟨t,rfl⟩:=ry;exact EqAt.none_str _ _
   |_=>cases h
  |bl a=>cases y with
   |non=>cases rx;cases ry;exact EqAt.bool_none _
   |bl b=>cases rx;cases ry;have:=EqAt.bool_bool (A:=A) (s:=s) a b;cases a<;>cases b<;>exact this
   |str b=>cases rx;obtain⟨t,rfl⟩:=ry;exact EqAt.bool_str _ _ _
   |_=>cases h
  |int a=>cases y with
   |non=>obtain⟨t,rfl⟩:=rx;cases ry;exact EqAt.int_none _ _
   |int b=>obtain⟨t,rfl⟩:=rx;obtain⟨t',rfl⟩:=ry;rw[dec_int];exact EqAt.int_int _ _ _ _
   |str b=>obtain⟨t,rfl⟩:=rx;obtain⟨t',rfl⟩:=ry;exact EqAt.int_str _ _ _ _
   |_=>cases h
  |str a=>cases y with
   |non=>obtain⟨t,rfl⟩:=rx;cases ry;exact EqAt.str_none _ _
   |bl b=>obtain⟨t,rfl⟩:=rx;cases ry;exact EqAt.str_bool _ _ _
   |int b=>obtain⟨t,rfl⟩:=rx;obtain⟨t',rfl⟩:=ry;exact EqAt.str_int _ _ _ _
   |str b=>
    obtain⟨t,rfl⟩:=rx
    obtain⟨t',rfl⟩:=ry
    have e:decide (V.str a=V.str b)=(a == b):=by
     by_cases hab:a=b
     .subst hab;simp
     .rw[decide_eq_false (by intro z;cases z;exact hab rfl)];simp[hab]
    rw[e]
    exact EqAt.str_str _ _ _ _
   |_=>cases h
  |byt b=>exact absurd rfl (hb b)
  |_=>cases y<;>cases h
 .cases rx
  cases ry
  rw[decide_eq_true rfl]
  exact EqAt.same _
def LEq (xs ys:List V):Prop:=∀(i:Nat) x y,xs[i]?=some x->ys[i]?=some y->scal x y=true/\(∀b,x≠.byt b)\/x=y/\∃a,x=.ref a
noncomputable def rEqL (K:W.Frag) (neg:Bool):V->V->Hp->VK->Prop:=fun x y H Q=>∃p q xs ys,x=.ref p/\y=.ref q/\SqL K H p xs/\SqL K H q ys/\(xs.length=ys.length->LEq xs ys)/\Q (.bl (if neg then !decide (xs=ys)else decide (xs=ys))) H
theorem all_eq {xs ys:List V} (h:xs.length=ys.length):(List.range xs.length).all (fun i=>decide (xs[i]?=ys[i]?))=decide (xs=ys):=by
 by_cases e:xs=ys
 .subst e
  simp
 .rw[decide_eq_false e,Bool.eq_false_iff]
  intro q
  rw[List.all_eq_true]at q
  apply e
  apply List.ext_getElem?
  intro i
  rcases Nat.lt_or_ge i xs.length with hi|hi
  .exact of_decide_eq_true (q i (List.mem_range.mpr hi))
  .rw[List.getElem?_eq_none_iff.mpr hi,List.getElem?_eq_none_iff.mpr (by omega)]
open PySem.SeqAt in
theorem op_eqL (hu:X.A.units<cLine):OpR X (compareOp .Eq) (rEqL X.K false):=by
 intro pins s σ H x y v u Q I rx ry h
 obtain⟨p,q,xs,ys,rfl,rfl,hp,hq,he,k⟩:=h
 cases rx
 cases ry
 obtain⟨its,r1,pl1,_⟩:=I.list hp
 obtain⟨its2,r2,pl2,_⟩:=I.list hq
 have l1:=r1.length
 have l2:=r2.length
 by_cases hl:xs.length=ys.length
 .refine eq_listAt (e:=fun i=>decide (xs[i]?=ys[i]?)) pl1.isList pl2.isList (by simp;omega) hu (fun j h1 h2=>?_) ?_
  .have j1:j<xs.length:=by simp at h1;omega
   have j2:j<ys.length:=by omega
   have g1:xs[j]?=some xs[j]:=List.getElem?_eq_getElem j1
   have g2:ys[j]?=some ys[j]:=List.getElem?_eq_getElem j2
   obtain⟨u1,e1,ru1⟩:=r1.get g1
   obtain⟨u2,e2,ru2⟩:=r2.get g2
   have f1:its.toArray[j]=u1:=by simp at h1 ⊢;rw[List.getElem?_eq_getElem h1]at e1;exact Option.some.inj e1
   have f2:its2.toArray[j]=u2:=by simp at h2 ⊢;rw[List.getElem?_eq_getElem h2]at e2;exact Option.some.inj e2
   rw[f1,f2,g1,g2]
   have e3:decide (some xs[j]=some ys[j])=decide (xs[j]=ys[j]):=by simp
   rw[e3]
   exact eqAt_of ru1 ru2 (he hl j _ _ g1 g2)
  .have e4:(List.range its.toArray.size).all (fun i=>decide (xs[i]?=ys[i]?))=decide (xs=ys):=by
    rw[List.size_toArray,<- l1];exact all_eq hl
   rw[e4]
   exact⟨.bl _,H,I,rfl,k⟩
 .refine eq_list_lengthsAt pl1.isList pl2.isList (by simp;omega) hu ?_
  rw[decide_eq_false (fun z=>hl (by rw[z]))]at k
  exact⟨.bl false,H,I,rfl,k⟩
open PySem.SeqAt in
theorem op_neL (hu:X.A.units<cLine):OpR X (compareOp .NotEq) (rEqL X.K true):=by
 intro pins s σ H x y v u Q I rx ry h
 obtain⟨p,q,xs,ys,rfl,rfl,hp,hq,he,k⟩:=h
 cases rx
 cases ry
 obtain⟨its,r1,pl1,_⟩:=I.list hp
 obtain⟨its2,r2,pl2,_⟩:=I.list hq
 have l1:=r1.length
 have l2:=r2.length
 obtain⟨⟨cls,dd,data,sl⟩,ho,hc,n,hd⟩:=pl1.isList
 obtain⟨⟨cls2,dd2,data2,sl2⟩,ho2,hc2,n2,hd2⟩:=pl2.isList
 simp only at hc hd hc2 hd2
 subst hc hd hc2 hd2
 by_cases hl:xs.length=ys.length
 .refine richCompare_meets_room (op:=.NotEq) ⟨_,ho,rfl⟩ ⟨_,ho2,rfl⟩ F.slot_list_ne F.entry_list_ne (F.args_list_ne_2 _ _) (list_neAt p q its.toArray its2.toArray n n2 dd dd2 sl sl2 (by simp;omega) (fun i=>decide (xs[i]?=ys[i]?))) ⟨ho,ho2,fun j h1 h2=>?_,?_⟩ hu
  .have j1:j<xs.length:=by simp at h1;omega
   have j2:j<ys.length:=by omega
   have g1:xs[j]?=some xs[j]:=List.getElem?_eq_getElem j1
   have g2:ys[j]?=some ys[j]:=List.getElem?_eq_getElem j2
   obtain⟨u1,e1,ru1⟩:=r1.get g1
   obtain⟨u2,e2,ru2⟩:=r2.get g2
   have f1:its.toArray[j]=u1:=by simp at h1 ⊢;rw[List.getElem?_eq_getElem h1]at e1;exact Option.some.inj e1
   have f2:its2.toArray[j]=u2:=by simp at h2 ⊢;rw[List.getElem?_eq_getElem h2]at e2;exact Option.some.inj e2
   rw[f1,f2,g1,g2]
   have e3:decide (some xs[j]=some ys[j])=decide (xs[j]=ys[j]):=by simp
   rw[e3]
   exact eqAt_of ru1 ru2 (he hl j _ _ g1 g2)
  .have e4:(List.range its.toArray.size).all (fun i=>decide (xs[i]?=ys[i]?))=decide (xs=ys):=by
    rw[List.size_toArray,<- l1];exact all_eq hl
   rw[e4]
   exact(show Value.bool (!decide (xs=ys))≠Value.notImplemented/\EP X pins σ Q (Value.bool (!decide (xs=ys))) s from⟨(fun x=>nomatch x),⟨.bl _,H,I,rfl,k⟩⟩)
 .refine richCompare_meets_room (op:=.NotEq) ⟨_,ho,rfl⟩ ⟨_,ho2,rfl⟩ F.slot_list_ne F.entry_list_ne (F.args_list_ne_2 _ _) (list_ne_lengthsAt p q its.toArray its2.toArray n n2 dd dd2 sl sl2 (by simp;omega)) ⟨ho,ho2,?_⟩ hu
  rw[decide_eq_false (fun z=>hl (by rw[z]))]at k
  exact(show Value.bool true≠Value.notImplemented/\EP X pins σ Q (Value.bool true) s from⟨(fun x=>nomatch x),⟨.bl true,H,I,rfl,k⟩⟩)
noncomputable def rgs (i:Int) (n:Nat):List V:=(List.range n).map fun(k:Nat)=>V.int (i+(k:Int))
noncomputable def rRng:List V->Hp->VK->Prop:=fun xs H Q=>∃i j:Int,(xs=[.int i,.int j]\/(i=0/\xs=[.int j]))/\∀p,H p=none->Q (.ref p) (upd H p (.rng i j))
theorem call_rng:CallR X (.type "range") rRng:=by
 intro pins s σ H xs us Q I rv h
 obtain⟨i,j,hx,q⟩:=h
 have hn:H s.heap.objs.size=none:=I.hok.fresh (Nat.le_refl _)
 rcases hx with rfl|⟨rfl,rfl⟩
 .cases rv with
  |cons r1 rv=>
   cases rv with
   |cons r2 rv=>
    cases rv
    obtain⟨t,rfl⟩:=r1
    obtain⟨u,rfl⟩:=r2
    exact call_range_2 ⟨.ref s.heap.objs.size,_,I.laid (t':=s.toks+1) (fun _ _ e=>Heap.get?_push_of_some _ e) (Nat.le_refl _) (o:=.rng i j) ⟨t,u,s.toks,Heap.get?_push_size _ rfl⟩,rfl,q _ hn⟩
 .cases rv with
  |cons r1 rv=>
   cases rv
   obtain⟨t,rfl⟩:=r1
   exact call_range_1 ⟨.ref s.heap.objs.size,_,I.laid (t':=s.toks+1+1) (fun _ _ e=>Heap.get?_push_of_some _ e) (Nat.le_refl _) (o:=.rng 0 j) ⟨s.toks,t,s.toks+1,Heap.get?_push_size _ rfl⟩,rfl,q _ hn⟩
noncomputable def rLrg:List V->Hp->VK->Prop:=fun xs H Q=>∃r i j,xs=[.ref r]/\H r=some (.rng i j)/\(-(2 ^ 62)<=i/\i<2 ^ 62/\-(2 ^ 62)<=j/\j<2 ^ 62)/\(j-i).toNat<=sizeLine/\∀p,H p=none->Q (.ref p) (upd H p (.lst (rgs i (j-i).toNat)))
theorem call_lrg (hc:X.calm=true):CallR X (.type "list") rLrg:=by
 intro pins s σ H xs us Q I rv h
 obtain⟨r,i,j,rfl,hr,⟨h1,h2,h3,h4⟩,hz,q⟩:=h
 cases rv with
 |cons r1 rv=>
  cases rv
  cases r1
  obtain⟨t,u,v,e⟩:=(show ObjOk X.prog X.w H s.heap r (.rng i j) from I.hok r _ hr)
  refine call_list_range (n:=(j-i).toNat) (I.ok.hd hc) e (small_one h1 h2 h3 h4) (by rw[rangeSize_one];split<;>omega) hz fun h' tk' acc' c' hk hS hit=>?_
  obtain⟨hsz,hv⟩:=hit
  have hn:H s.heap.objs.size=none:=I.hok.fresh (Nat.le_refl _)
  have key:∀(n:Nat) (l:List Value) (f:Nat->Int),l.length=n->(∀k v,l[k]?=some v->∃t,v=Value.int (f k) t)->Vals ((List.range n).map fun k=>V.int (f k)) l:=by
   intro n
   induction n with
   |zero=>intro l f hl hv;have:l=[]:=List.length_eq_zero_iff.mp hl;subst this;exact .nil
   |succ n ih=>
    intro l f hl hv
    cases l with
    |nil=>cases hl
    |cons x r=>
     rw[List.range_succ_eq_map,List.map_cons,List.map_map]
     refine .cons (hv 0 x rfl) ?_
     exact ih r (fun k=>f (k+1)) (by simpa using hl) fun k v hk=>hv (k+1) v (by simpa using hk)
  refine⟨.ref s.heap.objs.size,_,I.laid (t':=tk') hk (Nat.le_refl _) (o:=.lst (rgs i (j-i).toNat)) ⟨by unfold rgs;rw[List.length_map,List.length_range];exact hz,acc'.toList,c',?_,hS⟩,rfl,q _ hn⟩
  refine key _ _ (fun k=>i+(k:Int)) (by rw[Array.length_toList];exact hsz) fun k v hk=>?_
  obtain⟨t,e⟩:=hv k v (by simpa using hk)
  exact⟨t,by rw[e];simp⟩
end
section
variable {X:Cx}
theorem op_mulW:OpR X (binaryOp .Mult) (rI IntMulOk fun i j=>.int (i*j)):=opI fun _ _ _ _ _ _ _ hc q=>mul_int q hc
noncomputable def isPl:V->Bool
 | .ty _=>false
 | .byt _=>false
 | .flt _=>false
 |_=>true
noncomputable def rIsB (neg:Bool):R2:=fun x y H Q=>∃b,y=.bl b/\isPl x=true/\Q (.bl (if neg then !decide (x=.bl b)else decide (x=.bl b))) H
theorem is_eq {x:V} {v:Value} {b:Bool} (r:RelV x v) (h:isPl x=true):plainIs v (.bool b)=true/\(v == Value.bool b)=decide (x=.bl b):=by
 cases x with
 |non=>cases r;exact⟨rfl,rfl⟩
 |bl a=>cases r;refine⟨rfl,?_⟩;cases a<;>cases b<;>rfl
 |int i=>obtain⟨t,rfl⟩:=r;exact⟨rfl,rfl⟩
 |str i=>obtain⟨t,rfl⟩:=r;exact⟨rfl,rfl⟩
 |ref a=>cases r;exact⟨rfl,rfl⟩
 |_=>cases h
theorem op_isB:OpR X (compareOp .Is) (rIsB false):=by
 intro pins s σ H x y v u Q I rx ry h
 obtain⟨b,rfl,hp,q⟩:=h
 cases ry
 obtain⟨h1,h2⟩:=is_eq (b:=b) rx hp
 exact wpAny_is_plain h1 ⟨.bl _,H,I,by rw[h2];rfl,q⟩
theorem op_isNotB:OpR X (compareOp .IsNot) (rIsB true):=by
 intro pins s σ H x y v u Q I rx ry h
 obtain⟨b,rfl,hp,q⟩:=h
 cases ry
 obtain⟨h1,h2⟩:=is_eq (b:=b) rx hp
 exact wpAny_isNot_plain h1 ⟨.bl _,H,I,by rw[h2];rfl,q⟩
theorem op_fdivW:OpR X (binaryOp .FloorDiv) (rI (fun _ j=>0<j/\j.natAbs.log2<9000) fun i j=>.int (i / j)):=opI fun i j _ _ _ _ _ hc q=>by
 refine floordiv_int (by omega) ?_ (.inl (PyProof.noPylong_of_log2 hc.2))
 rw[Int.fdiv_eq_ediv_of_nonneg i (by omega)]
 exact q
end
section
variable {κ:Type} [DecidableEq κ]
noncomputable def valV (kvs:List (κ×V)) (k:κ):Option V:=(kvs.find? fun kv=>decide (kv.1=k)).map (·.2)
noncomputable def putK (kvs:List (κ×V)) (k:κ) (v:V):List (κ×V):=
 if(kvs.any fun kv=>decide (kv.1=k))=true then kvs.map (fun kv=>if kv.1=k then(kv.1,v)else kv)else kvs++[(k,v)]
theorem valV_pos {p:κ×V} {r:List (κ×V)} {k:κ} (e:p.1=k):valV (p :: r) k=some p.2:=by simp[valV,List.find?_cons,e]
theorem valV_neg {p:κ×V} {r:List (κ×V)} {k:κ} (e:¬p.1=k):valV (p :: r) k=valV r k:=by simp[valV,List.find?_cons,e]
theorem valV_any (k:κ):∀kvs:List (κ×V),(kvs.any fun kv=>decide (kv.1=k))=(valV kvs k).isSome
 | []=>rfl
 |p :: r=>by
  rw[List.any_cons]
  by_cases e:p.1=k
  .simp only[valV_pos e,decide_eq_true e,Bool.true_or,Option.isSome_some]
  .rw[valV_neg e,decide_eq_false e,Bool.false_or];exact valV_any k r
theorem valV_snoc (k j:κ) (y:V):∀kvs:List (κ×V),valV kvs k=none->valV (kvs++[(k,y)]) j=if j=k then some y else valV kvs j
 | [],_=>by
  by_cases e:k=j
  .rw[if_pos e.symm];exact valV_pos (p:=(k,y)) e
  .rw[if_neg (fun z=>e z.symm)];exact valV_neg (p:=(k,y)) e
 |p :: r,hn=>by
  rw[List.cons_append]
  have hk:¬p.1=k:=fun z=>by rw[valV_pos z]at hn;cases hn
  rw[valV_neg hk]at hn
  have ih:=valV_snoc k j y r hn
  by_cases e:p.1=j
  .rw[valV_pos e,valV_pos e,if_neg (fun z=>hk (e.trans z))]
  .rw[valV_neg e,valV_neg e,ih]
theorem length_putK (kvs:List (κ×V)) (k:κ) (v:V):(putK kvs k v).length<=kvs.length+1:=by
 unfold putK
 split
 .rw[List.length_map];omega
 .rw[List.length_append,List.length_cons,List.length_nil];omega
theorem RelO.isSome_eq {o:Option V} {u:Option Value} (r:RelO o u):o.isSome=u.isSome:=by
 cases o with
 |none=>cases u with
  |none=>rfl
  |some _=>exact(show False from r).elim
 |some _=>cases u with
  |none=>exact(show False from r).elim
  |some _=>rfl
theorem RelO.getD {o:Option V} {u:Option Value} {d:V} {d':Value} (r:RelO o u) (rd:RelV d d'):RelV (o.getD d) (u.getD d'):=by
 cases o with
 |none=>cases u with
  |none=>exact rd
  |some _=>exact(show False from r).elim
 |some _=>cases u with
  |none=>exact(show False from r).elim
  |some _=>exact r
theorem KV.val {kvs:List (κ×V)} {vs:List (κ×Value)} (r:KV kvs vs) (k:κ):RelO (valV kvs k) (valueAt vs k):=by
 unfold KV at r
 induction r with
 |nil=>exact True.intro
 | @cons p q ps qs h t ih=>
  obtain⟨h1,h2⟩:=h
  by_cases e:p.1=k
  .have e':q.1=k:=h1.symm.trans e
   have b:valueAt (q :: qs) k=some q.2:=by simp[valueAt,List.find?_cons,e']
   rw[valV_pos e,b];exact h2
  .have e':¬q.1=k:=fun z=>e (h1.trans z)
   have b:valueAt (q :: qs) k=valueAt qs k:=by simp[valueAt,List.find?_cons,e']
   rw[valV_neg e,b];exact ih
theorem KV.any {kvs:List (κ×V)} {vs:List (κ×Value)} (r:KV kvs vs) (k:κ):(kvs.any fun kv=>decide (kv.1=k))=vs.any fun kv=>decide (kv.1=k):=by
 unfold KV at r
 induction r with
 |nil=>rfl
 |cons h t ih=>rw[List.any_cons,List.any_cons,ih,h.1]
theorem KV.repl {kvs:List (κ×V)} {vs:List (κ×Value)} (r:KV kvs vs) (k:κ) {y:V} {u:Value} (ry:RelV y u):
  KV (kvs.map fun kv=>if kv.1=k then(kv.1,y)else kv) (vs.map fun kv=>if kv.1=k then(kv.1,u)else kv):=by
 unfold KV at r ⊢
 induction r with
 |nil=>exact .nil
 | @cons p q ps qs h t ih=>
  rw[List.map_cons,List.map_cons]
  refine .cons ?_ ih
  obtain⟨h1,h2⟩:=h
  by_cases e:p.1=k
  .rw[if_pos e,if_pos (h1.symm.trans e)];exact⟨h1,ry⟩
  .rw[if_neg e,if_neg (fun z=>e (h1.trans z))];exact⟨h1,h2⟩
theorem KV.put {kvs:List (κ×V)} {vs:List (κ×Value)} (r:KV kvs vs) (k:κ) {y:V} {u:Value} (ry:RelV y u):KV (putK kvs k y) (stored vs k u):=by
 unfold putK stored
 rw[r.any k]
 by_cases e:(vs.any fun kv=>decide (kv.1=k))=true
 .rw[if_pos e,if_pos e];exact r.repl k ry
 .rw[if_neg e,if_neg e];exact Paired.snoc r ⟨rfl,ry⟩
theorem KV.keys {kvs:List (κ×V)} {vs:List (κ×Value)} (r:KV kvs vs):kvs.map (·.1)=vs.map (·.1):=by
 unfold KV at r
 induction r with
 |nil=>rfl
 |cons h t ih=>rw[List.map_cons,List.map_cons,ih,h.1]
theorem KV.length {kvs:List (κ×V)} {vs:List (κ×Value)} (r:KV kvs vs):kvs.length=vs.length:=Paired.length r
end
theorem kV_is {P:Program} {w:World} {k:Key} {u:Value} (r:RelV (kV k) u):(mixKind P w).is k u=true:=by
 cases k with
 |inl i=>obtain⟨t,e⟩:=(show ∃t,u=Value.int i t from r);subst e;exact mixKind_int P w i t
 |inr x=>obtain⟨t,e⟩:=(show ∃t,u=Value.str x t from r);subst e;exact mixKind_str P w x t
 |non=>obtain rfl:u=Value.none:=r;rfl
theorem items_are {P:Program} {w:World}:∀{ks:List Key} {us:List Value},Vals (ks.map kV) us->ItemsAre (mixKind P w) ks us
 | [],_,r=>by rw[List.map_nil]at r;cases r;exact .nil
 |k :: ks,_,r=>by
  rw[List.map_cons]at r
  cases r with
  |cons h t=>exact .cons (kV_is h) (items_are t)
noncomputable abbrev KT (H:Hp):List (List Key×V)->List (List Key×Addr×Value)->Prop:=Paired fun p q=>p.1=q.1/\H q.2.1=some (.tup (p.1.map kV))/\RelV p.2 q.2.2
theorem KT.val {H:Hp} {kvs:List (List Key×V)} {xs:List (List Key×Addr×Value)} (r:KT H kvs xs) (k:List Key):RelO (valV kvs k) ((atKey xs k).map (·.2)):=by
 induction r with
 |nil=>exact True.intro
 | @cons p q ps qs h t ih=>
  obtain⟨h1,_,h2⟩:=h
  by_cases e:p.1=k
  .have e':q.1=k:=h1.symm.trans e
   have b:atKey (q :: qs) k=some q.2:=by simp[atKey,List.find?_cons,e']
   rw[valV_pos e,b];exact h2
  .have e':¬q.1=k:=fun z=>e (h1.trans z)
   have b:atKey (q :: qs) k=atKey qs k:=by simp[atKey,List.find?_cons,e']
   rw[valV_neg e,b];exact ih
theorem KT.repl {H:Hp} {kvs:List (List Key×V)} {xs:List (List Key×Addr×Value)} (r:KT H kvs xs) (k:List Key) {y:V} {u:Value} (ry:RelV y u):
  KT H (kvs.map fun kv=>if kv.1=k then(kv.1,y)else kv) (xs.map (putAt k u)):=by
 induction r with
 |nil=>exact .nil
 | @cons p q ps qs h t ih=>
  rw[List.map_cons,List.map_cons]
  refine .cons ?_ ih
  obtain⟨h1,h2,h3⟩:=h
  unfold putAt
  by_cases e:p.1=k
  .rw[if_pos e,if_pos (h1.symm.trans e)];exact⟨h1,h2,ry⟩
  .rw[if_neg e,if_neg (fun z=>e (h1.trans z))];exact⟨h1,h2,h3⟩
theorem KT.put {H:Hp} {kvs:List (List Key×V)} {xs:List (List Key×Addr×Value)} (r:KT H kvs xs) (k:List Key) {b:Addr} {y:V} {u:Value} (hb:H b=some (.tup (k.map kV))) (ry:RelV y u):
  KT H (putK kvs k y) (storedH xs k b u):=by
 have e:(kvs.any fun kv=>decide (kv.1=k))=(atKey xs k).isSome:=by
  rw[valV_any,(r.val k).isSome_eq,Option.isSome_map]
 unfold putK storedH
 rw[e]
 by_cases q:(atKey xs k).isSome=true
 .rw[if_pos q,if_pos q];exact r.repl k ry
 .rw[if_neg q,if_neg q];exact Paired.snoc r ⟨rfl,hb,ry⟩
theorem KT.keeps {H H':Hp} {kvs:List (List Key×V)} {xs:List (List Key×Addr×Value)} (r:KT H kvs xs) (ht:∀b ys,H b=some (.tup ys)->H' b=some (.tup ys)):KT H' kvs xs:=
 Paired.mapP r fun _ _ z=>⟨z.1,ht _ _ z.2.1,z.2.2⟩
section
variable {P:Program} {w:World} {H:Hp} {h:Heap} {a:Addr}
theorem rd_of {u:HO} (ok:HOk P w H h) (e:Rd H a u):ObjOk P w H h a u:=e.ok ok
theorem dk_rd {kvs:List (Key×V)} (ok:HOk P w H h) (e:Rd H a (.dK kvs)):kvs.length<=sizeLine/\(a == sysModules)=false/\∃vs,KV kvs vs/\h.DictOf (mixKind P w) a vs:=
 show ObjOk P w H h a (.dK kvs) from rd_of ok e
theorem dk_of {kvs:List (Key×V)} (ok:HOk P w H h) (e:H a=some (.dK kvs)):kvs.length<=sizeLine/\(a == sysModules)=false/\∃vs,KV kvs vs/\h.DictOf (mixKind P w) a vs:=dk_rd ok (.inl e)
theorem key_of {ks:List Key} (ok:HOk P w H h) (e:H a=some (.tup (ks.map kV))):(tupleKind (mixKind P w)).is h ks a:=by
 obtain⟨_,its,r,o,h1,h2,⟨n,h3⟩,_⟩:=(show ObjOk P w H h a (.tup (ks.map kV)) from ok a _ e)
 exact⟨o,its.toArray,n,h1,h2,h3,by simpa using items_are r⟩
theorem dt_rd {kvs:List (List Key×V)} (ok:HOk P w H h) (e:Rd H a (.dT kvs)):kvs.length<=sizeLine/\(a == sysModules)=false/\
  ∃xs,KT H kvs xs/\h.DictOfH (tupleKind (mixKind P w)) a xs:=by
 obtain⟨z,y,xs,r,o,es,ep,h1,h2,h3,h4,h5⟩:=(show ObjOk P w H h a (.dT kvs) from rd_of ok e)
 refine⟨z,y,xs,r,o,es,ep,h1,h2,h3,h4,fun x hx=>?_,h5⟩
 have all:∀{l:List (List Key×V)} {m:List (List Key×Addr×Value)},KT H l m->∀x∈m,(tupleKind (mixKind P w)).is h x.1 x.2.1:=by
  intro l m q
  induction q with
  |nil=>intro x hx;exact nomatch hx
  | @cons p q ps qs hq t ih=>
   intro x hx
   rcases List.mem_cons.mp hx with e|hx
   .subst e
    exact key_of ok (by rw[<- hq.1];exact hq.2.1)
   .exact ih x hx
 exact all r x hx
theorem dt_of {kvs:List (List Key×V)} (ok:HOk P w H h) (e:H a=some (.dT kvs)):kvs.length<=sizeLine/\(a == sysModules)=false/\
  ∃xs,KT H kvs xs/\h.DictOfH (tupleKind (mixKind P w)) a xs:=dt_rd ok (.inl e)
end
def DGet (H:Hp) (a:Addr) (y:V) (r:Option V):Prop:=
 (∃kvs k,Rd H a (.dK kvs)/\y=kV k/\r=valV kvs k)\/∃kvs k b,Rd H a (.dT kvs)/\y=.ref b/\H b=some (.tup (k.map kV))/\r=valV kvs k
def DPut (H:Hp) (a:Addr) (y v:V) (H':Hp):Prop:=
 (∃kvs k,H a=some (.dK kvs)/\y=kV k/\kvs.length<sizeLine/\H'=upd H a (.dK (putK kvs k v)))\/
 ∃kvs k b,H a=some (.dT kvs)/\y=.ref b/\H b=some (.tup (k.map kV))/\kvs.length<sizeLine/\H'=upd H a (.dT (putK kvs k v))
section
variable {X:Cx} {pins:List (Addr×Obj)} {σ:St} {H:Hp} {s:Shared} {a:Addr} {y v:V} {u r:Value} {o:Option V} {A:Around} {E:Value->Shared->Prop}
theorem Inv.big (I:Inv X pins σ H s):sysModules<s.heap.objs.size:=by
 have h:mainGlobals<s.heap.objs.size:=(I.mod.glob.keeps I.bk).lt
 exact Nat.lt_trans (by decide) h
theorem d_getItem {Q:Value->Shared->Prop} (hu:A.units+1<cLine) (I:Inv X pins σ H s) (g:DGet H a y (some v)) (ry:RelV y u) (h:∀w' s',Inv X pins σ H s'->RelV v w'->Q w' s'):
  wpAny (model X.prog X.w) A (getItem (.ref a) u) Q E s:=by
 rcases g with⟨kvs,k,e,ey,l⟩|⟨kvs,k,b,e,ey,eb,l⟩
 .subst ey
  obtain⟨z,hd,vs,rel,dd⟩:=dk_rd I.hok e
  obtain⟨w',hw,rw'⟩:=RelO.some_of (v:=v) (o:=valueAt vs k) (by rw[l];exact rel.val k)
  exact wpAny_getItem_of (kV_is ry) dd.mapOf hw (h w' _ (I.tok _) rw')
 .subst ey
  cases(show u=Value.ref b from ry)
  obtain⟨z,hd,xs,rel,dd⟩:=dt_rd I.hok e
  obtain⟨w',hw,rw'⟩:=RelO.some_of (v:=v) (o:=(atKey xs k).map (·.2)) (by rw[l];exact rel.val k)
  obtain⟨p,hp,hp2⟩:=Option.map_eq_some_iff.mp hw
  refine wpAny_getItem_heap (tupleKind_room_in1 hu) (key_of I.hok eb) dd hp ?_
  rw[hp2]
  exact h w' _ (I.tok _) rw'
theorem d_write {h':Heap} {t':Nat} {ob:HO} (I:Inv X pins σ H s) (mu:Mut (H a)) (hs:Heap.SameBut a s.heap h') (he:∃q,h'.get? a=some q) (new:ObjOk X.prog X.w (upd H a ob) h' a ob):
  Inv X pins σ (upd H a ob) { s with heap:=h',toks:=t' }:=
 I.write (x:=a) (e:=a) mu (.inl rfl) (fun b q hb z=>(hs.2 b hb).trans z) he new
theorem dk_new {P:Program} {w:World} {H':Hp} {h':Heap} {kvs:List (Key×V)} {vs:List (Key×Value)} (z:kvs.length<=sizeLine) (hd:(a == sysModules)=false) (rel:KV kvs vs) (dd:h'.DictOf (mixKind P w) a vs):
  ObjOk P w H' h' a (.dK kvs):=⟨z,hd,vs,rel,dd⟩
theorem d_setItem {H':Hp} {Q:Unit->Shared->Prop} (hu:A.units+1<cLine) (I:Inv X pins σ H s) (g:DPut H a y v H') (ry:RelV y u) (rv:RelV v r) (h:∀s',Inv X pins σ H' s'->Q () s'):
  wpAny (model X.prog X.w) A (setItem (.ref a) u r) Q E s:=by
 rcases g with⟨kvs,k,e,ey,l,eH⟩|⟨kvs,k,b,e,ey,eb,l,eH⟩
 .subst ey eH
  obtain⟨z,hd,vs,rel,dd⟩:=dk_of I.hok e
  have hz:vs.length<=sizeLine:=by rw[<- rel.length];exact z
  have hl:(putK kvs k v).length<=sizeLine:=by have:=length_putK kvs k v;omega
  refine wpAny_setItem_pairs (hsz:=hz) (kV_is ry) dd fun h' dd' hs=>h _ ?_
  have he:∃q,h'.get? a=some q:=let⟨q,_,_,hq,_⟩:=dd';⟨q,hq⟩
  exact d_write I (by rw[e];exact True.intro) hs he (dk_new hl hd (rel.put k rv) dd')
 .subst ey eH
  cases(show u=Value.ref b from ry)
  obtain⟨z,hd,xs,rel,dd⟩:=dt_of I.hok e
  have hz:xs.length<=sizeLine:=by rw[<- Paired.length rel];exact z
  have hl:(putK kvs k v).length<=sizeLine:=by have:=length_putK kvs k v;omega
  refine wpAny_setItem_heap (hsz:=hz) (tupleKind_room_in1 hu) (key_of I.hok eb) dd fun h' dd' hs=>h _ ?_
  obtain⟨q,es,ep,hq,h2,h3,h4,_,h5⟩:=dd'
  refine d_write I (by rw[e];exact True.intro) hs ⟨q,hq⟩ ⟨hl,hd,_,(rel.put k eb rv).keeps fun c ys ec=>?_,q,es,ep,hq,h2,h3,h4,h5⟩
  rw[upd_ne (ne_of ec e (fun z=>nomatch z))]
  exact ec
end
section
variable {X:Cx} {pins:List (Addr×Obj)} {σ:St} {H:Hp} {s:Shared} {a:Addr} {kvs:List (Key×V)} {k:Key} {u:Value} {A:Around} {E:Value->Shared->Prop}
end
def NoSl (i:Expr):Prop:=∀ov iv,subscripted i false ov iv=operate [ov,iv] (getItem ov iv)
theorem subD_of {prog:Program} {w:World} {A:Around} {E:Value->Shared->Prop} {s:Shared} {env:Env} {value slice:Expr} {pos:Pos} {T id:String} {Q:Value->Shared->Prop}
  (hl:typeLookup (.type T) "__getitem__"=pure (some (.builtin id))) (hs:NoSl slice)
  (h:wpAny (model prog w) A (eval value env) (fun o s₁=>wpAny (model prog w) A (eval slice env) (fun i s₂=>s₂.TypeIs o T/\wpAny (model prog w) A (getItem o i) Q E s₂) E s₁) E s):
  wpAny (model prog w) A (eval (.Subscript value slice pos) env) Q E s:=by
 refine Subscript_ (wpAny_mono h (fun o s₁ h₁=>wpAny_mono h₁ (fun i s₂ h₂=>?_) fun _ _ x=>x) fun _ _ x=>x)
 obtain⟨hT,h₂⟩:=h₂
 unfold subscriptTail
 refine wpAny_bind ?_
 rw[getitemInPython_of_ne hT.not_modules]
 refine wpAny_bind (wpAny_specialOf hT hl ?_)
 have fin:wpAny (model prog w) A (subscripted slice false o i) (fun r s₃=>wpAny (model prog w) A (letTemporaryGo value o r >>= fun _=>pure r) Q E s₃) E s₂:=by
  rw[hs o i]
  exact wpAny_operating (wpAny_mono h₂ (fun r s₃ h₃=>wpAny_bind (wpAny_letTemporaryGo (wpAny_pure h₃))) fun _ _ x=>x)
 first
  |exact wpAny_pure (wpAny_bind fin)
  |exact wpAny_bind (wpAny_pure (wpAny_bind fin))
  |exact wpAny_bind fin
theorem dict_typeIs {X:Cx} {pins:List (Addr×Obj)} {σ:St} {H:Hp} {s:Shared} {a:Addr} {y:V} {o:Option V} (I:Inv X pins σ H s) (g:DGet H a y o):s.TypeIs (.ref a) "dict":=by
 rcases g with⟨kvs,k,e,_,_⟩|⟨kvs,k,b,e,_,_,_⟩
 .obtain⟨_,_,vs,_,dd⟩:=dk_rd I.hok e
  exact dd.typeIs
 .obtain⟨_,_,xs,_,dd⟩:=dt_rd I.hok e
  exact dd.typeIs
noncomputable def tDGet (td ty:TE):TE:=fun σ H Q=>td σ H fun x H1=>ty σ H1 fun y H2=>∃a v,x=.ref a/\DGet H2 a y (some v)/\Q v H2
noncomputable def sDPut (td ty tv:TE):TS:=fun D σ H=>tv σ H fun v H1=>td σ H1 fun x H2=>ty σ H2 fun y H3=>∃a H4,x=.ref a/\DPut H3 a y v H4/\D.nx σ H4
section
variable {X:Cx} {o i e value:Expr} {pos pos' tpos:Pos} {td ty tv:TE}
theorem pe_dget (hu:X.A.units+1<cLine) (ho:PE X o td) (hi:PE X i ty) (hs:NoSl i):PE X (.Subscript o i pos) (tDGet td ty):=by
 intro pins s σ H Q I h
 refine subD_of PySem.F.slot_dict_getitem.lookup hs (thn (ho pins s σ H _ I h) fun u s1 ⟨x,H1,I1,rx,q1⟩=>thn (hi pins s1 σ H1 _ I1 q1) fun iv s2 ⟨y,H2,I2,ry,a,v,ex,g,q2⟩=>?_)
 subst ex
 obtain rfl:u=Value.ref a:=rx
 exact⟨dict_typeIs I2 g,d_getItem hu I2 g ry fun w' s3 I3 rw'=>⟨v,H2,I3,rw',q2⟩⟩
theorem ps_dput (hu:X.A.units+1<cLine) (ho:PE X o td) (hi:PE X i ty) (hv:PE X value tv) (hs:swapsWith value (some (.Subscript o i pos')) pos.line X.env=pure false):
  PS X (.Assign [.Subscript o i pos'] value pos) (sDPut td ty tv):=by
 intro pins s σ H D I h
 refine wpAny_Assign_Subscript (thn (hv pins s σ H _ I h) fun r s1 ⟨v,H1,I1,rv,q1⟩=>thn (ho pins s1 σ H1 _ I1 q1) fun u s2 ⟨x,H2,I2,rx,q2⟩=>thn (hi pins s2 σ H2 _ I2 q2) fun iv s3 ⟨y,H3,I3,ry,a,H4,ex,g,q3⟩=>?_) hs
 subst ex
 obtain rfl:u=Value.ref a:=rx
 exact d_setItem hu I3 g ry rv fun s4 I4=>⟨σ,H4,I4,q3⟩
end
theorem dk_empty {P:Program} {w:World} {H:Hp} (h:Heap) (hb:sysModules<h.objs.size):ObjOk P w H (h.push { cls:=.type "dict",data:=.dict #[] }) h.objs.size (.dK []):=
 ⟨Nat.zero_le _,beq_eq_false_iff_ne.mpr (Ne.symm (Nat.ne_of_lt hb)),[],.nil,Heap.DictOf.new h⟩
noncomputable def tDNewK:TE:=fun _ H Q=>∀p,H p=none->Q (.ref p) (upd H p (.dK []))
section
variable {X:Cx} {pos:Pos}
theorem pe_dnewK:PE X (.Dict [] [] pos) tDNewK:=fun pins s σ H Q I h=>
 wpAny_Dict_empty ⟨.ref s.heap.objs.size,_,I.laid (a:=s.heap.objs.size) (o:=.dK []) (t':=s.toks) (fun _ _ q=>Heap.get?_push_of_some _ q) (Nat.le_refl _) (dk_empty s.heap I.big),rfl,h _ (I.hok.fresh (Nat.le_refl _))⟩
end
noncomputable def tPairs:List (TE×TE)->St->Hp->(List (V×V)->Hp->Prop)->Prop
 | [],_,H,Q=>Q [] H
 |(tk,tv) :: r,σ,H,Q=>tk σ H fun x H1=>tv σ H1 fun y H2=>tPairs r σ H2 fun ps H3=>Q ((x,y) :: ps) H3
noncomputable abbrev VV:List (V×V)->List (Value×Value)->Prop:=Paired fun p q=>RelV p.1 q.1/\RelV p.2 q.2
def PPs (X:Cx) (pos:Pos) (keys:List (Option Expr)) (values:List Expr) (trs:List (TE×TE)):Prop:=
 ∀(pins:List (Addr×Obj)) (s:Shared) (σ:St) (H:Hp) (Q:List (V×V)->Hp->Prop),Inv X pins σ H s->tPairs trs σ H Q->
  wpAny (model X.prog X.w) X.A (evalPairs (pairTrees keys values X.env pos)) (fun vs s'=>∃ps H',Inv X pins σ H' s'/\VV ps vs/\Q ps H') X.xe s
theorem pps_nil {X:Cx} {pos:Pos}:PPs X pos [] [] []:=fun pins s σ H Q I h=>pairTrees_nil_walk ⟨[],H,I,.nil,h⟩
theorem pps_cons {X:Cx} {pos:Pos} {k v:Expr} {ks:List (Option Expr)} {vs:List Expr} {tk tv:TE} {trs:List (TE×TE)} (hk:PE X k tk) (hv:PE X v tv) (hr:PPs X pos ks vs trs):
  PPs X pos (some k :: ks) (v :: vs) ((tk,tv) :: trs):=fun pins s σ H Q I h=>
 pairTrees_cons_walk (thn (hk pins s σ H _ I h) fun u s1 ⟨x,H1,I1,rx,q1⟩=>thn (hv pins s1 σ H1 _ I1 q1) fun w2 s2 ⟨y,H2,I2,ry,q2⟩=>
  thn (hr pins s2 σ H2 _ I2 q2) fun ws s3 ⟨ps,H3,I3,rel,q3⟩=>⟨(x,y) :: ps,H3,I3,.cons ⟨rx,ry⟩ rel,q3⟩)
noncomputable def mergeK (kvs more:List (Key×V)):List (Key×V):=more.foldl (fun acc kv=>putK acc kv.1 kv.2) kvs
theorem KV.merge:∀{more:List (Key×V)} {rs:List (Key×Value)} {kvs:List (Key×V)} {vs:List (Key×Value)},KV more rs->KV kvs vs->KV (mergeK kvs more) (merged vs rs):=by
 intro more rs kvs vs r
 unfold KV at r
 induction r generalizing kvs vs with
 |nil=>intro q;exact q
 | @cons p q ps qs h t ih=>
  intro r0
  have e:KV (putK kvs p.1 p.2) (stored vs q.1 q.2):=by
   have:=r0.put p.1 h.2
   rw[<- h.1];exact this
  exact ih e
theorem length_mergeK:∀(more kvs:List (Key×V)),(mergeK kvs more).length<=kvs.length+more.length
 | [],kvs=>by show kvs.length<=kvs.length+0;omega
 |p :: r,kvs=>by
  have h1:=length_mergeK r (putK kvs p.1 p.2)
  have h2:=length_putK kvs p.1 p.2
  show(mergeK (putK kvs p.1 p.2) r).length<=_
  rw[List.length_cons];omega
theorem carries_of {P:Program} {w:World}:∀{kvs:List (Key×V)} {ws:List (Value×Value)},VV (kvs.map fun kv=>(kV kv.1,kv.2)) ws->∃rs,Carries (mixKind P w) ws rs/\KV kvs rs
 | [],_,r=>by rw[List.map_nil]at r;cases r;exact⟨[],True.intro,.nil⟩
 |p :: kvs,_,r=>by
  rw[List.map_cons]at r
  cases r with
  | @cons a b as bs h t=>
   obtain⟨rs,c,q⟩:=carries_of (P:=P) (w:=w) t
   obtain⟨b1,b2⟩:=b
   exact⟨(p.1,b2) :: rs,⟨kV_is h.1,rfl,c⟩,.cons ⟨rfl,h.2⟩ q⟩
noncomputable def tDisp (trs:List (TE×TE)):TE:=fun σ H Q=>∀p,H p=none->tPairs trs σ (upd H p (.dK [])) fun ps H2=>H2 p=some (.dK [])/\∃kvs:List (Key×V),ps=kvs.map (fun kv=>(kV kv.1,kv.2))/\kvs.length<=15/\Q (.ref p) (upd H2 p (.dK (mergeK [] kvs)))
theorem pe_disp {X:Cx} {pos:Pos} {keys:List (Option Expr)} {values:List Expr} {trs:List (TE×TE)} (h:PPs X pos keys values trs) (hall:keys.all (·.isSome)=true) (hl:keys.length=values.length) (h0:keys≠[])
  (h15:keys.length<=15):PE X (.Dict keys values pos) (tDisp trs):=by
 intro pins s σ H Q I q
 have hn:=I.hok.fresh (Nat.le_refl s.heap.objs.size)
 have I1:=I.laid (a:=s.heap.objs.size) (o:=.dK []) (h':=s.heap.push { cls:=.type "dict",data:=.dict #[] }) (t':=s.toks) (fun _ _ q=>Heap.get?_push_of_some _ q) (Nat.le_refl _) (dk_empty s.heap I.big)
 refine wpAny_Dict_walk (knd:=mixKind X.prog X.w) hall hl h0 h15 (thn (h pins _ σ _ _ I1 (q _ hn)) fun ws s2 ⟨ps,H2,I2,rel,e,kvs,ep,lk,q2⟩=>?_)
 subst ep
 obtain⟨rs,c,rk⟩:=carries_of (P:=X.prog) (w:=X.w) rel
 obtain⟨z,hd,vs0,r0,dd⟩:=dk_of I2.hok e
 cases r0
 refine⟨rs,c,dd,fun h' dd' hs=>⟨.ref s.heap.objs.size,_,?_,rfl,q2⟩⟩
 have hz:(mergeK [] kvs).length<=sizeLine:=by
  have h1:=length_mergeK kvs []
  rw[List.length_nil]at h1
  rw[sizeLine_eq];omega
 have he:∃q,h'.get? s.heap.objs.size=some q:=let⟨q,_,_,hq,_⟩:=dd';⟨q,hq⟩
 exact d_write I2 (by rw[e];exact True.intro) hs he (dk_new hz hd (rk.merge .nil) dd')
structure M1 (X:Cx) (o:Expr) (m:Str) (apos:Pos) (e:Expr) (cpos:Pos):Prop where
 base:attributeBase o m X.env (eval o X.env)=eval o X.env
 few:((backTo cpos (starEach [e] X.env)).all (fun x=>!x.1)&&(backToKw cpos (keywordEach [] X.env)).all (fun x=>x.1.isSome)
  && decide (([e]:List Expr).length+([]:List Keyword).length+(if([]:List Keyword).isEmpty then 0 else 1)<30))=true
 line:(apos.endLine == cpos.line)=true
 trees:backTo cpos (starEach [e] X.env)=[(false,eval e X.env)]
structure M2 (X:Cx) (o:Expr) (m:Str) (apos:Pos) (e f:Expr) (cpos:Pos):Prop where
 base:attributeBase o m X.env (eval o X.env)=eval o X.env
 few:((backTo cpos (starEach [e,f] X.env)).all (fun x=>!x.1)&&(backToKw cpos (keywordEach [] X.env)).all (fun x=>x.1.isSome)
  && decide (([e,f]:List Expr).length+([]:List Keyword).length+(if([]:List Keyword).isEmpty then 0 else 1)<30))=true
 line:(apos.endLine == cpos.line)=true
 trees:backTo cpos (starEach [e,f] X.env)=[(false,eval e X.env),(false,eval f X.env)]
def IsD (H:Hp) (a:Addr):Prop:=(∃kvs,Rd H a (.dK kvs))\/∃kvs,Rd H a (.dT kvs)
theorem isD_at {X:Cx} {pins:List (Addr×Obj)} {σ:St} {H:Hp} {s:Shared} {a:Addr} (I:Inv X pins σ H s) (d:IsD H a):
  s.TypeIs (.ref a) "dict"/\(∀b,Value.ref a=.ref b->∃ob,s.heap.get? b=some ob/\ob.dict=none)/\(a == sysModules)=false:=by
 rcases d with⟨kvs,e⟩|⟨kvs,e⟩
 .obtain⟨_,hd,vs,_,dd⟩:=dk_rd I.hok e
  refine⟨dd.typeIs,fun b q=>?_,hd⟩
  cases q
  obtain⟨ob,_,_,h1,h2,_⟩:=dd
  exact⟨ob,h1,h2.2.1⟩
 .obtain⟨_,hd,xs,_,dd⟩:=dt_rd I.hok e
  refine⟨dd.typeIs,fun b q=>?_,hd⟩
  cases q
  obtain⟨ob,_,_,h1,h2,_⟩:=dd
  exact⟨ob,h1,h2.2.1⟩
section
variable {X:Cx} {pins:List (Addr×Obj)} {σ:St} {H:Hp} {s:Shared} {a:Addr} {y d:V} {u r:Value} {o:Option V} {A:Around} {E:Value->Shared->Prop}
theorem d_get2 {Q:Value->Shared->Prop} (hu:A.units+1<cLine) (I:Inv X pins σ H s) (g:DGet H a y o) (ry:RelV y u) (rd:RelV d r) (h:∀w' s',Inv X pins σ H s'->RelV (o.getD d) w'->Q w' s'):
  wpAny (model X.prog X.w) A (call (.builtin "dict.get") [.ref a,u,r]) Q E s:=by
 rcases g with⟨kvs,k,e,ey,l⟩|⟨kvs,k,b,e,ey,eb,l⟩
 .subst ey
  obtain⟨z,hd,vs,rel,dd⟩:=dk_rd I.hok e
  refine call_meetsIn PySem.F.slot_dict_get dd.typeIs PySem.F.entry_dict_get (PySem.F.args_dict_get_3 _ _ _) (meets_dict_get_default (mixKind X.prog X.w) a (kV_is ry) hd r) ⟨_,dd.mapOf,h _ _ (I.tok _) ?_⟩
  rw[l]
  exact(rel.val k).getD rd
 .subst ey
  cases(show u=Value.ref b from ry)
  obtain⟨z,hd,xs,rel,dd⟩:=dt_rd I.hok e
  refine call_meetsIn PySem.F.slot_dict_get dd.typeIs PySem.F.entry_dict_get (PySem.F.args_dict_get_3 _ _ _) (meetsH_dict_get_default (tupleKind (mixKind X.prog X.w)) a b hd r) ⟨tupleKind_room_in1 hu,k,xs,key_of I.hok eb,dd,h _ _ (I.tok _) ?_⟩
  rw[l]
  exact(rel.val k).getD rd
end
noncomputable def tDGet2 (td ty tx:TE):TE:=fun σ H Q=>td σ H fun x H1=>∃a,x=.ref a/\IsD H1 a/\ty σ H1 fun y H2=>tx σ H2 fun z H3=>∃o,DGet H3 a y o/\Q (o.getD z) H3
section
variable {X:Cx} {o e f:Expr} {apos cpos:Pos} {td ty tx:TE}
theorem pe_dget2 (hu:X.A.units+1<cLine) (ho:PE X o td) (he:PE X e ty) (hf:PE X f tx) (m:M2 X o "get" apos e f cpos):PE X (.Call (.Attribute o "get" apos) [e,f] [] cpos) (tDGet2 td ty tx):=by
 intro pins s σ H Q I h
 refine wpAny_Call_method m.base m.few m.line PySem.F.plainAttrs_dict PySem.F.slot_dict_get PySem.F.type_dict_get (thn (ho pins s σ H _ I h) fun u s1 ⟨x,H1,I1,rx,a,ex,d,q1⟩=>?_)
 subst ex
 obtain rfl:u=Value.ref a:=rx
 obtain⟨t1,t2,_⟩:=isD_at I1 d
 refine⟨t1,t2,?_⟩
 rw[m.trees]
 refine Calls.callWith_builtin rfl (Calls.evalArgs_plain (Calls.spliced_cons (thn (he pins s1 σ H1 _ I1 q1) fun iv s2 ⟨y,H2,I2,ry,q2⟩=>
  Calls.spliced_cons (thn (hf pins s2 σ H2 _ I2 q2) fun fv s3 ⟨z,H3,I3,rz,ov,g,q3⟩=>Calls.spliced_nil ?_))))
 exact d_get2 hu I3 g ry rz fun w' s4 I4 rw'=>⟨_,H3,I4,rw',q3⟩
end
section
variable {X:Cx} {pins:List (Addr×Obj)} {σ:St} {H:Hp} {s:Shared} {a:Addr} {kvs:List (Key×V)} {A:Around} {E:Value->Shared->Prop}
end
section
variable {X:Cx} {pins:List (Addr×Obj)} {σ:St} {H:Hp} {s:Shared} {a:Addr} {y:V} {u:Value} {A:Around} {E:Value->Shared->Prop}
end
section
variable {X:Cx}
end
section
variable {κ:Type} [DecidableEq κ]
end
noncomputable def Itc (lo c:Int) (n:Nat):It:=⟨fun i _=>i<n,fun i H x H'=>H'=H/\x=.int (lo+i*c),fun i _=>n<=i⟩
theorem turn_rangeC {P:Program} {w:World} {K:W.Frag} {tg:Expr} (it:Addr) (lo c:Int) (n:Nat):Turn P w K tg (Itc lo c n) [it] it (fun i h=>IsRangeIter h it (lo+(i:Nat)*c) ((n:Int)-(i:Nat)) c) where
 mem:=by simp
 obj:=fun i h st b hb=>by
  have e:b=it:=by simpa using hb
  subst e
  exact⟨_,st,fun v z=>by
   have z':Data.fields _=Data.cell v:=z
   cases z'⟩
 keep:=fun i h h' st k=>k it (by simp) _ st
 item:=by
  intro X hP hw hK hc i pins s σ H E I hf st hg
  subst hP hw hK
  obtain⟨f0,f1,f2,f3,f4,f5⟩:=hf it (by simp)
  have W:=Walks.range (prog:=X.prog) (w:=X.w) (I.ok.hd hc) it lo c n
  refine W.item i s _ _ hg st fun v h' tk hv st' kk=>?_
  obtain⟨t,rfl⟩:=hv
  have I1:Inv X pins σ H { s with heap:=h',toks:=tk }:=I.turned (fun b o hb e=>kk b o (by simpa using hb) e) f0 f1 f3 f4 f5
  exact⟨_,rfl,go_of (s:={ s with heap:=h',toks:=tk }) (n:="range_iterator") st' rfl rfl (by decide) ⟨.int (lo+i*c),H,I1,⟨t,rfl⟩,⟨rfl,rfl⟩,st',fun b hb=>(hf b hb).1⟩⟩
 done:=by
  intro X hP hw hK hc i pins s σ H E I hf st hg
  subst hP hw hK
  obtain⟨f0,f1,f2,f3,f4,f5⟩:=hf it (by simp)
  exact wpAny_pyNext_range_end (I.ok.hd hc) st (by have:n<=i:=hg;omega) fun h' eb=>⟨rfl,I.turned (t':=s.toks) (fun b o hb e=>eb b o hb e) f0 f1 f3 f4 f5⟩
 self:=fun _ _ _ _ _ st h=>wpAny_pyIter_rangeiter st h
section
variable {prog:Program} {w:World} {A:Around} {E:Value->Shared->Prop} {s:Shared}
theorem call_range_reversed {r:Addr} {a b:Int} {t u v:Tok} {Q:Value->Shared->Prop} (hr:IsRange s.heap r a b 1 t u v) (h1:-(2 ^ 62)<=a) (h2:a<2 ^ 62) (h3:-(2 ^ 62)<=b) (h4:b<2 ^ 62)
  (h:Q (.ref s.heap.objs.size) { s with heap:=s.heap.push { cls:=.type "range_iterator",data:=.fields #[rawInt (a+(Builtin.Range.rangeSize a b 1-1)*1),rawInt (Builtin.Range.rangeSize a b 1),rawInt (-1)] } }):wpAny (model prog w) A (call (.builtin "range.__reversed__") [.ref r]) Q E s:=by
 have hT:s.TypeIs (.ref r) "range":=⟨_,hr,rfl⟩
 refine wpAny_call_entry F.slot_range_reversed hT F.entry_range_reversed ?_ (F.args_range_reversed_1 _)
 unfold Builtin.«range.__reversed__»
 refine wpAny_bind (wpAny_of_eq (a:=Value.ref r) rfl ?_)
 unfold Builtin.Range.rangeFields
 refine wpAny_bind (wpAny_bind (wpAny_field hr rfl (x:=.int a t) rfl ?_))
 refine wpAny_bind (wpAny_of_eq (a:=some a) rfl ?_)
 refine wpAny_bind (wpAny_field hr rfl (x:=.int b u) rfl ?_)
 refine wpAny_bind (wpAny_of_eq (a:=some b) rfl ?_)
 refine wpAny_bind (wpAny_field hr rfl (x:=.int 1 v) rfl ?_)
 refine wpAny_bind (wpAny_of_eq (a:=some 1) rfl ?_)
 refine wpAny_pure ?_
 dsimp only
 have hsz:Builtin.Range.rangeSize a b 1=if a<b then b-a else 0:=by rw[rangeSize_one]
 have hfit:(Builtin.Range.rangeFitsLong a&&Builtin.Range.rangeFitsLong b&&Builtin.Range.rangeFitsLong 1&&Builtin.Range.rangeFitsLong (-1)&&Builtin.Range.rangeFitsLong (a-1)&&Builtin.Range.rangeFitsLong (Builtin.Range.rangeSize a b 1))=true:=by
  rw[hsz]
  unfold Builtin.Range.rangeFitsLong
  split<;>simp<;>omega
 rw[hfit]
 simp only[Bool.not_true,Bool.false_eq_true,if_false,if_true]
 refine wpAny_bind ?_
 unfold newFields
 exact wpAny_newObj_type (wpAny_pure ⟨_,rfl,h⟩)
theorem code_reversed_range {r:Addr} {a b:Int} {t u v:Tok} {Q₁:Value->Shared->Prop} (hr:IsRange s.heap r a b 1 t u v) (h1:-(2 ^ 62)<=a) (h2:a<2 ^ 62) (h3:-(2 ^ 62)<=b) (h4:b<2 ^ 62)
  (h:Q₁ (.ref s.heap.objs.size) { s with heap:=s.heap.push { cls:=.type "range_iterator",data:=.fields #[rawInt (a+(Builtin.Range.rangeSize a b 1-1)*1),rawInt (Builtin.Range.rangeSize a b 1),rawInt (-1)] } }):
  codeAny (model prog w) A (.call (.builtin "reversed.__new__") ⟨[.type "reversed",.ref r],[]⟩) (wants Q₁ E) s:=by
 have hT:s.TypeIs (.ref r) "range":=⟨_,hr,rfl⟩
 refine codeAny_of_tree ?_
 show wpAny _ A.in1 (do checkBuiltinCall "reversed.__new__" ⟨[.type "reversed",.ref r],[]⟩;again (.builtin "reversed.__new__" ⟨[.type "reversed",.ref r],[]⟩)) _ _ s
 refine wpAny_bind (wpAny_of_eq (F.newCall_reversed_1 _) (wpAny_pure ⟨plainId_quiet F.plain_reversed_new _,codeAny_builtin F.entry_reversed_new ?_⟩))
 rw[Around.under_plainId F.plain_reversed_new _]
 unfold Builtin.«reversed.__new__»
 refine wpAny_bind (wpAny_of_eq (newClass_reversed _) ?_)
 try dsimp only
 refine wpAny_bind (wpAny_of_eq (a:=()) (by first|rfl|kernel_rfl) ?_)
 refine wpAny_bind (wpAny_of_eq (a:=()) (by first|rfl|kernel_rfl) ?_)
 try dsimp only
 refine wpAny_bind (wpAny_specialOf hT F.slot_range_reversed.lookup ?_)
 try dsimp only
 refine wpAny_bind (wpAny_of_eq (F.slot_range_reversed.bind _) ?_)
 try dsimp only
 first
 |rw[if_neg (show ¬((Value.builtin "range.__reversed__" == Value.none)=true) from Bool.false_ne_true)]
 |(show wpAny _ _ (if(Value.builtin "range.__reversed__" == Value.none)=true then _ else _) _ _ _;rw[if_neg (show ¬((Value.builtin "range.__reversed__" == Value.none)=true) from Bool.false_ne_true)])
 refine wpAny_bind (wpAny_rule ?_)
 refine wpAny_bind (m:=runValue (.call (.builtin "range.__reversed__") ⟨[.ref r],[]⟩)) (show wpAny _ _ (call (.builtin "range.__reversed__") [.ref r]) _ _ _ from call_range_reversed hr h1 h2 h3 h4 ?_)
 first
 |exact wpAny_pure h
 |exact wpAny_bind (wpAny_pure (wpAny_pure h))
theorem sub_rri_reversed:isSubtype (.type "range_iterator") (.type "reversed")=pure false:=by rw[isSubtype_type];kernel_rfl
theorem call_reversed_range {r:Addr} {a b:Int} {t u v:Tok} {Q:Value->Shared->Prop} (hr:IsRange s.heap r a b 1 t u v) (h1:-(2 ^ 62)<=a) (h2:a<2 ^ 62) (h3:-(2 ^ 62)<=b) (h4:b<2 ^ 62)
  (h:Q (.ref s.heap.objs.size) { s with heap:=s.heap.push { cls:=.type "range_iterator",data:=.fields #[rawInt (a+(Builtin.Range.rangeSize a b 1-1)*1),rawInt (Builtin.Range.rangeSize a b 1),rawInt (-1)] } }):
  wpAny (model prog w) A (call (.type "reversed") [.ref r]) Q E s:=by
 refine callType_other (U:="range_iterator") (Q₁:=fun obj s₁=>obj=.ref s.heap.objs.size/\s₁={ s with heap:=s.heap.push { cls:=.type "range_iterator",data:=.fields #[rawInt (a+(Builtin.Range.rangeSize a b 1-1)*1),rawInt (Builtin.Range.rangeSize a b 1),rawInt (-1)] } }) (by decide +kernel) F.create_reversed ⟨_,_,F.mro_reversed⟩ F.made_reversed sub_rri_reversed (F.typeCall_reversed_1 _) (code_reversed_range hr h1 h2 h3 h4 ⟨rfl,rfl⟩) ?_
 rintro obj s₁ ⟨rfl,rfl⟩
 exact⟨⟨_,Heap.get?_push_size _ rfl,rfl⟩,h⟩
end
noncomputable def Itlr (K:W.Frag) (a:Addr) (n:Nat):It:=
 ⟨fun i H=>i<n/\∃xs,SqL K H a xs/\xs.length=n,fun i H x H'=>H'=H/\∀xs,SqL K H a xs->xs[n-1-i]?=some x,fun i H=>n=i⟩
theorem turn_listRev {P:Program} {w:World} {K:W.Frag} {tg:Expr} (a it:Addr) (n:Nat):Turn P w K tg (Itlr K a n) [it] it (fun i h=>i<=n/\h.IsRevIter it a ((n:Int)-1-(i:Int))) where
 mem:=by simp
 obj:=fun i h st b hb=>by
  have e:b=it:=by simpa using hb
  subst e
  obtain⟨o,e,c,d⟩:=st.2
  exact⟨o,e,fun v z=>by rw[d]at z;cases z⟩
 keep:=fun i h h' st k=>⟨st.1,st.2.at fun o e=>k it (by simp) o e⟩
 item:=by
  intro X hP hw hK hc i pins s σ H E I hf st hg
  subst hP hw hK
  obtain⟨hi,xs,hq,hx⟩:=hg
  obtain⟨its,rv,p,hz⟩:=I.list hq
  have hg1:xs[n-1-i]?=some (xs[n-1-i]'(by omega)):=List.getElem?_eq_getElem _
  obtain⟨u,hu,ru⟩:=rv.get hg1
  obtain⟨f0,f1,f2,f3,f4,f5⟩:=hf it (by simp)
  have e:(n:Int)-1-(i:Int)=((n-1-i:Nat):Int):=by omega
  have st2:=st.2
  rw[e]at st2
  refine wpAny_pyNext_rev_item st2 p.isList (x:=u) (by simpa using hu) fun h' st' sb=>?_
  have I1:Inv X pins σ H { s with heap:=h' }:=I.turned (t':=s.toks) (fun b o hb e=>(sb.2 b hb).trans e) f0 f1 f3 f4 f5
  obtain⟨o,e1,c,d⟩:=id st'
  have e2:((n-1-i:Nat):Int)-1=(n:Int)-1-((i+1:Nat):Int):=by omega
  rw[e2]at st'
  exact⟨u,rfl,go_of (s:={ s with heap:=h' }) e1 c d (by decide) ⟨_,H,I1,ru,⟨rfl,fun ys hy=>by rw[I.list_inj hy hq];exact hg1⟩,⟨hi,st'⟩,fun b hb=>(hf b hb).1⟩⟩
 done:=by
  intro X hP hw hK hc i pins s σ H E I hf st hg
  subst hP hw hK
  have hg':n=i:=hg
  subst hg'
  obtain⟨f0,f1,f2,f3,f4,f5⟩:=hf it (by simp)
  have e:(n:Int)-1-(n:Int)=-1:=by omega
  have st2:=st.2
  rw[e]at st2
  exact wpAny_pyNext_rev_end (I.ok.hd hc) st2 fun h' eb=>⟨rfl,I.turned (t':=s.toks) (fun b o hb e=>eb b o hb e) f0 f1 f3 f4 f5⟩
 self:=fun _ _ _ _ _ st h=>wpAny_pyIter_revIter st.2 h
section
variable {X:Cx} {tg:Expr}
def RevV (K:W.Frag) (x:V) (H1:Hp) (R:It->Hp->Prop):Prop:=
 (∃p i j,x=.ref p/\H1 p=some (.rng i j)/\(-(2 ^ 62)<=i/\i<2 ^ 62/\-(2 ^ 62)<=j/\j<2 ^ 62)/\R (Itc (i+((j-i).toNat:Int)-1) (-1) (j-i).toNat) H1)\/∃a xs,x=.ref a/\SqL K H1 a xs/\R (Itlr K a xs.length) H1
noncomputable def iRev (K:W.Frag) (tl:TE):TI:=fun σ H R=>tCons tl tNil σ H fun vs H1=>∃x,vs=[x]/\RevV K x H1 R
theorem boot_reversed:bootBuiltins "reversed"=some (.type "reversed"):=by decide +kernel
theorem pi_rev {a:Expr} {tl:TE} {p pos:Pos} (hg:Gl X "reversed") (hm:X.mg "reversed"=none) (ha:PA X [a] (tCons tl tNil)) (hs:starEach [a] X.env=[(false,eval a X.env)]):
  PI X tg (.Call (.Name "reversed" p) [a] [] pos) (iRev X.K tl):=by
 intro pins s σ H R I h
 have h':tCons tl tNil σ H (fun vs H1=>∃x,vs=[x]/\RevV X.K x H1 R):=h
 refine Call_ (ld_blt I hg hm boot_reversed (PyProof.Rows.callWith_type1 (thn (ha pos pins s σ H _ I h') fun us s1 ⟨vs,H1,I1,r1,q1⟩=>?_) (by rw[hs];rfl) (by rfl)))
 obtain⟨x,e,q1⟩:=q1
 subst e
 cases r1 with
 |cons r rr=>
  cases rr
  rcases q1 with⟨p,i,j,rfl,hp,⟨h1,h2,h3,h4⟩,q⟩|⟨a,xs,rfl,hxs,q⟩
  .cases r
   obtain⟨t,u,v,hr⟩:=(show ObjOk X.prog X.w H1 s1.heap p (.rng i j) from I1.hok p _ hp)
   refine call_reversed_range hr h1 h2 h3 h4 ?_
   have e1:i+(Builtin.Range.rangeSize i j 1-1)*1=(i+((j-i).toNat:Int)-1)+((0:Nat):Int)*(-1):=by
    rw[rangeSize_one];split<;>omega
   have e2:Builtin.Range.rangeSize i j 1=(((j-i).toNat:Nat):Int)-((0:Nat):Int):=by rw[rangeSize_one];split<;>omega
   have it0:IsRangeIter (s1.heap.push { cls:=.type "range_iterator",data:=.fields #[rawInt (i+(Builtin.Range.rangeSize i j 1-1)*1),rawInt (Builtin.Range.rangeSize i j 1),rawInt (-1)] }) s1.heap.objs.size ((i+((j-i).toNat:Int)-1)+((0:Nat):Int)*(-1)) ((((j-i).toNat:Nat):Int)-((0:Nat):Int)) (-1):=by
    rw[<- e1,<- e2]
    exact Heap.get?_push_size _ rfl
   refine wpAny_pyIter_rangeiter it0 ?_
   refine⟨s1.heap.objs.size,[s1.heap.objs.size],_,_,H1,rfl,I1.kept (t':=s1.toks) (fun b o e=>Heap.get?_push_of_some _ e),turn_rangeC _ _ _ _,it0,fun b hb=>?_,q⟩
   have e:b=s1.heap.objs.size:=by simpa using hb
   subst e
   exact I1.fpOk (Nat.le_refl _) (I1.hok.fresh (Nat.le_refl _))
  .cases r
   obtain⟨its,rv,pl,hz⟩:=I1.list hxs
   refine call_reversed_list pl.isList ?_
   have hl:=rv.length
   have it0:(s1.heap.push (revObj a ((its.toArray.size:Int)-1))).IsRevIter s1.heap.objs.size a ((xs.length:Int)-1-((0:Nat):Int)):=by
    have e:(its.toArray.size:Int)-1=(xs.length:Int)-1-((0:Nat):Int):=by simp;omega
    rw[<- e]
    exact⟨_,Heap.get?_push_size _ rfl,rfl,rfl⟩
   refine wpAny_pyIter_revIter it0 ?_
   refine⟨s1.heap.objs.size,[s1.heap.objs.size],_,_,H1,rfl,I1.kept (t':=s1.toks) (fun b o e=>Heap.get?_push_of_some _ e),turn_listRev a _ xs.length,⟨Nat.zero_le _,it0⟩,fun b hb=>?_,q⟩
   have e:b=s1.heap.objs.size:=by simpa using hb
   subst e
   exact I1.fpOk (Nat.le_refl _) (I1.hok.fresh (Nat.le_refl _))
noncomputable def nStep (i j c:Int):Nat:=if i<j then((j-i-1) / c+1).toNat else 0
end
section
variable {X:Cx}
theorem and_one {i:Int} (h:0<=i):Builtin.bitAnd i 1=i % 2:=by
 rw[PyProof.Rows.bitAnd_pp h (by decide)]
 have e:(1:Int).toNat=1:=rfl
 rw[e,Nat.and_one_is_mod]
 omega
theorem op_and1:OpR X (binaryOp .BitAnd) (rI (fun i j=>0<=i/\j=1) fun i _=>.int (i % 2)):=by
 intro pins s σ H x y v u Q I rx ry h
 obtain⟨i,j,rfl,rfl,⟨h0,rfl⟩,q⟩:=h
 refine op_and pins s σ H _ _ v u Q I rx ry ⟨i,1,rfl,rfl,?_⟩
 have q':Q (.int (i % 2)) H:=q
 rw[<- and_one h0]at q'
 exact q'
noncomputable def inT (x y:Str):Bool:=!(Builtin.Str.occurrences x y 0 x.length 1).isEmpty
noncomputable def rInS (neg:Bool):R2:=fun x y H Q=>∃a b,x=.str a/\y=.str b/\Q (.bl (if neg then !inT b a else inT b a)) H
theorem op_inS:OpR X (compareOp .In) (rInS false):=by
 intro pins s σ H x y v u Q I rx ry h
 obtain⟨a,b,rfl,rfl,q⟩:=h
 obtain⟨t,rfl⟩:=rx
 obtain⟨t',rfl⟩:=ry
 exact in_str ⟨.bl _,H,I,rfl,q⟩
theorem op_notInS:OpR X (compareOp .NotIn) (rInS true):=by
 intro pins s σ H x y v u Q I rx ry h
 obtain⟨a,b,rfl,rfl,q⟩:=h
 obtain⟨t,rfl⟩:=rx
 obtain⟨t',rfl⟩:=ry
 have q':Q (.bl (!inT b a)) H:=q
 refine notIn_str ⟨.bl (!inT b a),H,I,?_,q'⟩
 show Value.bool _=Value.bool _
 simp[inT]
end
section
variable {X:Cx}
noncomputable def txGt (x y:Str):Bool:=decide (y.cps.toList<x.cps.toList)
noncomputable def rGtS:R2:=fun x y H Q=>∃a b,x=.str a/\y=.str b/\Q (.bl (txGt a b)) H
theorem op_gtS:OpR X (compareOp .Gt) rGtS:=by
 intro pins s σ H x y v u Q I rx ry h
 obtain⟨a,b,rfl,rfl,k⟩:=h
 obtain⟨t,rfl⟩:=rx
 obtain⟨t',rfl⟩:=ry
 exact PySem.P.gt_str ⟨.bl _,H,I,rfl,k⟩
noncomputable def dSc:V->Bool
 | .int _=>true
 | .str _=>true
 | .bl _=>true
 | .non=>true
 |_=>false
noncomputable def Dq (H:Hp):Nat->V->V->Prop
 |0,v,w=>v=w/\dSc v=true
 |n+1,v,w=>(v=w/\dSc v=true)\/∃a b xs ys,v=.ref a/\w=.ref b/\((H a=some (.lst xs)/\H b=some (.lst ys))\/(H a=some (.tup xs)/\H b=some (.tup ys)))/\xs.length=ys.length/\∀(i:Nat) x y,xs[i]?=some x->ys[i]?=some y->Dq H n x y
open PySem.SeqAt in
theorem dq_sc {A:Around} {s:Shared} {x:V} {u v:Value} (h:dSc x=true) (r1:RelV x u) (r2:RelV x v):EqAt A s u v true:=by
 have:=eqAt_of (A:=A) (s:=s) r1 r2 (.inl (by cases x<;>first|(cases h;done)|exact⟨rfl,fun b=>by intro z;cases z⟩))
 rw[decide_eq_true rfl]at this
 exact this
theorem all_true {n:Nat}:(List.range n).all (fun _=>true)=true:=by simp
theorem arr_at {its:List Value} {j:Nat} {u:Value} (e:its[j]?=some u) (h:j<its.toArray.size):its.toArray[j]=u:=by
 simp at h ⊢
 rw[List.getElem?_eq_getElem h]at e
 exact Option.some.inj e
open PySem.SeqAt in
theorem dq_items {n:Nat} {H:Hp} {A:Around} {s:Shared} {xs ys:List V} {its its2:List Value} (ih:∀x y u v,Dq H n x y->RelV x u->RelV y v->EqAt A.in1 s u v true) (hl:xs.length=ys.length) (r1:Vals xs its) (r2:Vals ys its2)
  (he:∀(i:Nat) x y,xs[i]?=some x->ys[i]?=some y->Dq H n x y):∀j (h1:j<its.toArray.size) (h2:j<its2.toArray.size),EqAt A.in1 s its.toArray[j] its2.toArray[j] ((fun _=>true) j):=by
 intro j h1 h2
 have l1:=r1.length
 have j1:j<xs.length:=by simp at h1;omega
 have j2:j<ys.length:=by omega
 have g1:xs[j]?=some xs[j]:=List.getElem?_eq_getElem j1
 have g2:ys[j]?=some ys[j]:=List.getElem?_eq_getElem j2
 obtain⟨u1,e1,ru1⟩:=r1.get g1
 obtain⟨u2,e2,ru2⟩:=r2.get g2
 rw[arr_at e1 h1,arr_at e2 h2]
 exact ih _ _ _ _ (he j _ _ g1 g2) ru1 ru2
open PySem.SeqAt in
theorem dq_at {pins:List (Addr×Obj)} {σ:L2.St} {H:Hp} {s:Shared} (I:Inv X pins σ H s):∀(n:Nat) (A:Around) (x y:V) (u v:Value),A.units+n<cLine->Dq H n x y->RelV x u->RelV y v->EqAt A s u v true:=by
 intro n
 induction n with
 |zero=>
  rintro A x y u v hu ⟨rfl,hs⟩ r1 r2
  exact dq_sc hs r1 r2
 |succ n ih=>
  rintro A x y u v hu h rx ry
  rcases h with⟨rfl,hs⟩|⟨a,b,xs,ys,rfl,rfl,hab,hl,he⟩
  .exact dq_sc hs rx ry
  cases rx
  cases ry
  by_cases hne:a=b
  .subst hne;exact EqAt.same _
  have ih':∀x y u v,Dq H n x y->RelV x u->RelV y v->EqAt A.in1 s u v true:=fun x y u v=>ih A.in1 x y u v (by show A.units+1+n<cLine;omega)
  rcases hab with⟨h1,h2⟩|⟨h1,h2⟩
  .obtain⟨its,r1,pl1,_⟩:=I.list (SqL.of h1)
   obtain⟨its2,r2,pl2,_⟩:=I.list (SqL.of h2)
   have l1:=r1.length
   have l2:=r2.length
   have:=RcAt.lists pl1.isList pl2.isList (by simp;omega) (by omega) (dq_items ih' hl r1 r2 he)
   rw[all_true]at this
   exact EqAt.of_refs hne this
  .obtain⟨its,r1,pl1,_⟩:=I.tuple (SqT.of h1)
   obtain⟨its2,r2,pl2,_⟩:=I.tuple (SqT.of h2)
   have l1:=r1.length
   have l2:=r2.length
   have:=RcAt.tuples pl1 pl2 (by omega) (dq_items ih' hl r1 r2 he)
   rw[all_true]at this
   have e:(true&&its.toArray.size == its2.toArray.size)=true:=by simp;omega
   rw[e]at this
   exact EqAt.of_refs hne this
noncomputable def rEqD (neg:Bool):R2:=fun x y H Q=>∃n,n<=8/\Dq H n x y/\(∃a b,x=.ref a/\y=.ref b)/\Q (.bl (!neg)) H
theorem Dq.open {H:Hp} {n:Nat} {a b:Addr} (h:Dq H n (.ref a) (.ref b)):∃m xs ys,n=m+1/\((H a=some (.lst xs)/\H b=some (.lst ys))\/(H a=some (.tup xs)/\H b=some (.tup ys)))/\xs.length=ys.length/\∀(i:Nat) x y,xs[i]?=some x->ys[i]?=some y->Dq H m x y:=by
 cases n with
 |zero=>exact absurd h.2 (by simp[dSc])
 |succ m=>
  rcases h with⟨_,hs⟩|⟨a',b',xs,ys,e1,e2,hab,hl,he⟩
  .cases hs
  .cases e1;cases e2;exact⟨m,xs,ys,rfl,hab,hl,he⟩
open PySem.SeqAt in
theorem op_eqD (hu:X.A.units+64<cLine):OpR X (compareOp .Eq) (rEqD false):=by
 intro pins s σ H x y v u Q I rx ry h
 obtain⟨n,hn,hd,⟨a,b,rfl,rfl⟩,k⟩:=h
 cases rx
 cases ry
 obtain⟨m,xs,ys,rfl,hab,hl,he⟩:=hd.open
 have ih':∀x y u v,Dq H m x y->RelV x u->RelV y v->EqAt X.A.in1 s u v true:=fun x y u v=>dq_at I m X.A.in1 x y u v (by show X.A.units+1+m<cLine;omega)
 rcases hab with⟨h1,h2⟩|⟨h1,h2⟩
 .obtain⟨its,r1,pl1,_⟩:=I.list (SqL.of h1)
  obtain⟨its2,r2,pl2,_⟩:=I.list (SqL.of h2)
  have l1:=r1.length
  have l2:=r2.length
  refine eq_listAt pl1.isList pl2.isList (by simp;omega) (by omega) (dq_items ih' hl r1 r2 he) ?_
  rw[all_true]
  exact⟨.bl true,H,I,rfl,k⟩
 .obtain⟨its,r1,pl1,_⟩:=I.tuple (SqT.of h1)
  obtain⟨its2,r2,pl2,_⟩:=I.tuple (SqT.of h2)
  have l1:=r1.length
  have l2:=r2.length
  refine eq_tupleAt pl1 pl2 (by omega) (dq_items ih' hl r1 r2 he) ?_
  have e:(true&&its.toArray.size == its2.toArray.size)=true:=by simp;omega
  rw[all_true,e]
  exact⟨.bl true,H,I,rfl,k⟩
open PySem.SeqAt in
theorem op_neD (hu:X.A.units+64<cLine):OpR X (compareOp .NotEq) (rEqD true):=by
 intro pins s σ H x y v u Q I rx ry h
 obtain⟨n,hn,hd,⟨a,b,rfl,rfl⟩,k⟩:=h
 cases rx
 cases ry
 obtain⟨m,xs,ys,rfl,hab,hl,he⟩:=hd.open
 have ih':∀x y u v,Dq H m x y->RelV x u->RelV y v->EqAt X.A.in1 s u v true:=fun x y u v=>dq_at I m X.A.in1 x y u v (by show X.A.units+1+m<cLine;omega)
 have hend:EP X pins σ Q (Value.bool false) s:=⟨.bl false,H,I,rfl,k⟩
 rcases hab with⟨h1,h2⟩|⟨h1,h2⟩
 .obtain⟨its,r1,pl1,_⟩:=I.list (SqL.of h1)
  obtain⟨its2,r2,pl2,_⟩:=I.list (SqL.of h2)
  have l1:=r1.length
  have l2:=r2.length
  obtain⟨⟨cls,dd,data,sl⟩,ho,hc,n1,hd1⟩:=pl1.isList
  obtain⟨⟨cls2,dd2,data2,sl2⟩,ho2,hc2,n2,hd2⟩:=pl2.isList
  simp only at hc hd1 hc2 hd2
  subst hc hd1 hc2 hd2
  refine richCompare_meets_room (op:=.NotEq) ⟨_,ho,rfl⟩ ⟨_,ho2,rfl⟩ F.slot_list_ne F.entry_list_ne (F.args_list_ne_2 _ _) (list_neAt a b its.toArray its2.toArray n1 n2 dd dd2 sl sl2 (by simp;omega) (fun _=>true)) ⟨ho,ho2,dq_items ih' hl r1 r2 he,?_⟩ (by omega)
  rw[all_true]
  exact(show Value.bool false≠Value.notImplemented/\EP X pins σ Q (Value.bool false) s from⟨(fun x=>nomatch x),hend⟩)
 .obtain⟨its,r1,pl1,_⟩:=I.tuple (SqT.of h1)
  obtain⟨its2,r2,pl2,_⟩:=I.tuple (SqT.of h2)
  have l1:=r1.length
  have l2:=r2.length
  obtain⟨⟨cls,dd,data,sl⟩,ho,hc,n1,hd1⟩:=id pl1
  obtain⟨⟨cls2,dd2,data2,sl2⟩,ho2,hc2,n2,hd2⟩:=id pl2
  simp only at hc hd1 hc2 hd2
  subst hc hd1 hc2 hd2
  refine richCompare_meets_room (op:=.NotEq) ⟨_,ho,rfl⟩ ⟨_,ho2,rfl⟩ F.slot_tuple_ne F.entry_tuple_ne (F.args_tuple_ne_2 _ _) (tuple_neAt a b its.toArray its2.toArray n1 n2 dd dd2 sl sl2 (fun _=>true)) ⟨ho,ho2,dq_items ih' hl r1 r2 he,?_⟩ (by omega)
  have e:(true&&its.toArray.size == its2.toArray.size)=true:=by simp;omega
  rw[all_true,e]
  exact(show Value.bool false≠Value.notImplemented/\EP X pins σ Q (Value.bool false) s from⟨(fun x=>nomatch x),hend⟩)
end
end L2
namespace HT
open PySem PyProof.Rows
open PySem.SeqAt
open PySem.MeetsSeq PySem.MeetsSeq2 PySem.MeetsSeq3
section
variable {prog:Program} {w:World} {A:Around} {E:Value->Shared->Prop} {s:Shared}
theorem cat_tup0 {t b:Addr} {ws:List Value} {Q:Value->Shared->Prop} (ht:IsTup s.heap t #[]) (hb:IsTup s.heap b ws.toArray) (h0:Q (.ref b) s):wpAny (model prog w) A (binaryOp .Add (.ref t) (.ref b)) Q E s:=by
 obtain⟨⟨cls,dd,data,sl⟩,ho,hc,n,hd⟩:=id ht
 obtain⟨⟨cls2,dd2,data2,sl2⟩,ho2,hc2,n2,hd2⟩:=id hb
 simp only at hc hd hc2 hd2
 subst hc hd hc2 hd2
 exact concat_meets ⟨_,ho,rfl⟩ ⟨_,ho2,rfl⟩ noFill_tuple_add seq_tuple_add PySem.F.slot_tuple_add PySem.F.entry_tuple_add (PySem.F.args_tuple_add_2 _ _)
  (tuple_addW0 t b #[] ws.toArray n n2 dd dd2 sl sl2 rfl) ⟨ho,ho2,h0⟩
end
end HT
namespace L2
open PySem PySem.Spec PyProof.Rows
section
variable {X:Cx}
noncomputable def rCatT0 (K:W.Frag):R2:=fun x y H Q=>∃a b ys,x=.ref a/\y=.ref b/\SqT K H a []/\SqT K H b ys/\Q (.ref b) H
theorem op_catT0:OpR X (binaryOp .Add) (rCatT0 X.K):=by
 intro pins s σ H x y v u Q I rx ry h
 obtain⟨a,b,ys,rfl,rfl,ha,hb,q⟩:=h
 cases rx
 cases ry
 obtain⟨its,r1,p1,_⟩:=I.tuple ha
 obtain⟨its2,r2,p2,_⟩:=I.tuple hb
 have e:its=[]:=r1.nil_iff.mpr rfl
 subst e
 exact HT.cat_tup0 p1 p2 ⟨.ref b,H,I,rfl,q⟩
end
end L2
namespace L2
open PySem PySem.Spec PyProof.Rows PySem.Calls PySem.NumText
def B2 (x:PySem.Str) (n:Int):Prop:=(x.cps.all (· < 128))=true/\(x.cps.toList.takeWhile (· != 0)).length<=640/\(int_private% "readNumeral") 0 2 (x.cps.toList.takeWhile (· != 0))=(int_private% "Numeral.value") n/\((x.cps.toList.takeWhile (· != 0)).length == x.cps.toList.length)=true
theorem wp_text2 {M:Model} {A:Around} {E:Value->Shared->Prop} {s:Shared} {Q:Value->Shared->Prop} {v:Value} {text:List Nat} {n:Int}
  (hs:(text.takeWhile (· != 0)).length<=640) (hr:(int_private% "readNumeral") 0 2 (text.takeWhile (· != 0))=(int_private% "Numeral.value") n)
  (ha:((text.takeWhile (· != 0)).length == text.length)=true) (h:Q (.int n s.toks) { s with toks:=s.toks+1 }):
  wpAny M A ((int_private% "intFromText") v text 2) Q E s:=by
 obtain⟨hp,g,d,tk,os⟩:=s
 repeat (any_goals (first
  |assumption
  |(with_reducible refine wpAny_ite_true (decide_eq_true hs) ?_)
  |(with_reducible refine wpAny_ite_true (decide_eq_true ha) ?_)
  |wp_step))
 all_goals (try rw[hr])
 all_goals (try dsimp only)
 repeat (any_goals (first
  |assumption
  |(with_reducible refine wpAny_ite_true (decide_eq_true hs) ?_)
  |(with_reducible refine wpAny_ite_true (decide_eq_true ha) ?_)
  |wp_step))
set_option maxHeartbeats 4000000 in
theorem gives_text2 {x:PySem.Str} {u v:Tok} {n:Int} (hb:B2 x n):Gives (Builtin.«int.__new__» ⟨[.type "int",.str x u,.int 2 v],[]⟩) (.int n):=
 .of_wp fun M A E s Q h=>by
  obtain⟨hp,g,d,tk,os⟩:=s
  have f1:=F.conv_sub_int
  have f2:=F.madeHere_int
  have f6:typeOf (.str x u)=pure (.type "str"):=rfl
  have hk:=W.KIN.Hid.mk hb
  clear hb
  repeat (any_goals (first
   |assumption
   |((with_reducible show wpAny _ _ ((int_private% "intFromText") _ _ _) _ _ _);rw[if_pos hk.out.1];refine wp_text2 hk.out.2.1 hk.out.2.2.1 hk.out.2.2.2 ?_)
   |wp_step))
  all_goals first|exact⟨_,rfl,h⟩|skip
theorem typeCall_int_2 (a b:Value):checkTypeCall "int" ⟨[a,b],[]⟩=pure ():=by kernel_rfl
theorem newCall_int_2 (a b:Value):checkBuiltinCall "int.__new__" ⟨[.type "int",a,b],[]⟩=pure ():=by kernel_rfl
section
variable {X:Cx}
noncomputable def rInt2:List V->Hp->VK->Prop:=fun xs H Q=>∃x n,xs=[.str x,.int 2]/\B2 x n/\Q (.int n) H
theorem call_int2:CallR X (.type "int") rInt2:=by
 intro pins s σ H xs us Q I r h
 obtain⟨x,n,rfl,hb,q⟩:=h
 obtain⟨u,v,rfl,⟨t,rfl⟩,⟨t',rfl⟩⟩:=vals2 r
 exact callType_new F.called_int F.newNe_int (typeCall_int_2 _ _) (newCall_int_2 _ _) (fun obj=>F.args_object_init_3 obj _ _) F.entry_int_new (gives_text2 hb).meets (show(Made.int n).post _ s from⟨rfl,⟨.int n,H,I.tok _,⟨_,rfl⟩,q⟩⟩)
theorem call_intB:CallR X (.type "int") (fun xs H Q=>rInt xs H Q\/rInt2 xs H Q):=call_intA.or call_int2
end
theorem vals_of_strs:∀{ss:List PySem.Str} {us:List Value},StrsAre us ss->Vals (ss.map V.str) us
 |_,_,.nil=>.nil
 |_,_,.cons y t r=>.cons ⟨t,rfl⟩ (vals_of_strs r)
section
variable {X:Cx}
end
end L2
namespace PySem
open PyProof.Rows
def Heap.IsRvd (h:Heap) (a t:Addr) (i:Int):Prop:=∃o,h.get? a=some o/\o.cls=.type "reversed"/\o.data=.fields #[.ref t,rawInt i]
theorem Heap.IsRvd.at {h h':Heap} {a t:Addr} {i:Int} (x:h.IsRvd a t i) (e:∀o,h.get? a=some o->h'.get? a=some o):h'.IsRvd a t i:=let⟨o,ho,r⟩:=x;⟨o,e _ ho,r⟩
section
variable {prog:Program} {w:World} {A:Around} {E:Value->Shared->Prop} {s:Shared}
theorem Heap.IsRvd.typeIs {a t:Addr} {i:Int} (x:s.heap.IsRvd a t i):s.TypeIs (.ref a) "reversed":=let⟨o,ho,hc,_⟩:=x;⟨o,ho,hc⟩
end
section
variable {prog:Program} {w:World} {A:Around} {E:Value->Shared->Prop} {s:Shared}
end
section
variable {prog:Program} {w:World} {A:Around} {E:Value->Shared->Prop} {s:Shared}
end
end PySem
namespace L2
open PySem PySem.Spec PyProof.Rows
section
variable {X:Cx}
end
end L2
namespace HT
open PySem PyProof.Rows
section
variable {prog:Program} {w:World} {A:Around} {E:Value->Shared->Prop} {s:Shared}
end
end HT
namespace L2
open PySem PySem.Spec PyProof.Rows
section
variable {X:Cx}
noncomputable def rSlW (K:W.Frag):V->Option Int->Option Int->Hp->VK->Prop:=fun x lo hi H Q=>∃a xs,x=.ref a/\SqT K H a xs/\(HT.sIx xs.length 0 lo=0/\HT.sIx xs.length xs.length hi=xs.length)/\Q (.ref a) H
end
section
variable {X:Cx} {pins:List (Addr×Obj)} {σ:St} {H:Hp} {s:Shared}
variable {X:Cx}
end
end L2
namespace HT
open PySem PyProof.Rows
section
variable {prog:Program} {w:World} {A:Around} {E:Value->Shared->Prop} {s:Shared}
end
end HT
namespace L2
open PySem PySem.Spec PyProof.Rows
section
variable {X:Cx} {e st:Expr} {te:TE} {p2 pos:Pos}
end
section
variable {prog:Program} {w:World} {A:Around} {E:Value->Shared->Prop} {s:Shared} {b0:Array Keyed} {κ:PyProof.Rows.KeyKind}
end
def Rise (ss:List PySem.Str):Prop:=ss.Pairwise fun a b=>¬b.cps.toList<a.cps.toList
section
variable {X:Cx}
end
end L2
namespace L2
open PySem PySem.Spec PyProof.Rows PySem.SeqAt
def Ls1 (H:Hp) (v:V) (ns:List Int):Prop:=∃p,v=.ref p/\H p=some (.lst (ns.map V.int))
def LL (H:Hp) (a:Addr) (L:List (List Int)):Prop:=∃vs,H a=some (.lst vs)/\vs.length=L.length/\∀(i:Nat) v ns,vs[i]?=some v->L[i]?=some ns->Ls1 H v ns
theorem map_int_inj:∀{a b:List Int},a.map V.int=b.map V.int->a=b
 | [],[],_=>rfl
 | [],_ :: _,h=>by cases h
 |_ :: _,[],h=>by cases h
 |x :: a,y :: b,h=>by
  rw[List.map_cons,List.map_cons]at h
  injection h with h1 h2
  injection h1 with h1
  rw[h1,map_int_inj h2]
theorem all_get {α:Type} [DecidableEq α] {a b:List α} (h:a.length=b.length):(List.range a.length).all (fun i=>decide (a[i]?=b[i]?))=decide (a=b):=by
 by_cases e:a=b
 .subst e;simp
 .rw[decide_eq_false e,Bool.eq_false_iff]
  intro z
  apply e
  apply List.ext_getElem?
  intro i
  rw[List.all_eq_true]at z
  by_cases hi:i<a.length
  .exact of_decide_eq_true (z i (List.mem_range.mpr hi))
  .rw[List.getElem?_eq_none (by omega),List.getElem?_eq_none (by omega)]
section
variable {X:Cx} {pins:List (Addr×Obj)} {σ:L2.St} {H:Hp} {s:Shared}
theorem ls1_at (I:Inv X pins σ H s) {A:Around} {v w:V} {u u':Value} {ns ms:List Int} (hu:A.units+1<cLine) (h1:Ls1 H v ns) (h2:Ls1 H w ms) (r1:RelV v u) (r2:RelV w u'):EqAt A s u u' (decide (ns=ms)):=by
 obtain⟨p,rfl,e1⟩:=h1
 obtain⟨q,rfl,e2⟩:=h2
 cases r1
 cases r2
 by_cases hpq:p=q
 .subst hpq
  rw[e1]at e2
  have:ns=ms:=map_int_inj (by injection e2 with e2;injection e2 with e2)
  rw[decide_eq_true this]
  exact EqAt.same _
 obtain⟨its,v1,pl1,_⟩:=I.list (SqL.of e1)
 obtain⟨its2,v2,pl2,_⟩:=I.list (SqL.of e2)
 have l1:=v1.length
 have l2:=v2.length
 rw[List.length_map]at l1 l2
 by_cases hl:ns.length=ms.length
 .have:=RcAt.lists (e:=fun j=>decide (ns[j]?=ms[j]?)) pl1.isList pl2.isList (by simp;omega) (by omega) (A:=A) (fun j h1 h2=>?_)
  .rw[List.size_toArray,<- l1,all_get hl]at this
   exact EqAt.of_refs hpq this
  .have j1:j<ns.length:=by simp at h1;omega
   have j2:j<ms.length:=by omega
   obtain⟨u1,f1,ru1⟩:=v1.get (i:=j) (by rw[List.getElem?_map,List.getElem?_eq_getElem j1];rfl)
   obtain⟨u2,f2,ru2⟩:=v2.get (i:=j) (by rw[List.getElem?_map,List.getElem?_eq_getElem j2];rfl)
   rw[arr_at f1 h1,arr_at f2 h2]
   have:=eqAt_of (A:=A.in1) (s:=s) ru1 ru2 (.inl ⟨rfl,fun b z=>by cases z⟩)
   rw[show decide (V.int ns[j]=V.int ms[j])=decide (ns[j]?=ms[j]?) by
    rw[List.getElem?_eq_getElem j1,List.getElem?_eq_getElem j2]
    simp]at this
   exact this
 .rw[decide_eq_false (fun z=>hl (by rw[z]))]
  exact EqAt.of_refs hpq (RcAt.lists_lengths pl1.isList pl2.isList (by simp;omega) (by omega))
noncomputable def rEqB (neg:Bool):R2:=fun x y H Q=>∃a b L M,x=.ref a/\y=.ref b/\LL H a L/\LL H b M/\Q (.bl (decide (L=M))) H
theorem op_eqB (hu:X.A.units+64<cLine):OpR X (compareOp .Eq) (rEqB false):=by
 intro pins s σ H x y v u Q I rx ry h
 obtain⟨a,b,L,M,rfl,rfl,⟨vs,ea,hla,ga⟩,⟨ws,eb,hlb,gb⟩,q⟩:=h
 cases rx
 cases ry
 obtain⟨its,v1,pl1,_⟩:=I.list (SqL.of ea)
 obtain⟨its2,v2,pl2,_⟩:=I.list (SqL.of eb)
 have l1:=v1.length
 have l2:=v2.length
 by_cases hl:L.length=M.length
 .refine eq_listAt (e:=fun j=>decide (L[j]?=M[j]?)) pl1.isList pl2.isList (by simp;omega) (by omega) (fun j h1 h2=>?_) ?_
  .have j1:j<L.length:=by simp at h1;omega
   have j2:j<M.length:=by omega
   obtain⟨u1,f1,ru1⟩:=v1.get (List.getElem?_eq_getElem (show j<vs.length by omega))
   obtain⟨u2,f2,ru2⟩:=v2.get (List.getElem?_eq_getElem (show j<ws.length by omega))
   rw[arr_at f1 h1,arr_at f2 h2]
   have:=ls1_at I (A:=X.A.in1) (show X.A.units+1+1<cLine by omega) (ga j _ _ (List.getElem?_eq_getElem (by omega)) (List.getElem?_eq_getElem j1)) (gb j _ _ (List.getElem?_eq_getElem (by omega)) (List.getElem?_eq_getElem j2)) ru1 ru2
   rw[show decide (L[j]=M[j])=decide (L[j]?=M[j]?) by rw[List.getElem?_eq_getElem j1,List.getElem?_eq_getElem j2];simp]at this
   exact this
  .rw[List.size_toArray,<- l1,hla,all_get hl]
   exact⟨.bl _,H,I,rfl,q⟩
 .refine eq_list_lengthsAt pl1.isList pl2.isList (by simp;omega) (by omega) ?_
  rw[decide_eq_false (fun z=>hl (by rw[z]))]at q
  exact⟨.bl _,H,I,rfl,q⟩
noncomputable def rNinB:R2:=fun x y H Q=>∃b L ns,Ls1 H x ns/\y=.ref b/\LL H b L/\Q (.bl (!decide (ns∈L))) H
open Classical in
theorem op_ninB (hu:X.A.units+64<cLine):OpR X (compareOp .NotIn) rNinB:=by
 intro pins s σ H x y v u Q I rx ry h
 obtain⟨b,L,ns,hx,rfl,⟨ws,eb,hlb,gb⟩,q⟩:=h
 cases ry
 obtain⟨its,v1,pl1,_⟩:=I.list (SqL.of eb)
 have l1:=v1.length
 refine notIn_listAt (fun u=>decide (∃p,u=Value.ref p/\H p=some (.lst (ns.map V.int)))) pl1.isList (fun w hw=>?_) ?_
 .obtain⟨i,hi⟩:=List.getElem?_of_mem (show w∈its by simpa using hw)
  have hi':i<its.length:=(List.getElem?_eq_some_iff.mp hi).1
  obtain⟨u1,f1,ru1⟩:=v1.get (List.getElem?_eq_getElem (show i<ws.length by omega))
  rw[hi]at f1
  cases f1
  have g:=gb i _ _ (List.getElem?_eq_getElem (by omega)) (List.getElem?_eq_getElem (show i<L.length by omega))
  have:=ls1_at I (A:=X.A.in1) (show X.A.units+1+1<cLine by omega) g hx ru1 rx
  obtain⟨p,ep,hp⟩:=g
  rw[ep]at ru1
  cases ru1
  have e:decide (L[i]=ns)=decide (∃p',Value.ref p=Value.ref p'/\H p'=some (.lst (ns.map V.int))):=by
   apply decide_eq_decide.mpr
   constructor
   .intro z;exact⟨p,rfl,by rw[<- z];exact hp⟩
   .rintro⟨p',z,hp'⟩
    cases z
    rw[hp]at hp'
    exact map_int_inj (by injection hp' with hp';injection hp' with hp')
  rw[e]at this
  exact this
 .have e:(its.toArray.any fun u=>decide (∃p,u=Value.ref p/\H p=some (.lst (ns.map V.int))))=decide (ns∈L):=by
   rw[Bool.eq_iff_iff,List.any_toArray,List.any_eq_true]
   constructor
   .rintro⟨w,hw,hd⟩
    obtain⟨p,rfl,hp⟩:=of_decide_eq_true hd
    obtain⟨i,hi⟩:=List.getElem?_of_mem hw
    have hi':i<its.length:=(List.getElem?_eq_some_iff.mp hi).1
    obtain⟨u1,f1,ru1⟩:=v1.get (List.getElem?_eq_getElem (show i<ws.length by omega))
    rw[hi]at f1
    cases f1
    obtain⟨p',ep,hp'⟩:=gb i _ _ (List.getElem?_eq_getElem (by omega)) (List.getElem?_eq_getElem (show i<L.length by omega))
    rw[ep]at ru1
    cases ru1
    rw[hp]at hp'
    have:ns=L[i]:=map_int_inj (by injection hp' with hp';injection hp' with hp')
    rw[this]
    exact decide_eq_true (List.getElem_mem _)
   .intro z
    obtain⟨i,hi⟩:=List.getElem?_of_mem (of_decide_eq_true z)
    have hi':i<L.length:=(List.getElem?_eq_some_iff.mp hi).1
    obtain⟨u1,f1,ru1⟩:=v1.get (List.getElem?_eq_getElem (show i<ws.length by omega))
    obtain⟨p',ep,hp'⟩:=gb i _ _ (List.getElem?_eq_getElem (by omega)) hi
    rw[ep]at ru1
    cases ru1
    exact⟨_,List.mem_of_getElem? f1,decide_eq_true ⟨p',rfl,hp'⟩⟩
  rw[e]
  exact⟨.bl _,H,I,rfl,q⟩
end
section
variable {X:Cx}
end
section
variable {X:Cx} {env:Env}
def Fr {α:Type} (t:Sem α):Prop:=∀(M:Model) (Γ:PySem.Ctx) (Q:α->Pos->Shared->Prop) (E:Value->Pos->Shared->Prop) (p:Pos) (s:Shared),Sem.wp M Γ t Q E p s->Sem.wp M Γ t (fun a p' s'=>1<=s'.toks/\Q a p' s') E p s
theorem Fr.bindL {α β:Type} {m:Sem α} {f:α->Sem β} (h:Fr m):Fr (m >>= f):=by
 intro M Γ Q E p s q
 rw[Sem.wp_bind']at q ⊢
 refine Sem.wp_mono M Γ m (fun a p' s' z=>?_) (fun _ _ _ z=>z) p s (h M Γ _ E p s q)
 exact Sem.wp_mono M Γ (f a) (fun _ _ _ z=>z) (fun _ _ _ z=>z.2) p' s' (Sem.wp_toks M Γ 1 (f a) Q E p' s' z.1 z.2)
theorem Fr.any {α:Type} {M:Model} {A:Around} {t:Sem α} {Q:α->Shared->Prop} {E:Value->Shared->Prop} {s:Shared} (h:Fr t) (q:wpAny M A t Q E s):wpAny M A t (fun a s'=>1<=s'.toks/\Q a s') E s:=fun Γ p hΓ=>h M Γ _ _ p s (q Γ p hΓ)
end
theorem kV_of {P:Program} {w:World} {k:Key} {u:Value} (h:(mixKind P w).is k u=true):RelV (kV k) u:=by
 rcases keyIs_shape (show keyIs k u=true from h)with⟨i,t,rfl,rfl⟩|⟨x,t,rfl,rfl⟩|⟨rfl,rfl⟩
 .exact⟨t,rfl⟩
 .exact⟨t,rfl⟩
 .exact rfl
theorem vals_at:∀{xs:List V} {us:List Value},xs.length=us.length->(∀(i:Nat) x u,xs[i]?=some x->us[i]?=some u->RelV x u)->Vals xs us
 | [],[],_,_=>.nil
 |x :: xs,u :: us,hl,h=>.cons (h 0 x u rfl rfl) (vals_at (by simpa using hl) fun i x' u' h1 h2=>h (i+1) x' u' (by simpa using h1) (by simpa using h2))
 | [],_ :: _,hl,_=>by simp at hl
 |_ :: _,[],hl,_=>by simp at hl
theorem kv_at {kvs:List (Key×V)} {vs:List (Key×Value)} (r:KV kvs vs):∀{i:Nat} {kv:Key×V} {p:Key×Value},kvs[i]?=some kv->vs[i]?=some p->kv.1=p.1/\RelV kv.2 p.2:=by
 induction r with
 |nil=>intro i kv p h;simp at h
 |cons h r ih=>
  intro i kv p h1 h2
  cases i with
  |zero=>cases h1;cases h2;exact h
  |succ i=>exact ih (by simpa using h1) (by simpa using h2)
section
variable {X:Cx}
end
section
variable {prog:Program} {w:World} {A:Around} {E:Value->Shared->Prop} {s:Shared} {b0:Array Keyed} {κ:SortKind}
end
section
variable {X:Cx}
end
end L2
namespace So
open PySem PySem.Spec PyProof.Rows
noncomputable def gallop':Bool->Keyed->Array Keyed->Nat->Nat->Nat->StateT SortSt Sem (Option Nat):=sortPriv% PySem.Builtin.gallop
noncomputable def mergeLo':Array Keyed->Array Keyed->StateT SortSt Sem (Array Keyed):=sortPriv% PySem.Builtin.mergeLo
noncomputable def mergeHi':Array Keyed->Array Keyed->StateT SortSt Sem (Array Keyed):=sortPriv% PySem.Builtin.mergeHi
section
variable {M:Model} {A:Around} {E:Value->Shared->Prop} {s:Shared} {O:KeyOrd} {ky:Keyed->O.α} {P:Keyed->Prop} {kd:SortKind}
structure Cmp (M:Model) (A:Around) (E:Value->Shared->Prop) (s:Shared) (O:KeyOrd) (ky:Keyed->O.α) (P:Keyed->Prop) (kd:SortKind):Prop where
 lt:∀{x y:Keyed} {st:SortSt} {Q:Option Bool->SortSt->Prop},P x->P y->kindOf st=kd->Q (some (O.blt (ky x) (ky y))) st->wpS M A E s (lt' x y) Q st
theorem wpS_for {σ β γ:Type} {a b:Nat} {f:Nat->β->StateT σ Sem (ForInStep β)} {g:β->StateT σ Sem γ} {Q:γ->σ->Prop} {c:β} {st:σ} (I:Nat->β->σ->Prop) (D:β->σ->Prop) (init:I a c st)
  (step:∀i c st,a<=i->i<b->I i c st->wpS M A E s (f i c) (fun r st'=>match r with | .done c'=>D c' st' | .yield c'=>I (i+1) c' st') st)
  (last:∀c st,I (max a b) c st->D c st) (post:∀c st,D c st->wpS M A E s (g c) Q st):wpS M A E s (forIn [a:b] c f >>= g) Q st:=
 wpS_bind (wpS_mono (wpS_forRange I step last init) post)
theorem wpS_elem {a:Array Keyed} {i:Nat} {x:Keyed} {Q:Keyed->SortSt->Prop} {st:SortSt} (e:a[i]?=some x) (h:Q x st):wpS M A E s (elem' a i) Q st:=by
 rw[elem'_eq,e];exact wpS_pure h
noncomputable def bey (left:Bool) (key:Keyed) (arr:Array Keyed) (i:Nat):StateT SortSt Sem (Option Bool):=do
  let x <- elem' arr i
  if left then lt' x key else return (<- lt' key x).map (!·)
noncomputable def gbin (left:Bool) (key:Keyed) (arr:Array Keyed) (base n l h:Nat):StateT SortSt Sem (Option Nat):=do
 let mut lo:=l
 let mut hi:=h
 for _ in [0:n] do
  if lo ≥ hi then break
  let m:=lo+(hi-lo) / 2
  let some more <- bey left key arr (base+m)|return none
  if more then lo:=m+1 else hi:=m
 return some hi
theorem gallop_eq (left:Bool) (key:Keyed) (arr:Array Keyed) (base n hint:Nat):gallop' left key arr base n hint=(do
 let mut u:=0
 let mut v:=1
 let some right <- bey left key arr (base+hint)|return none
 if right then
  for _ in [0:n] do
   if v ≥ n-hint then break
   let some more <- bey left key arr (base+(hint+v))|return none
   if !more then break
   u:=v
   v:=2*v+1
  gbin left key arr base n (hint+u+1) (hint+min v (n-hint))
 else
  for _ in [0:n] do
   if v ≥ hint+1 then break
   let some found <- bey left key arr (base+(hint-v))|return none
   if found then break
   u:=v
   v:=2*v+1
  gbin left key arr base n (hint+1-min v (hint+1)) (hint-u)):=rfl
theorem gbin_is {left:Bool} {key:Keyed} {arr:Array Keyed} {base n lo hi:Nat} {B:Nat->Bool} {st:SortSt} {Q:Option Nat->SortSt->Prop}
  (hb:∀i,i<n->∀{Q:Option Bool->SortSt->Prop},Q (some (B i)) st->wpS M A E s (bey left key arr (base+i)) Q st)
  (hm:∀i j,i<=j->j<n->B j=true->B i=true) (hm':∀i j,i<=j->j<n->B i=false->B j=false)
  (h1:lo<=hi) (h2:hi<=n) (h3:∀i,i<lo->B i=true) (h4:∀i,hi<=i->i<n->B i=false)
  (h:∀k,k<=n->(∀i,i<k->B i=true)->(∀i,k<=i->i<n->B i=false)->Q (some k) st):wpS M A E s (gbin left key arr base n lo hi) Q st:=by
 unfold gbin
 refine wpS_for (fun x c st'=>st=st'/\∃l r,c=(none,l,r)/\l<=r/\r<=n/\r-l<=n-x/\(∀i,i<l->B i=true)/\(∀i,r<=i->i<n->B i=false))
  (fun c st'=>st=st'/\∃l,c=(none,l,l)/\l<=n/\(∀i,i<l->B i=true)/\(∀i,l<=i->i<n->B i=false)) ⟨rfl,lo,hi,rfl,h1,h2,by omega,h3,h4⟩ ?_ ?_ ?_
 .rintro x c st' _ hx ⟨rfl,l,r,rfl,a1,a2,a3,a4,a5⟩
  dsimp only
  by_cases g:l ≥ r
  .rw[if_pos g]
   have e:l=r:=by omega
   subst e
   exact wpS_pure ⟨rfl,l,rfl,a2,a4,a5⟩
  .rw[if_neg g]
   refine wpS_bind (hb _ (by omega) ?_)
   cases hv:B (l+(r-l) / 2)
   .exact wpS_pure ⟨rfl,l,_,rfl,by omega,by omega,by omega,a4,fun i q1 q2=>hm' _ i q1 q2 hv⟩
   .exact wpS_pure ⟨rfl,_,r,rfl,by omega,a2,by omega,fun i q1=>hm i _ (by omega) (by omega) hv,a5⟩
 .rintro c st' ⟨rfl,l,r,rfl,a1,a2,a3,a4,a5⟩
  have e:l=r:=by omega
  subst e
  exact⟨rfl,l,rfl,a2,a4,a5⟩
 .rintro c st' ⟨rfl,l,rfl,a2,a4,a5⟩
  exact wpS_pure (h l a2 a4 a5)
theorem gallop_is {left:Bool} {key:Keyed} {arr:Array Keyed} {base n hint:Nat} {B:Nat->Bool} {st:SortSt} {Q:Option Nat->SortSt->Prop} (hh:hint<n)
  (hb:∀i,i<n->∀{Q:Option Bool->SortSt->Prop},Q (some (B i)) st->wpS M A E s (bey left key arr (base+i)) Q st)
  (hm:∀i j,i<=j->j<n->B j=true->B i=true)
  (h:∀k,k<=n->(∀i,i<k->B i=true)->(∀i,k<=i->i<n->B i=false)->Q (some k) st):wpS M A E s (gallop' left key arr base n hint) Q st:=by
 have hm':∀i j,i<=j->j<n->B i=false->B j=false:=fun i j a b c=>by
  cases e:B j
  .rfl
  .rw[hm i j a b e]at c;cases c
 rw[gallop_eq]
 refine wpS_bind (hb hint hh ?_)
 cases hr:B hint
 .dsimp only
  simp only[Bool.false_eq_true,if_false]
  refine wpS_for (fun x c st'=>st=st'/\∃l o,c=(none,l,o)/\l<o/\x+1<=o/\l<=hint/\B (hint-l)=false)
   (fun c st'=>st=st'/\∃l o,c=(none,l,o)/\l<o/\l<=hint/\B (hint-l)=false/\(o ≥ hint+1\/(o<hint+1/\B (hint-o)=true))) ⟨rfl,0,1,rfl,by omega,by omega,by omega,hr⟩ ?_ ?_ ?_
  .rintro x c st' _ hx ⟨rfl,l,o,rfl,a1,a2,a3,a4⟩
   dsimp only
   by_cases g:o ≥ hint+1
   .rw[if_pos g]
    exact wpS_pure ⟨rfl,l,o,rfl,a1,a3,a4,.inl g⟩
   .rw[if_neg g]
    refine wpS_bind (hb _ (by omega) ?_)
    cases hv:B (hint-o)
    .exact wpS_pure ⟨rfl,o,2*o+1,rfl,by omega,by omega,by omega,hv⟩
    .exact wpS_pure ⟨rfl,l,o,rfl,a1,a3,a4,.inr ⟨by omega,hv⟩⟩
  .rintro c st' ⟨rfl,l,o,rfl,a1,a2,a3,a4⟩
   exact⟨rfl,l,o,rfl,a1,a3,a4,.inl (by omega)⟩
  .rintro c st' ⟨rfl,l,o,rfl,a1,a3,a4,a5⟩
   dsimp only
   refine gbin_is hb hm hm' (by omega) (by omega) (fun i q=>?_) (fun i q1 q2=>hm' _ i q1 q2 a4) h
   rcases a5 with a5|⟨a5,a6⟩
   .omega
   .exact hm i _ (by omega) (by omega) a6
 .dsimp only
  simp only[if_true]
  refine wpS_for (fun x c st'=>st=st'/\∃l o,c=(none,l,o)/\l<o/\x+1<=o/\hint+l<n/\B (hint+l)=true)
   (fun c st'=>st=st'/\∃l o,c=(none,l,o)/\l<o/\hint+l<n/\B (hint+l)=true/\(o ≥ n-hint\/(o<n-hint/\B (hint+o)=false))) ⟨rfl,0,1,rfl,by omega,by omega,by omega,hr⟩ ?_ ?_ ?_
  .rintro x c st' _ hx ⟨rfl,l,o,rfl,a1,a2,a3,a4⟩
   dsimp only
   by_cases g:o ≥ n-hint
   .rw[if_pos g]
    exact wpS_pure ⟨rfl,l,o,rfl,a1,a3,a4,.inl g⟩
   .rw[if_neg g]
    refine wpS_bind (hb _ (by omega) ?_)
    cases hv:B (hint+o)
    .exact wpS_pure ⟨rfl,l,o,rfl,a1,a3,a4,.inr ⟨by omega,hv⟩⟩
    .exact wpS_pure ⟨rfl,o,2*o+1,rfl,by omega,by omega,by omega,hv⟩
  .rintro c st' ⟨rfl,l,o,rfl,a1,a2,a3,a4⟩
   exact⟨rfl,l,o,rfl,a1,a3,a4,.inl (by omega)⟩
  .rintro c st' ⟨rfl,l,o,rfl,a1,a3,a4,a5⟩
   dsimp only
   refine gbin_is hb hm hm' (by omega) (by omega) (fun i q=>hm i _ (by omega) a3 a4) (fun i q1 q2=>?_) h
   rcases a5 with a5|⟨a5,a6⟩
   .omega
   .exact hm' _ i (by omega) q2 a6
end
end So
namespace So
open PySem PySem.Spec PyProof.Rows
structure Mg (R:Keyed->Keyed->Prop) (T o ra rb:List Keyed):Prop where
 pm:(o++(ra++rb)).Perm T
 so:o.Pairwise R
 sa:ra.Pairwise R
 sb:rb.Pairwise R
 oa:∀x∈o,∀y∈ra,R x y
 ob:∀x∈o,∀y∈rb,R x y
section
variable {R:Keyed->Keyed->Prop} {T o ra rb:List Keyed}
theorem Mg.swap (m:Mg R T o ra rb):Mg R T o rb ra:=⟨(List.Perm.append_left o List.perm_append_comm).trans m.pm,m.so,m.sb,m.sa,m.ob,m.oa⟩
theorem Mg.put {u:List Keyed} (m:Mg R T o (u++ra) rb) (h:∀y∈u,∀z∈rb,R y z):Mg R T (o++u) ra rb:=by
 have⟨s1,s2,s3⟩:=List.pairwise_append.mp m.sa
 refine⟨?_,List.pairwise_append.mpr ⟨m.so,s1,fun x hx y hy=>m.oa x hx y (List.mem_append_left _ hy)⟩,s2,m.sb,?_,?_⟩
 .have:=m.pm;simpa[List.append_assoc]using this
 .intro x hx y hy
  rcases List.mem_append.mp hx with hx|hx
  .exact m.oa x hx y (List.mem_append_right _ hy)
  .exact s3 x hx y hy
 .intro x hx y hy
  rcases List.mem_append.mp hx with hx|hx
  .exact m.ob x hx y hy
  .exact h x hx y hy
theorem Mg.put1 {u:Keyed} (m:Mg R T o (u :: ra) rb) (h:∀z∈rb,R u z):Mg R T (o++[u]) ra rb:=
 Mg.put (u:=[u]) m fun y hy=>by rw[List.mem_singleton]at hy;subst hy;exact h
theorem Mg.putB {u:List Keyed} (m:Mg R T o ra (u++rb)) (h:∀y∈u,∀z∈ra,R y z):Mg R T (o++u) ra rb:=(m.swap.put h).swap
theorem Mg.putB1 {u:Keyed} (m:Mg R T o ra (u :: rb)) (h:∀z∈ra,R u z):Mg R T (o++[u]) ra rb:=(m.swap.put1 h).swap
theorem Mg.fin (m:Mg R T o ra rb) (h:∀y∈ra,∀z∈rb,R y z):(o++(ra++rb)).Perm T/\(o++(ra++rb)).Pairwise R:=by
 refine⟨m.pm,List.pairwise_append.mpr ⟨m.so,List.pairwise_append.mpr ⟨m.sa,m.sb,h⟩,fun x hx y hy=>?_⟩⟩
 rcases List.mem_append.mp hy with hy|hy
 .exact m.oa x hx y hy
 .exact m.ob x hx y hy
end
end So
namespace So
open PySem PySem.Spec PyProof.Rows
section
variable {M:Model} {A:Around} {E:Value->Shared->Prop} {s:Shared} {O:KeyOrd} {ky:Keyed->O.α} {P:Keyed->Prop} {kd:SortKind}
def SameG (st st':SortSt):Prop:=kindOf st'=kindOf st/\arrOf st'=arrOf st/\pendingOf st'=pendingOf st/\failedOf st'=failedOf st
theorem SameG.rfl' (st:SortSt):SameG st st:=⟨rfl,rfl,rfl,rfl⟩
theorem SameG.trans {a b c:SortSt} (h:SameG a b) (g:SameG b c):SameG a c:=⟨g.1.trans h.1,g.2.1.trans h.2.1,g.2.2.1.trans h.2.2.1,g.2.2.2.trans h.2.2.2⟩
theorem SameG.set (st:SortSt) (m:Nat):SameG st (SortSt.mk' (kindOf st) (arrOf st) (pendingOf st) m (failedOf st)):=⟨rfl,rfl,rfl,rfl⟩
def Rk (O:KeyOrd) (ky:Keyed->O.α) (p q:Keyed):Prop:=O.kle (ky p) (ky q)
theorem bey_is (C:Cmp M A E s O ky P kd) {left:Bool} {key x:Keyed} {arr:Array Keyed} {i:Nat} {st:SortSt} {Q:Option Bool->SortSt->Prop} (hk:P key) (hx:P x) (e:arr[i]?=some x) (k:kindOf st=kd)
  (h:Q (some (if left then O.blt (ky x) (ky key)else !O.blt (ky key) (ky x))) st):wpS M A E s (bey left key arr i) Q st:=by
 unfold bey
 refine wpS_bind (wpS_elem e ?_)
 cases left
 .simp only[Bool.false_eq_true,if_false]at h ⊢
  exact wpS_bind (C.lt hk hx k (wpS_pure h))
 .simp only[if_true]at h ⊢
  exact C.lt hx hk k h
theorem at_some {a:Array Keyed} {i:Nat} (h:i<a.size):∃p,a[i]?=some p/\p∈a.toList:=⟨a[i],by simp,by simp⟩
theorem gallop_up (C:Cmp M A E s O ky P kd) {key:Keyed} {arr:Array Keyed} {base n hint:Nat} {st:SortSt} {Q:Option Nat->SortSt->Prop} (hk:P key) (k:kindOf st=kd) (hh:hint<n) (hn:base+n<=arr.size)
  (ha:∀p∈arr.toList,P p) (hs:∀i j p q,i<=j->j<n->arr[base+i]?=some p->arr[base+j]?=some q->O.kle (ky p) (ky q))
  (h:∀m,m<=n->(∀i p,i<m->arr[base+i]?=some p->O.kle (ky p) (ky key))->(∀i p,m<=i->i<n->arr[base+i]?=some p->O.klt (ky key) (ky p))->Q (some m) st):
  wpS M A E s (gallop' false key arr base n hint) Q st:=by
 refine gallop_is (B:=fun i=>match arr[base+i]? with|some p=>!O.blt (ky key) (ky p)|none=>false) hh ?_ ?_ ?_
 .intro i hi Q h
  obtain⟨p,e,m⟩:=at_some (a:=arr) (i:=base+i) (by omega)
  refine bey_is C hk (ha p m) e k ?_
  simp only[e]at h
  simpa using h
 .intro i j hij hj hb
  obtain⟨p,e,m⟩:=at_some (a:=arr) (i:=base+i) (by omega)
  obtain⟨q,e2,m2⟩:=at_some (a:=arr) (i:=base+j) (by omega)
  simp only[e,e2]at hb ⊢
  have:=hs i j p q hij hj e e2
  have h2:O.kle (ky q) (ky key):=by simpa[KeyOrd.kle]using hb
  have:=KeyOrd.kle_trans this h2
  simpa[KeyOrd.kle]using this
 .intro m hm h1 h2
  refine h m hm ?_ ?_
  .intro i p hi e
   have:=h1 i hi
   simp only[e]at this
   simpa[KeyOrd.kle]using this
  .intro i p h3 h4 e
   have:=h2 i h3 h4
   simp only[e]at this
   simpa[KeyOrd.klt]using this
theorem gallop_less (C:Cmp M A E s O ky P kd) {key:Keyed} {arr:Array Keyed} {base n hint:Nat} {st:SortSt} {Q:Option Nat->SortSt->Prop} (hk:P key) (k:kindOf st=kd) (hh:hint<n) (hn:base+n<=arr.size)
  (ha:∀p∈arr.toList,P p) (hs:∀i j p q,i<=j->j<n->arr[base+i]?=some p->arr[base+j]?=some q->O.kle (ky p) (ky q))
  (h:∀m,m<=n->(∀i p,i<m->arr[base+i]?=some p->O.klt (ky p) (ky key))->(∀i p,m<=i->i<n->arr[base+i]?=some p->O.kle (ky key) (ky p))->Q (some m) st):
  wpS M A E s (gallop' true key arr base n hint) Q st:=by
 refine gallop_is (B:=fun i=>match arr[base+i]? with|some p=>O.blt (ky p) (ky key)|none=>false) hh ?_ ?_ ?_
 .intro i hi Q h
  obtain⟨p,e,m⟩:=at_some (a:=arr) (i:=base+i) (by omega)
  refine bey_is C hk (ha p m) e k ?_
  simp only[e]at h
  simpa using h
 .intro i j hij hj hb
  obtain⟨p,e,m⟩:=at_some (a:=arr) (i:=base+i) (by omega)
  obtain⟨q,e2,m2⟩:=at_some (a:=arr) (i:=base+j) (by omega)
  simp only[e,e2]at hb ⊢
  exact KeyOrd.klt_of_kle_of_klt (hs i j p q hij hj e e2) hb
 .intro m hm h1 h2
  refine h m hm ?_ ?_
  .intro i p hi e
   have:=h1 i hi
   simp only[e]at this
   exact this
  .intro i p h3 h4 e
   have:=h2 i h3 h4
   simp only[e]at this
   exact this
theorem drop_at {a:Array Keyed} {i:Nat} {p:Keyed} (e:a[i]?=some p):a.toList.drop i=p :: a.toList.drop (i+1):=by
 have hi:i<a.size:=by
  rcases Nat.lt_or_ge i a.size with h|h
  .exact h
  .rw[Array.getElem?_eq_none h]at e;cases e
 have:a[i]=p:=by rw[Array.getElem?_eq_getElem hi]at e;exact Option.some.inj e
 rw[List.drop_eq_getElem_cons (by simpa using hi)]
 simp[this]
theorem list_extract (a:Array Keyed) (i j:Nat):(a.extract i j).toList=(a.toList.drop i).take (j-i):=by
 simp[Array.toList_extract,List.extract_eq_take_drop]
theorem list_rest (a:Array Keyed) (i:Nat):(a.extract i a.size).toList=a.toList.drop i:=by
 rw[list_extract,List.take_of_length_le];simp
theorem drop_k (l:List Keyed) (i k:Nat):l.drop i=(l.drop i).take k++l.drop (i+k):=by
 rw[<- List.drop_drop,List.take_append_drop]
theorem mem_take_at {a:Array Keyed} {i k:Nat} {p:Keyed} (h:p∈(a.toList.drop i).take k):∃n,n<k/\a[i+n]?=some p:=by
 obtain⟨n,hn,e⟩:=List.getElem_of_mem h
 have hl:n<k:=by simp at hn;omega
 refine⟨n,hl,?_⟩
 rw[List.getElem_take,List.getElem_drop]at e
 simp at hn
 rw[Array.getElem?_eq_getElem (by omega)]
 simpa using e
theorem mem_drop_at {a:Array Keyed} {i:Nat} {p:Keyed} (h:p∈a.toList.drop i):∃n,i<=n/\a[n]?=some p:=by
 obtain⟨n,hn,e⟩:=List.getElem_of_mem h
 refine⟨i+n,by omega,?_⟩
 rw[List.getElem_drop]at e
 simp at hn
 rw[Array.getElem?_eq_getElem (by omega)]
 simpa using e
theorem pw_at {R:Keyed->Keyed->Prop} {a:Array Keyed} (h:a.toList.Pairwise R) {i j:Nat} {p q:Keyed} (hij:i<j) (e:a[i]?=some p) (e2:a[j]?=some q):R p q:=by
 have hj:j<a.size:=by
  rcases Nat.lt_or_ge j a.size with h|h
  .exact h
  .rw[Array.getElem?_eq_none h]at e2;cases e2
 have h1:a[i]=p:=by rw[Array.getElem?_eq_getElem (by omega)]at e;exact Option.some.inj e
 have h2:a[j]=q:=by rw[Array.getElem?_eq_getElem hj]at e2;exact Option.some.inj e2
 have:=List.pairwise_iff_getElem.mp h i j (by simp;omega) (by simp;omega) hij
 simpa[h1,h2]using this
theorem up_at {a:Array Keyed} (h:a.toList.Pairwise (Rk O ky)) {i j:Nat} {p q:Keyed} (hij:i<=j) (e:a[i]?=some p) (e2:a[j]?=some q):O.kle (ky p) (ky q):=by
 by_cases g:i=j
 .subst g;rw[e]at e2;cases e2;exact KeyOrd.kle_refl _
 .exact pw_at h (by omega) e e2
end
end So
namespace So
open PySem PySem.Spec PyProof.Rows
section
variable {M:Model} {A:Around} {E:Value->Shared->Prop} {s:Shared} {O:KeyOrd} {ky:Keyed->O.α} {P:Keyed->Prop} {kd:SortKind} {x y:Array Keyed}
def Good (O:KeyOrd) (ky:Keyed->O.α) (x y r:Array Keyed):Prop:=r.toList.Perm (x.toList++y.toList)/\r.toList.Pairwise (Rk O ky)
def Wk (O:KeyOrd) (ky:Keyed->O.α) (x y o:Array Keyed) (i j:Nat):Prop:=Mg (Rk O ky) (x.toList++y.toList) o.toList (x.toList.drop i) (y.toList.drop j)/\i<=x.size/\j<=y.size
theorem Wk.dn {o:Array Keyed} {i j:Nat} (w:Wk O ky x y o i j) (e:j=y.size):Good O ky x y (o++x.extract i x.size++y.extract j y.size):=by
 subst e
 have:=w.1.fin (fun p _ q hq=>by rw[List.drop_eq_nil_of_le (by simp)]at hq;cases hq)
 unfold Good
 rw[Array.toList_append,Array.toList_append,list_rest,list_rest,List.append_assoc]
 exact this
theorem Wk.la {o:Array Keyed} {i j:Nat} (w:Wk O ky x y o i j) (e:i+1=x.size) (hl:∀p q,x[x.size-1]?=some p->q∈y.toList->O.klt (ky q) (ky p)):Good O ky x y (o++y.extract j y.size++x.extract i x.size):=by
 have:=w.1.swap.fin (fun q hq p hp=>by
  obtain⟨n,hn,e2⟩:=mem_drop_at hp
  have:n<x.size:=by
   rcases Nat.lt_or_ge n x.size with h|h
   .exact h
   .rw[Array.getElem?_eq_none h]at e2;cases e2
  have:n=x.size-1:=by omega
  subst this
  exact KeyOrd.kle_of_klt (hl p q e2 (List.mem_of_mem_drop hq)))
 unfold Good
 rw[Array.toList_append,Array.toList_append,list_rest,list_rest,List.append_assoc]
 exact this
theorem Wk.putB {o:Array Keyed} {i j:Nat} {p q:Keyed} (w:Wk O ky x y o i j) (e1:x[i]?=some p) (e2:y[j]?=some q) (h:O.kle (ky q) (ky p)) (hj:j<y.size) (sx:x.toList.Pairwise (Rk O ky)):Wk O ky x y (o.push q) i (j+1):=by
 refine⟨?_,w.2.1,hj⟩
 have m:=w.1
 rw[drop_at e2]at m
 rw[Array.toList_push]
 refine m.putB1 fun z hz=>?_
 obtain⟨n,hn,e3⟩:=mem_drop_at hz
 exact KeyOrd.kle_trans h (up_at sx hn e1 e3)
theorem Wk.putA {o:Array Keyed} {i j:Nat} {p q:Keyed} (w:Wk O ky x y o i j) (e1:x[i]?=some p) (e2:y[j]?=some q) (h:O.kle (ky p) (ky q)) (hi:i<x.size) (sy:y.toList.Pairwise (Rk O ky)):Wk O ky x y (o.push p) (i+1) j:=by
 refine⟨?_,hi,w.2.2⟩
 have m:=w.1
 rw[drop_at e1]at m
 rw[Array.toList_push]
 refine m.put1 fun z hz=>?_
 obtain⟨n,hn,e3⟩:=mem_drop_at hz
 exact KeyOrd.kle_trans h (up_at sy hn e2 e3)
theorem Wk.manyA {o:Array Keyed} {i j k:Nat} {q:Keyed} (w:Wk O ky x y o i j) (e2:y[j]?=some q) (h:∀n p,n<k->x[i+n]?=some p->O.kle (ky p) (ky q)) (hi:i+k<=x.size) (sy:y.toList.Pairwise (Rk O ky)):
  Wk O ky x y (o++x.extract i (i+k)) (i+k) j:=by
 refine⟨?_,hi,w.2.2⟩
 have m:=w.1
 rw[drop_k _ i k]at m
 rw[Array.toList_append,list_extract,Nat.add_sub_cancel_left]
 refine m.put fun p hp z hz=>?_
 obtain⟨n,hn,e3⟩:=mem_take_at hp
 obtain⟨n2,hn2,e4⟩:=mem_drop_at hz
 exact KeyOrd.kle_trans (h n p hn e3) (up_at sy hn2 e2 e4)
theorem Wk.manyB {o:Array Keyed} {i j k:Nat} {p:Keyed} (w:Wk O ky x y o i j) (e1:x[i]?=some p) (h:∀n q,n<k->y[j+n]?=some q->O.klt (ky q) (ky p)) (hj:j+k<=y.size) (sx:x.toList.Pairwise (Rk O ky)):
  Wk O ky x y (o++y.extract j (j+k)) i (j+k):=by
 refine⟨?_,w.2.1,hj⟩
 have m:=w.1
 rw[drop_k _ j k]at m
 rw[Array.toList_append,list_extract,Nat.add_sub_cancel_left]
 refine m.putB fun q hq z hz=>?_
 obtain⟨n,hn,e3⟩:=mem_take_at hq
 obtain⟨n2,hn2,e4⟩:=mem_drop_at hz
 exact KeyOrd.kle_trans (KeyOrd.kle_of_klt (h n q hn e3)) (up_at sx hn2 e1 e4)
theorem wpS_setg {m:Nat} {st:SortSt} {Q:PUnit->SortSt->Prop} (h:∀st',SameG st st'->Q ⟨⟩ st'):wpS M A E s (modify fun st=>SortSt.mk' (kindOf st) (arrOf st) (pendingOf st) m (failedOf st)) Q st:=
 wpS_modify (h _ (SameG.set _ _))
noncomputable def dnL (x y o:Array Keyed) (i j:Nat):Array Keyed:=o++x.extract i x.size++y.extract j y.size
noncomputable def laL (x y o:Array Keyed) (i j:Nat):Array Keyed:=o++y.extract j y.size++x.extract i x.size
noncomputable abbrev SG:Type:=Option (Array Keyed)×Array Keyed×Nat×Nat×Nat×Nat×Nat
noncomputable def lo3 (x y o:Array Keyed) (i j mg ca cb:Nat):StateT SortSt Sem (ForInStep SG):=do
 let p <- elem' x i
 if(i+1+1 == x.size)=true then pure (.done (some (laL x y (o.push p) (i+1) j),o.push p,i+1,j,mg,ca,cb))
 else if(decide (ca<7)&&decide (cb<7))=true then pure (.done (none,o.push p,i+1,j,mg,ca,cb))else pure (.yield (none,o.push p,i+1,j,mg,ca,cb))
noncomputable def lo2 (x y o:Array Keyed) (i j mg ca cb:Nat):StateT SortSt Sem (ForInStep SG):=do
 let q <- elem' y j
 if(j+1 == y.size)=true then pure (.done (some (dnL x y (o.push q) i (j+1)),o.push q,i,j+1,mg,ca,cb))
 else do
  let p <- elem' x i
  let r <- gallop' true p y (j+1) (y.size-(j+1)) 0
  match r with
  |some k=>
   if k > 0 then
    if(j+1+k == y.size)=true then pure (.done (some (dnL x y (o.push q++y.extract (j+1) (j+1+k)) i (j+1+k)),o.push q++y.extract (j+1) (j+1+k),i,j+1+k,mg,ca,k))
    else lo3 x y (o.push q++y.extract (j+1) (j+1+k)) i (j+1+k) mg ca k
   else lo3 x y (o.push q) i (j+1) mg ca k
  |_=>pure (.done (some (dnL x y (o.push q) i (j+1)),o.push q,i,j+1,mg,ca,cb))
noncomputable def lo1 (x y o:Array Keyed) (i j mg ca cb:Nat):StateT SortSt Sem (ForInStep SG):=do
 modify fun st=>SortSt.mk' (kindOf st) (arrOf st) (pendingOf st) mg (failedOf st)
 let q <- elem' y j
 let r <- gallop' false q x i (x.size-i) 0
 match r with
 |some k=>
  if k > 0 then
   if(i+k+1 == x.size)=true then pure (.done (some (laL x y (o++x.extract i (i+k)) (i+k) j),o++x.extract i (i+k),i+k,j,mg,k,cb))
   else if(i+k == x.size)=true then pure (.done (some (dnL x y (o++x.extract i (i+k)) (i+k) j),o++x.extract i (i+k),i+k,j,mg,k,cb))
   else lo2 x y (o++x.extract i (i+k)) (i+k) j mg k cb
  else lo2 x y o i j mg k cb
 |_=>pure (.done (some (dnL x y o i j),o,i,j,mg,ca,cb))
noncomputable abbrev SI:Type:=Option (Array Keyed)×Array Keyed×Nat×Nat×Nat×Nat
noncomputable abbrev SO:Type:=Option (Array Keyed)×Array Keyed×Nat×Nat×Nat
noncomputable def loI (x y:Array Keyed) (o:Array Keyed) (i j mg ca cb:Nat):StateT SortSt Sem (ForInStep SI):=do
 let q <- elem' y j
 let p <- elem' x i
 let r <- lt' q p
 match r with
 |some b=>
  if b=true then do
   let q <- elem' y j
   if(j+1 == y.size)=true then pure (.done (some (dnL x y (o.push q) i (j+1)),o.push q,i,j+1,0,cb+1))
   else if cb+1 ≥ mg then pure (.done (none,o.push q,i,j+1,0,cb+1))else pure (.yield (none,o.push q,i,j+1,0,cb+1))
  else do
   let p <- elem' x i
   if(i+1+1 == x.size)=true then pure (.done (some (laL x y (o.push p) (i+1) j),o.push p,i+1,j,ca+1,0))
   else if ca+1 ≥ mg then pure (.done (none,o.push p,i+1,j,ca+1,0))else pure (.yield (none,o.push p,i+1,j,ca+1,0))
 |_=>pure (.done (some (dnL x y o i j),o,i,j,ca,cb))
noncomputable def loG (x y:Array Keyed) (u:SG):StateT SortSt Sem (ForInStep SG):=
 if u.2.2.2.2.1 > 1 then lo1 x y u.2.1 u.2.2.1 u.2.2.2.1 (u.2.2.2.2.1-1) u.2.2.2.2.2.1 u.2.2.2.2.2.2 else lo1 x y u.2.1 u.2.2.1 u.2.2.2.1 u.2.2.2.2.1 u.2.2.2.2.2.1 u.2.2.2.2.2.2
noncomputable def loO (x y:Array Keyed) (c:SO):StateT SortSt Sem (ForInStep SO):=do
 let r <- forIn [0:x.size+y.size] ((none,c.2.1,c.2.2.1,c.2.2.2.1,0,0):SI) fun _ r=>loI x y r.2.1 r.2.2.1 r.2.2.2.1 c.2.2.2.2 r.2.2.2.2.1 r.2.2.2.2.2
 match r.1 with
 |some v=>pure (.done (some v,r.2.1,r.2.2.1,r.2.2.2.1,c.2.2.2.2))
 |none=>do
  liftM (rule "list.sort.gallop")
  let u <- forIn [0:x.size+y.size] ((none,r.2.1,r.2.2.1,r.2.2.2.1,c.2.2.2.2+1,r.2.2.2.2.1,r.2.2.2.2.2):SG) fun _ u=>loG x y u
  match u.1 with
  |some v=>pure (.done (some v,u.2.1,u.2.2.1,u.2.2.2.1,u.2.2.2.2.1))
  |none=>do
   modify fun st=>SortSt.mk' (kindOf st) (arrOf st) (pendingOf st) (u.2.2.2.2.1+1) (failedOf st)
   pure (.yield (none,u.2.1,u.2.2.1,u.2.2.2.1,u.2.2.2.2.1+1))
theorem mergeLo_eq (x y:Array Keyed):mergeLo' x y=(do
 rule "list.sort.merge-lo"
 let t:=x.size+y.size
 let dn (o:Array Keyed) (i j:Nat):=o++x.extract i x.size++y.extract j y.size
 let la (o:Array Keyed) (i j:Nat):=o++y.extract j y.size++x.extract i x.size
 let mut o:Array Keyed:=#[<- elem' y 0]
 let mut i:=0
 let mut j:=1
 if j == y.size then return dn o i j
 if i+1 == x.size then return la o i j
 let mut mg:=gallopOf (<- get)
 for _ in [0:t] do
  let mut ca:=0
  let mut cb:=0
  for _ in [0:t] do
   let some bw <- lt' (<- elem' y j) (<- elem' x i)|return dn o i j
   if bw then
    o:=o.push (<- elem' y j);j:=j+1;cb:=cb+1;ca:=0
    if j == y.size then return dn o i j
    if cb ≥ mg then break
   else
    o:=o.push (<- elem' x i);i:=i+1;ca:=ca+1;cb:=0
    if i+1 == x.size then return la o i j
    if ca ≥ mg then break
  rule "list.sort.gallop"
  mg:=mg+1
  for _ in [0:t] do
   if mg > 1 then mg:=mg-1
   modify fun st=>SortSt.mk' (kindOf st) (arrOf st) (pendingOf st) mg (failedOf st)
   let some k <- gallop' false (<- elem' y j) x i (x.size-i) 0|return dn o i j
   ca:=k
   if k > 0 then
    o:=o++x.extract i (i+k);i:=i+k
    if i+1 == x.size then return la o i j
    if i == x.size then return dn o i j
   o:=o.push (<- elem' y j);j:=j+1
   if j == y.size then return dn o i j
   let some k <- gallop' true (<- elem' x i) y j (y.size-j) 0|return dn o i j
   cb:=k
   if k > 0 then
    o:=o++y.extract j (j+k);j:=j+k
    if j == y.size then return dn o i j
   o:=o.push (<- elem' x i);i:=i+1
   if i+1 == x.size then return la o i j
   if ca<7&&cb<7 then break
  mg:=mg+1
  modify fun st=>SortSt.mk' (kindOf st) (arrOf st) (pendingOf st) mg (failedOf st)
 unsupported "internal:list.sort.merge-bound"):=rfl
theorem for_body {β γ:Type} {t:Std.Legacy.Range} {c:β} {f g:Nat->β->StateT SortSt Sem (ForInStep β)} {u v:β->StateT SortSt Sem γ} (h:∀n c,f n c=g n c) (k:∀c,u c=v c):(forIn t c f >>= u)=(forIn t c g >>= v):=by
 rw[show f=g from funext fun n=>funext fun c=>h n c,show u=v from funext k]
theorem bind_body {α β:Type} {m:StateT SortSt Sem α} {u v:α->StateT SortSt Sem β} (h:∀a,u a=v a):(m >>= u)=(m >>= v):=by rw[show u=v from funext h]
theorem ite_body {α:Type} {c:Prop} [Decidable c] {a b d e:α} (h:a=d) (k:b=e):(if c then a else b)=(if c then d else e):=by rw[h,k]
noncomputable def loM (x y:Array Keyed):StateT SortSt Sem (Array Keyed):=do
 liftM (rule "list.sort.merge-lo")
 let q <- elem' y 0
 if(1 == y.size)=true then pure (dnL x y #[q] 0 1)
 else if(0+1 == x.size)=true then pure (laL x y #[q] 0 1)
 else do
  let st <- get
  let r <- forIn [0:x.size+y.size] ((none,#[q],0,1,gallopOf st):SO) fun _ r=>loO x y r
  match r.1 with
  |some v=>pure v
  |none=>unsupported "internal:list.sort.merge-bound"
theorem mergeLo_eqn (x y:Array Keyed):mergeLo' x y=loM x y:=by
 refine(mergeLo_eq x y).trans ?_
 refine bind_body fun _=>bind_body fun q=>ite_body rfl (ite_body rfl (bind_body fun st=>for_body (fun n c=>?_) fun c=>by obtain⟨c0,c1⟩:=c;cases c0<;>rfl))
 refine for_body (fun n c=>rfl) fun c=>?_
 obtain⟨c0,o,i,j,ca,cb⟩:=c
 cases c0
 .refine bind_body fun _=>for_body (fun n c=>rfl) fun c=>?_
  obtain⟨c0,o,i,j,mg,ca,cb⟩:=c
  cases c0
  .rfl
  .rfl
 .rfl
noncomputable def Stp (O:KeyOrd) (ky:Keyed->O.α) (st:SortSt) (x y:Array Keyed) (b:Nat):ForInStep SG->SortSt->Prop:=fun r st'=>match r with
 | .done c=>SameG st st'/\((∃r,c.1=some r/\Good O ky x y r)\/∃o i j mg ca cb,c=(none,o,i,j,mg,ca,cb)/\Wk O ky x y o i j/\i+1<x.size/\j<y.size/\b<=i+j)
 | .yield c=>SameG st st'/\∃o i j mg ca cb,c=(none,o,i,j,mg,ca,cb)/\Wk O ky x y o i j/\i+1<x.size/\j<y.size/\b<=i+j
theorem lo3_is {st st4:SortSt} {o:Array Keyed} {i j mg ca cb b:Nat} {p q:Keyed} (g4:SameG st st4) (w:Wk O ky x y o i j) (ep:x[i]?=some p) (eq:y[j]?=some q) (h:O.kle (ky p) (ky q)) (sy:y.toList.Pairwise (Rk O ky)) (hi:i+1<x.size) (hj:j<y.size) (hc:b<=i+j)
  (hl:∀p q,x[x.size-1]?=some p->q∈y.toList->O.klt (ky q) (ky p)):wpS M A E s (lo3 x y o i j mg ca cb) (Stp O ky st x y b) st4:=by
 have w6:=w.putA ep eq h (by omega) sy
 unfold lo3
 refine wpS_bind (wpS_elem ep ?_)
 by_cases c6:i+1+1=x.size
 .rw[if_pos (by simpa using c6)]
  exact wpS_pure ⟨g4,.inl ⟨_,rfl,w6.la c6 hl⟩⟩
 rw[if_neg (by simpa using c6)]
 split
 .exact wpS_pure ⟨g4,.inr ⟨_,_,_,_,_,_,rfl,w6,by omega,by omega,by omega⟩⟩
 .exact wpS_pure ⟨g4,_,_,_,_,_,_,rfl,w6,by omega,by omega,by omega⟩
theorem lo2_is (C:Cmp M A E s O ky P kd) {st st4:SortSt} {o:Array Keyed} {i j mg ca cb b:Nat} {p q:Keyed} (g4:SameG st st4) (w:Wk O ky x y o i j) (ep:x[i]?=some p) (eq:y[j]?=some q) (h:O.klt (ky q) (ky p)) (kst:kindOf st=kd) (px:∀p∈x.toList,P p) (py:∀p∈y.toList,P p) (sx:x.toList.Pairwise (Rk O ky)) (sy:y.toList.Pairwise (Rk O ky)) (hi:i+1<x.size) (hj:j<y.size) (hc:b<=i+j)
  (hl:∀p q,x[x.size-1]?=some p->q∈y.toList->O.klt (ky q) (ky p)):wpS M A E s (lo2 x y o i j mg ca cb) (Stp O ky st x y b) st4:=by
 unfold lo2
 refine wpS_bind (wpS_elem eq ?_)
 have w4:=w.putB ep eq (KeyOrd.kle_of_klt h) hj sx
 by_cases c4:j+1=y.size
 .rw[if_pos (by simpa using c4)]
  exact wpS_pure ⟨g4,.inl ⟨_,rfl,w4.dn c4⟩⟩
 rw[if_neg (by simpa using c4)]
 refine wpS_bind (wpS_elem ep (wpS_bind (gallop_less C (px p (by simpa using Array.mem_of_getElem? ep)) (g4.1.trans kst) (by omega) (by omega) py (fun a b u v hab hb e1 e2=>up_at sy (by omega) e1 e2) fun k2 hk3 l3 l4=>?_)))
 dsimp only
 by_cases hk4:k2 > 0
 .have w5:=w4.manyB ep l3 (by omega) sx
  rw[if_pos hk4]
  by_cases c5:j+1+k2=y.size
  .rw[if_pos (by simpa using c5)]
   exact wpS_pure ⟨g4,.inl ⟨_,rfl,w5.dn c5⟩⟩
  rw[if_neg (by simpa using c5)]
  obtain⟨q2,eq2,_⟩:=at_some (a:=y) (i:=j+1+k2) (by omega)
  exact lo3_is g4 w5 ep eq2 (l4 k2 q2 (Nat.le_refl _) (by omega) eq2) sy hi (by omega) (by omega) hl
 .rw[if_neg hk4]
  obtain⟨q2,eq2,_⟩:=at_some (a:=y) (i:=j+1) (by omega)
  exact lo3_is g4 w4 ep eq2 (l4 0 q2 (by omega) (by omega) eq2) sy hi (by omega) (by omega) hl
theorem lo1_is (C:Cmp M A E s O ky P kd) {st st3:SortSt} {o:Array Keyed} {i j mg ca cb b:Nat} (g3:SameG st st3) (w:Wk O ky x y o i j) (kst:kindOf st=kd) (px:∀p∈x.toList,P p) (py:∀p∈y.toList,P p) (sx:x.toList.Pairwise (Rk O ky)) (sy:y.toList.Pairwise (Rk O ky)) (hi:i+1<x.size) (hj:j<y.size) (hc:b<=i+j)
  (hl:∀p q,x[x.size-1]?=some p->q∈y.toList->O.klt (ky q) (ky p)):wpS M A E s (lo1 x y o i j mg ca cb) (Stp O ky st x y b) st3:=by
 obtain⟨q,eq,mq⟩:=at_some hj
 unfold lo1
 refine wpS_bind (wpS_setg fun st4 g0=>?_)
 have g4:=g3.trans g0
 refine wpS_bind (wpS_elem eq (wpS_bind (gallop_up C (py q mq) (g4.1.trans kst) (by omega) (by omega) px (fun a b u v hab hb e1 e2=>up_at sx (by omega) e1 e2) fun k1 hk1 l1 l2=>?_)))
 dsimp only
 have hk2:i+k1<x.size:=by
  rcases Nat.lt_or_ge (i+k1) x.size with u|u
  .exact u
  .obtain⟨pl,epl,_⟩:=at_some (a:=x) (i:=x.size-1) (by omega)
   have b1:=hl pl q epl mq
   have b2:=l1 (x.size-1-i) pl (by omega) (by rw[show i+(x.size-1-i)=x.size-1 by omega];exact epl)
   exact absurd b1 (KeyOrd.not_klt_of_kle b2)
 by_cases hk0:k1 > 0
 .have w2:=w.manyA eq l1 (by omega) sy
  rw[if_pos hk0]
  by_cases c3:i+k1+1=x.size
  .rw[if_pos (by simpa using c3)]
   exact wpS_pure ⟨g4,.inl ⟨_,rfl,w2.la c3 hl⟩⟩
  rw[if_neg (by simpa using c3),if_neg (by simp;omega)]
  obtain⟨p,ep,mp⟩:=at_some (a:=x) (i:=i+k1) (by omega)
  exact lo2_is C g4 w2 ep eq (l2 k1 p (Nat.le_refl _) (by omega) ep) kst px py sx sy (by omega) hj (by omega) hl
 .rw[if_neg hk0]
  obtain⟨p,ep,mp⟩:=at_some (a:=x) (i:=i) (by omega)
  exact lo2_is C g4 w ep eq (l2 0 p (by omega) (by omega) ep) kst px py sx sy (by omega) hj (by omega) hl
noncomputable def StpI (O:KeyOrd) (ky:Keyed->O.α) (st:SortSt) (x y:Array Keyed) (n:Nat):ForInStep SI->SortSt->Prop:=fun r st'=>match r with
 | .done c=>SameG st st'/\((∃r,c.1=some r/\Good O ky x y r)\/∃o i j ca cb,c=(none,o,i,j,ca,cb)/\Wk O ky x y o i j/\i+1<x.size/\j<y.size/\n+2<=i+j)
 | .yield c=>SameG st st'/\∃o i j ca cb,c=(none,o,i,j,ca,cb)/\Wk O ky x y o i j/\i+1<x.size/\j<y.size/\n+2<=i+j
theorem loI_is (C:Cmp M A E s O ky P kd) {st st2:SortSt} {o:Array Keyed} {i j mg ca cb n:Nat} (g2:SameG st st2) (w:Wk O ky x y o i j) (kst:kindOf st=kd) (px:∀p∈x.toList,P p) (py:∀p∈y.toList,P p) (sx:x.toList.Pairwise (Rk O ky)) (sy:y.toList.Pairwise (Rk O ky)) (hi:i+1<x.size) (hj:j<y.size) (hc:n+1<=i+j)
  (hl:∀p q,x[x.size-1]?=some p->q∈y.toList->O.klt (ky q) (ky p)):wpS M A E s (loI x y o i j mg ca cb) (StpI O ky st x y n) st2:=by
 obtain⟨q,eq,mq⟩:=at_some hj
 obtain⟨p,ep,mp⟩:=at_some (a:=x) (i:=i) (by omega)
 refine wpS_bind (wpS_elem eq (wpS_bind (wpS_elem ep (wpS_bind (C.lt (py q mq) (px p mp) (g2.1.trans kst) ?_)))))
 cases hb:O.blt (ky q) (ky p)
 .have w2:=w.putA ep eq hb (by omega) sy
  refine wpS_bind (wpS_elem ep ?_)
  by_cases c3:i+1+1=x.size
  .rw[if_pos (by simpa using c3)]
   exact wpS_pure ⟨g2,.inl ⟨_,rfl,w2.la c3 hl⟩⟩
  .rw[if_neg (by simpa using c3)]
   split
   .exact wpS_pure ⟨g2,.inr ⟨_,_,_,_,_,rfl,w2,by omega,hj,by omega⟩⟩
   .exact wpS_pure ⟨g2,_,_,_,_,_,rfl,w2,by omega,hj,by omega⟩
 .have w2:=w.putB ep eq (KeyOrd.kle_of_klt hb) hj sx
  refine wpS_bind (wpS_elem eq ?_)
  by_cases c3:j+1=y.size
  .rw[if_pos (by simpa using c3)]
   exact wpS_pure ⟨g2,.inl ⟨_,rfl,w2.dn c3⟩⟩
  .rw[if_neg (by simpa using c3)]
   split
   .exact wpS_pure ⟨g2,.inr ⟨_,_,_,_,_,rfl,w2,hi,by omega,by omega⟩⟩
   .exact wpS_pure ⟨g2,_,_,_,_,_,rfl,w2,hi,by omega,by omega⟩
noncomputable def StpO (O:KeyOrd) (ky:Keyed->O.α) (st:SortSt) (x y:Array Keyed) (n:Nat):ForInStep SO->SortSt->Prop:=fun r st'=>match r with
 | .done c=>SameG st st'/\∃r,c.1=some r/\Good O ky x y r
 | .yield c=>SameG st st'/\∃o i j mg,c=(none,o,i,j,mg)/\Wk O ky x y o i j/\i+1<x.size/\j<y.size/\n+2<=i+j
theorem loO_is (C:Cmp M A E s O ky P kd) {st st1:SortSt} {o:Array Keyed} {i j mg n:Nat} (g1:SameG st st1) (w:Wk O ky x y o i j) (kst:kindOf st=kd) (px:∀p∈x.toList,P p) (py:∀p∈y.toList,P p) (sx:x.toList.Pairwise (Rk O ky)) (sy:y.toList.Pairwise (Rk O ky)) (hi:i+1<x.size) (hj:j<y.size) (hc:n+1<=i+j)
  (hl:∀p q,x[x.size-1]?=some p->q∈y.toList->O.klt (ky q) (ky p)):wpS M A E s (loO x y (none,o,i,j,mg)) (StpO O ky st x y n) st1:=by
 refine wpS_for (fun k c st'=>SameG st st'/\∃o i j ca cb,c=(none,o,i,j,ca,cb)/\Wk O ky x y o i j/\i+1<x.size/\j<y.size/\n+1+min k 1<=i+j)
  (fun c st'=>StpI O ky st x y n (.done c) st') ⟨g1,o,i,j,0,0,rfl,w,hi,hj,by omega⟩ ?_ ?_ ?_
 .rintro k c st2 _ hk ⟨g2,o,i,j,ca,cb,rfl,w,hi,hj,hc⟩
  refine wpS_mono (loI_is (o:=o) (i:=i) (j:=j) (ca:=ca) (cb:=cb) (mg:=mg) (n:=n) C g2 w kst px py sx sy hi hj (by omega) hl) fun r st' hh=>?_
  cases r with
  |done c=>exact hh
  |yield c=>
   obtain⟨g,o,i,j,ca,cb,e,a1,a2,a3,a4⟩:=hh
   exact⟨g,o,i,j,ca,cb,e,a1,a2,a3,by omega⟩
 .rintro c st2 ⟨g2,o,i,j,ca,cb,rfl,w,hi,hj,hc⟩
  exact⟨g2,.inr ⟨_,_,_,_,_,rfl,w,hi,hj,by omega⟩⟩
 .rintro⟨c0,c1⟩ st2 ⟨g2,⟨r,e,G⟩|⟨o,i,j,ca,cb,e,w,hi,hj,hc⟩⟩
  .cases e
   exact wpS_pure ⟨g2,r,rfl,G⟩
  cases e
  refine wpS_bind (wpS_lift (wpAny_rule ⟨rfl,?_⟩))
  refine wpS_for (fun k c st'=>Stp O ky st x y (n+2) (.yield c) st') (fun c st'=>Stp O ky st x y (n+2) (.done c) st') ⟨g2,o,i,j,_,_,_,rfl,w,hi,hj,hc⟩ ?_ ?_ ?_
  .rintro k c st3 _ hk ⟨g3,o,i,j,mg,ca,cb,rfl,w,hi,hj,hc⟩
   refine wpS_mono (Q:=Stp O ky st x y (n+2)) ?_ fun r st' hh=>by cases r<;>exact hh
   have go:∀m,wpS M A E s (lo1 x y o i j m ca cb) (Stp O ky st x y (n+2)) st3:=fun m=>lo1_is (b:=n+2) C g3 w kst px py sx sy hi hj hc hl
   unfold loG
   split
   .exact go (mg-1)
   .exact go mg
  .rintro c st3 ⟨g3,o,i,j,mg,ca,cb,rfl,w,hi,hj,hc⟩
   exact⟨g3,.inr ⟨_,_,_,_,_,_,rfl,w,hi,hj,hc⟩⟩
  .rintro⟨c0,c1⟩ st3 ⟨g3,⟨r,e,G⟩|⟨o,i,j,mg,ca,cb,e,w,hi,hj,hc⟩⟩
   .cases e
    exact wpS_pure ⟨g3,r,rfl,G⟩
   cases e
   exact wpS_bind (wpS_modify (wpS_pure ⟨g3.trans (SameG.set _ _),_,_,_,_,rfl,w,hi,hj,by omega⟩))
theorem mergeLo_is (C:Cmp M A E s O ky P kd) {st:SortSt} {Q:Array Keyed->SortSt->Prop} (kst:kindOf st=kd) (px:∀p∈x.toList,P p) (py:∀p∈y.toList,P p) (sx:x.toList.Pairwise (Rk O ky)) (sy:y.toList.Pairwise (Rk O ky))
  (hx:0<x.size) (hy:0<y.size) (h0:∀p q,x[0]?=some p->y[0]?=some q->O.klt (ky q) (ky p)) (hl:∀p q,x[x.size-1]?=some p->q∈y.toList->O.klt (ky q) (ky p))
  (h:∀r st',Good O ky x y r->SameG st st'->Q r st'):wpS M A E s (mergeLo' x y) Q st:=by
 rw[mergeLo_eqn]
 refine wpS_bind (wpS_lift (wpAny_rule ⟨rfl,?_⟩))
 obtain⟨q0,e0,m0⟩:=at_some hy
 obtain⟨p0,d0,n0⟩:=at_some hx
 have w0:Wk O ky x y #[] 0 0:=⟨⟨by simp,List.Pairwise.nil,by simpa using sx,by simpa using sy,by simp,by simp⟩,Nat.zero_le _,Nat.zero_le _⟩
 have w1:Wk O ky x y #[q0] 0 1:=w0.putB d0 e0 (KeyOrd.kle_of_klt (h0 p0 q0 d0 e0)) hy sx
 refine wpS_bind (wpS_elem e0 ?_)
 by_cases c1:1=y.size
 .rw[if_pos (by simpa using c1)]
  exact wpS_pure (h _ _ (w1.dn c1) (SameG.rfl' _))
 rw[if_neg (by simpa using c1)]
 by_cases c2:0+1=x.size
 .rw[if_pos (by simpa using c2)]
  exact wpS_pure (h _ _ (w1.la c2 hl) (SameG.rfl' _))
 rw[if_neg (by simpa using c2)]
 refine wpS_bind (wpS_get ?_)
 refine wpS_for (fun n c st'=>SameG st st'/\∃o i j mg,c=(none,o,i,j,mg)/\Wk O ky x y o i j/\i+1<x.size/\j<y.size/\n+1<=i+j)
  (fun c st'=>SameG st st'/\∃r,c.1=some r/\Good O ky x y r) ⟨SameG.rfl' _,_,_,_,_,rfl,w1,by omega,by omega,by omega⟩ ?_ ?_ ?_
 .rintro n c st1 _ hn ⟨g1,o,i,j,mg,rfl,w,hi,hj,hc⟩
  exact wpS_mono (loO_is (n:=n) C g1 w kst px py sx sy hi hj hc hl) fun r st' hh=>by cases r<;>exact hh
 .rintro c st1 ⟨g1,o,i,j,mg,rfl,w,hi,hj,hc⟩
  omega
 .rintro⟨c0,c1⟩ st1 ⟨g1,r,e,G⟩
  cases e
  exact wpS_pure (h r st1 G g1)
end
end So
namespace So
open PySem PySem.Spec PyProof.Rows
noncomputable def dnH (x y o:Array Keyed) (i j:Nat):Array Keyed:=x.extract 0 i++y.extract 0 j++o.reverse
noncomputable def fbH (x y o:Array Keyed) (i j:Nat):Array Keyed:=y.extract 0 j++x.extract 0 i++o.reverse
noncomputable abbrev TG:Type:=Option (Array Keyed)×Nat×Nat×Array Keyed×Nat×Nat×Nat
noncomputable abbrev TI:Type:=Option (Array Keyed)×Nat×Nat×Array Keyed×Nat×Nat
noncomputable abbrev TO:Type:=Option (Array Keyed)×Nat×Nat×Array Keyed×Nat
noncomputable def hi3 (x y:Array Keyed) (i j:Nat) (o:Array Keyed) (mg ca cb:Nat):StateT SortSt Sem (ForInStep TG):=do
 let p <- elem' x (i-1)
 if(i-1 == 0)=true then pure (.done (some (dnH x y (o.push p) (i-1) j),i-1,j,o.push p,mg,ca,cb))
 else if(decide (ca<7)&&decide (cb<7))=true then pure (.done (none,i-1,j,o.push p,mg,ca,cb))else pure (.yield (none,i-1,j,o.push p,mg,ca,cb))
noncomputable def hi2 (x y:Array Keyed) (i j:Nat) (o:Array Keyed) (mg ca cb:Nat):StateT SortSt Sem (ForInStep TG):=do
 let q <- elem' y (j-1)
 if(j-1 == 1)=true then pure (.done (some (fbH x y (o.push q) i (j-1)),i,j-1,o.push q,mg,ca,cb))
 else do
  let p <- elem' x (i-1)
  let r <- gallop' true p y 0 (j-1) (j-1-1)
  match r with
  |some z=>
   if j-1-z > 0 then
    if(z == 1)=true then pure (.done (some (fbH x y (o.push q++(y.extract z (j-1)).reverse) i z),i,z,o.push q++(y.extract z (j-1)).reverse,mg,ca,j-1-z))
    else if(z == 0)=true then pure (.done (some (dnH x y (o.push q++(y.extract z (j-1)).reverse) i z),i,z,o.push q++(y.extract z (j-1)).reverse,mg,ca,j-1-z))
    else hi3 x y i z (o.push q++(y.extract z (j-1)).reverse) mg ca (j-1-z)
   else hi3 x y i (j-1) (o.push q) mg ca (j-1-z)
  |_=>pure (.done (some (dnH x y (o.push q) i (j-1)),i,j-1,o.push q,mg,ca,cb))
noncomputable def hi1 (x y:Array Keyed) (i j:Nat) (o:Array Keyed) (mg ca cb:Nat):StateT SortSt Sem (ForInStep TG):=do
 modify fun st=>SortSt.mk' (kindOf st) (arrOf st) (pendingOf st) mg (failedOf st)
 let q <- elem' y (j-1)
 let r <- gallop' false q x 0 i (i-1)
 match r with
 |some z=>
  if i-z > 0 then
   if(z == 0)=true then pure (.done (some (dnH x y (o++(x.extract z i).reverse) z j),z,j,o++(x.extract z i).reverse,mg,i-z,cb))
   else hi2 x y z j (o++(x.extract z i).reverse) mg (i-z) cb
  else hi2 x y i j o mg (i-z) cb
 |_=>pure (.done (some (dnH x y o i j),i,j,o,mg,ca,cb))
noncomputable def hiI (x y:Array Keyed) (i j:Nat) (o:Array Keyed) (mg ca cb:Nat):StateT SortSt Sem (ForInStep TI):=do
 let q <- elem' y (j-1)
 let p <- elem' x (i-1)
 let r <- lt' q p
 match r with
 |some b=>
  if b=true then do
   let p <- elem' x (i-1)
   if(i-1 == 0)=true then pure (.done (some (dnH x y (o.push p) (i-1) j),i-1,j,o.push p,ca+1,0))
   else if ca+1 ≥ mg then pure (.done (none,i-1,j,o.push p,ca+1,0))else pure (.yield (none,i-1,j,o.push p,ca+1,0))
  else do
   let q <- elem' y (j-1)
   if(j-1 == 1)=true then pure (.done (some (fbH x y (o.push q) i (j-1)),i,j-1,o.push q,0,cb+1))
   else if cb+1 ≥ mg then pure (.done (none,i,j-1,o.push q,0,cb+1))else pure (.yield (none,i,j-1,o.push q,0,cb+1))
 |_=>pure (.done (some (dnH x y o i j),i,j,o,ca,cb))
noncomputable def hiG (x y:Array Keyed) (u:TG):StateT SortSt Sem (ForInStep TG):=
 if u.2.2.2.2.1 > 1 then hi1 x y u.2.1 u.2.2.1 u.2.2.2.1 (u.2.2.2.2.1-1) u.2.2.2.2.2.1 u.2.2.2.2.2.2 else hi1 x y u.2.1 u.2.2.1 u.2.2.2.1 u.2.2.2.2.1 u.2.2.2.2.2.1 u.2.2.2.2.2.2
noncomputable def hiO (x y:Array Keyed) (c:TO):StateT SortSt Sem (ForInStep TO):=do
 let r <- forIn [0:x.size+y.size] ((none,c.2.1,c.2.2.1,c.2.2.2.1,0,0):TI) fun _ r=>hiI x y r.2.1 r.2.2.1 r.2.2.2.1 c.2.2.2.2 r.2.2.2.2.1 r.2.2.2.2.2
 match r.1 with
 |some v=>pure (.done (some v,r.2.1,r.2.2.1,r.2.2.2.1,c.2.2.2.2))
 |none=>do
  liftM (rule "list.sort.gallop")
  let u <- forIn [0:x.size+y.size] ((none,r.2.1,r.2.2.1,r.2.2.2.1,c.2.2.2.2+1,r.2.2.2.2.1,r.2.2.2.2.2):TG) fun _ u=>hiG x y u
  match u.1 with
  |some v=>pure (.done (some v,u.2.1,u.2.2.1,u.2.2.2.1,u.2.2.2.2.1))
  |none=>do
   modify fun st=>SortSt.mk' (kindOf st) (arrOf st) (pendingOf st) (u.2.2.2.2.1+1) (failedOf st)
   pure (.yield (none,u.2.1,u.2.2.1,u.2.2.2.1,u.2.2.2.2.1+1))
theorem mergeHi_eq (x y:Array Keyed):mergeHi' x y=(do
 rule "list.sort.merge-hi"
 let t:=x.size+y.size
 let dn (o:Array Keyed) (i j:Nat):=x.extract 0 i++y.extract 0 j++o.reverse
 let fb (o:Array Keyed) (i j:Nat):=y.extract 0 j++x.extract 0 i++o.reverse
 let mut i:=x.size-1
 let mut j:=y.size
 let mut o:Array Keyed:=#[<- elem' x i]
 if i == 0 then return dn o i j
 if j == 1 then return fb o i j
 let mut mg:=gallopOf (<- get)
 for _ in [0:t] do
  let mut ca:=0
  let mut cb:=0
  for _ in [0:t] do
   let some aw <- lt' (<- elem' y (j-1)) (<- elem' x (i-1))|return dn o i j
   if aw then
    i:=i-1;o:=o.push (<- elem' x i);ca:=ca+1;cb:=0
    if i == 0 then return dn o i j
    if ca ≥ mg then break
   else
    j:=j-1;o:=o.push (<- elem' y j);cb:=cb+1;ca:=0
    if j == 1 then return fb o i j
    if cb ≥ mg then break
  rule "list.sort.gallop"
  mg:=mg+1
  for _ in [0:t] do
   if mg > 1 then mg:=mg-1
   modify fun st=>SortSt.mk' (kindOf st) (arrOf st) (pendingOf st) mg (failedOf st)
   let some z <- gallop' false (<- elem' y (j-1)) x 0 i (i-1)|return dn o i j
   let k:=i-z
   ca:=k
   if k > 0 then
    o:=o++(x.extract z i).reverse;i:=z
    if i == 0 then return dn o i j
   j:=j-1;o:=o.push (<- elem' y j)
   if j == 1 then return fb o i j
   let some z <- gallop' true (<- elem' x (i-1)) y 0 j (j-1)|return dn o i j
   let k:=j-z
   cb:=k
   if k > 0 then
    o:=o++(y.extract z j).reverse;j:=z
    if j == 1 then return fb o i j
    if j == 0 then return dn o i j
   i:=i-1;o:=o.push (<- elem' x i)
   if i == 0 then return dn o i j
   if ca<7&&cb<7 then break
  mg:=mg+1
  modify fun st=>SortSt.mk' (kindOf st) (arrOf st) (pendingOf st) mg (failedOf st)
 unsupported "internal:list.sort.merge-bound"):=rfl
noncomputable def hiM (x y:Array Keyed):StateT SortSt Sem (Array Keyed):=do
 liftM (rule "list.sort.merge-hi")
 let p <- elem' x (x.size-1)
 if(x.size-1 == 0)=true then pure (dnH x y #[p] (x.size-1) y.size)
 else if(y.size == 1)=true then pure (fbH x y #[p] (x.size-1) y.size)
 else do
  let st <- get
  let r <- forIn [0:x.size+y.size] ((none,x.size-1,y.size,#[p],gallopOf st):TO) fun _ r=>hiO x y r
  match r.1 with
  |some v=>pure v
  |none=>unsupported "internal:list.sort.merge-bound"
theorem mergeHi_eqn (x y:Array Keyed):mergeHi' x y=hiM x y:=by
 refine(mergeHi_eq x y).trans ?_
 refine bind_body fun _=>bind_body fun q=>ite_body rfl (ite_body rfl (bind_body fun st=>for_body (fun n c=>?_) fun c=>by obtain⟨c0,c1⟩:=c;cases c0<;>rfl))
 refine for_body (fun n c=>rfl) fun c=>?_
 obtain⟨c0,o,i,j,ca,cb⟩:=c
 cases c0
 .refine bind_body fun _=>for_body (fun n c=>rfl) fun c=>?_
  obtain⟨c0,o,i,j,mg,ca,cb⟩:=c
  cases c0
  .rfl
  .rfl
 .rfl
section
variable {M:Model} {A:Around} {E:Value->Shared->Prop} {s:Shared} {O:KeyOrd} {ky:Keyed->O.α} {P:Keyed->Prop} {kd:SortKind} {x y:Array Keyed}
theorem take_at {a:Array Keyed} {i:Nat} {p:Keyed} (e:a[i]?=some p):(a.toList.take (i+1)).reverse=p :: (a.toList.take i).reverse:=by
 have:a.toList[i]?=some p:=by simpa using e
 rw[List.take_add_one,this];simp
theorem list_begin (a:Array Keyed) (i:Nat):(a.extract 0 i).toList=a.toList.take i:=by rw[list_extract];simp
theorem take_k (l:List Keyed) {z i:Nat} (h:z<=i):(l.take i).reverse=((l.drop z).take (i-z)).reverse++(l.take z).reverse:=by
 rw[<- List.reverse_append]
 congr 1
 rw[<- List.take_append_drop z (l.take i),List.take_take,List.drop_take]
 congr 2
 omega
theorem mem_begin_at {a:Array Keyed} {i:Nat} {p:Keyed} (h:p∈(a.toList.take i).reverse):∃n,n<i/\a[n]?=some p:=by
 obtain⟨n,hn,e⟩:=mem_take_at (a:=a) (i:=0) (k:=i) (p:=p) (by simpa using h)
 exact⟨n,hn,by simpa using e⟩
def Wh (O:KeyOrd) (ky:Keyed->O.α) (x y o:Array Keyed) (i j:Nat):Prop:=Mg (fun p q=>Rk O ky q p) (x.toList++y.toList) o.toList (x.toList.take i).reverse (y.toList.take j).reverse/\i<=x.size/\j<=y.size
theorem Wh.dn {o:Array Keyed} {i j:Nat} (w:Wh O ky x y o i j) (e:i=0):Good O ky x y (x.extract 0 i++y.extract 0 j++o.reverse):=by
 subst e
 have⟨h1,h2⟩:=w.1.swap.fin (fun q _ p hp=>by simp at hp)
 unfold Good
 have e:(x.extract 0 0++y.extract 0 j++o.reverse).toList=(o.toList++((y.toList.take j).reverse++(x.toList.take 0).reverse)).reverse:=by
  rw[Array.toList_append,Array.toList_append,list_begin,list_begin];simp
 rw[e]
 exact⟨(List.reverse_perm _).trans h1,List.pairwise_reverse.mpr h2⟩
theorem Wh.fb {o:Array Keyed} {i j:Nat} (w:Wh O ky x y o i j) (e:j=1) (hf:∀p q,p∈x.toList->y[0]?=some q->O.klt (ky q) (ky p)):Good O ky x y (y.extract 0 j++x.extract 0 i++o.reverse):=by
 subst e
 have⟨h1,h2⟩:=w.1.fin (fun p hp q hq=>by
  obtain⟨n,hn,e2⟩:=mem_begin_at hq
  have:n=0:=by omega
  subst this
  exact KeyOrd.kle_of_klt (hf p q (List.mem_of_mem_take (List.mem_reverse.mp hp)) e2))
 unfold Good
 have e:(y.extract 0 1++x.extract 0 i++o.reverse).toList=(o.toList++((x.toList.take i).reverse++(y.toList.take 1).reverse)).reverse:=by
  rw[Array.toList_append,Array.toList_append,list_begin,list_begin];simp
 rw[e]
 exact⟨(List.reverse_perm _).trans h1,List.pairwise_reverse.mpr h2⟩
theorem Wh.putA {o:Array Keyed} {i j:Nat} {p:Keyed} (w:Wh O ky x y o (i+1) j) (e1:x[i]?=some p) (h:∀n q,n<j->y[n]?=some q->O.kle (ky q) (ky p)):Wh O ky x y (o.push p) i j:=by
 refine⟨?_,by have:=w.2.1;omega,w.2.2⟩
 have m:=w.1
 rw[take_at e1]at m
 rw[Array.toList_push]
 refine m.put1 fun z hz=>?_
 obtain⟨n,hn,e3⟩:=mem_begin_at hz
 exact h n z hn e3
theorem Wh.putB {o:Array Keyed} {i j:Nat} {q:Keyed} (w:Wh O ky x y o i (j+1)) (e2:y[j]?=some q) (h:∀n p,n<i->x[n]?=some p->O.kle (ky p) (ky q)):Wh O ky x y (o.push q) i j:=by
 refine⟨?_,w.2.1,by have:=w.2.2;omega⟩
 have m:=w.1
 rw[take_at e2]at m
 rw[Array.toList_push]
 refine m.putB1 fun z hz=>?_
 obtain⟨n,hn,e3⟩:=mem_begin_at hz
 exact h n z hn e3
theorem Wh.manyA {o:Array Keyed} {i j z:Nat} (w:Wh O ky x y o i j) (hz:z<=i) (h:∀n p m q,z<=n->n<i->x[n]?=some p->m<j->y[m]?=some q->O.kle (ky q) (ky p)):Wh O ky x y (o++(x.extract z i).reverse) z j:=by
 refine⟨?_,by have:=w.2.1;omega,w.2.2⟩
 have m:=w.1
 rw[take_k _ hz]at m
 rw[Array.toList_append,Array.toList_reverse,list_extract]
 refine m.put fun p hp q hq=>?_
 obtain⟨n,hn,e3⟩:=mem_take_at (List.mem_reverse.mp hp)
 obtain⟨n2,hn2,e4⟩:=mem_begin_at hq
 exact h _ p n2 q (by omega) (by omega) e3 hn2 e4
theorem Wh.manyB {o:Array Keyed} {i j z:Nat} (w:Wh O ky x y o i j) (hz:z<=j) (h:∀n q m p,z<=n->n<j->y[n]?=some q->m<i->x[m]?=some p->O.kle (ky p) (ky q)):Wh O ky x y (o++(y.extract z j).reverse) i z:=by
 refine⟨?_,w.2.1,by have:=w.2.2;omega⟩
 have m:=w.1
 rw[take_k _ hz]at m
 rw[Array.toList_append,Array.toList_reverse,list_extract]
 refine m.putB fun q hq p hp=>?_
 obtain⟨n,hn,e3⟩:=mem_take_at (List.mem_reverse.mp hq)
 obtain⟨n2,hn2,e4⟩:=mem_begin_at hp
 exact h _ q n2 p (by omega) (by omega) e3 hn2 e4
noncomputable def HtG (O:KeyOrd) (ky:Keyed->O.α) (st:SortSt) (x y:Array Keyed) (b:Nat):ForInStep TG->SortSt->Prop:=fun r st'=>match r with
 | .done c=>SameG st st'/\((∃r,c.1=some r/\Good O ky x y r)\/∃o i j mg ca cb,c=(none,i,j,o,mg,ca,cb)/\Wh O ky x y o i j/\1<=i/\2<=j/\b+i+j<=x.size+y.size)
 | .yield c=>SameG st st'/\∃o i j mg ca cb,c=(none,i,j,o,mg,ca,cb)/\Wh O ky x y o i j/\1<=i/\2<=j/\b+i+j<=x.size+y.size
theorem hi3_is {st st4:SortSt} {o:Array Keyed} {i j mg ca cb b:Nat} {p:Keyed} (g4:SameG st st4) (w:Wh O ky x y o (i+1) j) (ep:x[i]?=some p) (h:∀n q,n<j->y[n]?=some q->O.klt (ky q) (ky p)) (hj:2<=j) (hc:b+i+j<=x.size+y.size):
  wpS M A E s (hi3 x y (i+1) j o mg ca cb) (HtG O ky st x y b) st4:=by
 have w6:=w.putA ep fun n q' h1 h2=>KeyOrd.kle_of_klt (h n q' h1 h2)
 unfold hi3
 simp only[Nat.add_sub_cancel]
 refine wpS_bind (wpS_elem ep ?_)
 by_cases c6:i=0
 .rw[if_pos (by simpa using c6)]
  exact wpS_pure ⟨g4,.inl ⟨_,rfl,w6.dn c6⟩⟩
 rw[if_neg (by simpa using c6)]
 split
 .exact wpS_pure ⟨g4,.inr ⟨_,_,_,_,_,_,rfl,w6,by omega,hj,hc⟩⟩
 .exact wpS_pure ⟨g4,_,_,_,_,_,_,rfl,w6,by omega,hj,hc⟩
theorem hi2_is (C:Cmp M A E s O ky P kd) {st st4:SortSt} {o:Array Keyed} {i j mg ca cb b:Nat} {q:Keyed} (g4:SameG st st4) (w:Wh O ky x y o (i+1) (j+1)) (eq:y[j]?=some q) (h:∀n p,n<i+1->x[n]?=some p->O.kle (ky p) (ky q)) (kst:kindOf st=kd) (px:∀p∈x.toList,P p) (py:∀p∈y.toList,P p) (sx:x.toList.Pairwise (Rk O ky)) (sy:y.toList.Pairwise (Rk O ky)) (hf:∀p q,p∈x.toList->y[0]?=some q->O.klt (ky q) (ky p)) (hj:1<=j) (hc:b+(i+1)+(j+1)<=x.size+y.size):
  wpS M A E s (hi2 x y (i+1) (j+1) o mg ca cb) (HtG O ky st x y b) st4:=by
 have w4:=w.putB eq h
 have b1:=w.2.1;have b2:=w.2.2
 obtain⟨p,ep,mp⟩:=at_some (a:=x) (i:=i) (by omega)
 obtain⟨q0,e0,m0⟩:=at_some (a:=y) (i:=0) (by omega)
 unfold hi2
 simp only[Nat.add_sub_cancel]
 refine wpS_bind (wpS_elem eq ?_)
 by_cases c4:j=1
 .rw[if_pos (by simpa using c4)]
  exact wpS_pure ⟨g4,.inl ⟨_,rfl,w4.fb c4 hf⟩⟩
 rw[if_neg (by simpa using c4)]
 refine wpS_bind (wpS_elem ep (wpS_bind (gallop_less C (px p mp) (g4.1.trans kst) (by omega) (by omega) py (fun a b u v hab hb e1 e2=>up_at sy (by omega) e1 e2) fun z hz l3 l4=>?_)))
 dsimp only
 simp only[Nat.zero_add]at l3 l4
 have hz3:0<z:=by
  rcases Nat.eq_zero_or_pos z with u|u
  .subst u
   exact absurd (hf p q0 mp e0) (KeyOrd.not_klt_of_kle (l4 0 q0 (Nat.le_refl _) (by omega) e0))
  .exact u
 by_cases hk4:j-z > 0
 .have w5:=w4.manyB hz fun n q' m p' h1 h2 h3 h4 h5=>KeyOrd.kle_trans (up_at sx (by omega) h5 ep) (l4 n q' h1 h2 h3)
  rw[if_pos hk4]
  by_cases c5:z=1
  .rw[if_pos (by simpa using c5)]
   exact wpS_pure ⟨g4,.inl ⟨_,rfl,w5.fb c5 hf⟩⟩
  rw[if_neg (by simpa using c5),if_neg (by simp;omega)]
  exact hi3_is g4 w5 ep l3 (by omega) (by omega)
 .rw[if_neg hk4]
  exact hi3_is g4 w4 ep (fun n q' h1 h2=>l3 n q' (by omega) h2) (by omega) (by omega)
theorem hi1_is (C:Cmp M A E s O ky P kd) {st st3:SortSt} {o:Array Keyed} {i j mg ca cb b:Nat} (g3:SameG st st3) (w:Wh O ky x y o i (j+1)) (kst:kindOf st=kd) (px:∀p∈x.toList,P p) (py:∀p∈y.toList,P p) (sx:x.toList.Pairwise (Rk O ky)) (sy:y.toList.Pairwise (Rk O ky)) (hf:∀p q,p∈x.toList->y[0]?=some q->O.klt (ky q) (ky p)) (hi:1<=i) (hj:1<=j) (hc:b+i+(j+1)<=x.size+y.size):
  wpS M A E s (hi1 x y i (j+1) o mg ca cb) (HtG O ky st x y b) st3:=by
 have b1:=w.2.1;have b2:=w.2.2
 obtain⟨q,eq,mq⟩:=at_some (a:=y) (i:=j) (by omega)
 unfold hi1
 simp only[Nat.add_sub_cancel]
 refine wpS_bind (wpS_setg fun st4 g0=>?_)
 have g4:=g3.trans g0
 refine wpS_bind (wpS_elem eq (wpS_bind (gallop_up C (py q mq) (g4.1.trans kst) (by omega) (by omega) px (fun a b u v hab hb e1 e2=>up_at sx (by omega) e1 e2) fun z hz l1 l2=>?_)))
 dsimp only
 simp only[Nat.zero_add]at l1 l2
 by_cases hk0:i-z > 0
 .have w2:=w.manyA hz fun n p' m q' h1 h2 h3 h4 h5=>KeyOrd.kle_trans (up_at sy (by omega) h5 eq) (KeyOrd.kle_of_klt (l2 n p' h1 h2 h3))
  rw[if_pos hk0]
  by_cases c3:z=0
  .rw[if_pos (by simpa using c3)]
   exact wpS_pure ⟨g4,.inl ⟨_,rfl,w2.dn c3⟩⟩
  rw[if_neg (by simpa using c3)]
  obtain⟨z,rfl⟩:∃z0,z=z0+1:=⟨z-1,by omega⟩
  exact hi2_is C g4 w2 eq l1 kst px py sx sy hf hj (by omega)
 .rw[if_neg hk0]
  obtain⟨i,rfl⟩:∃i0,i=i0+1:=⟨i-1,by omega⟩
  exact hi2_is C g4 w eq (fun n p h1 h2=>l1 n p (by omega) h2) kst px py sx sy hf hj hc
noncomputable def HtI (O:KeyOrd) (ky:Keyed->O.α) (st:SortSt) (x y:Array Keyed) (n:Nat):ForInStep TI->SortSt->Prop:=fun r st'=>match r with
 | .done c=>SameG st st'/\((∃r,c.1=some r/\Good O ky x y r)\/∃o i j ca cb,c=(none,i,j,o,ca,cb)/\Wh O ky x y o i j/\1<=i/\2<=j/\n+2+i+j<=x.size+y.size)
 | .yield c=>SameG st st'/\∃o i j ca cb,c=(none,i,j,o,ca,cb)/\Wh O ky x y o i j/\1<=i/\2<=j/\n+2+i+j<=x.size+y.size
theorem hiI_is (C:Cmp M A E s O ky P kd) {st st2:SortSt} {o:Array Keyed} {i j mg ca cb n:Nat} (g2:SameG st st2) (w:Wh O ky x y o (i+1) (j+1)) (kst:kindOf st=kd) (px:∀p∈x.toList,P p) (py:∀p∈y.toList,P p) (sx:x.toList.Pairwise (Rk O ky)) (sy:y.toList.Pairwise (Rk O ky)) (hf:∀p q,p∈x.toList->y[0]?=some q->O.klt (ky q) (ky p)) (hj:1<=j) (hc:n+1+(i+1)+(j+1)<=x.size+y.size):
  wpS M A E s (hiI x y (i+1) (j+1) o mg ca cb) (HtI O ky st x y n) st2:=by
 have b1:=w.2.1;have b2:=w.2.2
 obtain⟨q,eq,mq⟩:=at_some (a:=y) (i:=j) (by omega)
 obtain⟨p,ep,mp⟩:=at_some (a:=x) (i:=i) (by omega)
 unfold hiI
 simp only[Nat.add_sub_cancel]
 refine wpS_bind (wpS_elem eq (wpS_bind (wpS_elem ep (wpS_bind (C.lt (py q mq) (px p mp) (g2.1.trans kst) ?_)))))
 cases hb:O.blt (ky q) (ky p)
 .have w2:=w.putB eq fun n p' hn e=>KeyOrd.kle_trans (up_at sx (by omega) e ep) hb
  refine wpS_bind (wpS_elem eq ?_)
  by_cases c3:j=1
  .rw[if_pos (by simpa using c3)]
   exact wpS_pure ⟨g2,.inl ⟨_,rfl,w2.fb c3 hf⟩⟩
  .rw[if_neg (by simpa using c3)]
   split
   .exact wpS_pure ⟨g2,.inr ⟨_,_,_,_,_,rfl,w2,by omega,by omega,by omega⟩⟩
   .exact wpS_pure ⟨g2,_,_,_,_,_,rfl,w2,by omega,by omega,by omega⟩
 .have w2:=w.putA ep fun n q' hn e=>KeyOrd.kle_trans (up_at sy (by omega) e eq) (KeyOrd.kle_of_klt hb)
  refine wpS_bind (wpS_elem ep ?_)
  by_cases c3:i=0
  .rw[if_pos (by simpa using c3)]
   exact wpS_pure ⟨g2,.inl ⟨_,rfl,w2.dn c3⟩⟩
  .rw[if_neg (by simpa using c3)]
   split
   .exact wpS_pure ⟨g2,.inr ⟨_,_,_,_,_,rfl,w2,by omega,by omega,by omega⟩⟩
   .exact wpS_pure ⟨g2,_,_,_,_,_,rfl,w2,by omega,by omega,by omega⟩
noncomputable def HtO (O:KeyOrd) (ky:Keyed->O.α) (st:SortSt) (x y:Array Keyed) (n:Nat):ForInStep TO->SortSt->Prop:=fun r st'=>match r with
 | .done c=>SameG st st'/\∃r,c.1=some r/\Good O ky x y r
 | .yield c=>SameG st st'/\∃o i j mg,c=(none,i,j,o,mg)/\Wh O ky x y o i j/\1<=i/\2<=j/\n+2+i+j<=x.size+y.size
theorem hiO_is (C:Cmp M A E s O ky P kd) {st st1:SortSt} {o:Array Keyed} {i j mg n:Nat} (g1:SameG st st1) (w:Wh O ky x y o i j) (kst:kindOf st=kd) (px:∀p∈x.toList,P p) (py:∀p∈y.toList,P p) (sx:x.toList.Pairwise (Rk O ky)) (sy:y.toList.Pairwise (Rk O ky)) (hf:∀p q,p∈x.toList->y[0]?=some q->O.klt (ky q) (ky p)) (hi:1<=i) (hj:2<=j) (hc:n+1+i+j<=x.size+y.size):
  wpS M A E s (hiO x y (none,i,j,o,mg)) (HtO O ky st x y n) st1:=by
 refine wpS_for (fun k c st'=>SameG st st'/\∃o i j ca cb,c=(none,i,j,o,ca,cb)/\Wh O ky x y o i j/\1<=i/\2<=j/\n+1+min k 1+i+j<=x.size+y.size)
  (fun c st'=>HtI O ky st x y n (.done c) st') ⟨g1,o,i,j,0,0,rfl,w,hi,hj,by omega⟩ ?_ ?_ ?_
 .rintro k c st2 _ hk ⟨g2,o,i,j,ca,cb,rfl,w,hi,hj,hc⟩
  obtain⟨i,rfl⟩:∃i0,i=i0+1:=⟨i-1,by omega⟩
  obtain⟨j,rfl⟩:∃j0,j=j0+1:=⟨j-1,by omega⟩
  refine wpS_mono (hiI_is (o:=o) (i:=i) (j:=j) (ca:=ca) (cb:=cb) (mg:=mg) (n:=n) C g2 w kst px py sx sy hf (by omega) (by omega)) fun r st' hh=>?_
  cases r with
  |done c=>exact hh
  |yield c=>
   obtain⟨g,o,i,j,ca,cb,e,a1,a2,a3,a4⟩:=hh
   exact⟨g,o,i,j,ca,cb,e,a1,a2,a3,by omega⟩
 .rintro c st2 ⟨g2,o,i,j,ca,cb,rfl,w,hi,hj,hc⟩
  exact⟨g2,.inr ⟨_,_,_,_,_,rfl,w,hi,hj,by omega⟩⟩
 .rintro⟨c0,c1⟩ st2 ⟨g2,⟨r,e,G⟩|⟨o,i,j,ca,cb,e,w,hi,hj,hc⟩⟩
  .cases e
   exact wpS_pure ⟨g2,r,rfl,G⟩
  cases e
  refine wpS_bind (wpS_lift (wpAny_rule ⟨rfl,?_⟩))
  refine wpS_for (fun k c st'=>HtG O ky st x y (n+2) (.yield c) st') (fun c st'=>HtG O ky st x y (n+2) (.done c) st') ⟨g2,o,i,j,_,_,_,rfl,w,hi,hj,hc⟩ ?_ ?_ ?_
  .rintro k c st3 _ hk ⟨g3,o,i,j,mg,ca,cb,rfl,w,hi,hj,hc⟩
   refine wpS_mono (Q:=HtG O ky st x y (n+2)) ?_ fun r st' hh=>by cases r<;>exact hh
   obtain⟨j,rfl⟩:∃j0,j=j0+1:=⟨j-1,by omega⟩
   have go:∀m,wpS M A E s (hi1 x y i (j+1) o m ca cb) (HtG O ky st x y (n+2)) st3:=fun m=>hi1_is (b:=n+2) C g3 w kst px py sx sy hf hi (by omega) hc
   unfold hiG
   split
   .exact go (mg-1)
   .exact go mg
  .rintro c st3 ⟨g3,o,i,j,mg,ca,cb,rfl,w,hi,hj,hc⟩
   exact⟨g3,.inr ⟨_,_,_,_,_,_,rfl,w,hi,hj,hc⟩⟩
  .rintro⟨c0,c1⟩ st3 ⟨g3,⟨r,e,G⟩|⟨o,i,j,mg,ca,cb,e,w,hi,hj,hc⟩⟩
   .cases e
    exact wpS_pure ⟨g3,r,rfl,G⟩
   cases e
   exact wpS_bind (wpS_modify (wpS_pure ⟨g3.trans (SameG.set _ _),_,_,_,_,rfl,w,hi,hj,by omega⟩))
theorem mergeHi_is (C:Cmp M A E s O ky P kd) {st:SortSt} {Q:Array Keyed->SortSt->Prop} (kst:kindOf st=kd) (px:∀p∈x.toList,P p) (py:∀p∈y.toList,P p) (sx:x.toList.Pairwise (Rk O ky)) (sy:y.toList.Pairwise (Rk O ky))
  (hx:0<x.size) (hy:0<y.size) (hf:∀p q,p∈x.toList->y[0]?=some q->O.klt (ky q) (ky p)) (hl:∀p q,x[x.size-1]?=some p->q∈y.toList->O.klt (ky q) (ky p))
  (h:∀r st',Good O ky x y r->SameG st st'->Q r st'):wpS M A E s (mergeHi' x y) Q st:=by
 rw[mergeHi_eqn]
 refine wpS_bind (wpS_lift (wpAny_rule ⟨rfl,?_⟩))
 obtain⟨q0,e0,m0⟩:=at_some hy
 obtain⟨p0,d0,n0⟩:=at_some (a:=x) (i:=x.size-1) (by omega)
 have w0:Wh O ky x y #[] (x.size-1+1) y.size:=by
  have e1:x.toList.take (x.size-1+1)=x.toList:=List.take_of_length_le (by simp;omega)
  have e2:y.toList.take y.size=y.toList:=List.take_of_length_le (by simp)
  refine⟨⟨?_,List.Pairwise.nil,?_,?_,by simp,by simp⟩,by omega,Nat.le_refl _⟩
  .rw[e1,e2];simpa using List.Perm.append (List.reverse_perm x.toList) (List.reverse_perm y.toList)
  .rw[e1];exact List.pairwise_reverse.mpr sx
  .rw[e2];exact List.pairwise_reverse.mpr sy
 have mem_of:∀{a:Array Keyed} {n:Nat} {p:Keyed},a[n]?=some p->p∈a.toList:=fun e=>by simpa using Array.mem_of_getElem? e
 have w1:Wh O ky x y #[p0] (x.size-1) y.size:=w0.putA d0 fun n q _ e=>KeyOrd.kle_of_klt (hl p0 q d0 (mem_of e))
 refine wpS_bind (wpS_elem d0 ?_)
 by_cases c1:x.size-1=0
 .rw[if_pos (by simpa using c1)]
  exact wpS_pure (h _ _ (w1.dn c1) (SameG.rfl' _))
 rw[if_neg (by simpa using c1)]
 by_cases c2:y.size=1
 .rw[if_pos (by simpa using c2)]
  exact wpS_pure (h _ _ (w1.fb c2 hf) (SameG.rfl' _))
 rw[if_neg (by simpa using c2)]
 refine wpS_bind (wpS_get ?_)
 refine wpS_for (fun n c st'=>SameG st st'/\∃o i j mg,c=(none,i,j,o,mg)/\Wh O ky x y o i j/\1<=i/\2<=j/\n+1+i+j<=x.size+y.size)
  (fun c st'=>SameG st st'/\∃r,c.1=some r/\Good O ky x y r) ⟨SameG.rfl' _,#[p0],x.size-1,y.size,gallopOf st,rfl,w1,by omega,by omega,by omega⟩ ?_ ?_ ?_
 .rintro n c st1 _ hn ⟨g1,o,i,j,mg,rfl,w,hi,hj,hc⟩
  exact wpS_mono (hiO_is (n:=n) C g1 w kst px py sx sy hf hi hj hc) fun r st' hh=>by cases r<;>exact hh
 .rintro c st1 ⟨g1,o,i,j,mg,rfl,w,hi,hj,hc⟩
  omega
 .rintro⟨c0,c1⟩ st1 ⟨g1,r,e,G⟩
  cases e
  exact wpS_pure (h r st1 G g1)
end
end So
namespace So
open PySem PySem.Spec PyProof.Rows
theorem mergeAt_eq (i:Nat):mergeAt' i=(do
 let z <- get
 let(some (su,nu,pw),some (sv,nv,_)):=((pendingOf z)[i]?,(pendingOf z)[i+1]?)|unsupported "internal:list.sort.pending"
 set (SortSt.mk' (kindOf z) (arrOf z) (((pendingOf z).setIfInBounds i (su,nu+nv,pw)).eraseIdxIfInBounds (i+1)) (gallopOf z) (failedOf z))
 let some k <- gallop' false (<- elem' (arrOf z) sv) (arrOf z) su nu 0|return false
 let(su,nu):=(su+k,nu-k)
 if nu == 0 then return true
 let some nv <- gallop' true (<- elem' (arrOf z) (su+nu-1)) (arrOf z) sv nv (nv-1)|return false
 if nv == 0 then return true
 let x:=(arrOf z).extract su sv
 let y:=(arrOf z).extract sv (sv+nv)
 let mm <- if nu<=nv then mergeLo' x y else mergeHi' x y
 modify fun z=>setArr z (mm.toList.zipIdx.foldl (fun a (p,j)=>a.setIfInBounds (su+j) p) (arrOf z))
 return (failedOf (<- get)).isNone):=rfl
section
variable {M:Model} {A:Around} {E:Value->Shared->Prop} {s:Shared} {O:KeyOrd} {ky:Keyed->O.α} {P:Keyed->Prop} {kd:SortKind}
theorem wpS_set {σ:Type} {st st2:σ} {Q:PUnit->σ->Prop} (h:Q ⟨⟩ st2):wpS M A E s (set st2:StateT σ Sem PUnit) Q st:=by
 unfold wpS;rw[StateT.run_set];exact wpAny_pure ⟨rfl,h⟩
theorem lay_is {b:Nat} {C:List Keyed}:∀(l B A:List Keyed) (n:Nat) (arr:Array Keyed),arr.toList=A++(B++C)->B.length=l.length->A.length=b+n->
  ((l.zipIdx n).foldl (fun a (x:Keyed×Nat)=>a.setIfInBounds (b+x.2) x.1) arr).toList=A++(l++C)
 | [],B,A,n,arr,e,h,_=>by
  have:B=[]:=List.eq_nil_of_length_eq_zero h
  subst this;simpa using e
 |p :: l,[],A,n,arr,e,h,_=>by simp at h
 |p :: l,q :: B,A,n,arr,e,h,hA=>by
  rw[List.zipIdx_cons,List.foldl_cons]
  have e3:(arr.setIfInBounds (b+n) p).toList=(A++[p])++(B++C):=by
   rw[Array.toList_setIfInBounds,e,<- hA,List.set_append_right _ _ (Nat.le_refl _)]
   simp
  have hA2:(A++[p]).length=b+(n+1):=by rw[List.length_append,hA];rfl
  have ih:=lay_is (b:=b) l B (A++[p]) (n+1) (arr.setIfInBounds (b+n) p) e3 (by simpa using h) hA2
  refine ih.trans ?_
  simp
theorem at_part {arr:Array Keyed} {U L W:List Keyed} {i:Nat} (e:arr.toList=U++(L++W)) (h:i<L.length):arr[U.length+i]?=L[i]?:=by
 have:arr.toList[U.length+i]?=L[i]?:=by
  rw[e,List.getElem?_append_right (by omega),Nat.add_sub_cancel_left,List.getElem?_append_left h]
 simpa using this
theorem part_of_arr {arr:Array Keyed} {U L W:List Keyed} (e:arr.toList=U++(L++W)):(arr.extract U.length (U.length+L.length)).toList=L:=by
 rw[list_extract,e];simp
theorem pw_list {l:List Keyed} (h:l.Pairwise (Rk O ky)) {i j:Nat} {p q:Keyed} (hij:i<=j) (e:l[i]?=some p) (e2:l[j]?=some q):O.kle (ky p) (ky q):=
 up_at (a:=l.toArray) (by simpa using h) hij (by simpa using e) (by simpa using e2)
theorem mergeAt_is (C:Cmp M A E s O ky P kd) {st:SortSt} {Q:Bool->SortSt->Prop} {i su nu pw sv nv pv:Nat} {U l1 l2 W:List Keyed} (kst:kindOf st=kd) (pa:∀p∈(arrOf st).toList,P p)
  (e1:(pendingOf st)[i]?=some (su,nu,pw)) (e2:(pendingOf st)[i+1]?=some (sv,nv,pv)) (ea:(arrOf st).toList=U++(l1++(l2++W))) (hu:su=U.length) (hn:nu=l1.length) (hv:sv=su+nu) (hm:nv=l2.length)
  (h1:0<nu) (h2:0<nv) (s1:l1.Pairwise (Rk O ky)) (s2:l2.Pairwise (Rk O ky)) (hf:failedOf st=none)
  (h:∀st' m,kindOf st'=kd->failedOf st'=none->pendingOf st'=((pendingOf st).setIfInBounds i (su,nu+nv,pw)).eraseIdxIfInBounds (i+1)->(arrOf st').toList=U++(m++W)->m.Perm (l1++l2)->m.Pairwise (Rk O ky)->Q true st'):
  wpS M A E s (mergeAt' i) Q st:=by
 rw[mergeAt_eq]
 refine wpS_bind (wpS_get ?_)
 rw[e1,e2]
 dsimp only
 refine wpS_bind (wpS_set ?_)
 have hsz:(arrOf st).size=U.length+(nu+(nv+W.length)):=by
  have:=congrArg List.length ea
  simp at this;omega
 have ea2:(arrOf st).toList=(U++l1)++(l2++W):=by rw[ea];simp
 have a1:∀k,k<nu->(arrOf st)[su+k]?=l1[k]?:=fun k hk=>by rw[hu];exact at_part ea (by omega)
 have a2:∀k,k<nv->(arrOf st)[sv+k]?=l2[k]?:=fun k hk=>by
  have:=at_part (i:=k) ea2 (by omega)
  rw[List.length_append]at this
  rw[hv,hu,hn];exact this
 obtain⟨y0,ey0,my0⟩:=at_some (a:=arrOf st) (i:=sv) (by omega)
 have ey0':l2[0]?=some y0:=by rw[<- a2 0 h2];exact ey0
 refine wpS_bind (wpS_elem ey0 (wpS_bind (gallop_up C (pa y0 my0) kst (by omega) (by omega) pa (fun a b u v hab hb x1 x2=>pw_list s1 hab (by rw[<- a1 a (by omega)];exact x1) (by rw[<- a1 b hb];exact x2)) fun k hk g1 g2=>?_)))
 dsimp only
 have g1':∀n p,n<k->l1[n]?=some p->O.kle (ky p) (ky y0):=fun n p hn e=>g1 n p hn (by rw[a1 n (by omega)];exact e)
 have g2':∀n p,k<=n->l1[n]?=some p->O.klt (ky y0) (ky p):=fun n p hn e=>by
  have hlt:n<l1.length:=by
   rcases Nat.lt_or_ge n l1.length with q|q
   .exact q
   .rw[List.getElem?_eq_none q]at e;cases e
  exact g2 n p hn (by omega) (by rw[a1 n (by omega)];exact e)
 by_cases c1:nu-k=0
 .rw[if_pos (by simpa using c1)]
  refine wpS_pure (h _ (l1++l2) kst hf rfl (by rw[List.append_assoc];exact ea) (List.Perm.refl _) (List.pairwise_append.mpr ⟨s1,s2,fun p hp q hq=>?_⟩))
  obtain⟨n,hn',en⟩:=List.getElem_of_mem hp
  obtain⟨m,hm',em⟩:=List.getElem_of_mem hq
  exact KeyOrd.kle_trans (g1' n p (by omega) (by rw[List.getElem?_eq_getElem hn',en])) (pw_list s2 (Nat.zero_le m) ey0' (by rw[List.getElem?_eq_getElem hm',em]))
 rw[if_neg (by simpa using c1)]
 obtain⟨xl,exl,mxl⟩:=at_some (a:=arrOf st) (i:=su+k+(nu-k)-1) (by omega)
 have exl':l1[nu-1]?=some xl:=by rw[<- a1 (nu-1) (by omega)];rw[show su+(nu-1)=su+k+(nu-k)-1 by omega];exact exl
 refine wpS_bind (wpS_elem exl (wpS_bind (gallop_less C (pa xl mxl) kst (by omega) (by omega) pa (fun a b u v hab hb x1 x2=>pw_list s2 hab (by rw[<- a2 a (by omega)];exact x1) (by rw[<- a2 b hb];exact x2)) fun k2 hk2 g3 g4=>?_)))
 dsimp only
 have g3':∀n p,n<k2->l2[n]?=some p->O.klt (ky p) (ky xl):=fun n p hn e=>g3 n p hn (by rw[a2 n (by omega)];exact e)
 have g4':∀n p,k2<=n->l2[n]?=some p->O.kle (ky xl) (ky p):=fun n p hn e=>by
  have hlt:n<l2.length:=by
   rcases Nat.lt_or_ge n l2.length with q|q
   .exact q
   .rw[List.getElem?_eq_none q]at e;cases e
  exact g4 n p hn (by omega) (by rw[a2 n (by omega)];exact e)
 have hk2':0<k2:=by
  rcases Nat.eq_zero_or_pos k2 with u|u
  .subst u
   exact absurd (g2' (nu-1) xl (by omega) exl') (KeyOrd.not_klt_of_kle (g4' 0 y0 (Nat.le_refl _) ey0'))
  .exact u
 rw[if_neg (by simp;omega)]
 have ex:((arrOf st).extract (su+k) sv).toList=l1.drop k:=by
  have e3:(arrOf st).toList=(U++l1.take k)++(l1.drop k++(l2++W)):=by
   rw[ea,List.append_assoc,<- List.append_assoc (l1.take k),List.take_append_drop]
  have:=part_of_arr e3
  simp only[List.length_append,List.length_take,List.length_drop]at this
  rw[show U.length+min k l1.length=su+k by omega,show su+k+(l1.length-k)=sv by omega]at this
  exact this
 have ey:((arrOf st).extract sv (sv+k2)).toList=l2.take k2:=by
  have e3:(arrOf st).toList=(U++l1)++(l2.take k2++(l2.drop k2++W)):=by
   rw[ea2,<- List.append_assoc (l2.take k2),List.take_append_drop]
  have:=part_of_arr e3
  simp only[List.length_append,List.length_take]at this
  rw[show U.length+l1.length=sv by omega,show min k2 l2.length=k2 by omega]at this
  exact this
 generalize hX:(arrOf st).extract (su+k) sv=X at ex ⊢
 generalize hY:(arrOf st).extract sv (sv+k2)=Y at ey ⊢
 have sX:X.toList.Pairwise (Rk O ky):=by rw[ex];exact s1.sublist (List.drop_sublist _ _)
 have sY:Y.toList.Pairwise (Rk O ky):=by rw[ey];exact s2.sublist (List.take_sublist _ _)
 have mX:∀p∈X.toList,p∈l1:=fun p hp=>by rw[ex]at hp;exact List.mem_of_mem_drop hp
 have mY:∀p∈Y.toList,p∈l2:=fun p hp=>by rw[ey]at hp;exact List.mem_of_mem_take hp
 have pX:∀p∈X.toList,P p:=fun p hp=>pa p (by rw[ea];exact List.mem_append_right _ (List.mem_append_left _ (mX p hp)))
 have pY:∀p∈Y.toList,P p:=fun p hp=>pa p (by rw[ea];exact List.mem_append_right _ (List.mem_append_right _ (List.mem_append_left _ (mY p hp))))
 have zX:X.size=nu-k:=by have:=congrArg List.length ex;simp at this;omega
 have zY:Y.size=k2:=by have:=congrArg List.length ey;simp at this;omega
 have iX:∀n,X[n]?=l1[k+n]?:=fun n=>by
  have:X.toList[n]?=l1[k+n]?:=by rw[ex,List.getElem?_drop]
  simpa using this
 have f0:∀p q,p∈X.toList->Y[0]?=some q->O.klt (ky q) (ky p):=fun p q hp hq=>by
  have hq':Y.toList[0]?=some q:=by simpa using hq
  rw[ey,List.getElem?_take_of_lt hk2',ey0']at hq'
  cases hq'
  obtain⟨n,hn',en⟩:=List.getElem_of_mem hp
  refine g2' (k+n) p (by omega) ?_
  rw[<- iX n]
  have:X.toList[n]?=some p:=by rw[List.getElem?_eq_getElem hn',en]
  simpa using this
 have fl:∀p q,X[X.size-1]?=some p->q∈Y.toList->O.klt (ky q) (ky p):=fun p q hp hq=>by
  rw[iX,zX,show k+(nu-k-1)=nu-1 by omega,exl']at hp
  cases hp
  rw[ey]at hq
  obtain⟨n,hn',en⟩:=List.getElem_of_mem hq
  have:n<k2:=by simp at hn';omega
  refine g3' n q this ?_
  rw[<- List.getElem?_take_of_lt this,List.getElem?_eq_getElem hn',en]
 have key:∀r st2,Good O ky X Y r->SameG (SortSt.mk' (kindOf st) (arrOf st) (((pendingOf st).setIfInBounds i (su,nu+nv,pw)).eraseIdxIfInBounds (i+1)) (gallopOf st) (failedOf st)) st2->
   wpS M A E s (do
    modify fun z=>setArr z (r.toList.zipIdx.foldl (fun a (x:Keyed×Nat)=>a.setIfInBounds (su+k+x.2) x.1) (arrOf z))
    return (failedOf (<- get)).isNone) Q st2:=by
  intro r st2 G g
  refine wpS_bind (wpS_modify (wpS_bind (wpS_get (wpS_pure ?_))))
  have hfl:failedOf st2=none:=g.2.2.2.trans hf
  show Q (failedOf st2).isNone _
  rw[hfl]
  have lr:=G.1.length_eq
  rw[List.length_append,ex,ey]at lr
  simp only[List.length_drop,List.length_take]at lr
  have eA:(arrOf st2).toList=(U++l1.take k)++((l1.drop k++l2.take k2)++(l2.drop k2++W)):=by
   rw[g.2.1]
   show(arrOf st).toList=_
   rw[ea]
   conv=>lhs;rw[<- List.take_append_drop k l1,<- List.take_append_drop k2 l2]
   simp only[List.append_assoc]
  have L:=lay_is (b:=su+k) (C:=l2.drop k2++W) r.toList (l1.drop k++l2.take k2) (U++l1.take k) 0 (arrOf st2) eA (by simp only[List.length_append,List.length_drop,List.length_take];omega) (by simp only[List.length_append,List.length_take];omega)
  refine h _ (l1.take k++(r.toList++l2.drop k2)) (g.1.trans kst) hfl g.2.2.1 (L.trans (by simp only[List.append_assoc])) ?_ ?_
  .conv=>rhs;rw[<- List.take_append_drop k l1,<- List.take_append_drop k2 l2]
   have:=G.1
   rw[ex,ey]at this
   have h3:(r.toList++l2.drop k2).Perm ((l1.drop k++l2.take k2)++l2.drop k2):=List.Perm.append_right _ this
   have h4:=List.Perm.append_left (l1.take k) h3
   simpa only[List.append_assoc]using h4
  .have mr:∀p∈r.toList,p∈l1.drop k\/p∈l2.take k2:=fun p hp=>by
    have:=G.1.mem_iff.mp hp
    rw[ex,ey]at this
    exact List.mem_append.mp this
   have at1:∀p∈l1.take k,∃n,n<k/\l1[n]?=some p:=fun p hp=>by
    obtain⟨n,hn',en⟩:=List.getElem_of_mem hp
    have:n<k:=by simp at hn';omega
    exact⟨n,this,by rw[<- List.getElem?_take_of_lt this,List.getElem?_eq_getElem hn',en]⟩
   have at2:∀p∈l1.drop k,∃n,k<=n/\l1[n]?=some p:=fun p hp=>by
    obtain⟨n,hn',en⟩:=List.getElem_of_mem hp
    exact⟨k+n,by omega,by rw[<- List.getElem?_drop,List.getElem?_eq_getElem hn',en]⟩
   have at3:∀p∈l2.take k2,∃n,n<k2/\l2[n]?=some p:=fun p hp=>by
    obtain⟨n,hn',en⟩:=List.getElem_of_mem hp
    have:n<k2:=by simp at hn';omega
    exact⟨n,this,by rw[<- List.getElem?_take_of_lt this,List.getElem?_eq_getElem hn',en]⟩
   have at4:∀p∈l2.drop k2,∃n,k2<=n/\l2[n]?=some p:=fun p hp=>by
    obtain⟨n,hn',en⟩:=List.getElem_of_mem hp
    exact⟨k2+n,by omega,by rw[<- List.getElem?_drop,List.getElem?_eq_getElem hn',en]⟩
   refine List.pairwise_append.mpr ⟨s1.sublist (List.take_sublist _ _),List.pairwise_append.mpr ⟨G.2,s2.sublist (List.drop_sublist _ _),?_⟩,?_⟩
   .intro p hp q hq
    obtain⟨m,hm',em⟩:=at4 q hq
    rcases mr p hp with u|u
    .obtain⟨n,hn',en⟩:=at2 p u
     have hlt:n<l1.length:=by
      rcases Nat.lt_or_ge n l1.length with v|v
      .exact v
      .rw[List.getElem?_eq_none v]at en;cases en
     exact KeyOrd.kle_trans (pw_list s1 (by omega) en exl') (g4' m q hm' em)
    .obtain⟨n,hn',en⟩:=at3 p u
     exact pw_list s2 (by omega) en em
   .intro p hp q hq
    obtain⟨n,hn',en⟩:=at1 p hp
    rcases List.mem_append.mp hq with u|u
    .rcases mr q u with v|v
     .obtain⟨m,hm',em⟩:=at2 q v
      exact pw_list s1 (by omega) en em
     .obtain⟨m,hm',em⟩:=at3 q v
      exact KeyOrd.kle_trans (g1' n p hn' en) (pw_list s2 (Nat.zero_le _) ey0' em)
    .obtain⟨m,hm',em⟩:=at4 q u
     exact KeyOrd.kle_trans (g1' n p hn' en) (pw_list s2 (Nat.zero_le _) ey0' em)
 by_cases c2:nu-k<=k2
 .rw[if_pos c2]
  refine wpS_bind (mergeLo_is C kst pX pY sX sY (by omega) (by omega) (fun p q hp hq=>f0 p q (by simpa using Array.mem_of_getElem? hp) hq) fl fun r st2 G g=>?_)
  exact key r st2 G g
 .rw[if_neg c2]
  refine wpS_bind (mergeHi_is C kst pX pY sX sY (by omega) (by omega) f0 fl fun r st2 G g=>?_)
  exact key r st2 G g
end
end So
namespace So
open PySem PySem.Spec PyProof.Rows
noncomputable def cT (lo n nrem:Nat):StateT SortSt Sem (Option Nat):=do
 reverseSlice' lo (lo+n)
 let r <- forIn [n:nrem] ((none,n):Option (Option Nat)×Nat) fun _ r=>do
  let x <- ltAt' (lo+r.2) (lo+r.2-1)
  match x with
  |some b=>if b=true then pure (ForInStep.done (none,r.2))else pure (ForInStep.yield (none,r.2+1))
  |_=>pure (ForInStep.done (some none,r.2))
 match r.1 with
 |some v=>pure v
 |none=>pure (some r.2)
noncomputable def cS (lo n e:Nat):StateT SortSt Sem (ForInStep (Option (Option Nat)×Nat×Nat)):=do
 let x <- ltAt' (lo+n) (lo+n-1)
 match x with
 |some b=>
  if b=true then
   if e > 0 then do
    reverseSlice' (lo+n-(e+1)) (lo+n)
    pure (ForInStep.yield (none,n+1,0))
   else pure (ForInStep.yield (none,n+1,0))
  else do
   let x <- ltAt' (lo+n-1) (lo+n)
   match x with
   |some b=>if b=true then pure (ForInStep.done (none,n,e))else pure (ForInStep.yield (none,n+1,e+1))
   |_=>pure (ForInStep.done (some none,n,e))
 |_=>pure (ForInStep.done (some none,n,e))
noncomputable def cD (lo n nrem:Nat):StateT SortSt Sem (Option Nat):=do
 liftM (rule "list.sort.descending-run")
 let r <- forIn [n+1:nrem] ((none,n+1,0):Option (Option Nat)×Nat×Nat) fun _ r=>cS lo r.2.1 r.2.2
 match r.1 with
 |some v=>pure v
 |none=>if r.2.2 > 0 then(reverseSlice' (lo+r.2.1-(r.2.2+1)) (lo+r.2.1) >>= fun _=>cT lo r.2.1 nrem)else cT lo r.2.1 nrem
noncomputable def cM (lo nrem:Nat):StateT SortSt Sem (Option Nat):=do
 let r <- forIn [1:nrem] ((none,1):Option (Option Nat)×Nat) fun _ r=>do
  let x <- ltAt' (lo+r.2) (lo+r.2-1)
  match x with
  |some b=>if b=true then pure (ForInStep.done (none,r.2))else pure (ForInStep.yield (none,r.2+1))
  |_=>pure (ForInStep.done (some none,r.2))
 match r.1 with
 |some v=>pure v
 |none=>if(r.2 == nrem)=true then pure (some r.2)else if r.2 > 1 then(ltAt' lo (lo+r.2-1) >>= fun x=>match x with
   |some b=>if b=true then pure (some r.2)else(reverseSlice' lo (lo+r.2) >>= fun _=>cD lo r.2 nrem)
   |_=>pure none)else cD lo r.2 nrem
theorem countRun_eqn (lo nrem:Nat):countRun' lo nrem=cM lo nrem:=by
 refine(countRun'_eq lo nrem).trans ?_
 refine for_body (fun n c=>?_) fun c=>?_
 .refine bind_body fun x=>?_
  cases x<;>rfl
 obtain⟨c0,n⟩:=c
 cases c0
 .refine ite_body rfl (ite_body (bind_body fun x=>?_) ?_)
  .cases x with
   |none=>rfl
   |some b=>
    refine ite_body rfl (bind_body fun _=>?_)
    refine bind_body fun _=>for_body (fun n c=>?_) fun c=>?_
    .refine bind_body fun x=>?_
     cases x with
     |none=>rfl
     |some b=>exact ite_body rfl (bind_body fun x=>by cases x<;>rfl)
    .obtain⟨c0,n,e⟩:=c
     cases c0
     .refine ite_body (bind_body fun _=>bind_body fun _=>for_body (fun n c=>bind_body fun x=>by cases x<;>rfl) fun c=>by obtain⟨c0,n⟩:=c;cases c0<;>rfl) (bind_body fun _=>for_body (fun n c=>bind_body fun x=>by cases x<;>rfl) fun c=>by obtain⟨c0,n⟩:=c;cases c0<;>rfl)
     .rfl
  .refine bind_body fun _=>for_body (fun n c=>?_) fun c=>?_
   .refine bind_body fun x=>?_
    cases x with
    |none=>rfl
    |some b=>exact ite_body rfl (bind_body fun x=>by cases x<;>rfl)
   .obtain⟨c0,n,e⟩:=c
    cases c0
    .refine ite_body (bind_body fun _=>bind_body fun _=>for_body (fun n c=>bind_body fun x=>by cases x<;>rfl) fun c=>by obtain⟨c0,n⟩:=c;cases c0<;>rfl) (bind_body fun _=>for_body (fun n c=>bind_body fun x=>by cases x<;>rfl) fun c=>by obtain⟨c0,n⟩:=c;cases c0<;>rfl)
    .rfl
 .rfl
section
variable {M:Model} {A:Around} {E:Value->Shared->Prop} {s:Shared} {O:KeyOrd} {ky:Keyed->O.α} {P:Keyed->Prop} {kd:SortKind} {st0:SortSt} {lo nrem:Nat}
noncomputable def ke (ky:Keyed->O.α) (a:Array Keyed) (i:Nat):O.α:=ky ((a[i]?).getD (Value.none,Value.none))
theorem ke_congr {a b:Array Keyed} {i j:Nat} (h:a[i]?=b[j]?):ke ky a i=ke ky b j:=by unfold ke;rw[h]
theorem ke_at {a:Array Keyed} {i:Nat} {p:Keyed} (h:a[i]?=some p):ke ky a i=ky p:=by unfold ke;rw[h];rfl
theorem ke_mirror {a:Array Keyed} {i j:Nat} (hj:j<=a.size) (k:Nat):ke ky (mirror a i j ((j-i) / 2)) k=if i<=k/\k<j then ke ky a (i+j-1-k)else ke ky a k:=by
 have e:=getElem?_mirror_all (i:=i) hj k
 by_cases c:i<=k/\k<j
 .rw[if_pos c]at e ⊢;exact ke_congr e
 .rw[if_neg c]at e ⊢;exact ke_congr e
theorem ke_bubble {a:Array Keyed} {src d:Nat} (hs:src<a.size) (hd:d<=src) (k:Nat):
  ke ky (bubble a src d) k=if k=src-d then ke ky a src else if src-d<k/\k<=src then ke ky a (k-1)else ke ky a k:=by
 have e:=getElem?_bubble hs d hd k
 by_cases c:k=src-d
 .rw[if_pos c]at e ⊢;exact ke_congr e
 .rw[if_neg c]at e ⊢
  by_cases c2:src-d<k/\k<=src
  .rw[if_pos c2]at e ⊢;exact ke_congr e
  .rw[if_neg c2]at e ⊢;exact ke_congr e
structure Sb (st0:SortSt) (lo:Nat) (st:SortSt):Prop where
 perm:(arrOf st).Perm (arrOf st0)
 same:∀i,i<lo->(arrOf st)[i]?=(arrOf st0)[i]?
 kind:kindOf st=kindOf st0
 fail:failedOf st=failedOf st0
 pend:pendingOf st=pendingOf st0
theorem Sb.rfl' (st0:SortSt) (lo:Nat):Sb st0 lo st0:=⟨Array.Perm.refl _,fun _ _=>rfl,rfl,rfl,rfl⟩
theorem Sb.size {st:SortSt} (B:Sb st0 lo st):(arrOf st).size=(arrOf st0).size:=B.perm.size_eq
theorem Sb.mirror {st:SortSt} (B:Sb st0 lo st) {i j:Nat} (h:lo<=i):Sb st0 lo (setArr st (mirror (arrOf st) i j ((j-i) / 2))):=by
 refine⟨(mirror_perm _ _ _ _).trans B.perm,fun k hk=>?_,B.kind,B.fail,B.pend⟩
 rw[<- B.same k hk]
 show(PyProof.Rows.mirror (arrOf st) i j ((j-i) / 2))[k]?=_
 by_cases hj:j<=(arrOf st).size
 .rw[getElem?_mirror_all hj,if_neg (by omega)]
 .have go:∀(l:List Nat),(∀n∈l,2*n+1<j-i+1)->∀a:Array Keyed,(l.foldl (fun a n=>a.swapIfInBounds (i+n) (j-1-n)) a)[k]?=a[k]?:=by
   intro l
   induction l with
   |nil=>intro _ a;rfl
   |cons n l ih=>
    intro hl a
    rw[List.foldl_cons,ih (fun m hm=>hl m (List.mem_cons_of_mem _ hm))]
    have hn:=hl n (List.mem_cons_self ..)
    by_cases h1:i+n<a.size
    .by_cases h2:j-1-n<a.size
     .rw[getElem?_swapIB h1 h2,if_neg (by omega),if_neg (by omega)]
     .rw[Array.swapIfInBounds_def];simp[h1,h2]
    .rw[Array.swapIfInBounds_def];simp[h1]
  exact go _ (fun n hn=>by have:=List.mem_range.mp hn;omega) _
theorem Sb.bubble {st:SortSt} (B:Sb st0 lo st) {src d:Nat} (hs:src<(arrOf st).size) (h:lo<=src-d) (hd:d<=src):Sb st0 lo (setArr st (bubble (arrOf st) src d)):=by
 refine⟨(bubble_perm _ _ _).trans B.perm,fun k hk=>?_,B.kind,B.fail,B.pend⟩
 rw[<- B.same k hk]
 show(PyProof.Rows.bubble (arrOf st) src d)[k]?=_
 rw[getElem?_bubble hs d hd,if_neg (by omega),if_neg (by omega)]
theorem Sb.lt (C:Cmp M A E s O ky P kd) {st:SortSt} {i j:Nat} {Q:Option Bool->SortSt->Prop} (kst:kindOf st0=kd) (pa:∀p∈(arrOf st0).toList,P p) (B:Sb st0 lo st) (hi:i<(arrOf st0).size) (hj:j<(arrOf st0).size)
  (h:Q (some (O.blt (ke ky (arrOf st) i) (ke ky (arrOf st) j))) st):wpS M A E s (ltAt' i j) Q st:=by
 obtain⟨p,ep,mp⟩:=at_some (a:=arrOf st) (i:=i) (by rw[B.size];exact hi)
 obtain⟨q,eq,mq⟩:=at_some (a:=arrOf st) (i:=j) (by rw[B.size];exact hj)
 have pm:=Array.perm_iff_toList_perm.mp B.perm
 rw[ltAt'_eq]
 refine wpS_bind (wpS_get ?_)
 refine wpS_bind (wpS_elem ep (wpS_bind (wpS_elem eq (C.lt (pa p (pm.mem_iff.mp mp)) (pa q (pm.mem_iff.mp mq)) (B.kind.trans kst) ?_))))
 rw[ke_at ep,ke_at eq]at h
 exact h
def Si (ky:Keyed->O.α) (lo:Nat) (a:Array Keyed) (n:Nat):Prop:=∀i j,i<=j->j<n->O.kle (ke ky a (lo+i)) (ke ky a (lo+j))
def Ni (ky:Keyed->O.α) (lo:Nat) (a:Array Keyed) (n:Nat):Prop:=∀i j,i<=j->j<n->O.kle (ke ky a (lo+j)) (ke ky a (lo+i))
theorem Si.more {a:Array Keyed} {n:Nat} (h:Si ky lo a n) (h1:1<=n) (g:O.kle (ke ky a (lo+(n-1))) (ke ky a (lo+n))):Si ky lo a (n+1):=by
 intro i j hij hj
 by_cases c:j<n
 .exact h i j hij c
 .have e:j=n:=by omega
  subst e
  by_cases c2:i=j
  .subst c2;exact KeyOrd.kle_refl _
  .exact KeyOrd.kle_trans (h i (j-1) (by omega) (by omega)) g
theorem Ni.more {a:Array Keyed} {n:Nat} (h:Ni ky lo a n) (h1:1<=n) (g:O.kle (ke ky a (lo+n)) (ke ky a (lo+(n-1)))):Ni ky lo a (n+1):=by
 intro i j hij hj
 by_cases c:j<n
 .exact h i j hij c
 .have e:j=n:=by omega
  subst e
  by_cases c2:i=j
  .subst c2;exact KeyOrd.kle_refl _
  .exact KeyOrd.kle_trans g (h i (j-1) (by omega) (by omega))
theorem wpS_rev {st:SortSt} {i j:Nat} {Q:Unit->SortSt->Prop} (h:Q () (setArr st (mirror (arrOf st) i j ((j-i) / 2)))):wpS M A E s (reverseSlice' i j) Q st:=by
 rw[reverseSlice'_eq];exact wpS_modify h
theorem asc_loop (C:Cmp M A E s O ky P kd) {st:SortSt} {n:Nat} {β:Type} {Q:β->SortSt->Prop} {g:Option (Option Nat)×Nat->StateT SortSt Sem β} (kst:kindOf st0=kd) (pa:∀p∈(arrOf st0).toList,P p) (hn:lo+nrem<=(arrOf st0).size) (h1:1<=n) (hnn:n<=nrem) (B:Sb st0 lo st)
  (S:Si ky lo (arrOf st) n) (h:∀m,n<=m->m<=nrem->Si ky lo (arrOf st) m->(m=nrem\/O.klt (ke ky (arrOf st) (lo+m)) (ke ky (arrOf st) (lo+(m-1))))->wpS M A E s (g (none,m)) Q st):
  wpS M A E s (forIn [n:nrem] (none,n) (fun _ r=>do
   let x <- ltAt' (lo+r.2) (lo+r.2-1)
   match x with
   |some b=>if b=true then pure (ForInStep.done (none,r.2))else pure (ForInStep.yield (none,r.2+1))
   |_=>pure (ForInStep.done (some none,r.2))) >>= g) Q st:=by
 refine wpS_for (fun x c st'=>st=st'/\c=(none,x)/\Si ky lo (arrOf st) x) (fun c st'=>st=st'/\∃m,c=(none,m)/\n<=m/\m<=nrem/\Si ky lo (arrOf st) m/\(m=nrem\/O.klt (ke ky (arrOf st) (lo+m)) (ke ky (arrOf st) (lo+(m-1))))) ⟨rfl,rfl,S⟩ ?_ ?_ ?_
 .rintro x c st' hx1 hx2 ⟨rfl,rfl,S'⟩
  dsimp only
  refine wpS_bind (B.lt C kst pa (by omega) (by omega) ?_)
  rw[show lo+x-1=lo+(x-1) by omega]
  cases hb:O.blt (ke ky (arrOf st) (lo+x)) (ke ky (arrOf st) (lo+(x-1)))
  .exact wpS_pure ⟨rfl,rfl,S'.more (by omega) hb⟩
  .exact wpS_pure ⟨rfl,x,rfl,hx1,by omega,S',.inr hb⟩
 .rintro c st' ⟨rfl,rfl,S'⟩
  rw[show max n nrem=nrem by omega]at S' ⊢
  exact⟨rfl,nrem,rfl,hnn,Nat.le_refl _,S',.inl rfl⟩
 .rintro c st' ⟨rfl,m,rfl,a1,a2,a3,a4⟩
  exact h m a1 a2 a3 a4
theorem cT_is (C:Cmp M A E s O ky P kd) {Q:Option Nat->SortSt->Prop} {st4:SortSt} {x:Nat} (kst:kindOf st0=kd) (pa:∀p∈(arrOf st0).toList,P p) (hn:lo+nrem<=(arrOf st0).size) (h:∀m st',Sb st0 lo st'->1<=m->m<=nrem->Si ky lo (arrOf st') m->Q (some m) st')
  (B4:Sb st0 lo st4) (N4:Ni ky lo (arrOf st4) x) (hx1:1<=x) (hn4:x<=nrem):wpS M A E s (cT lo x nrem) Q st4:=by
 unfold cT
 refine wpS_bind (wpS_rev ?_)
 have B5:=B4.mirror (i:=lo) (j:=lo+x) (Nat.le_refl _)
 have hz5:lo+x<=(arrOf st4).size:=by rw[B4.size];omega
 have S5:∀i j,i<=j->j<x->O.kle (ke ky (mirror (arrOf st4) lo (lo+x) ((lo+x-lo) / 2)) (lo+i)) (ke ky (mirror (arrOf st4) lo (lo+x) ((lo+x-lo) / 2)) (lo+j)):=fun i j hij hj=>by
  rw[ke_mirror hz5,ke_mirror hz5,if_pos (by omega),if_pos (by omega)]
  have:=N4 (x-1-j) (x-1-i) (by omega) (by omega)
  rw[show lo+(lo+x)-1-(lo+i)=lo+(x-1-i) by omega,show lo+(lo+x)-1-(lo+j)=lo+(x-1-j) by omega]
  exact this
 refine asc_loop C kst pa hn (by omega) hn4 B5 S5 fun m hm1 hm2 hm3 _=>?_
 exact wpS_pure (h m _ B5 (by omega) hm2 hm3)
noncomputable def CsP (ky:Keyed->O.α) (st0:SortSt) (lo nrem x:Nat):ForInStep (Option (Option Nat)×Nat×Nat)->SortSt->Prop:=fun r st'=>match r with
 | .done c=>∃x e,c=(none,x,e)/\1<=x/\x<=nrem/\Sb st0 lo st'/\Ni ky lo (arrOf st') x/\e+1<=x/\∀i,x-(e+1)<=i->i<x->ke ky (arrOf st') (lo+i)=ke ky (arrOf st') (lo+(x-1))
 | .yield c=>∃e,c=(none,x,e)/\Sb st0 lo st'/\Ni ky lo (arrOf st') x/\e+1<=x/\∀i,x-(e+1)<=i->i<x->ke ky (arrOf st') (lo+i)=ke ky (arrOf st') (lo+(x-1))
theorem mir_eq {a:Array Keyed} {x e:Nat} (hz:lo+x<=a.size) (he:e+1<=x) (heq:∀i,x-(e+1)<=i->i<x->ke ky a (lo+i)=ke ky a (lo+(x-1))) (k:Nat):ke ky (mirror a (lo+x-(e+1)) (lo+x) ((lo+x-(lo+x-(e+1))) / 2)) k=ke ky a k:=by
 rw[ke_mirror hz]
 split
 .rename_i hh
  have u1:=heq (lo+x-(e+1)+(lo+x)-1-k-lo) (by omega) (by omega)
  have u2:=heq (k-lo) (by omega) (by omega)
  rw[show lo+(lo+x-(e+1)+(lo+x)-1-k-lo)=lo+x-(e+1)+(lo+x)-1-k by omega]at u1
  rw[show lo+(k-lo)=k by omega]at u2
  rw[u1,u2]
 .rfl
theorem cS_is (C:Cmp M A E s O ky P kd) {st3:SortSt} {x e:Nat} (kst:kindOf st0=kd) (pa:∀p∈(arrOf st0).toList,P p) (hn:lo+nrem<=(arrOf st0).size) (hx1:1<=x) (hx2:x<nrem)
  (B3:Sb st0 lo st3) (N3:Ni ky lo (arrOf st3) x) (he:e+1<=x) (heq:∀i,x-(e+1)<=i->i<x->ke ky (arrOf st3) (lo+i)=ke ky (arrOf st3) (lo+(x-1))):wpS M A E s (cS lo x e) (CsP ky st0 lo nrem (x+1)) st3:=by
 have hz3:lo+x<=(arrOf st3).size:=by rw[B3.size];omega
 have sub:lo+x-1=lo+(x-1):=by omega
 unfold cS
 rw[sub]
 refine wpS_bind (B3.lt C kst pa (by omega) (by omega) ?_)
 cases hb:O.blt (ke ky (arrOf st3) (lo+x)) (ke ky (arrOf st3) (lo+(x-1)))
 .refine wpS_bind (B3.lt C kst pa (by omega) (by omega) ?_)
  cases hb2:O.blt (ke ky (arrOf st3) (lo+(x-1))) (ke ky (arrOf st3) (lo+x))
  .have hx0:ke ky (arrOf st3) (lo+x)=ke ky (arrOf st3) (lo+(x-1)):=KeyOrd.kle_antisymm hb2 hb
   refine wpS_pure ⟨e+1,rfl,B3,N3.more (by omega) (by rw[hx0];exact KeyOrd.kle_refl _),by omega,fun i h1 h2=>?_⟩
   rw[show x+1-1=x by omega]
   by_cases hix:i=x
   .subst hix;rfl
   .rw[hx0];exact heq i (by omega) (by omega)
  .exact wpS_pure ⟨x,e,rfl,by omega,by omega,B3,N3,he,heq⟩
 .have N5:=N3.more (by omega) (KeyOrd.kle_of_klt hb)
  show wpS M A E s (if e > 0 then _ else _) _ _
  by_cases hq:e > 0
  .rw[if_pos hq]
   refine wpS_bind (wpS_rev (wpS_pure ⟨0,rfl,B3.mirror (by omega),?_,by omega,fun i h1 h2=>by congr 1;omega⟩))
   have hk:=mir_eq hz3 he heq
   intro i j hij hj
   show O.kle (ke ky (mirror (arrOf st3) _ _ _) _) (ke ky (mirror (arrOf st3) _ _ _) _)
   rw[hk,hk]
   exact N5 i j hij hj
  .rw[if_neg hq]
   exact wpS_pure ⟨0,rfl,B3,N5,by omega,fun i h1 h2=>by congr 1;omega⟩
theorem cD_is (C:Cmp M A E s O ky P kd) {Q:Option Nat->SortSt->Prop} {st2:SortSt} {n:Nat} (kst:kindOf st0=kd) (pa:∀p∈(arrOf st0).toList,P p) (hn:lo+nrem<=(arrOf st0).size) (h:∀m st',Sb st0 lo st'->1<=m->m<=nrem->Si ky lo (arrOf st') m->Q (some m) st')
  (B2:Sb st0 lo st2) (N2:Ni ky lo (arrOf st2) (n+1)) (hn2:n+1<=nrem):wpS M A E s (cD lo n nrem) Q st2:=by
 unfold cD
 refine wpS_bind (wpS_lift (wpAny_rule ⟨rfl,?_⟩))
 refine wpS_for (fun x c st'=>CsP ky st0 lo nrem x (.yield c) st') (fun c st'=>CsP ky st0 lo nrem 0 (.done c) st') ⟨0,rfl,B2,N2,by omega,fun i h1 h2=>by congr 1;omega⟩ ?_ ?_ ?_
 .rintro x c st3 hx1 hx2 ⟨e,rfl,B3,N3,he,heq⟩
  exact wpS_mono (cS_is (x:=x) (e:=e) C kst pa hn (by omega) hx2 B3 N3 he heq) fun r st' hh=>by cases r<;>exact hh
 .rintro c st3 ⟨e,rfl,B3,N3,he,heq⟩
  exact⟨_,e,rfl,by omega,by omega,B3,N3,he,heq⟩
 .rintro c st3 ⟨x,e,rfl,hx1,hx2,B3,N3,he,heq⟩
  have hz3:lo+x<=(arrOf st3).size:=by rw[B3.size];omega
  show wpS M A E s (if e > 0 then _ else _) _ _
  by_cases hq:e > 0
  .rw[if_pos hq]
   refine wpS_bind (wpS_rev ?_)
   have hk:=mir_eq hz3 he heq
   refine cT_is (x:=x) C kst pa hn h (B3.mirror (i:=lo+x-(e+1)) (j:=lo+x) (by omega)) (fun i j hij hj=>?_) hx1 hx2
   show O.kle (ke ky (mirror (arrOf st3) _ _ _) _) (ke ky (mirror (arrOf st3) _ _ _) _)
   rw[hk,hk]
   exact N3 i j hij hj
  .rw[if_neg hq]
   exact cT_is C kst pa hn h B3 N3 hx1 hx2
theorem countRun_is (C:Cmp M A E s O ky P kd) {Q:Option Nat->SortSt->Prop} (kst:kindOf st0=kd) (pa:∀p∈(arrOf st0).toList,P p) (hn:lo+nrem<=(arrOf st0).size) (h1:1<=nrem)
  (h:∀m st',Sb st0 lo st'->1<=m->m<=nrem->Si ky lo (arrOf st') m->Q (some m) st'):wpS M A E s (countRun' lo nrem) Q st0:=by
 rw[countRun_eqn]
 unfold cM
 have B0:=Sb.rfl' st0 lo
 refine asc_loop C kst pa hn (Nat.le_refl 1) h1 B0 (fun i j hij hj=>by have e:i=j:=(by omega);subst e;exact KeyOrd.kle_refl _) fun n hn1 hn2 S1 hor=>?_
 dsimp only
 by_cases c1:n=nrem
 .rw[if_pos (by simpa using c1)]
  exact wpS_pure (h n st0 B0 hn1 hn2 S1)
 rw[if_neg (by simpa using c1)]
 have hlt:=hor.resolve_left c1
 by_cases c2:n > 1
 .rw[if_pos c2]
  refine wpS_bind (B0.lt C kst pa (by omega) (by omega) ?_)
  rw[show lo+n-1=lo+(n-1) by omega]
  cases hb:O.blt (ke ky (arrOf st0) lo) (ke ky (arrOf st0) (lo+(n-1)))
  .dsimp only
   simp only[Bool.false_eq_true,if_false]
   have hz:lo+n<=(arrOf st0).size:=by omega
   have hall:∀k,k<n->ke ky (arrOf st0) (lo+k)=ke ky (arrOf st0) (lo+(n-1)):=fun k hk=>
    KeyOrd.kle_antisymm (S1 k (n-1) (by omega) (by omega)) (KeyOrd.kle_trans hb (S1 0 k (by omega) hk))
   refine wpS_bind (wpS_rev ?_)
   have B2:=B0.mirror (i:=lo) (j:=lo+n) (Nat.le_refl _)
   have N2:Ni ky lo (arrOf (setArr st0 (mirror (arrOf st0) lo (lo+n) ((lo+n-lo) / 2)))) (n+1):=fun i j hij hj=>by
    have hk:∀k,ke ky (mirror (arrOf st0) lo (lo+n) ((lo+n-lo) / 2)) k=ke ky (arrOf st0) k:=fun k=>by
     rw[ke_mirror hz]
     split
     .have u1:=hall (lo+(lo+n)-1-k-lo) (by omega)
      have u2:=hall (k-lo) (by omega)
      rw[show lo+(lo+(lo+n)-1-k-lo)=lo+(lo+n)-1-k by omega]at u1
      rw[show lo+(k-lo)=k by omega]at u2
      rw[u1,u2]
     .rfl
    show O.kle (ke ky (mirror (arrOf st0) _ _ _) _) (ke ky (mirror (arrOf st0) _ _ _) _)
    rw[hk,hk]
    by_cases hj2:j<n
    .rw[hall i (by omega),hall j hj2];exact KeyOrd.kle_refl _
    .have e:j=n:=by omega
     subst e
     by_cases hi2:i=j
     .subst hi2;exact KeyOrd.kle_refl _
     .rw[hall i (by omega)];exact KeyOrd.kle_of_klt hlt
   exact cD_is C kst pa hn h B2 N2 (by omega)
  .dsimp only
   simp only[if_true]
   exact wpS_pure (h n st0 B0 hn1 hn2 S1)
 .rw[if_neg c2]
  have e:n=1:=by omega
  subst e
  have B2:=B0
  have N2:Ni ky lo (arrOf st0) (1+1):=fun i j hij hj=>by
   by_cases hi2:i=j
   .subst hi2;exact KeyOrd.kle_refl _
   .have e1:i=0:=by omega
    have e2:j=1:=by omega
    subst e1;subst e2
    exact KeyOrd.kle_of_klt hlt
  exact cD_is C kst pa hn h B2 N2 (by omega)
end
end So
namespace So
open PySem PySem.Spec PyProof.Rows
section
variable {M:Model} {A:Around} {E:Value->Shared->Prop} {s:Shared} {O:KeyOrd} {ky:Keyed->O.α} {P:Keyed->Prop} {kd:SortKind} {st0:SortSt} {lo nrem:Nat}
theorem binarySort_is (C:Cmp M A E s O ky P kd) {st:SortSt} {n ok:Nat} {Q:Bool->SortSt->Prop} (kst:kindOf st0=kd) (pa:∀p∈(arrOf st0).toList,P p) (hn:lo+n<=(arrOf st0).size) (hok:ok<=n) (B:Sb st0 lo st)
  (S:Si ky lo (arrOf st) ok) (h:∀st',Sb st0 lo st'->Si ky lo (arrOf st') n->Q true st'):wpS M A E s (binarySort' lo n ok) Q st:=by
 rw[binarySort'_eq]
 refine wpS_for (fun k c st'=>c=(none,())/\Sb st0 lo st'/\Si ky lo (arrOf st') (min k n)) (fun c st'=>c=(none,())/\Sb st0 lo st'/\Si ky lo (arrOf st') n) ⟨rfl,B,fun i j hij hj=>?_⟩ ?_ ?_ ?_
 .by_cases c:ok=0
  .have e:i=j:=by omega
   subst e;exact KeyOrd.kle_refl _
  .exact S i j hij (by omega)
 .rintro k c st1 hk1 hk2 ⟨rfl,B1,S1⟩
  rw[show min k n=k by omega]at S1
  have hz:lo+k<(arrOf st1).size:=by rw[B1.size];omega
  refine wpS_for (fun x c st'=>st1=st'/\∃l r,c=(none,l,r)/\l<=r/\r<=k/\r-l<=k-x/\(∀i,i<l->O.kle (ke ky (arrOf st1) (lo+i)) (ke ky (arrOf st1) (lo+k)))/\(∀i,r<=i->i<k->O.klt (ke ky (arrOf st1) (lo+k)) (ke ky (arrOf st1) (lo+i))))
   (fun c st'=>st1=st'/\∃l,c=(none,l,l)/\l<=k/\(∀i,i<l->O.kle (ke ky (arrOf st1) (lo+i)) (ke ky (arrOf st1) (lo+k)))/\(∀i,l<=i->i<k->O.klt (ke ky (arrOf st1) (lo+k)) (ke ky (arrOf st1) (lo+i))))
   ⟨rfl,0,k,rfl,by omega,by omega,by omega,fun i hi=>by omega,fun i h1 h2=>by omega⟩ ?_ ?_ ?_
  .rintro x c st2 _ hx ⟨rfl,l,r,rfl,a1,a2,a3,a4,a5⟩
   dsimp only
   by_cases g:l ≥ r
   .rw[if_pos g]
    have e:l=r:=by omega
    subst e
    exact wpS_pure ⟨rfl,l,rfl,a2,a4,a5⟩
   .rw[if_neg g]
    refine wpS_bind (B1.lt C kst pa (by omega) (by omega) ?_)
    cases hb:O.blt (ke ky (arrOf st1) (lo+k)) (ke ky (arrOf st1) (lo+(l+r) / 2))
    .dsimp only
     simp only[Bool.false_eq_true,if_false]
     exact wpS_pure ⟨rfl,(l+r) / 2+1,r,rfl,by omega,a2,by omega,fun i h1=>KeyOrd.kle_trans (S1 i ((l+r) / 2) (by omega) (by omega)) hb,a5⟩
    .dsimp only
     simp only[if_true]
     exact wpS_pure ⟨rfl,l,(l+r) / 2,rfl,by omega,by omega,by omega,a4,fun i h1 h2=>KeyOrd.klt_of_klt_of_kle hb (S1 _ _ h1 h2)⟩
  .rintro c st2 ⟨rfl,l,r,rfl,a1,a2,a3,a4,a5⟩
   have e:l=r:=by omega
   subst e
   exact⟨rfl,l,rfl,a2,a4,a5⟩
  .rintro c st2 ⟨rfl,l,rfl,a2,a4,a5⟩
   dsimp only
   rw[moveDown'_eq]
   refine wpS_bind (wpS_modify (wpS_pure ⟨rfl,B1.bubble hz (by omega) (by omega),?_⟩))
   rw[show min (k+1) n=k+1 by omega]
   intro i j hij hj
   show O.kle (ke ky (bubble (arrOf st1) (lo+k) (lo+k-(lo+l))) (lo+i)) (ke ky (bubble (arrOf st1) (lo+k) (lo+k-(lo+l))) (lo+j))
   rw[ke_bubble hz (by omega),ke_bubble hz (by omega),show lo+k-(lo+k-(lo+l))=lo+l by omega]
   have f:∀m,lo+l<lo+m->lo+m-1=lo+(m-1):=fun m _=>by omega
   by_cases i1:i=l
   .subst i1
    rw[if_pos rfl]
    by_cases j1:j=i
    .subst j1;rw[if_pos rfl];exact KeyOrd.kle_refl _
    .rw[if_neg (by omega),if_pos (by omega),f j (by omega)]
     exact KeyOrd.kle_of_klt (a5 _ (by omega) (by omega))
   .rw[if_neg (by omega)]
    by_cases i2:l<i
    .rw[if_pos (by omega),if_neg (by omega),if_pos (by omega),f i (by omega),f j (by omega)]
     exact S1 _ _ (by omega) (by omega)
    .rw[if_neg (by omega)]
     by_cases j1:j=l
     .subst j1;rw[if_pos rfl];exact a4 i (by omega)
     .rw[if_neg (by omega)]
      by_cases j2:l<j
      .rw[if_pos (by omega),f j (by omega)]
       exact S1 _ _ (by omega) (by omega)
      .rw[if_neg (by omega)]
       exact S1 _ _ hij (by omega)
 .rintro c st1 ⟨rfl,B1,S1⟩
  rw[show min (max (max ok 1) n) n=n by omega]at S1
  exact⟨rfl,B1,S1⟩
 .rintro c st1 ⟨rfl,B1,S1⟩
  exact wpS_pure (h st1 B1 S1)
end
end So
namespace So
open PySem PySem.Spec PyProof.Rows
noncomputable def sP (lo n:Nat):StateT SortSt Sem (ForInStep (Option Unit×Nat)):=do
 modify fun s=>setPending s ((pendingOf s).push (lo,n,0))
 pure (ForInStep.yield (none,lo+n))
noncomputable def sT (z lo n:Nat):StateT SortSt Sem (ForInStep (Option Unit×Nat)):=do
 let st <- get
 match (pendingOf st).back? with
 |some (s1,n1,_)=>do
  let r <- forIn [0:z] ((none,()):Option Unit×Unit) fun _ _=>do
   let st <- get
   match (if(pendingOf st).size > 1 then(pendingOf st)[(pendingOf st).size-2]? else none)with
   |some (_,_,older)=>(if older<=power' z (2*s1+n1) (2*s1+n1+n1+n) z then pure (ForInStep.done (none,()))else mergeAt' ((pendingOf st).size-2) >>= fun b=>if(!b)=true then pure (ForInStep.done (some (),()))else pure (ForInStep.yield (none,())))
   |_=>pure (ForInStep.done (none,()))
  match r.1 with
  |some v=>pure (ForInStep.done (some v,lo))
  |none=>do
   modify fun s=>setPending s ((pendingOf s).modify ((pendingOf s).size-1) fun(x:Nat×Nat×Nat)=>(x.1,x.2.1,power' z (2*s1+n1) (2*s1+n1+n1+n) z))
   sP lo n
 |_=>sP lo n
noncomputable def sB (z mr lo:Nat):StateT SortSt Sem (ForInStep (Option Unit×Nat)):=
 if lo ≥ z then pure (ForInStep.done (none,lo))else countRun' lo (z-lo) >>= fun x=>match x with
  |some m=>if m<mr then(liftM (rule "list.sort.binary-insertion") >>= fun(_:Unit)=>binarySort' lo (min (z-lo) mr) m >>= fun b=>if(!b)=true then pure (ForInStep.done (some (),lo))else sT z lo (min (z-lo) mr))else sT z lo m
  |_=>pure (ForInStep.done (some (),lo))
noncomputable def sC (z:Nat):StateT SortSt Sem (ForInStep (Option Unit×Unit)):=do
 let st <- get
 if(pendingOf st).size<=1 then pure (ForInStep.done (none,()))
 else mergeAt' (if(if(pendingOf st).size-2 > 0 then((pendingOf st)[(pendingOf st).size-2-1]?).map (·.2.1)else none).any (fun x=>decide (x<((pendingOf st)[(pendingOf st).size-2+1]?.elim 0 (·.2.1))))=true then(pendingOf st).size-2-1 else(pendingOf st).size-2) >>= fun b=>
  if(!b)=true then pure (ForInStep.done (some (),()))else pure (ForInStep.yield (none,()))
noncomputable def sM:StateT SortSt Sem Unit:=do
 let st <- get
 let r <- forIn [0:(arrOf st).size] ((none,0):Option Unit×Nat) fun _ r=>sB (arrOf st).size (minRun' (arrOf st).size (arrOf st).size 0) r.2
 match r.1 with
 |some v=>pure v
 |none=>do
  let u <- forIn [0:(arrOf st).size] ((none,()):Option Unit×Unit) fun _ _=>sC (arrOf st).size
  match u.1 with
  |some v=>pure v
  |none=>pure ()
theorem sortRuns_eqn:sortRuns'=sM:=by
 refine sortRuns'_eq.trans ?_
 refine bind_body fun st=>for_body (fun n c=>?_) fun c=>?_
 .refine ite_body rfl (bind_body fun x=>?_)
  cases x with
  |none=>rfl
  |some m=>
   refine ite_body (bind_body fun _=>bind_body fun b=>ite_body rfl (bind_body fun st2=>?_)) (bind_body fun st2=>?_)
   .cases h:(pendingOf st2).back? with
    |none=>rfl
    |some p=>
     obtain⟨s1,n1,w⟩:=p
     refine for_body (fun n c=>bind_body fun st3=>?_) fun c=>?_
     .dsimp only
      cases(if(pendingOf st3).size > 1 then(pendingOf st3)[(pendingOf st3).size-2]? else none)<;>rfl
     .obtain⟨c0,c1⟩:=c
      cases c0<;>rfl
   .cases h:(pendingOf st2).back? with
    |none=>rfl
    |some p=>
     obtain⟨s1,n1,w⟩:=p
     refine for_body (fun n c=>bind_body fun st3=>?_) fun c=>?_
     .dsimp only
      cases(if(pendingOf st3).size > 1 then(pendingOf st3)[(pendingOf st3).size-2]? else none)<;>rfl
     .obtain⟨c0,c1⟩:=c
      cases c0<;>rfl
 .obtain⟨c0,c1⟩:=c
  cases c0
  .refine for_body (fun n c=>rfl) fun c=>?_
   obtain⟨c0,c1⟩:=c
   cases c0<;>rfl
  .rfl
section
variable {M:Model} {A:Around} {E:Value->Shared->Prop} {s:Shared} {O:KeyOrd} {ky:Keyed->O.α} {P:Keyed->Prop} {kd:SortKind} {st0:SortSt} {lo nrem:Nat}
inductive Rn (R:Keyed->Keyed->Prop):List (Nat×Nat×Nat)->List (List Keyed)->Nat->Prop
 |nil (a:Nat):Rn R [] [] a
 |cons {a:Nat} (w:Nat) {l:List Keyed} {p:List (Nat×Nat×Nat)} {L:List (List Keyed)}:0<l.length->l.Pairwise R->Rn R p L (a+l.length)->Rn R ((a,l.length,w) :: p) (l :: L) a
theorem Rn.len {R:Keyed->Keyed->Prop}:∀{p:List (Nat×Nat×Nat)} {L:List (List Keyed)} {a:Nat},Rn R p L a->p.length=L.length/\L.length<=L.flatten.length
 |_,_,_,.nil _=>⟨rfl,Nat.le_refl _⟩
 |_,_,_,.cons w h0 hs r=>by
  have⟨h1,h2⟩:=r.len
  refine⟨by simp[h1],?_⟩
  simp only[List.length_cons,List.flatten_cons,List.length_append];omega
theorem Rn.push {R:Keyed->Keyed->Prop} {l:List Keyed} (h0:0<l.length) (hs:l.Pairwise R):∀{p:List (Nat×Nat×Nat)} {L:List (List Keyed)} {a:Nat},Rn R p L a->∀b,b=a+L.flatten.length->Rn R (p++[(b,l.length,0)]) (L++[l]) a
 |_,_,a,.nil _,b,e=>by
  have:b=a:=by simpa using e
  subst this
  exact .cons 0 h0 hs (.nil _)
 |_,_,a,.cons w g0 gs r,b,e=>.cons w g0 gs (r.push h0 hs b (by rw[e,List.flatten_cons,List.length_append];omega))
theorem Rn.power {R:Keyed->Keyed->Prop} {w:Nat}:∀{p:List (Nat×Nat×Nat)} {L:List (List Keyed)} {a:Nat},Rn R p L a->∀i,Rn R (p.modify i fun x=>(x.1,x.2.1,w)) L a
 |_,_,_,.nil _,i=>by cases i<;>exact .nil _
 |_,_,_,.cons v g0 gs r,0=>.cons w g0 gs r
 |_,_,_,.cons v g0 gs r,i+1=>by rw[List.modify_succ_cons];exact .cons v g0 gs (r.power i)
theorem Rn.merge {R:Keyed->Keyed->Prop} {su nu pw sv nv pv:Nat}:∀{p:List (Nat×Nat×Nat)} {L:List (List Keyed)} {a i:Nat},Rn R p L a->p[i]?=some (su,nu,pw)->p[i+1]?=some (sv,nv,pv)->
  ∃L1 l1 l2 L2,L=L1++l1 :: l2 :: L2/\su=a+L1.flatten.length/\nu=l1.length/\sv=su+nu/\nv=l2.length/\0<nu/\0<nv/\l1.Pairwise R/\l2.Pairwise R/\
   ∀m,m.length=nu+nv->m.Pairwise R->Rn R ((p.set i (su,nu+nv,pw)).eraseIdx (i+1)) (L1++m :: L2) a
 |_,_,a,i,.nil _,e,_=>by simp at e
 |_,_,a,0,@Rn.cons _ _ w l p L h0 hs r,e,e2=>by
  have e':(a,l.length,w)=(su,nu,pw):=by simpa using e
  have e2':p[0]?=some (sv,nv,pv):=by simpa using e2
  obtain⟨rfl,rfl,rfl⟩:a=su/\l.length=nu/\w=pw:=by simpa using e'
  cases r with
  |nil _=>simp at e2'
  | @cons _ w2 l2 p2 L2 g0 gs r2=>
   obtain⟨rfl,rfl,rfl⟩:a+l.length=sv/\l2.length=nv/\w2=pv:=by simpa using e2'
   refine⟨[],l,l2,L2,rfl,by simp,rfl,rfl,rfl,h0,g0,hs,gs,fun m hm hsm=>?_⟩
   show Rn R ((a,l.length+l2.length,w) :: p2) (m :: L2) a
   rw[<- hm]
   refine .cons w (by omega) hsm ?_
   rw[hm,<- Nat.add_assoc];exact r2
 |_,_,a,i+1,@Rn.cons _ _ w l p L h0 hs r,e,e2=>by
  have e':p[i]?=some (su,nu,pw):=by simpa using e
  have e2':p[i+1]?=some (sv,nv,pv):=by simpa using e2
  obtain⟨L1,l1,l2,L2,rfl,a1,a2,a3,a4,a5,a6,a7,a8,a9⟩:=r.merge e' e2'
  refine⟨l :: L1,l1,l2,L2,rfl,by rw[a1,List.flatten_cons,List.length_append];omega,a2,a3,a4,a5,a6,a7,a8,fun m hm hsm=>?_⟩
  have:=a9 m hm hsm
  exact .cons w h0 hs this
structure Wt (O:KeyOrd) (ky:Keyed->O.α) (kd:SortKind) (a0:Array Keyed) (st:SortSt) (L:List (List Keyed)) (T:List Keyed):Prop where
 ar:(arrOf st).toList=L.flatten++T
 rn:Rn (Rk O ky) (pendingOf st).toList L 0
 pm:(arrOf st).toList.Perm a0.toList
 kd:kindOf st=kd
 fl:failedOf st=none
theorem Wt.size {a0:Array Keyed} {st:SortSt} {L:List (List Keyed)} {T:List Keyed} (w:Wt O ky kd a0 st L T):(arrOf st).size=a0.size:=by
 have:=w.pm.length_eq;simpa using this
theorem Wt.pa {a0:Array Keyed} {st:SortSt} {L:List (List Keyed)} {T:List Keyed} (w:Wt O ky kd a0 st L T) (pa:∀p∈a0.toList,P p):∀p∈(arrOf st).toList,P p:=fun p hp=>pa p (w.pm.mem_iff.mp hp)
theorem Wt.mergeAt (C:Cmp M A E s O ky P kd) {a0:Array Keyed} {st:SortSt} {L:List (List Keyed)} {T:List Keyed} {i:Nat} {Q:Bool->SortSt->Prop} (w:Wt O ky kd a0 st L T) (pa:∀p∈a0.toList,P p) (hi:i+1<(pendingOf st).size)
  (h:∀st' L',Wt O ky kd a0 st' L' T->(pendingOf st').size+1=(pendingOf st).size->L'.flatten.length=L.flatten.length->Q true st'):wpS M A E s (mergeAt' i) Q st:=by
 obtain⟨⟨su,nu,pw⟩,e1⟩:∃x,(pendingOf st)[i]?=some x:=⟨_,Array.getElem?_eq_getElem (by omega)⟩
 obtain⟨⟨sv,nv,pv⟩,e2⟩:∃x,(pendingOf st)[i+1]?=some x:=⟨_,Array.getElem?_eq_getElem hi⟩
 obtain⟨L1,l1,l2,L2,rfl,a1,a2,a3,a4,a5,a6,a7,a8,a9⟩:=w.rn.merge (by simpa using e1) (by simpa using e2)
 refine mergeAt_is C (U:=L1.flatten) (W:=L2.flatten++T) w.kd (w.pa pa) e1 e2 (by rw[w.ar];simp) (by omega) a2 a3 a4 a5 a6 a7 a8 w.fl fun st' m g1 g2 g3 g4 g5 g6=>?_
 have lm:=g5.length_eq
 rw[List.length_append]at lm
 refine h st' (L1++m :: L2) ⟨by rw[g4];simp,?_,?_,g1,g2⟩ ?_ ?_
 .rw[g3]
  have:=a9 m (by omega) g6
  simpa using this
 .refine List.Perm.trans ?_ w.pm
  rw[g4,w.ar]
  simp only[List.flatten_append,List.flatten_cons,List.append_assoc]
  refine List.Perm.append_left _ ?_
  rw[<- List.append_assoc l1]
  exact List.Perm.append_right _ g5
 .rw[g3];simp[Array.eraseIdxIfInBounds,hi];omega
 .simp only[List.flatten_append,List.flatten_cons,List.length_append];omega
theorem Sb.split {U T:List Keyed} {st:SortSt} {n:Nat} (B:Sb st0 lo st) (e:(arrOf st0).toList=U++T) (hl:U.length=lo) (hn:lo+n<=(arrOf st0).size) (S:Si ky lo (arrOf st) n):
  ∃l T',(arrOf st).toList=U++(l++T')/\l.length=n/\l.Pairwise (Rk O ky):=by
 have hz:(arrOf st).toList.length=(arrOf st0).size:=by rw[Array.length_toList];exact B.size
 have eU:(arrOf st).toList.take lo=U:=by
  apply List.ext_getElem?
  intro i
  by_cases hi:i<lo
  .rw[List.getElem?_take_of_lt hi]
   have h1:=B.same i hi
   have h2:(arrOf st0).toList[i]?=U[i]?:=by rw[e,List.getElem?_append_left (by omega)]
   rw[<- h2];simpa using h1
  .rw[List.getElem?_eq_none (by rw[List.length_take];omega),List.getElem?_eq_none (by omega)]
 refine⟨((arrOf st).toList.drop lo).take n,(arrOf st).toList.drop (lo+n),?_,by rw[List.length_take,List.length_drop];omega,?_⟩
 .rw[<- eU,<- drop_k,List.take_append_drop]
 .rw[List.pairwise_iff_getElem]
  intro i j hi hj hij
  have hj':j<n:=by rw[List.length_take]at hj;omega
  have:=S i j (by omega) hj'
  have a1:(arrOf st)[lo+i]?=some (((arrOf st).toList.drop lo).take n)[i]:=by
   rw[List.getElem_take,List.getElem_drop,Array.getElem?_eq_getElem (by simp at hz;omega)];simp
  have a2:(arrOf st)[lo+j]?=some (((arrOf st).toList.drop lo).take n)[j]:=by
   rw[List.getElem_take,List.getElem_drop,Array.getElem?_eq_getElem (by simp at hz;omega)];simp
  rw[ke_at a1,ke_at a2]at this
  exact this
noncomputable def SrP (O:KeyOrd) (ky:Keyed->O.α) (kd:SortKind) (a0:Array Keyed) (x:Nat):ForInStep (Option Unit×Nat)->SortSt->Prop:=fun r st'=>match r with
 | .done c=>∃L,c.1=none/\Wt O ky kd a0 st' L []
 | .yield c=>∃L T,c=(none,L.flatten.length)/\Wt O ky kd a0 st' L T/\(x<=L.flatten.length\/T=[])
theorem sP_is {a0:Array Keyed} {L:List (List Keyed)} {l T':List Keyed} {st':SortSt} {n x lo:Nat} (ll:l.length=n) (ls:l.Pairwise (Rk O ky)) (h1:1<=n) (w':Wt O ky kd a0 st' L (l++T')) (e':L.flatten.length=lo) (hx:x<=lo):wpS M A E s (sP lo n) (SrP O ky kd a0 (x+1)) st':=by
 refine wpS_bind (wpS_modify (wpS_pure ⟨L++[l],T',?_,?_,.inl ?_⟩))
 .rw[List.flatten_append,List.length_append,e',<- ll];simp
 .exact⟨by show(arrOf st').toList=_;rw[w'.ar];simp,by
   show Rn (Rk O ky) ((pendingOf st').push _).toList _ _
   rw[Array.toList_push,<- ll]
   exact w'.rn.push (by omega) ls _ (by omega),w'.pm,w'.kd,w'.fl⟩
 .rw[List.flatten_append,List.length_append,e'];simp;omega
theorem sT_is (C:Cmp M A E s O ky P kd) {a0:Array Keyed} {L:List (List Keyed)} {l T':List Keyed} {st3:SortSt} {n x lo:Nat} (pa:∀p∈a0.toList,P p) (ll:l.length=n) (ls:l.Pairwise (Rk O ky)) (h1:1<=n) (w3:Wt O ky kd a0 st3 L (l++T')) (e3:L.flatten.length=lo) (hx:x<=lo):
  wpS M A E s (sT a0.size lo n) (SrP O ky kd a0 (x+1)) st3:=by
 unfold sT
 refine wpS_bind (wpS_get ?_)
 split
 .rename_i s1 n1 _ _
  refine wpS_for (fun _ c st'=>c=(none,())/\∃L',Wt O ky kd a0 st' L' (l++T')/\L'.flatten.length=lo) (fun c st'=>c=(none,())/\∃L',Wt O ky kd a0 st' L' (l++T')/\L'.flatten.length=lo) ⟨rfl,L,w3,e3⟩ ?_ (fun _ _ hh=>hh) ?_
  .rintro y c st4 _ _ ⟨rfl,L',w4,e4⟩
   refine wpS_bind (wpS_get ?_)
   by_cases c5:(pendingOf st4).size > 1
   .rw[if_pos c5]
    split
    .split
     .exact wpS_pure ⟨rfl,L',w4,e4⟩
     .refine wpS_bind (w4.mergeAt C pa (by omega) fun st5 L5 w5 _ e5=>?_)
      exact wpS_pure ⟨rfl,L5,w5,e5.trans e4⟩
    .exact wpS_pure ⟨rfl,L',w4,e4⟩
   .rw[if_neg c5]
    exact wpS_pure ⟨rfl,L',w4,e4⟩
  .rintro c st4 ⟨rfl,L',w4,e4⟩
   refine wpS_bind (wpS_modify (sP_is ll ls h1 ⟨w4.ar,?_,w4.pm,w4.kd,w4.fl⟩ e4 hx))
   show Rn _ (Array.modify _ _ _).toList _ _
   rw[Array.toList_modify];exact w4.rn.power _
 .exact sP_is ll ls h1 w3 e3 hx
theorem sB_is (C:Cmp M A E s O ky P kd) {a0:Array Keyed} {L:List (List Keyed)} {T:List Keyed} {st1:SortSt} {x mr:Nat} (pa:∀p∈a0.toList,P p) (w:Wt O ky kd a0 st1 L T) (hxl:x<=L.flatten.length\/T=[]):
  wpS M A E s (sB a0.size mr L.flatten.length) (SrP O ky kd a0 (x+1)) st1:=by
 have hsz:L.flatten.length+T.length=a0.size:=by
  have h1:=w.size
  have h2:=congrArg List.length w.ar
  rw[List.length_append,Array.length_toList]at h2
  omega
 unfold sB
 by_cases c1:L.flatten.length ≥ a0.size
 .rw[if_pos c1]
  have:T=[]:=List.eq_nil_of_length_eq_zero (by omega)
  subst this
  exact wpS_pure ⟨L,rfl,w⟩
 rw[if_neg c1]
 have hxl':x<=L.flatten.length:=hxl.resolve_right fun e=>by subst e;rw[List.length_nil]at hsz;omega
 have fin:∀{st3:SortSt} {n:Nat},Sb st1 L.flatten.length st3->Si ky L.flatten.length (arrOf st3) n->1<=n->n<=a0.size-L.flatten.length->wpS M A E s (sT a0.size L.flatten.length n) (SrP O ky kd a0 (x+1)) st3:=fun {st3 n} B3 S3 h1 h2=>by
  obtain⟨l,T',ar3,ll,ls⟩:=B3.split w.ar rfl (by rw[w.size];omega) S3
  exact sT_is C pa ll ls h1 ⟨ar3,by rw[B3.pend];exact w.rn,(Array.perm_iff_toList_perm.mp B3.perm).trans w.pm,B3.kind.trans w.kd,B3.fail.trans w.fl⟩ rfl hxl'
 refine wpS_bind (countRun_is C w.kd (w.pa pa) (by rw[w.size];omega) (by omega) fun m st2 B2 hm1 hm2 S2=>?_)
 show wpS M A E s (if m<mr then _ else _) _ _
 by_cases c2:m<mr
 .rw[if_pos c2]
  refine wpS_bind (wpS_lift (wpAny_rule ⟨rfl,?_⟩))
  exact wpS_bind (binarySort_is C w.kd (w.pa pa) (by rw[w.size];omega) (by omega) B2 S2 fun st3 B3 S3=>fin B3 S3 (by omega) (by omega))
 .rw[if_neg c2]
  exact fin B2 S2 hm1 hm2
theorem sortRuns_is (C:Cmp M A E s O ky P kd) {a0:Array Keyed} {st:SortSt} {Q:Unit->SortSt->Prop} (ha:arrOf st=a0) (hk:kindOf st=kd) (hf:failedOf st=none) (hp:pendingOf st=#[]) (pa:∀p∈a0.toList,P p)
  (h:∀st',(arrOf st').toList.Perm a0.toList->(arrOf st').toList.Pairwise (Rk O ky)->failedOf st'=none->Q () st'):wpS M A E s sortRuns' Q st:=by
 rw[sortRuns_eqn]
 refine wpS_bind (wpS_get ?_)
 rw[ha]
 refine wpS_for (fun x c st'=>SrP O ky kd a0 x (.yield c) st') (fun c st'=>∃L,c.1=none/\Wt O ky kd a0 st' L []) ⟨[],a0.toList,rfl,⟨by rw[ha];rfl,by rw[hp];exact .nil _,by rw[ha],hk,hf⟩,.inl (Nat.le_refl _)⟩ ?_ ?_ ?_
 .rintro x c st1 _ hx ⟨L,T,rfl,w,hxl⟩
  exact wpS_mono (sB_is C pa w hxl) fun r st' hh=>by cases r<;>exact hh
 .rintro c st1 ⟨L,T,rfl,w,hxl⟩
  have hsz:L.flatten.length+T.length=a0.size:=by
   have h1:=w.size
   have h2:=congrArg List.length w.ar
   rw[List.length_append,Array.length_toList]at h2
   omega
  have:T=[]:=hxl.elim (fun u=>List.eq_nil_of_length_eq_zero (by omega)) id
  subst this
  exact⟨L,rfl,w⟩
 .rintro⟨c0,c1⟩ st1 ⟨L,hc,w⟩
  cases hc
  have hl:=w.rn.len
  have hsz:L.flatten.length=a0.size:=by
   have h1:=w.size
   have h2:=congrArg List.length w.ar
   rw[List.length_append,Array.length_toList]at h2
   simpa using h2.symm.trans h1
  refine wpS_for (fun x c st'=>c=(none,())/\∃L,Wt O ky kd a0 st' L []/\(pendingOf st').size+x<=a0.size+1) (fun c st'=>c=(none,())/\∃L,Wt O ky kd a0 st' L []/\(pendingOf st').size<=1) ⟨rfl,L,w,by have:=hl.1;rw[Array.length_toList]at this;omega⟩ ?_ ?_ ?_
  .rintro x c st2 _ hx ⟨rfl,L,w,hx2⟩
   unfold sC
   refine wpS_bind (wpS_get ?_)
   by_cases c1:(pendingOf st2).size<=1
   .rw[if_pos c1]
    exact wpS_pure ⟨rfl,L,w,c1⟩
   rw[if_neg c1]
   refine wpS_bind (w.mergeAt C pa ?_ fun st3 L3 w3 z3 _=>?_)
   .repeat' split
    all_goals omega
   .exact wpS_pure ⟨rfl,L3,w3,by omega⟩
  .rintro c st2 ⟨rfl,L,w,hx2⟩
   exact⟨rfl,L,w,by omega⟩
  .rintro c st2 ⟨rfl,L,w,hx2⟩
   dsimp only
   refine wpS_pure (h st2 w.pm ?_ w.fl)
   rw[w.ar]
   have r:=w.rn
   have hl:=r.len.1
   rw[Array.length_toList]at hl
   have go:∀{p:List (Nat×Nat×Nat)} {L:List (List Keyed)} {a:Nat},Rn (Rk O ky) p L a->p.length<=1->(L.flatten++[]).Pairwise (Rk O ky):=by
    intro p L a r hp
    cases r with
    |nil _=>exact List.Pairwise.nil
    |cons w h0 hs r2=>
     cases r2 with
     |nil _=>simpa using hs
     |cons _ _ _ _=>simp at hp
   exact go r (by simpa using hx2)
end
end So
namespace L2
open PySem PySem.Spec PyProof.Rows So
section
variable {prog:Program} {w:World} {A:Around} {E:Value->Shared->Prop} {s:Shared}
def AnyV (prog:Program) (w:World) (h0:Heap) (a:Addr) (vs:List Value) (O:KeyOrd) (kv:Value->O.α):Prop:=
 2<=vs.length->∃κ:SortKind,∀(A:Around) (s:Shared),(∀b o,b≠a->h0.get? b=some o->s.heap.get? b=some o)->
  (∀(E:Value->Shared->Prop) (Q:SortKind->Shared->Prop),Q κ s->wpAny (model prog w) A (keyKind' vs.toArray) Q E s)/\
  ∀x y,x∈vs->y∈vs->∀(E:Value->Shared->Prop) (Q:Bool->Shared->Prop),Q (O.blt (kv x) (kv y)) s->wpAny (model prog w) A (keyLt' κ x y) Q E s
theorem cmp_any {O:KeyOrd} {kv:Value->O.α} {κ:SortKind} {vs:List Value} (h:∀x y,x∈vs->y∈vs->∀(E:Value->Shared->Prop) (Q:Bool->Shared->Prop),Q (O.blt (kv x) (kv y)) s->wpAny (model prog w) A (keyLt' κ x y) Q E s):
  Cmp (model prog w) A E s O (fun p=>kv p.1) (fun p=>p.1∈vs) κ:=by
 refine⟨fun {x y st Q} hx hy hk q=>?_⟩
 rw[lt'_eq]
 refine wpS_bind (wpS_get ?_)
 rw[hk]
 refine wpS_bind (wpS_lift (wpAny_attempt (h x.1 y.1 hx hy _ _ ⟨rfl,?_⟩)))
 exact wpS_pure q
theorem sort_any {O:KeyOrd} {kv:Value->O.α} {a:Addr} {vs:List Value} {n:Nat} {P:Fin->Shared->Prop} (ho:s.heap.get? a=some (seqObj "list" vs.toArray n)) (hu:AnyV prog w s.heap a vs O kv) (hz:vs.length<=sizeLine)
  (h:∀out:List Value,out.Perm vs->(out.Pairwise fun x y=>O.kle (kv x) (kv y))->P (.done (.ret .none)) { s with heap:=sortedHeap s.heap a vs out.toArray }):wpAny (model prog w) A (Builtin.«list.sort» ⟨[.ref a],[]⟩) P E s:=by
 rw[list_sort_plain]
 have ha:a<s.heap.objs.size:=Heap.lt_size ho
 refine wpAny_bind (listItems_at ho rfl (wpAny_bind (listUpdate_at ho rfl ?_)))
 obtain⟨e1,ho1⟩:∃e1,(s.heap.update a (Obj.mapSeq fun _=>#[])).get? a=some (seqObj "list" #[] e1):=⟨_,get?_update_seq ho (fun _=>#[])⟩
 refine wpAny_bind (seqEpoch_at ho1 rfl (wpAny_bind (wpAny_newTuple (wpAny_bind (wpAny_newList (wpAny_holding ?_))))))
 have ho6:(((s.heap.update a (Obj.mapSeq fun _=>#[])).push (seqObj "tuple" vs.toArray 0)).push (seqObj "list" #[] 0)).get? a=some (seqObj "list" #[] e1):=by
  rw[Heap.get?_push_ne _ _ _ (by rw[size_push',Heap.size_update];exact Nat.ne_of_lt (Nat.lt_succ_of_lt ha)),Heap.get?_push_ne _ _ _ (by rw[Heap.size_update];exact Nat.ne_of_lt ha)]
  exact ho1
 have keep:∀b o,b≠a->s.heap.get? b=some o->(((s.heap.update a (Obj.mapSeq fun _=>#[])).push (seqObj "tuple" vs.toArray 0)).push (seqObj "list" #[] 0)).get? b=some o:=fun b o hb q=>by
  have hlt:b<s.heap.objs.size:=Heap.lt_size q
  rw[Heap.get?_push_ne _ _ _ (by rw[size_push',Heap.size_update];exact Nat.ne_of_lt (Nat.lt_succ_of_lt hlt)),Heap.get?_push_ne _ _ _ (by rw[Heap.size_update];exact Nat.ne_of_lt hlt),Heap.get?_update_ne _ _ _ _ hb]
  exact q
 show wpAny (model prog w) A _ P E { s with heap:=((s.heap.update a (Obj.mapSeq fun _=>#[])).push (seqObj "tuple" vs.toArray 0)).push (seqObj "list" #[] 0) }
 dsimp only
 by_cases h2:vs.toArray.size<2
 .rw[if_pos h2,if_pos h2]
  refine wpAny_bind (wpAny_pure ?_)
  rw[StateT.run_pure]
  refine wpAny_bind (wpAny_pure ?_)
  dsimp only
  refine wpAny_bind (seqEpoch_at ho6 rfl (wpAny_bind (listUpdate_at ho6 rfl ?_ (hsz2:=by rw[Array.size_map];show(pairsOf vs).size<=_;rw[pairsOf_size];exact Nat.le_succ_of_le hz))))
  simp only[bne_self_eq_false,Bool.false_eq_true,if_false]
  refine wpAny_pure ?_
  have e2:(pairsOf vs).map (·.2)=vs.toArray:=by
   apply Array.toList_inj.mp
   rw[Array.toList_map,pairsOf_toList,List.map_snd_zip (Nat.le_refl _)]
  have fin:=h vs (List.Perm.refl _) (by
   match vs,h2 with
   | [],_=>exact .nil
   | [x],_=>simp
   |_ :: _ :: _,h2=>simp at h2;omega)
  rw[<- e2]at fin
  exact fin
 .rw[if_neg h2,if_neg h2]
  have h2':2<=vs.length:=by rw[List.size_toArray]at h2;omega
  obtain⟨κ,hκ⟩:=hu h2'
  obtain⟨k1,k2⟩:=hκ A { s with heap:=((s.heap.update a (Obj.mapSeq fun _=>#[])).push (seqObj "tuple" vs.toArray 0)).push (seqObj "list" #[] 0) } keep
  refine wpAny_bind (k1 _ _ ?_)
  refine wpAny_bind (wpAny_mono (sortRuns_is (cmp_any k2) (a0:=pairsOf vs) (st:=SortSt.mk' κ (pairsOf vs) #[] 7 none) (Q:=fun _ st'=>(arrOf st').toList.Perm (pairsOf vs).toList/\(arrOf st').toList.Pairwise (Rk O fun p=>kv p.1)/\failedOf st'=none)
   rfl rfl rfl rfl (fun p hp=>by rw[pairsOf_toList]at hp;exact(mem_zip_self hp).2) fun st' a1 a2 a3=>⟨a1,a2,a3⟩) ?_ fun _ _ e=>e)
  rintro⟨⟨⟩,st'⟩ s' ⟨rfl,hp,hs,hf⟩
  dsimp only
  have hl:(arrOf st').size=vs.length:=by
   have:=hp.length_eq
   rw[Array.length_toList,Array.length_toList,pairsOf_size]at this
   exact this
  refine wpAny_bind (seqEpoch_at ho6 rfl (wpAny_bind (listUpdate_at ho6 rfl ?_ (hsz2:=by rw[Array.size_map];show(arrOf st').size<=_;rw[hl];exact Nat.le_succ_of_le hz))))
  rw[hf]
  simp only[bne_self_eq_false,Bool.false_eq_true,if_false]
  refine wpAny_pure ?_
  have hm:∀p,p∈(arrOf st').toList->p.1=p.2:=fun p hp'=>(mem_zip_self (by rw[<- pairsOf_toList];exact hp.mem_iff.mp hp')).1
  have fin:=h ((arrOf st').toList.map (·.2)) (by
   have:=hp.map (·.2)
   rw[pairsOf_toList,List.map_snd_zip (Nat.le_refl _)]at this
   exact this) (by
   rw[List.pairwise_map]
   refine List.Pairwise.imp_of_mem (fun {x y} hx hy r=>?_) hs
   rw[<- hm x hx,<- hm y hy]
   exact r)
  have e3:((arrOf st').toList.map (·.2)).toArray=(arrOf st').map (·.2):=by
   apply Array.toList_inj.mp
   rw[Array.toList_map]
  rw[e3]at fin
  exact fin
theorem sorted_any {O:KeyOrd} {kv:Value->O.α} {l:Addr} {vs:List Value} {Q:Value->Shared->Prop} (hl:s.heap.IsList l vs.toArray) (hu:∀h a,(∀b o,s.heap.get? b=some o->h.get? b=some o)->s.heap.get? a=none->AnyV prog w h a vs O kv) (hz:vs.length<=sizeLine)
  (h:∀out:List Value,out.Perm vs->(out.Pairwise fun x y=>O.kle (kv x) (kv y))->Q (.ref (s.heap.objs.size+1)) { s with heap:=sortedAll s.heap vs out.toArray }):wpAny (model prog w) A (call (.builtin "sorted") [.ref l]) Q E s:=by
 refine Calls.call_function_entry kind_sorted plain_sorted entry_sorted (args_sorted1 _) ?_
 unfold Builtin.«sorted»
 refine wpAny_bind (m:=checkCount "sorted" 1 1 _) (wpAny_pure (wpAny_bind (collect_list hl (wpAny_bind (wpAny_newList ?_)))))
 have hsz:((s.heap.push (seqObj "list" #[] 0)).update s.heap.objs.size (Obj.mapSeq (·++vs.toArray))).objs.size=s.heap.objs.size+1:=by rw[Heap.size_update,size_push']
 have hoL:(((s.heap.push (seqObj "list" #[] 0)).update s.heap.objs.size (Obj.mapSeq (·++vs.toArray))).push (seqObj "list" vs.toArray 0)).get? (s.heap.objs.size+1)=some (seqObj "list" vs.toArray 0):=by
  rw[<- hsz];exact Heap.get?_push_size _ rfl
 have keep:∀b o,s.heap.get? b=some o->(((s.heap.push (seqObj "list" #[] 0)).update s.heap.objs.size (Obj.mapSeq (·++vs.toArray))).push (seqObj "list" vs.toArray 0)).get? b=some o:=fun b o q=>by
  have hlt:b<s.heap.objs.size:=Heap.lt_size q
  rw[Heap.get?_push_ne _ _ _ (by rw[hsz];exact Nat.ne_of_lt (Nat.lt_succ_of_lt hlt)),Heap.get?_update_ne _ _ _ _ (Nat.ne_of_lt hlt),Heap.get?_push_ne _ _ _ (Nat.ne_of_lt hlt)]
  exact q
 show wpAny _ _ _ _ _ { s with heap:=((s.heap.push (seqObj "list" #[] 0)).update s.heap.objs.size (Obj.mapSeq (·++vs.toArray))).push (seqObj "list" vs.toArray 0) }
 rw[hsz]
 exact wpAny_bind (wpAny_holding (wpAny_call_entry slot_list_sort ⟨_,hoL,rfl⟩ entry_list_sort (sort_any hoL (hu _ _ keep (Heap.get?_none_of_le (Nat.le_succ _))) hz fun out a1 a2=>⟨_,rfl,wpAny_pure ⟨_,rfl,h out a1 a2⟩⟩) (args_list_sort _)))
end
noncomputable def sKey:Value->List Nat
 | .str x _=>x.cps.toList
 |_=>[]
theorem strs_any {prog:Program} {w:World} {h0:Heap} {a:Addr} {vs:List Value} {ss:List PySem.Str} (hS:StrsAre vs ss):AnyV prog w h0 a vs strKind.toKeyOrd sKey:=by
 intro h2
 refine⟨oneType',fun A s _=>⟨fun E Q h=>?_,fun x y hx hy E Q h=>?_⟩⟩
 .obtain⟨x,y,r,rfl⟩:∃x y r,vs=x :: y :: r:=by
   match vs,h2 with
   | [],h2=>simp at h2
   | [_],h2=>simp at h2
   |x :: y :: r,_=>exact⟨x,y,r,rfl⟩
  rw[keyKind_strs hS]
  exact wpAny_pure h
 .obtain⟨p,t,rfl⟩:=hS.all x hx
  obtain⟨q,u,rfl⟩:=hS.all y hy
  rw[keyLt'_oneType]
  exact oneLt_str h
section
variable {X:Cx}
noncomputable def rSortA (K:W.Frag):List V->Hp->VK->Prop:=fun xs H Q=>∃(p:Addr) (ss:List PySem.Str),xs=[.ref p]/\SqL K H p (ss.map V.str)/\∀(l:Addr) (ss':List PySem.Str),H l=none->ss'.Perm ss->Rise ss'->Q (.ref l) (upd H l (.lst (ss'.map V.str)))
theorem call_sortA:CallR X (.builtin "sorted") (rSortA X.K):=by
 intro pins s σ H xs us Q I rv h
 obtain⟨a,ss,rfl,hs,q⟩:=h
 obtain⟨u,rfl,r1⟩:=vals1 rv
 cases r1
 obtain⟨its,r,pl,hz⟩:=I.list hs
 have hlen:=r.length
 rw[List.length_map]at hlen
 rw[List.length_map]at hz
 have hS:=strsAre_of r
 refine sorted_any pl.isList (fun _ _ _ _=>strs_any hS) (by rw[<- hlen];exact hz) fun out a1 a2=>?_
 obtain⟨e,he⟩:=sortedAll_at s.heap its out.toArray
 have hn:H (s.heap.objs.size+1)=none:=I.hok.fresh (Nat.le_succ _)
 have hO:=strsAre_map out fun v hv=>hS.all v (a1.mem_iff.mp hv)
 have hp:(out.map strOf).Perm ss:=by
  have:=a1.map strOf
  rw[hS.strs]at this
  exact this
 have hr:Rise (out.map strOf):=by
  unfold Rise
  rw[List.pairwise_map]
  refine List.Pairwise.imp_of_mem (fun {x y} hx hy k=>?_) a2
  obtain⟨p,t,rfl⟩:=hS.all x (a1.mem_iff.mp hx)
  obtain⟨q,u,rfl⟩:=hS.all y (a1.mem_iff.mp hy)
  exact of_decide_eq_false k
 refine⟨.ref (s.heap.objs.size+1),_,I.laid (a:=s.heap.objs.size+1) (o:=.lst ((out.map strOf).map V.str)) (h':=sortedAll s.heap its out.toArray) (t':=s.toks) (fun _ _=>sortedAll_old) (Nat.le_succ _) ⟨?_,out,e,vals_of_strs hO,?_⟩,rfl,q _ _ hn hp hr⟩
 .rw[List.length_map,hp.length_eq];exact hz
 .rw[he]
end
noncomputable abbrev Itm:Type:=Int ⊕ PySem.Str
theorem str_ext {x y:PySem.Str} (h:x.cps.toList=y.cps.toList):x=y:=by
 cases x;cases y;congr 1;exact Array.toList_inj.mp h
noncomputable def itIs:Itm->Value->Prop
 | .inl i,v=>∃t,v=.int i t
 | .inr x,v=>∃t,v=.str x t
inductive ItsAre:List Value->List Itm->Prop
 |nil:ItsAre [] []
 |cons {v:Value} {a:Itm} {vs:List Value} {l:List Itm}:itIs a v->ItsAre vs l->ItsAre (v :: vs) (a :: l)
theorem ItsAre.len:∀{vs:List Value} {l:List Itm},ItsAre vs l->vs.length=l.length
 |_,_,.nil=>rfl
 |_,_,.cons _ r=>by simp[r.len]
section
variable {prog:Program} {w:World} {A:Around} {E:Value->Shared->Prop} {s:Shared}
end
section
variable {X:Cx}
end
section
variable {prog:Program} {w:World} {A:Around} {E:Value->Shared->Prop} {s:Shared}
theorem key_next {q dd:Addr} {j ep:Nat} {od:Obj} {es:Array DictEntry} {en:DictEntry} {Q:Option Value->Shared->Prop} (hq:s.heap.IsKeyIter q dd j es.size ep) (g1:s.heap.get? dd=some od) (g2:od.data=.dict es ep) (hx:es[j]?=some en)
  (hQ:∀h',h'.IsKeyIter q dd (j+1) es.size ep->Heap.SameBut q s.heap h'->Q (some en.key) { s with heap:=h' }):wpAny (model prog w) A (pyNext (.ref q)) Q E s:=by
 obtain⟨oq,e1,e2,e3⟩:=id hq
 unfold pyNext
 refine wpAny_bind (wpAny_attempt (wpAny_callSpecial?_slot (name:=Str.ofString "__next__") hq.typeIs F.slot_dict_keyiterator_next (wpAny_call_entry F.slot_dict_keyiterator_next hq.typeIs F.entry_dict_keyiterator_next ?_ (F.args_dict_keyiterator_next_1 _))))
 refine wpAny_bind (wpAny_pure (wpAny_bind (wpAny_bind ?_)))
 first|refine wpAny_bind (wpAny_typeNameOfWhole_keyiter hq.typeIs (wpAny_pure ?_))|refine wpAny_bind (wpAny_typeNameOf_keyiter hq.typeIs (wpAny_pure ?_))
 refine wpAny_bind (wpAny_fieldsOf e1 e3 ?_)
 have own0:Builtin.Dict_items.ownsTuple "dict_keyiterator"=false:=by decide
 simp only[own0,Bool.false_eq_true,if_false]
 show wpAny _ _ (if(Value.ref dd == Value.none)=true then _ else _) _ _ s
 rw[if_neg (show ¬((Value.ref dd == Value.none)=true) from Bool.false_ne_true)]
 refine wpAny_bind (wpAny_pure (wpAny_bind (wpAny_dictEntries g1 g2 ?_)))
 rw[if_neg (by simp)]
 refine wpAny_bind (wpAny_pure (wpAny_bind (wpAny_dictEpoch g1 g2 ?_)))
 rw[if_neg (by simp)]
 refine wpAny_pure ?_
 simp only[show ¬((j:Int)<0) from by omega,if_false,Int.toNat_natCast,hx]
 refine wpAny_bind ?_
 first|refine wpAny_bind (wpAny_typeNameOfWhole_keyiter hq.typeIs (wpAny_pure ?_))|refine wpAny_bind (wpAny_typeNameOf_keyiter hq.typeIs (wpAny_pure ?_))
 refine wpAny_bind (wpAny_isOneOf_keyiter hq.typeIs ?_)
 show wpAny _ _ (setField (.ref q) 1 (rawInt ((j:Int)+1)) >>= _) _ _ s
 refine wpAny_bind (wpAny_setField e1 e3 (by simp) ?_)
 have hq':(s.heap.update q (Obj.mapFields (·.setIfInBounds 1 (rawInt ((j:Int)+1))))).IsKeyIter q dd (j+1) es.size ep:=
  ⟨_,Heap.get?_update_self _ e1 (Obj.isFreed_of_fields (Obj.data_mapFields e3 _)),(Obj.cls_mapFields ..).trans e2,by rw[Obj.data_mapFields e3];simp[rawInt]⟩
 refine wpAny_bind (wpAny_holding ?_)
 refine wpAny_bind (wpAny_isOneOf_keyiter (s:={ s with heap:=s.heap.update q (Obj.mapFields (·.setIfInBounds 1 (rawInt ((j:Int)+1)))) }) hq'.typeIs ?_)
 show wpAny _ _ (pure en.key) _ _ _
 exact wpAny_pure (wpAny_pure ⟨_,rfl,wpAny_pure (hQ _ hq' (Heap.SameBut.update ..))⟩)
theorem key_end {q dd:Addr} {j ep:Nat} {od:Obj} {es:Array DictEntry} {Q:Option Value->Shared->Prop} (hh:A.handled=none) (hq:s.heap.IsKeyIter q dd j es.size ep) (g1:s.heap.get? dd=some od) (g2:od.data=.dict es ep) (hx:es.size<=j)
  (hQ:∀h',Heap.ExtBut q s.heap h'->Q none { s with heap:=h' }):wpAny (model prog w) A (pyNext (.ref q)) Q E s:=by
 obtain⟨oq,e1,e2,e3⟩:=id hq
 unfold pyNext
 refine wpAny_bind (wpAny_attempt (wpAny_callSpecial?_slot (name:=Str.ofString "__next__") hq.typeIs F.slot_dict_keyiterator_next (wpAny_call_entry F.slot_dict_keyiterator_next hq.typeIs F.entry_dict_keyiterator_next ?_ (F.args_dict_keyiterator_next_1 _))))
 refine wpAny_bind (wpAny_pure (wpAny_bind (wpAny_bind ?_)))
 first|refine wpAny_bind (wpAny_typeNameOfWhole_keyiter hq.typeIs (wpAny_pure ?_))|refine wpAny_bind (wpAny_typeNameOf_keyiter hq.typeIs (wpAny_pure ?_))
 refine wpAny_bind (wpAny_fieldsOf e1 e3 ?_)
 have own0:Builtin.Dict_items.ownsTuple "dict_keyiterator"=false:=by decide
 simp only[own0,Bool.false_eq_true,if_false]
 show wpAny _ _ (if(Value.ref dd == Value.none)=true then _ else _) _ _ s
 rw[if_neg (show ¬((Value.ref dd == Value.none)=true) from Bool.false_ne_true)]
 refine wpAny_bind (wpAny_pure (wpAny_bind (wpAny_dictEntries g1 g2 ?_)))
 rw[if_neg (by simp)]
 refine wpAny_bind (wpAny_pure (wpAny_bind (wpAny_dictEpoch g1 g2 ?_)))
 rw[if_neg (by simp)]
 refine wpAny_pure ?_
 simp only[show ¬((j:Int)<0) from by omega,if_false,Int.toNat_natCast,Array.getElem?_eq_none hx]
 refine wpAny_bind ?_
 first|refine wpAny_bind (wpAny_typeNameOfWhole_keyiter hq.typeIs (wpAny_pure ?_))|refine wpAny_bind (wpAny_typeNameOf_keyiter hq.typeIs (wpAny_pure ?_))
 show wpAny _ _ (setField (.ref q) 0 .none >>= _) _ _ s
 refine wpAny_bind (wpAny_setField e1 e3 (by simp) ?_)
 show wpAny _ _ (newExc (.type "StopIteration") [] >>= _) _ _ _
 refine wpAny_bind ?_
 simp only[newExc,newTuple]
 refine wpAny_bind (wpAny_newObj_type ?_ (by size_fits))
 refine wpAny_bind (m:=firstArgMember _ _) (wpAny_of_eq (a:=Value.none) (by first|rfl|(simp only[firstArgMember];rfl)) ?_)
 refine wpAny_newObj_type ?_ (by size_fits)
 simp only[raiseNew]
 refine wpAny_bind (wpAny_handled ?_)
 rw[show A.in1.handled=none from hh]
 refine wpAny_bind (wpAny_pure (wpAny_throw ?_))
 refine wpAny_bind (wpAny_isInstance (T:="StopIteration") (b:=true) ⟨_,Heap.get?_push_size _ rfl,rfl⟩ isSubtype_stop ?_)
 exact wpAny_pure (hQ _ (((Heap.SameBut.update ..).extBut.push _).push _))
theorem key_iter {dd:Addr} {ep:Nat} {od:Obj} {es:Array DictEntry} {Q:Value->Shared->Prop} (hd:(dd == sysModules)=false) (hT:s.TypeIs (.ref dd) "dict") (g1:s.heap.get? dd=some od) (g2:od.data=.dict es ep)
  (hQ:Q (.ref s.heap.objs.size) { s with heap:=s.heap.push { cls:=.type "dict_keyiterator",data:=.fields #[.ref dd,.int 0 0,.int es.size 0,.int ep 0] } }):wpAny (model prog w) A (pyIter (.ref dd)) Q E s:=by
 refine wpAny_pyIter_slot hT F.slot_dict_iter (wpAny_call_entry F.slot_dict_iter hT F.entry_dict_iter ?_ (F.args_dict_iter_1 _))
 unfold Builtin.«dict.__iter__»
 refine wpAny_bind ?_
 unfold Builtin.Dict.dictSlotNone
 refine wpAny_bind (wpAny_notOrdered_dict hT ?_)
 show wpAny _ _ (pure (Value.ref dd)) _ _ s
 refine wpAny_pure ?_
 show wpAny _ _ (Builtin.Dict.showsAll dd >>= _) _ _ s
 unfold Builtin.Dict.showsAll
 rw[if_neg (by rw[hd];exact Bool.false_ne_true)]
 refine wpAny_bind (wpAny_pure (wpAny_bind (wpAny_dictEntries g1 g2 (wpAny_bind (wpAny_dictEpoch g1 g2 ?_)))))
 refine wpAny_bind (wpAny_newObj_type (wpAny_pure ⟨_,rfl,"dict_keyiterator",_,⟨_,Heap.get?_push_size _ rfl,rfl⟩,F.slot_dict_keyiterator_next.lookup,?_⟩))
 simpa[rawInt]using hQ
end
def Fz (H:Hp) (d:Addr) (o:Obj):Prop:=∃u,H d=some (.frz o u)
def KsO (o:Obj) (ks:List V):Prop:=∃es ep,o.data=.dict es ep/\Vals ks (es.toList.map (·.key))
noncomputable def Itdk (d:Addr) (o:Obj) (ks:List V):It:=⟨fun i H=>i<ks.length/\Fz H d o,fun i H x H'=>H'=H/\ks[i]?=some x,fun i H=>ks.length<=i/\Fz H d o⟩
theorem Fz.at {P:Program} {w:World} {H:Hp} {h:Heap} {d:Addr} {o:Obj} (f:Fz H d o) (x:HOk P w H h):h.get? d=some o:=let⟨u,e⟩:=f;(x d _ e).1
theorem turn_dict {P:Program} {w:World} {K:W.Frag} {tg:Expr} (it d:Addr) {o:Obj} {ks:List V} {es:Array DictEntry} {ep:Nat} (hd:o.data=.dict es ep) (hv:Vals ks (es.toList.map (·.key))):Turn P w K tg (Itdk d o ks) [it] it (fun i h=>h.IsKeyIter it d i es.size ep) where
 mem:=by simp
 obj:=fun i h st b hb=>by
  have e:b=it:=by simpa using hb
  subst e
  obtain⟨ob,e,c,dt⟩:=st
  exact⟨ob,e,fun v z=>by rw[dt]at z;cases z⟩
 keep:=fun i h h' st k=>st.at fun ob e=>k it (by simp) ob e
 item:=by
  intro X hP hw hK hc i pins s σ H E I hf st hg
  subst hP hw hK
  obtain⟨hi,hz⟩:=hg
  have hx:ks[i]?=some ks[i]:=List.getElem?_eq_getElem hi
  obtain⟨u,hu,ru⟩:=hv.get hx
  rw[List.getElem?_map]at hu
  obtain⟨en,he,rfl⟩:=Option.map_eq_some_iff.mp hu
  obtain⟨f0,f1,f2,f3,f4,f5⟩:=hf it (by simp)
  refine key_next st (hz.at I.hok) hd (by simpa using he) fun h' st' sb=>?_
  have I1:Inv X pins σ H { s with heap:=h' }:=I.turned (t':=s.toks) (fun b o hb e=>(sb.2 b hb).trans e) f0 f1 f3 f4 f5
  obtain⟨ob,e1,c,dt⟩:=id st'
  exact⟨_,rfl,go_of (s:={ s with heap:=h' }) e1 c dt (by decide) ⟨_,H,I1,ru,⟨rfl,hx⟩,st',fun b hb=>(hf b hb).1⟩⟩
 done:=by
  intro X hP hw hK hc i pins s σ H E I hf st hg
  subst hP hw hK
  obtain⟨hi,hz⟩:=hg
  obtain⟨f0,f1,f2,f3,f4,f5⟩:=hf it (by simp)
  have hl:ks.length=es.size:=by have:=hv.length;simpa using this
  exact key_end (I.ok.hd hc) st (hz.at I.hok) hd (by omega) fun h' eb=>⟨rfl,I.turned (t':=s.toks) (fun b o hb e=>eb b o hb e) f0 f1 f3 f4 f5⟩
 self:=fun _ _ _ _ _ st h=>wpAny_pyIter_keyiter st h
section
variable {X:Cx} {tg:Expr}
theorem HOk.freeze {P:Program} {w:World} {H:Hp} {h:Heap} {d:Addr} {u:HO} {o:Obj} (x:HOk P w H h) (e:H d=some u) (hu:Mut (some u)) (ho:h.get? d=some o):HOk P w (upd H d (.frz o u)) h:=fun b v q=>by
 have ntup:∀c xs,H c=some (.tup xs)->c≠d:=fun c xs r z=>by subst z;rw[r]at e;cases e;exact hu
 have nown:∀c y,H c=some (.own y)->c≠d:=fun c y r z=>by subst z;rw[r]at e;cases e;exact hu
 have st:∀a v,ObjOk P w H h a v->ObjOk P w (upd H d (.frz o u)) h a v:=fun a v y=>y.stay (fun _ _ _ q=>q) (fun c r=>by rw[upd_ne (nown c a r)];exact r) fun c xs r=>by rw[upd_ne (ntup c xs r)];exact r
 by_cases hb:b=d
 .subst hb;rw[upd_same]at q;cases q;exact⟨ho,st _ _ (x _ _ e)⟩
 .rw[upd_ne hb]at q;exact st _ _ (x b v q)
theorem Inv.freeze {pins:List (Addr×Obj)} {σ:St} {H:Hp} {s:Shared} {d:Addr} {u:HO} {o:Obj} (I:Inv X pins σ H s) (e:H d=some u) (hu:Mut (some u)) (ho:s.heap.get? d=some o):Inv X pins σ (upd H d (.frz o u)) s:=by
 have:=I.step (h':=s.heap) (g':=s.gens) (d':=s.drawn) (t':=s.toks) (ch:=[]) (H':=upd H d (.frz o u)) (fun _ z=>nomatch z) (fun b o _ _ _ q _=>q) (fun b o _ _ _ q _=>⟨o.slots,q⟩)
  (fun b o _ _ n=>by rw[upd_ne (fun z=>by subst z;rw[n]at e;cases e)];exact n) (fun b o _ q=>⟨o,q⟩)
  (fun b xs q=>by rw[upd_ne (fun z=>by subst z;rw[q]at e;cases e;exact hu)];exact q)
  (fun b o v q=>by rw[upd_ne (fun z=>by subst z;rw[q]at e;cases e;exact hu)];exact q)
  (fun b ps q=>⟨#[],by rw[upd_ne (fun z=>by subst z;rw[q]at e;cases e;exact hu),Array.append_empty];exact q⟩)
  (fun m n=>n) (I.hok.freeze e hu ho) I.bare
 exact this
def DkV (x:V) (H1:Hp) (R:It->Hp->Prop):Prop:=∃d kvs,x=.ref d/\Rd H1 d (.dK kvs)/\∀o,KsO o (kvs.map fun kv=>kV kv.1)->R (Itdk d o (kvs.map fun kv=>kV kv.1)) (upd H1 d (.frz o (.dK kvs)))
def DtV (x:V) (H1:Hp) (R:It->Hp->Prop):Prop:=∃d kvs,x=.ref d/\Rd H1 d (.dT kvs)/\∀o (as:List Addr),as.length=kvs.length->(∀(i:Nat) a kv,as[i]?=some a->kvs[i]?=some kv->H1 a=some (.tup (kv.1.map kV)))->KsO o (as.map V.ref)->R (Itdk d o (as.map V.ref)) (upd H1 d (.frz o (.dT kvs)))
noncomputable def iDct (tl:TE):TI:=fun σ H R=>tl σ H fun x H1=>DkV x H1 R\/DtV x H1 R
theorem upd_self {H:Hp} {d:Addr} {u:HO} (e:H d=some u):upd H d u=H:=by
 funext b;unfold upd;split
 .rename_i z;rw[z,e]
 .rfl
theorem pie_dict {pins:List (Addr×Obj)} {σ:St} {H1:Hp} {s1:Shared} {d:Addr} {u:HO} {R:It->Hp->Prop} {ks:List V} {o:Obj} {es:Array DictEntry} {ep:Nat} (I1:Inv X pins σ H1 s1) (hr:Rd H1 d u) (hu:Mut (some u)) (hs:(d == sysModules)=false) (hT:s1.TypeIs (.ref d) "dict")
  (ho:s1.heap.get? d=some o) (hd:o.data=.dict es ep) (hv:Vals ks (es.toList.map (·.key))) (q:∀o,KsO o ks->R (Itdk d o ks) (upd H1 d (.frz o u))):wpAny (model X.prog X.w) X.A (pyIter (.ref d)) (PIE X pins σ tg R) X.xe s1:=by
 have I2:Inv X pins σ (upd H1 d (.frz o u)) s1:=by
  rcases hr with e|⟨o',e⟩
  .exact I1.freeze e hu ho
  .have:=(I1.hok d _ e).1
   rw[ho]at this
   cases this
   rw[upd_self e];exact I1
 refine key_iter hs hT ho hd ?_
 refine⟨s1.heap.objs.size,[s1.heap.objs.size],_,_,upd H1 d (.frz o u),rfl,I2.kept (t':=s1.toks) (fun b o e=>Heap.get?_push_of_some _ e),turn_dict _ d hd hv,⟨_,Heap.get?_push_size _ rfl,rfl,rfl⟩,fun b hb=>?_,q o ⟨es,ep,hd,hv⟩⟩
 have e:b=s1.heap.objs.size:=by simpa using hb
 subst e
 exact I2.fpOk (Nat.le_refl _) (I2.hok.fresh (Nat.le_refl _))
theorem pi_dct {l:Expr} {tl:TE} (hl:PE X l tl):PI X tg l (iDct tl):=by
 intro pins s σ H R I h
 refine thn (hl pins s σ H _ I h) fun v s1 ⟨x,H1,I1,r1,q1⟩=>?_
 rcases q1 with⟨d,kvs,rfl,hr,q⟩|⟨d,kvs,rfl,hr,q⟩
 .cases r1
  obtain⟨z,hs,vs,rel,dd⟩:=(show ObjOk X.prog X.w H1 s1.heap d (.dK kvs) from hr.ok I1.hok)
  obtain⟨o,es,ep,ho,hc,hdat,hk,hp,hn⟩:=id dd
  refine pie_dict I1 hr trivial hs dd.typeIs ho hdat (vals_at ?_ ?_) q
  .have h1:=rel.length
   have h2:=hp.length
   rw[List.length_map,List.length_map]
   omega
  .intro i x u hx hu
   rw[List.getElem?_map]at hx hu
   obtain⟨kv,hkv,rfl⟩:=Option.map_eq_some_iff.mp hx
   obtain⟨en,hen,rfl⟩:=Option.map_eq_some_iff.mp hu
   obtain⟨p,hpv⟩:∃p,vs[i]?=some p:=by
    have h1:=rel.length
    obtain⟨hl,_⟩:=List.getElem?_eq_some_iff.mp hkv
    exact⟨vs[i]'(by omega),List.getElem?_eq_getElem _⟩
   have e:=(kv_at rel hkv hpv).1
   rw[e]
   exact kV_of (hp.get? hen hpv).1
 .cases r1
  obtain⟨z,hs,xs,rel,o,es,ep,ho,hc,hdat,he,hn⟩:=(show ObjOk X.prog X.w H1 s1.heap d (.dT kvs) from hr.ok I1.hok)
  have hT:s1.TypeIs (.ref d) "dict":=⟨o,ho,hc.1⟩
  have hl:xs.length=kvs.length:=rel.length.symm
  refine pie_dict I1 hr trivial hs hT ho hdat (ks:=(xs.map fun x=>x.2.1).map V.ref) (vals_at ?_ ?_) fun o' ho'=>q o' (xs.map fun x=>x.2.1) (by rw[List.length_map];exact hl) (fun i a kv ha hkv=>?_) ho'
  .rw[he];simp
  .intro i x u hx hu
   rw[he,List.getElem?_map,List.getElem?_map]at hu
   rw[List.getElem?_map,List.getElem?_map]at hx
   cases e:xs[i]? with
   |none=>rw[e]at hx;simp at hx
   |some p=>
    rw[e]at hx hu
    simp at hx hu
    rw[<- hx,<- hu]
    rfl
  .rw[List.getElem?_map]at ha
   obtain⟨p,hp,rfl⟩:=Option.map_eq_some_iff.mp ha
   have key:∀{l:List (List Key×V)} {m:List (List Key×Addr×Value)},Paired (fun(p:List Key×V) (q:List Key×Addr×Value)=>p.1=q.1/\H1 q.2.1=some (.tup (p.1.map kV))/\RelV p.2 q.2.2) l m->∀(i:Nat) kv p,l[i]?=some kv->m[i]?=some p->H1 p.2.1=some (.tup (kv.1.map kV)):=by
    intro l m r
    induction r with
    |nil=>intro i kv p h;simp at h
    |cons h r ih=>
     intro i kv p h1 h2
     cases i with
     |zero=>cases h1;cases h2;exact h.2.1
     |succ i=>exact ih i kv p (by simpa using h1) (by simpa using h2)
   exact key rel i kv p hkv hp
end
end L2
namespace PySem
def Rsn (xs:Array Nat):Prop:=xs.toList.Pairwise (· < ·)
end PySem
namespace PySem
section
variable {prog:Program} {w:World} {K:Type} [DecidableEq K] (knd:KeyKind prog w K)
variable {knd}
variable {A:Around} {E:Value->Shared->Prop} {s:Shared}
end
end PySem
namespace L2
open PySem PySem.Spec PyProof.Rows
def ExcT (h:Heap) (e:Addr) (cls:Value) (T:Addr):Prop:=∃oe vs oT ts a0,h.get? e=some oe/\(oe.cls=cls/\vs[0]?=some a0)/\oe.data=.fields vs/\vs[1]?=some (.ref T)/\T≠e/\h.get? T=some oT/\oT.data=.fields ts/\ts[3]?=some .none
structure LeftX (F S:List Addr) (e:Addr) (cls:Value) (h h':Heap):Prop where
 keep:∀b o,b∉F->b∉S->h.get? b=some o->h'.get? b=some o
 slot:∀b o,b∈F->h.get? b=some o->∃sl,h'.get? b=some { o with slots:=sl }
 there:∀b o,b∉S->h.get? b=some o->∃o',h'.get? b=some o'
 exc:∃T,(h.get? T=none\/T∈S)/\ExcT h' e cls T
section
variable {M:Model} {A:Around} {E:Value->Shared->Prop} {s:Shared}
end
structure FnCx (X:Cx):Prop where
 ex:X.ex=[]
 fn:∀x,X.fn x=true
 stk:X.stack=X.env :: X.outer
 fr:X.env.frame=some X.env.locals
theorem FnCx.frs {X:Cx} (F:FnCx X):L2.frs X.stack=X.env.locals :: X.fs:=by
 rw[F.stk]
 show List.filterMap _ _=_
 rw[List.filterMap_cons,F.fr]
 rfl
section
variable {X:Cx} {pins:List (Addr×Obj)} {σ:St} {H:Hp} {s:Shared}
theorem Inv.left {S:List Addr} {e:Addr} {cls:Value} {h2:Heap} (I:Inv X pins σ H s) (F:FnCx X) (L:LeftX (frs X.stack) S e cls s.heap h2)
  (hS:∀b∈S,H b=none/\X.s₀.heap.get? b=none/\(∀p∈X.pn++pins,p.1≠b)/\∃o vs,s.heap.get? b=some o/\o.data=.fields vs):Inv X pins σ H { s with heap:=h2 }:=by
 have hF:=F.frs
 have nfs:∀{b:Addr},b≠X.env.locals->b∉X.fs->b∉frs X.stack:=fun {b} h1 h2 hb=>by
  rw[hF]at hb
  rcases List.mem_cons.mp hb with z|z
  .exact h1 z
  .exact h2 z
 have cell_ok:∀x c oc v,X.env.cells.lookup x=some c->s.heap.get? c=some oc->oc.data=.cell v->h2.get? c=some oc:=fun x c oc v hx ho hd=>by
  refine L.keep c oc (nfs (I.cne x c hx) fun hb=>?_) (fun hb=>?_) ho
  .obtain⟨_,o,eo,_⟩:=I.ok.funs.mem hb
   exact Nat.lt_irrefl _ (Nat.lt_of_lt_of_le (Heap.lt_size eo) (I.ok.cab x c (F.fn x) hx))
  .obtain⟨_,_,_,o,vs,eo,ed⟩:=hS c hb
   rw[ho]at eo;cases eo
   rw[hd]at ed;cases ed
 refine⟨I.ok,I.os,I.bare,⟨fun b o e0 n hb hx=>?_,fun b o e0 n hb hx=>?_,I.base.free,fun b o e0 hx=>?_,I.base.tups,I.base.frzs,I.base.tbls⟩,?_,fun x c hx=>?_,I.free,I.freeC,fun p hp=>?_,fun b u e=>?_,I.len⟩
 .have e1:=I.base.keep b o e0 n hb hx
  refine L.keep b o (nfs (Nat.ne_of_lt (Nat.lt_of_lt_of_le (Heap.lt_size e0) I.ok.above)) hb) (fun z=>?_) e1
  rw[(hS b z).2.1]at e0;cases e0
 .obtain⟨sl,e1⟩:=I.base.slot b o e0 n hb hx
  obtain⟨sl2,e2⟩:=L.slot b _ (by rw[hF];exact List.mem_cons_of_mem _ hb) e1
  exact⟨sl2,e2⟩
 .obtain⟨o',e1⟩:=I.base.there b o e0 hx
  exact L.there b o' (fun z=>by rw[(hS b z).2.1]at e0;cases e0) e1
 .obtain⟨m,⟨o,es,ep,ho,hd,r⟩,hl⟩:=I.loc
  obtain⟨sl,e2⟩:=L.slot X.env.locals o (by rw[hF];exact List.mem_cons_self) ho
  refine⟨m,⟨_,es,ep,e2,hd,r⟩,fun i x v h1 h2 h3=>?_⟩
  obtain⟨u,ru,q⟩:=hl i x v h1 h2 h3
  refine⟨u,ru,?_⟩
  rcases q with q|⟨k,c,hc,oc,ho,hd⟩
  .exact .inl q
  .exact .inr ⟨k,c,hc,oc,cell_ok x c oc _ hc ho hd,hd⟩
 .obtain⟨v,oc,ho,hd⟩:=I.cell x c hx
  exact⟨v,oc,cell_ok x c oc v hx ho hd,hd⟩
 .obtain⟨e,n,ne,nf,d⟩:=I.pin p hp
  exact⟨L.keep p.1 p.2 (nfs ne nf) (fun z=>(hS p.1 z).2.2.1 p hp rfl) e,n,ne,nf,d⟩
 .refine(I.hok b u e).stay (fun c v hc q=>?_) (fun _ q=>q) fun _ _ q=>q
  have tr:∃u',H c=some u':=by
   rcases hc with z|z
   .exact⟨u,by rw[z];exact e⟩
   .exact⟨_,z⟩
  obtain⟨u',hu⟩:=tr
  refine L.keep c v (fun hb=>?_) (fun hb=>?_) q
  .rw[I.stkFree c hb]at hu;cases hu
  .rw[(hS c hb).1]at hu;cases hu
noncomputable def CX1 (P:Program) (w:World) (mg:Str->Option Value):CXT:=fun outer H s E e s'=>∃(ea T Ca:Addr) (nm:Str) (H':Hp),e=.ref ea/\mg nm=some (.ref Ca)/\s'.os=s.os/\AllBare s'.gens/\Un (frs outer) [] H H' s.heap s'.heap/\HOk P w H' s'.heap/\
 ExcT s'.heap ea (.ref Ca) T/\H' ea=none/\H' T=none/\s.heap.get? ea=none/\s.heap.get? T=none/\E (.str nm 0) none H'
end
def bmV:List Value:=[.type "ValueError",.type "Exception",.type "BaseException",.type "object"]
section
variable {X:Cx}
end
section
variable {X:Cx} {pins:List (Addr×Obj)} {σ:St} {H:Hp} {s:Shared} {D:Ends} {hs:List ExceptHandler}
noncomputable def Cx.inX (X:Cx) (e:Addr):Cx:={ X with A:=X.A.mark (some (.ref e)),calm:=false,xe:=fun _ _=>False }
def ExcObj (e Ca:Addr) (h:Heap):Prop:=∃o vs,h.get? e=some o/\o.cls=.ref Ca/\o.data=.fields vs
noncomputable def ExcO (e Ca:Addr):HO:=.ext (ExcObj e Ca)
end
end L2
namespace L2
open PySem PySem.Spec PyProof.Rows PySem.W
structure XCls (K:Frag) (C:Addr):Prop where
 ga:findIn K (.ref C) "__getattribute__"=some (some (.builtin "BaseException.__getattribute__"))
 gt:findIn K (.ref C) "__getattr__"=some none
 cl:findIn K (.ref C) "__class__"=some (some (.builtin "object.__class__"))
 be:subIn K (.ref C) (.type "BaseException")=some true
 ob:subIn K (.ref C) (.type "object")=some true
 is:(clsIn K C).isSome=true
section
variable {prog:Program} {w:World} {A:Around} {E:Value->Shared->Prop} {K:Frag} {h:Heap} {g:Array GenState} {d:Drawn} {t:Nat} {os:OsState} {a C:Addr} {o:Obj}
end
end L2
namespace L2
open PySem PySem.Spec PyProof.Rows PySem.W
section
variable {X:Cx}
end
noncomputable def okIs:Option Int->Value->Bool
 |some k,v=>Value.isInt k v
 |none,.none=>true
 |none,_=>false
theorem okIs_shape:∀{k:Option Int} {v:Value},okIs k v=true->(∃i t,k=some i/\v=Value.int i t)\/(k=none/\v=Value.none)
 |some i,v,h=>by
  obtain⟨t,e⟩:=Value.isInt_shape (k:=i) (v:=v) h
  exact .inl ⟨i,t,rfl,e⟩
 |none,v,h=>by cases v<;>first|exact .inr ⟨rfl,rfl⟩|cases h
noncomputable def okH:Option Int->Int
 |some k=>hashInt k
 |none=>0xFCA86420
noncomputable def oKind (prog:Program) (w:World):PySem.KeyKind prog w (Option Int) where
 is:=okIs
 hash:=okH
 inj:=fun v a b ha hb=>by
  rcases okIs_shape ha with⟨i,t,rfl,rfl⟩|⟨rfl,rfl⟩
  .rcases okIs_shape hb with⟨j,u,rfl,e⟩|⟨rfl,e⟩
   .injection e with e1 _;rw[e1]
   .exact nomatch e
  .rcases okIs_shape hb with⟨j,u,rfl,e⟩|⟨rfl,e⟩
   .exact nomatch e
   .rfl
 byValue:=fun k v h=>by
  rcases okIs_shape h with⟨i,t,rfl,rfl⟩|⟨rfl,rfl⟩<;>rfl
 pyHash:=fun hv h=>by
  rcases okIs_shape hv with⟨i,t,rfl,rfl⟩|⟨rfl,rfl⟩
  .exact wpAny_pyHash_int h
  .exact hash_none h
 eqBool:=fun {A E s a b u v Q} hu hv h=>by
  rcases okIs_shape hu with⟨i,t,rfl,rfl⟩|⟨rfl,rfl⟩
  .rcases okIs_shape hv with⟨j,u,rfl,rfl⟩|⟨rfl,rfl⟩
   .have e:decide ((some i:Option Int)=some j)=(i == j):=by
     by_cases q:i=j
     .subst q;simp
     .rw[decide_eq_false (fun z=>q (Option.some.inj z)),(beq_eq_false_iff_ne.mpr q)]
    rw[e]at h
    exact wpAny_eqBool_int h
   .exact SeqAt.EqAt.int_none i t _ _ _ _ h
  .rcases okIs_shape hv with⟨j,u,rfl,rfl⟩|⟨rfl,rfl⟩
   .exact SeqAt.EqAt.none_int j u _ _ _ _ h
   .exact SeqAt.EqAt.same .none _ _ _ _ h
 «strs»:=fun k x t v h=>by
  rcases okIs_shape h with⟨i,u,rfl,e⟩|⟨rfl,e⟩<;>exact nomatch e
end L2
namespace PySem
open PyProof.Rows
section
variable {prog:Program} {w:World} {K:Type} [DecidableEq K] {knd:KeyKind prog w K}
variable {A:Around} {R:Result->Shared->Prop} {I:Addr} {fp wr:List Addr} {G:Array GenState->Array GenState->Prop} {n:Nat} {P:Nat->Value->Prop} {St:Nat->Shared->Prop}
end
section
variable {prog:Program} {w:World} {K:Type} [DecidableEq K] {knd:KeyKind prog w K} {A:Around} {E:Value->Shared->Prop} {s:Shared}
end
end PySem
namespace PySem
open PyProof.Rows
def Heap.IsSti (h:Heap) (a d:Addr) (f:Value) (i n ep:Nat):Prop:=∃o,h.get? a=some o/\o.cls=.type "set_iterator"/\o.data=.fields #[f,rawInt i,.ref d,rawInt n,rawInt ep]
theorem Heap.IsSti.at {h h':Heap} {a d:Addr} {f:Value} {i n ep:Nat} (x:h.IsSti a d f i n ep) (e:∀o,h.get? a=some o->h'.get? a=some o):h'.IsSti a d f i n ep:=let⟨o,ho,r⟩:=x;⟨o,e _ ho,r⟩
def Ord (bt:Bool) (w:World) (d ep:Nat) (es:Array (Int×Value)) (t:SetTable) (xs:Array Value) (h:Heap) (f:Value) (i:Nat):Prop:=
 (bt=true/\f=rawInt 0/\xs=(pickOrder (w.params.setOrder d ep) es).map (·.2))\/
 (bt=false/\(!t.plain&&decide (es.size > 1))=false/\Rsn t.place/\f=rawInt (if i=0 then 0 else((t.place.getD (i-1) 0+1:Nat):Int))/\xs=es.map (·.2))\/
 (bt=false/\∃(T:Addr) (pl:Array Nat),f=.ref T/\IsTup h T (pl.map fun(j:Nat)=>rawInt j)/\xs.size=pl.size/\∀(j p:Nat),pl[j]?=some p->∃x:Int×Value,es[p]?=some x/\xs[j]?=some x.2)
section
variable {prog:Program} {w:World} {A:Around} {E:Value->Shared->Prop} {s:Shared}
theorem Heap.IsSti.typeIs {a d:Addr} {f:Value} {i n ep:Nat} (x:s.heap.IsSti a d f i n ep):s.TypeIs (.ref a) "set_iterator":=let⟨o,ho,hc,_⟩:=x;⟨o,ho,hc⟩
theorem out_perm {α:Type}:∀(l:List α) (i:Nat) (h:i<l.length),(l[i] :: l.eraseIdx i).Perm l
 |a :: l,0,h=>List.Perm.refl _
 |a :: l,i+1,h=>by
  rw[List.eraseIdx_cons_succ,List.getElem_cons_succ]
  exact(List.Perm.swap a _ _).trans ((out_perm l i (by simpa using h)).cons a)
theorem pick_go {α:Type} (f:Nat->Nat):∀(n k:Nat) (l:List α) (out:Array α),n=l.length->(pickOrder.go f n k l out).toList.Perm (out.toList++l)
 |0,k,l,out,e=>by
  have:l=[]:=List.length_eq_zero_iff.mp e.symm
  subst this
  unfold pickOrder.go
  simp
 |n+1,k,l,out,e=>by
  unfold pickOrder.go
  have hl:f k % l.length<l.length:=Nat.mod_lt _ (by omega)
  rw[List.getElem?_eq_getElem hl]
  dsimp only
  refine(pick_go f n (k+1) _ _ (by rw[List.length_eraseIdx_of_lt hl];omega)).trans ?_
  rw[Array.toList_push,List.append_assoc]
  refine List.Perm.append_left _ ?_
  rw[List.singleton_append]
  exact out_perm l _ hl
theorem pick_perm {α:Type} (f:Nat->Nat) (xs:Array α):(pickOrder f xs).toList.Perm xs.toList:=by
 have:=pick_go f xs.size 0 xs.toList #[] (by simp)
 simpa[pickOrder]using this
end
end PySem
namespace PySem
open PyProof.Rows
section
variable {prog:Program} {w:World} {A:Around} {E:Value->Shared->Prop} {s:Shared}
end
end PySem
namespace PySem
open PyProof.Rows
section
variable {prog:Program} {w:World}
variable {A:Around} {E:Value->Shared->Prop} {s:Shared}
end
end PySem
namespace L2
open PySem PySem.Spec PyProof.Rows
structure CompInG {α:Type} (Is:α->Obj->Prop) (X:Cx) (e:Expr) (scope:Scope) (tg:Expr) (iter:Expr) (ifs:List Expr) (nx:Addr->Env->Sem Unit) (g:TG) (tc:TT) (rest:TL α) (own:List Nat):Prop where
 sc:CompSc X scope
 ow:∀i x,X.N[i]?=some x->(scope.names.lookup x=some .local\/scope.names.lookup x=some .cell)->i∈own
 cl:∃gs,clausesOf e=⟨tg,iter,ifs,0⟩ :: gs
 fs:∀x,foldedSetIterable iter X.env x=pure x
 calm:X.calm=true
 q:∀it D env,(Code.compLoop e 0 it (.ref D) env).quiet=true/\(Code.compStart e 0 it (.ref D) env).quiet=true
 u:∀A it D env,Around.under A (Code.compLoop e 0 it (.ref D) env)=A/\Around.under A (Code.compStart e 0 it (.ref D) env)=A
 T:∀P w it D env,(model P w).den (.compLoop e 0 it (.ref D) env)=(turnCode e 0 tg iter ifs (nx D env) it (.ref D) env).onRaise (fun x=>do noteFrame x env;theTreesLotGoes x)
 S:∀P w it D env,(model P w).den (.compStart e 0 it (.ref D) env)=(compStart e 0 it (.ref D) env).onRaise (fun x=>do noteFrame x env;standAt theWindowsPlace)
 ge:GExt own g
 inn:∀s0 H0 ex D,PG (X.comp scope s0 H0 ex) tg g/\PTs (X.comp scope s0 H0 ex) ifs tc/\∃ws',(∀j∈ws',j∈own)/\CompRun (X.comp scope s0 H0 ex) D Is ws' (nx D (X.comp scope s0 H0 ex).env) rest
section
variable {X:Cx} {e:Expr} {scope:Scope} {tg iter:Expr} {ifs:List Expr} {nx:Addr->Env->Sem Unit} {g:TG} {tc:TT} {α:Type} {Is:α->Obj->Prop} {rest:TL α} {own:List Nat} {wi:TI} {a0:α} {o0:Bool->Obj} {newAcc:Sem Value} {ho:Addr->α->HO} {ok:α->Hp->Prop}
end
section
variable {X:Cx} {e:Expr} {scope:Scope} {tg iter:Expr} {ifs:List Expr} {nx:Addr->Env->Sem Unit} {g:TG} {tc:TT} {α:Type} {Is:α->Obj->Prop} {rest:TL α} {own:List Nat} {wi:TI} {a0:α} {o0:Bool->Obj} {newAcc:Sem Value} {ho:Addr->α->HO} {ok:α->Hp->Prop}
end
noncomputable def kO:Option Int->V
 |some i=>.int i
 |none=>.non
def IsS (a:(Option Int->Bool)×Nat) (o:Obj):Prop:=a.2<=4000/\(∃es ep t,o.data=.set es ep t)/\∃m,m<=a.2/\∀(P:Program) (w:World),o.SetObjOf (oKind P w) a.1 m
noncomputable def SetO (D:Addr) (S:Option Int->Bool) (n:Nat):HO:=.ext fun h=>∃o,h.get? D=some o/\IsS (S,n) o
section
variable {X:Cx}
noncomputable def rInO (neg:Bool):R2:=fun x y H Q=>∃k D S n,x=kO k/\y=.ref D/\H D=some (SetO D S n)/\Q (.bl (if neg then !(S k)else S k)) H
noncomputable def tEmitS (te:TE):TL ((Option Int->Bool)×Nat):=fun σ a H N=>te σ H fun v H'=>∃k,v=kO k/\a.2<4000/\N (fun j=>a.1 j || decide (j=k),a.2+1) H'
end
noncomputable abbrev NH:Int:=0xFCA86420
section
variable {prog:Program} {w:World} {A:Around} {E:Value->Shared->Prop} {s:Shared}
end
theorem pairs_mem {P:Program} {w:World} {k:Key}:∀{es:List DictEntry} {vs:List (Key×Value)} {en:DictEntry},Pairs (mixKind P w) es vs->en∈es->(mixKind P w).is k en.key=true->k∈vs.map (·.1)
 |_,_,_,.nil,h,_=>by cases h
 |_,_,en,.cons (e:=e) (kv:=kv) h1 h2 r,h,hk=>by
  rcases List.mem_cons.mp h with rfl|h
  .rw[(mixKind P w).inj _ _ _ hk h1]
   exact List.mem_cons_self
  .exact List.mem_cons_of_mem _ (pairs_mem r h hk)
theorem paired_mem_r {α β:Type} {F:α->β->Prop}:∀{xs:List α} {ys:List β} {y:β},Paired F xs ys->y∈ys->∃x∈xs,F x y
 |_,_,_,.nil,h=>by cases h
 |_,_,y,.cons h1 r,h=>by
  rcases List.mem_cons.mp h with rfl|h
  .exact⟨_,List.mem_cons_self,h1⟩
  .obtain⟨x,hx,hf⟩:=paired_mem_r r h
   exact⟨x,List.mem_cons_of_mem _ hx,hf⟩
def NoN (H:Hp) (a:Addr):Prop:=(∃kvs,H a=some (.dK kvs)/\∀kv∈kvs,∃i:Int,kv.1=.inl i/\hashInt i≠NH)\/
 ∃kvs,H a=some (.dT kvs)/\∀kv∈kvs,∃is:List Int,kv.1=is.map Key.inl/\reduceHash (Builtin.Tuple.tupleHashOf (is.map hashInt))≠NH
theorem NoN.at {X:Cx} {pins:List (Addr×Obj)} {σ:St} {H:Hp} {s:Shared} {a:Addr} (I:Inv X pins σ H s) (h:NoN H a):(a == sysModules)=false/\s.TypeIs (.ref a) "dict"/\∃o es ep,s.heap.get? a=some o/\o.data=.dict es ep/\∀e∈es.toList,e.hash≠NH:=by
 rcases h with⟨kvs,e,hk⟩|⟨kvs,e,hk⟩
 .obtain⟨z,hd,vs,rel,dd⟩:=dk_of I.hok e
  refine⟨hd,dd.typeIs,?_⟩
  obtain⟨o,es,ep,h1,_,h3,h4,h5,_⟩:=dd
  refine⟨o,es,ep,h1,h3,fun en hen=>?_⟩
  obtain⟨k,hk1,hk2⟩:=h4 en (Array.mem_toList_iff.mp hen)
  have hin:k∈kvs.map (·.1):=by
   rw[rel.keys]
   exact pairs_mem h5 hen hk1
  obtain⟨kv,hkv,rfl⟩:=List.mem_map.mp hin
  obtain⟨i,ei,hi⟩:=hk kv hkv
  rw[hk2,ei]
  exact hi
 .obtain⟨z,hd,xs,rel,dd⟩:=dt_of I.hok e
  refine⟨hd,dd.typeIs,?_⟩
  obtain⟨o,es,ep,h1,_,h3,h4,_⟩:=dd
  refine⟨o,es,ep,h1,h3,fun en hen=>?_⟩
  rw[h4]at hen
  obtain⟨x,hx,rfl⟩:=List.mem_map.mp hen
  obtain⟨kv,hkv,hp⟩:=paired_mem_r rel hx
  obtain⟨is,ei,hi⟩:=hk kv hkv
  show(tupleKind (mixKind X.prog X.w)).hash x.1≠NH
  rw[<- hp.1,ei]
  show reduceHash (Builtin.Tuple.tupleHashOf ((is.map Key.inl).map (mixKind X.prog X.w).hash))≠NH
  rw[List.map_map]
  exact hi
section
variable {X:Cx}
noncomputable def tEmitK (tk tv:TE):TL (List (Key×V)):=fun σ a H N=>tk σ H fun y H1=>tv σ H1 fun v H2=>∃k,y=kV k/\a.length<sizeLine/\N (putK a k v) H2
end
noncomputable abbrev KTL:=List (List Key×Addr×V)
def okT (a:KTL) (H:Hp):Prop:=∀x∈a,H x.2.1=some (.tup (x.1.map kV))
section
variable {X:Cx}
noncomputable def tEmitT (tk tv:TE):TL KTL:=fun σ a H N=>tk σ H fun y H1=>tv σ H1 fun v H2=>∃(k:List Key) (b:Addr),y=.ref b/\H2 b=some (.tup (k.map kV))/\okT a H2/\(∀x∈a,x.1≠k)/\a.length<sizeLine/\N (a++[(k,b,v)]) H2
end
section
variable {X:Cx} {o e f i:Expr} {apos cpos:Pos} {td ty tx:TE}
end
section
variable {X:Cx} {e:Expr} {scope:Scope} {tg iter:Expr} {ifs:List Expr} {nx:Addr->Env->Sem Unit} {g:TG} {tc:TT} {own:List Nat} {wi:TI}
end
section
variable {prog:Program} {w:World} {A:Around} {E:Value->Shared->Prop} {s:Shared}
end
section
variable {X:Cx}
variable {e:Expr} {scope:Scope} {tg iter:Expr} {ifs:List Expr} {nx:Addr->Env->Sem Unit} {g:TG} {tc:TT} {rest:TL ((Option Int->Bool)×Nat)} {own:List Nat} {wi:TI}
end
section
variable {prog:Program} {w:World} {A:Around} {E:Value->Shared->Prop} {s:Shared}
end
section
variable {X:Cx}
end
section
variable {prog:Program} {w:World} {A:Around} {E:Value->Shared->Prop} {s:Shared}
end
section
variable {X:Cx}
end
end L2
namespace R3
open PySem PySem.Spec PyProof.Rows L2
inductive Bf where
 |len|abs|int|isinstance|all|min|list|range|sortA
 deriving DecidableEq
inductive Mf where
 |append|join|countS
 deriving DecidableEq
inductive Xf where
 |eqT|inR|notInR
 deriving DecidableEq
inductive Zf where
 |eqB|ninB|ltS
 deriving DecidableEq
inductive Yf where
 |strd|ltx
 deriving DecidableEq
mutual
inductive Ce where
 |var (i:Nat)|int (n:Int)|bl (b:Bool)|non|str (x:Str)|ty (n:String)
 |bin (op:Operator) (a b:Ce)
 |neg (a:Ce)|not (a:Ce)
 |and (a b:Ce)|or (a b:Ce)
 |cmp (op:CmpOp) (a b:Ce)
 |chn (op op':CmpOp) (a b c:Ce)
 |tup (es:Ces)|lst (es:Ces)
 |idx (a b:Ce)
 |call (f:Str) (es:Ces)
 |blt (f:Bf) (es:Ces)
 |met (m:Mf) (o:Ce) (es:Ces)
 |comp (elt:Ce) (own:List Nat) (t:Ct) (it:Ci) (q:Cqo) (r:Cc)
 |dnew|dsi (k v:Int)|dix (a b:Ce)|dg2 (a b c:Ce)
inductive Ces where
 |nil|cons (e:Ce) (r:Ces)
inductive Cq where
 |val (e:Ce)|not (q:Cq)|and (a b:Cq)|or (a b:Cq)|cmp (op:CmpOp) (a b:Ce)|chn (op op':CmpOp) (a b c:Ce)|cmw (k:Zf) (a b:Ce)
inductive Cqo where
 |none|some (q:Cq)
inductive Co where
 |none|some (e:Ce)
inductive Ci where
 |val (e:Ce)|range1 (a:Ce)|range2 (a b:Ce)|zip (a b:Ce)|enum (a:Ce)|rev (a:Ce)|dk (e:Ce)
inductive Ct where
 |name (i:Nat)|tup (ts:Cts)|sub (o i:Ce)
inductive Cts where
 |nil|cons (t:Ct) (r:Cts)
inductive Cc where
 |nil|cons (ws:List Nat) (t:Ct) (it:Ci) (q:Cqo) (r:Cc)
end
mutual
inductive Cs where
 |expr (e:Ce)|ret (e:Ce)|asg (t:Ct) (e:Ce)|par (i j:Nat) (a b:Ce)|aug (i:Nat) (sub:Bool) (e:Ce)
 |ite (q:Cq) (a b:Css)|whl (q:Cq) (b:Css)|for_ (t:Ct) (it:Ci) (b:Css)|dput (o i e:Ce)|raise_
inductive Css where
 |nil|cons (s:Cs) (r:Css)
end
def CShl (i j:Int):Prop:=0<=j/\j<=1000000/\i.natAbs<2 ^ 100
def CDivW (_ j:Int):Prop:=0<j/\(j<1073741824\/j.natAbs.log2<9000)
def CMulW (i j:Int):Prop:=(-(2 ^ 64)<i/\i<2 ^ 64)\/(-(2 ^ 64)<j/\j<2 ^ 64)\/IntMulOk i j
section
variable (K:W.Frag)
noncomputable def rBin:Operator->R2
 | .Add=>fun x y H Q=>match x,y with
  | .int i,.int j=>Q (.int (i+j)) H
  | .str i,.str j=>i.length+j.length<=sizeLine/\Q (.str (i++j)) H
  |x,y=>rCat x y H Q\/rCatT K x y H Q\/rCatT0 K x y H Q
 | .Sub=>rI0 fun i j=>.int (i-j)
 | .Mult=>fun x y H Q=>match x,y with
  | .int i,.int j=>CMulW i j/\Q (.int (i*j)) H
  | .str a,.int n=>-1000000<=n/\n<=1000000/\a.length*n.toNat<=1000000/\Q (.str (Txt.mul a n)) H
  |x,y=>rRep x y H Q
 | .Mod=>rI (fun _ j=>0<j) fun i j=>.int (i % j)
 | .FloorDiv=>rI CDivW fun i j=>.int (i / j)
 | .Pow=>rI CPow fun i j=>.int (i ^ j.toNat)
 | .LShift=>rI CShl fun i j=>.int (i*2 ^ j.toNat)
 | .RShift=>rI (fun _ j=>0<=j) fun i j=>.int (i / 2 ^ j.toNat)
 | .BitAnd=>rI (fun i j=>0<=i/\j=1) fun i _=>.int (i % 2)
 |_=>fun _ _ _ _=>False
noncomputable def rCmp:CmpOp->R2
 | .Eq=>fun x y H Q=>match x,y with
  | .ref a,.ref b=>rEqL K false (.ref a) (.ref b) H Q\/rEqD false (.ref a) (.ref b) H Q
  |x,y=>rEq x y H Q
 | .NotEq=>fun x y H Q=>match x,y with
  | .ref a,.ref b=>rEqL K true (.ref a) (.ref b) H Q\/rEqD true (.ref a) (.ref b) H Q
  |x,y=>rNe x y H Q
 | .Lt=>rI0 fun i j=>.bl (decide (i<j))
 | .LtE=>rI0 fun i j=>.bl (decide (i<=j))
 | .Gt=>fun x y H Q=>match x with
  | .str a=>rGtS (.str a) y H Q
  |x=>rI0 (fun i j=>.bl (decide (j<i))) x y H Q
 | .GtE=>rI0 fun i j=>.bl (decide (j<=i))
 | .Is=>fun x y H Q=>match y with
  | .bl b=>rIsB false x (.bl b) H Q
  |y=>y=.non/\Q (.bl (decide (x=.non))) H
 | .IsNot=>fun x y H Q=>match y with
  | .bl b=>rIsB true x (.bl b) H Q
  |y=>y=.non/\Q (.bl (!decide (x=.non))) H
 | .In=>fun x y H Q=>match y with
  | .str b=>rInS false x (.str b) H Q
  |y=>rIn K false x y H Q
 | .NotIn=>fun x y H Q=>match y with
  | .str b=>rInS true x (.str b) H Q
  |y=>rIn K true x y H Q
noncomputable def rBlt:Bf->List V->Hp->VK->Prop
 | .len=>fun xs H Q=>∃x n,xs=[x]/\LenV K x H n/\Q (.int n) H
 | .abs=>fun xs H Q=>∃i,xs=[.int i]/\Q (.int (if i<0 then -i else i)) H
 | .int=>fun xs H Q=>match xs with
  | [.int i]=>Q (.int i) H
  | [.bl k]=>Q (.int (if k then 1 else 0)) H
  | [.str x]=>∃n,PySem.intText? x=some n/\x.length<=640/\Q (.int n) H
  | [.str x,.int j]=>j=2/\∃n,B2 x n/\Q (.int n) H
  |_=>False
 | .isinstance=>fun xs H Q=>rIsi xs H Q\/False
 | .all=>rAll K false
 | .min=>fun xs H Q=>match xs with
  | [.int i,.int j]=>Q (.int (if j<i then j else i)) H
  |xs=>rBest K false xs H Q
 | .list=>fun xs H Q=>(∃p ys,xs=[.ref p]/\(SqL K H p ys\/SqT K H p ys)/\∀l,H l=none->Q (.ref l) (upd H l (.lst ys)))\/rLrg xs H Q
 | .range=>rRng
 | .sortA=>rSortA K
noncomputable def rMet:Mf->V->List V->Hp->VK->Prop
 | .append=>rAppend
 | .join=>rJoin K
 | .countS=>rCount
noncomputable def metTy:Mf->String
 | .join=>"str"
 | .countS=>"str"
 |_=>"list"
noncomputable def metName:Mf->Str
 | .append=>"append"
 | .join=>"join"
 | .countS=>"count"
noncomputable def bltName:Bf->Str
 | .len=>"len"
 | .abs=>"abs"
 | .int=>"int"
 | .isinstance=>"isinstance"
 | .all=>"all"
 | .min=>"min"
 | .list=>"list"
 | .range=>"range"
 | .sortA=>"sorted"
noncomputable def rIxM:R2:=fun x y H Q=>match x,y with
 | .str z,.int i=>z.length<=sizeLine/\∃c,atI z.cps.toList i=some c/\Q (.str ⟨#[c]⟩) H
 |x,y=>rIxL K x y H Q\/rIxT K x y H Q
noncomputable def rSl:V->Option Int->Option Int->Hp->VK->Prop:=fun x lo hi H Q=>match x with
 | .str a=>a.length<=sizeLine/\Q (.str (Txt.slice a lo hi)) H
 |x=>rSlL K x lo hi H Q\/rSlT K x lo hi H Q\/rSlW K x lo hi H Q
end
noncomputable def zfOp:Zf->CmpOp
 | .eqB=>.Eq
 | .ninB=>.NotIn
 | .ltS=>.Lt
noncomputable def rZf:Zf->R2
 | .eqB=>rEqB false
 | .ninB=>rNinB
 | .ltS=>fun x y H Q=>∃i j,x=.str i/\y=.str j/\Q (.bl (decide (i.cps.toList<j.cps.toList))) H
structure Rc where
 N:List Str
 B:List Str
 K:W.Frag
 fs:Str->Option Sp
 xk:L2.St->XK:=fun _=>E0
 cl:Str->Option Addr:=fun _=>none
noncomputable def tDsi (k v:Int):TE:=fun _ H Q=>∀p,H p=none->Q (.ref p) (upd H p (.dK [(.inl k,.int v)]))
noncomputable def lenTs:Cts->Nat
 | .nil=>0
 | .cons _ r=>lenTs r+1
mutual
noncomputable def tE (C:Rc):Ce->TE
 | .var i=>tVar i
 | .int n=>tC (.int n)
 | .bl b=>tC (.bl b)
 | .non=>tC .non
 | .str x=>tC (.str x)
 | .ty n=>tC (.ty n)
 | .bin op a b=>tOp (rBin C.K op) (tE C a) (tE C b)
 | .neg a=>tUn (rU fun i=>.int (-i)) (tE C a)
 | .not a=>tNotV (tE C a)
 | .and a b=>tAndV (tE C a) (tE C b)
 | .or a b=>tOrV (tE C a) (tE C b)
 | .cmp op a b=>tOp (rCmp C.K op) (tE C a) (tE C b)
 | .chn op op' a b c=>tChain (rCmp C.K op) (rCmp C.K op') (tE C a) (tE C b) (tE C c)
 | .tup es=>tTup (tA C es)
 | .lst es=>tLst (tA C es)
 | .idx a b=>tOp (rIxM C.K) (tE C a) (tE C b)
 | .call f es=>fun σ H Q=>match C.fs f with
  |some sp=>tCall sp [] (C.xk σ) (tA C es) σ H Q
  |none=>False
 | .blt f es=>tCB (rBlt C.K f) (tA C es)
 | .met m o es=>tBM C.K (metTy m) (rMet C.K m) (tE C o) (tA C es)
 | .dnew=>tDNewK
 | .dsi k v=>tDsi k v
 | .dix a b=>tDGet (tE C a) (tE C b)
 | .dg2 a b c=>tDGet2 (tE C a) (tE C b) (tE C c)
 | .comp elt own t it q r=>tComp own (tI C it) (tG C t) (tQo C q) (tR C r (tEmit (tE C elt)))
noncomputable def tA (C:Rc):Ces->TA
 | .nil=>tNil
 | .cons e r=>tCons (tE C e) (tA C r)
noncomputable def tQ (C:Rc):Cq->TT
 | .val e=>fun σ H Q=>tE C e σ H fun x H'=>∃k,TruV C.K x H' k/\Q k H'
 | .not q=>tNot (tQ C q)
 | .and a b=>tAnd (tQ C a) (tQ C b)
 | .or a b=>tOr (tQ C a) (tQ C b)
 | .cmp op a b=>tTest (tOp (rCmp C.K op) (tE C a) (tE C b))
 | .chn op op' a b c=>tTest (tChain (rCmp C.K op) (rCmp C.K op') (tE C a) (tE C b) (tE C c))
 | .cmw k a b=>tTest (tOp (rZf k) (tE C a) (tE C b))
noncomputable def tQo (C:Rc):Cqo->TT
 | .none=>fun _ H Q=>Q true H
 | .some q=>tQ C q
noncomputable def tO (C:Rc):Co->TO
 | .none=>tNoPart
 | .some e=>tPart (tE C e)
noncomputable def tI (C:Rc):Ci->TI
 | .val e=>iVal C.K (tE C e)
 | .range1 a=>iRng1 (tCons (tE C a) tNil)
 | .range2 a b=>iRng2 (tCons (tE C a) (tCons (tE C b) tNil))
 | .zip a b=>iZip C.K (tCons (tE C a) (tCons (tE C b) tNil))
 | .enum a=>iEnum C.K (tE C a)
 | .rev a=>iRev C.K (tE C a)
 | .dk e=>iDct (tE C e)
noncomputable def tG (C:Rc):Ct->TG
 | .name i=>gName i
 | .tup ts=>gTup C.K (lenTs ts) (tGs C ts)
 | .sub o i=>gSub (tE C o) (tE C i) rSetL
noncomputable def tGs (C:Rc):Cts->TGs
 | .nil=>gNil
 | .cons t r=>gCons (tG C t) (tGs C r)
noncomputable def tR (C:Rc):Cc->TL (List V)->TL (List V)
 | .nil,em=>em
 | .cons ws t it q r,em=>tNest (tI C it) (tClause ws (tG C t) (tQo C q) (tR C r em))
end
mutual
noncomputable def tS (C:Rc):Cs->TS
 | .expr e=>tDrop (tE C e)
 | .ret e=>tRet (tE C e)
 | .asg t e=>tAsg (tE C e) (tG C t)
 | .par i j a b=>tPar i j (tCons (tE C a) (tCons (tE C b) tNil))
 | .aug i sub e=>tAug i (tE C e) (ipI fun i j=>if sub then i-j else i+j)
 | .ite q a b=>tIfS (tQ C q) (tSs C a) (tSs C b)
 | .whl q b=>tWhile (tQ C q) (tSs C b)
 | .for_ t it b=>tFor (tI C it) (tG C t) (tSs C b)
 | .raise_=>tNever
 | .dput o i e=>sDPut (tE C o) (tE C i) (tE C e)
noncomputable def tSs (C:Rc):Css->TS
 | .nil=>tNext
 | .cons s r=>tSeq (tS C s) (tSs C r)
end
noncomputable def vis (sc:Scope) (x:Str):Bool:=match sc.names.lookup x with
 |some .local=>true
 |some .cell=>true
 |some .free=>true
 |_=>false
noncomputable def locb (sc:Scope) (x:Str):Bool:=match sc.names.lookup x with
 |some .local=>true
 |some .cell=>true
 |_=>false
noncomputable def glb (sc:Scope) (x:Str):Bool:=decide (sc.names.lookup x=some .globalImplicit)
noncomputable def nameOk (N:List Str) (i:Nat) (x:Str):Bool:=decide (N[i]?=some x)&&!(x == ("__debug__":Str))&&!(x == ("__classdict__":Str))
noncomputable def notStar:Expr->Bool
 | .Starred ..=>false
 |_=>true
noncomputable def okIter:Expr->Bool
 | .Set ..=>false
 |_=>true
noncomputable def notSlice:Expr->Bool
 | .Slice ..=>false
 |_=>true
noncomputable def baseOk:Expr->Bool
 | .Call _ [] _ _=>false
 |_=>true
noncomputable def plainT:Expr->Bool
 | .UnaryOp .Not _ _=>false
 | .BoolOp ..=>false
 | .IfExp ..=>false
 | .Compare ..=>false
 |_=>true
noncomputable def typeNames:List String:=["list","tuple","str","bool","int","dict","ValueError"]
noncomputable def scOk (N:List Str) (sc scope:Scope) (own:List Nat):Bool:=
 decide (scope.kind=.function)&&
 scope.names.all (fun x=>(decide (x.2≠.local) || decide (scope.names.lookup x.1=some .local))&&(decide (x.2≠.cell) || decide (scope.names.lookup x.1=some .cell))&&
  (decide (x.2≠.free) || decide (sc.names.lookup x.1=some .cell) || decide (sc.names.lookup x.1=some .free)))&&
 (List.range N.length).all (fun i=>match N[i]? with
  |some x=>(decide (scope.names.lookup x≠some .local)&&decide (scope.names.lookup x≠some .cell)) || decide (i∈own)
  |none=>true)
noncomputable def zipT:Ci->Expr->Bool
 | .zip _ _,.Tuple ..=>true
 | .zip _ _,_=>false
 | .enum _,.Tuple ..=>true
 | .enum _,_=>false
 |_,_=>true
mutual
noncomputable def tOwn (own:List Nat):Ct->Bool
 | .name i=>decide (i∈own)
 | .tup ts=>tOwns own ts
 | .sub _ _=>false
noncomputable def tOwns (own:List Nat):Cts->Bool
 | .nil=>true
 | .cons t r=>tOwn own t&&tOwns own r
end
noncomputable def tld (B:List Str):Bool:=decide (("~":Str)∈B)
noncomputable def hat (B:List Str):Bool:=decide (("^":Str)∈B)
noncomputable def pct (B:List Str):Bool:=decide (("%":Str)∈B)
noncomputable def bang (x:Str):Str:=⟨#[33]++x.cps⟩
theorem no_tt {P:Prop} (h:false=true):P:=(Bool.false_ne_true h).elim
theorem band {a b:Bool} (h:(a&&b)=true):a=true/\b=true:=by
 cases a with
 |true=>exact⟨rfl,h⟩
 |false=>exact no_tt h
noncomputable def vAnd (e:Expr) (f:Expr->Expr->Bool):Bool:=match e with
 | .BoolOp .And [x,y] _=>f x y
 | .BoolOp .And (x :: y :: z :: r) pos=>f x (.BoolOp .And (y :: z :: r) pos)
 |_=>false
theorem vAnd_of {e:Expr} {f:Expr->Expr->Bool} (h:vAnd e f=true):(∃x y pos,e=.BoolOp .And [x,y] pos/\f x y=true)\/∃x y z r pos,e=.BoolOp .And (x :: y :: z :: r) pos/\f x (.BoolOp .And (y :: z :: r) pos)=true:=by
 cases e with
 |BoolOp o vs pos=>
  cases o with
  |And=>
   cases vs with
   |nil=>exact no_tt h
   |cons x r=>
    cases r with
    |nil=>exact no_tt h
    |cons y r=>
     cases r with
     |nil=>exact .inl ⟨x,y,pos,rfl,h⟩
     |cons z r=>exact .inr ⟨x,y,z,r,pos,rfl,h⟩
  |_=>exact no_tt h
 |_=>exact no_tt h
noncomputable def vOr (e:Expr) (f:Expr->Expr->Bool):Bool:=match e with
 | .BoolOp .Or [x,y] _=>f x y
 | .BoolOp .Or (x :: y :: z :: r) pos=>f x (.BoolOp .Or (y :: z :: r) pos)
 |_=>false
theorem vOr_of {e:Expr} {f:Expr->Expr->Bool} (h:vOr e f=true):(∃x y pos,e=.BoolOp .Or [x,y] pos/\f x y=true)\/∃x y z r pos,e=.BoolOp .Or (x :: y :: z :: r) pos/\f x (.BoolOp .Or (y :: z :: r) pos)=true:=by
 cases e with
 |BoolOp o vs pos=>
  cases o with
  |Or=>
   cases vs with
   |nil=>exact no_tt h
   |cons x r=>
    cases r with
    |nil=>exact no_tt h
    |cons y r=>
     cases r with
     |nil=>exact .inl ⟨x,y,pos,rfl,h⟩
     |cons z r=>exact .inr ⟨x,y,z,r,pos,rfl,h⟩
  |_=>exact no_tt h
 |_=>exact no_tt h
noncomputable def w_nil {α:Type} (z:List α) (f:Bool):Bool:=match z with
 | []=>f
 |_=>false
theorem w_nil_of {α:Type} {z:List α} {f:Bool} (h:w_nil z f=true):z=[]/\f=true:=by
 cases z with
 |nil=>exact⟨rfl,h⟩
 |_=>exact no_tt h
noncomputable def w_cons {α:Type} (z:List α) (f:α->List α->Bool):Bool:=match z with
 |x :: r=>f x r
 |_=>false
theorem w_cons_of {α:Type} {z:List α} {f:α->List α->Bool} (h:w_cons z f=true):∃x r,z=x :: r/\f x r=true:=by
 cases z with
 |cons x r=>exact⟨x,r,rfl,h⟩
 |_=>exact no_tt h
noncomputable def w_none {α:Type} (z:Option α) (f:Bool):Bool:=match z with
 |none=>f
 |_=>false
theorem w_none_of {α:Type} {z:Option α} {f:Bool} (h:w_none z f=true):z=none/\f=true:=by
 cases z with
 |none=>exact⟨rfl,h⟩
 |_=>exact no_tt h
noncomputable def w_some {α:Type} (z:Option α) (f:α->Bool):Bool:=match z with
 |some x=>f x
 |_=>false
theorem w_some_of {α:Type} {z:Option α} {f:α->Bool} (h:w_some z f=true):∃x,z=some x/\f x=true:=by
 cases z with
 |some x=>exact⟨x,rfl,h⟩
 |_=>exact no_tt h
noncomputable def w_gen (z:Comprehension) (f:Expr->Expr->List Expr->Int->Bool):Bool:=f z.target z.iter z.ifs z.is_async
theorem w_gen_of {z:Comprehension} {f:Expr->Expr->List Expr->Int->Bool} (h:w_gen z f=true):∃a b c d,z=⟨a,b,c,d⟩/\f a b c d=true:=by
 cases z
 exact⟨_,_,_,_,rfl,h⟩
noncomputable def wE_Name (z:Expr) (f:Str->Pos->Bool):Bool:=match z with
 | .Name x0 x1=>f x0 x1
 |_=>false
theorem wE_Name_of {z f} (h:wE_Name z f=true):∃x0 x1,z=.Name x0 x1/\f x0 x1=true:=by
 cases z with
 |Name x0 x1=>exact⟨x0,x1,rfl,h⟩
 |_=>exact no_tt h
noncomputable def wE_Constant (z:Expr) (f:Const->Nat->Pos->Bool):Bool:=match z with
 | .Constant x0 x1 x2=>f x0 x1 x2
 |_=>false
theorem wE_Constant_of {z f} (h:wE_Constant z f=true):∃x0 x1 x2,z=.Constant x0 x1 x2/\f x0 x1 x2=true:=by
 cases z with
 |Constant x0 x1 x2=>exact⟨x0,x1,x2,rfl,h⟩
 |_=>exact no_tt h
noncomputable def wC_int (z:Const) (f:Int->Bool):Bool:=match z with
 | .int x0=>f x0
 |_=>false
theorem wC_int_of {z f} (h:wC_int z f=true):∃x0,z=.int x0/\f x0=true:=by
 cases z with
 |int x0=>exact⟨x0,rfl,h⟩
 |_=>exact no_tt h
noncomputable def wC_bool (z:Const) (f:Bool->Bool):Bool:=match z with
 | .bool x0=>f x0
 |_=>false
theorem wC_bool_of {z f} (h:wC_bool z f=true):∃x0,z=.bool x0/\f x0=true:=by
 cases z with
 |bool x0=>exact⟨x0,rfl,h⟩
 |_=>exact no_tt h
noncomputable def wC_none (z:Const) (f:Bool):Bool:=match z with
 | .none=>f
 |_=>false
theorem wC_none_of {z f} (h:wC_none z f=true):z=.none/\f=true:=by
 cases z with
 |none=>exact⟨rfl,h⟩
 |_=>exact no_tt h
noncomputable def wC_str (z:Const) (f:Str->Bool):Bool:=match z with
 | .str x0=>f x0
 |_=>false
theorem wC_str_of {z f} (h:wC_str z f=true):∃x0,z=.str x0/\f x0=true:=by
 cases z with
 |str x0=>exact⟨x0,rfl,h⟩
 |_=>exact no_tt h
noncomputable def wE_BinOp (z:Expr) (f:Expr->Operator->Expr->Pos->Bool):Bool:=match z with
 | .BinOp x0 x1 x2 x3=>f x0 x1 x2 x3
 |_=>false
theorem wE_BinOp_of {z f} (h:wE_BinOp z f=true):∃x0 x1 x2 x3,z=.BinOp x0 x1 x2 x3/\f x0 x1 x2 x3=true:=by
 cases z with
 |BinOp x0 x1 x2 x3=>exact⟨x0,x1,x2,x3,rfl,h⟩
 |_=>exact no_tt h
noncomputable def wE_UnaryOp (z:Expr) (f:UnaryOp->Expr->Pos->Bool):Bool:=match z with
 | .UnaryOp x0 x1 x2=>f x0 x1 x2
 |_=>false
theorem wE_UnaryOp_of {z f} (h:wE_UnaryOp z f=true):∃x0 x1 x2,z=.UnaryOp x0 x1 x2/\f x0 x1 x2=true:=by
 cases z with
 |UnaryOp x0 x1 x2=>exact⟨x0,x1,x2,rfl,h⟩
 |_=>exact no_tt h
noncomputable def wU_USub (z:UnaryOp) (f:Bool):Bool:=match z with
 | .USub=>f
 |_=>false
theorem wU_USub_of {z f} (h:wU_USub z f=true):z=.USub/\f=true:=by
 cases z with
 |USub=>exact⟨rfl,h⟩
 |_=>exact no_tt h
noncomputable def wU_Not (z:UnaryOp) (f:Bool):Bool:=match z with
 | .Not=>f
 |_=>false
theorem wU_Not_of {z f} (h:wU_Not z f=true):z=.Not/\f=true:=by
 cases z with
 |Not=>exact⟨rfl,h⟩
 |_=>exact no_tt h
noncomputable def wE_Compare (z:Expr) (f:Expr->List CmpOp->List Expr->Pos->Bool):Bool:=match z with
 | .Compare x0 x1 x2 x3=>f x0 x1 x2 x3
 |_=>false
theorem wE_Compare_of {z f} (h:wE_Compare z f=true):∃x0 x1 x2 x3,z=.Compare x0 x1 x2 x3/\f x0 x1 x2 x3=true:=by
 cases z with
 |Compare x0 x1 x2 x3=>exact⟨x0,x1,x2,x3,rfl,h⟩
 |_=>exact no_tt h
noncomputable def wE_Tuple (z:Expr) (f:List Expr->Nat->Pos->Bool):Bool:=match z with
 | .Tuple x0 x1 x2=>f x0 x1 x2
 |_=>false
theorem wE_Tuple_of {z f} (h:wE_Tuple z f=true):∃x0 x1 x2,z=.Tuple x0 x1 x2/\f x0 x1 x2=true:=by
 cases z with
 |Tuple x0 x1 x2=>exact⟨x0,x1,x2,rfl,h⟩
 |_=>exact no_tt h
noncomputable def wE_List (z:Expr) (f:List Expr->Pos->Bool):Bool:=match z with
 | .List x0 x1=>f x0 x1
 |_=>false
theorem wE_List_of {z f} (h:wE_List z f=true):∃x0 x1,z=.List x0 x1/\f x0 x1=true:=by
 cases z with
 |List x0 x1=>exact⟨x0,x1,rfl,h⟩
 |_=>exact no_tt h
noncomputable def wE_Subscript (z:Expr) (f:Expr->Expr->Pos->Bool):Bool:=match z with
 | .Subscript x0 x1 x2=>f x0 x1 x2
 |_=>false
theorem wE_Subscript_of {z f} (h:wE_Subscript z f=true):∃x0 x1 x2,z=.Subscript x0 x1 x2/\f x0 x1 x2=true:=by
 cases z with
 |Subscript x0 x1 x2=>exact⟨x0,x1,x2,rfl,h⟩
 |_=>exact no_tt h
noncomputable def wE_Call (z:Expr) (f:Expr->List Expr->List Keyword->Pos->Bool):Bool:=match z with
 | .Call x0 x1 x2 x3=>f x0 x1 x2 x3
 |_=>false
theorem wE_Call_of {z f} (h:wE_Call z f=true):∃x0 x1 x2 x3,z=.Call x0 x1 x2 x3/\f x0 x1 x2 x3=true:=by
 cases z with
 |Call x0 x1 x2 x3=>exact⟨x0,x1,x2,x3,rfl,h⟩
 |_=>exact no_tt h
noncomputable def wE_Attribute (z:Expr) (f:Expr->Str->Pos->Bool):Bool:=match z with
 | .Attribute x0 x1 x2=>f x0 x1 x2
 |_=>false
theorem wE_Attribute_of {z f} (h:wE_Attribute z f=true):∃x0 x1 x2,z=.Attribute x0 x1 x2/\f x0 x1 x2=true:=by
 cases z with
 |Attribute x0 x1 x2=>exact⟨x0,x1,x2,rfl,h⟩
 |_=>exact no_tt h
noncomputable def wE_Dict (z:Expr) (f:List (Option Expr)->List Expr->Pos->Bool):Bool:=match z with
 | .Dict x0 x1 x2=>f x0 x1 x2
 |_=>false
theorem wE_Dict_of {z f} (h:wE_Dict z f=true):∃x0 x1 x2,z=.Dict x0 x1 x2/\f x0 x1 x2=true:=by
 cases z with
 |Dict x0 x1 x2=>exact⟨x0,x1,x2,rfl,h⟩
 |_=>exact no_tt h
noncomputable def wE_ListComp (z:Expr) (f:Expr->List Comprehension->Scope->Pos->Bool):Bool:=match z with
 | .ListComp x0 x1 x2 x3=>f x0 x1 x2 x3
 |_=>false
theorem wE_ListComp_of {z f} (h:wE_ListComp z f=true):∃x0 x1 x2 x3,z=.ListComp x0 x1 x2 x3/\f x0 x1 x2 x3=true:=by
 cases z with
 |ListComp x0 x1 x2 x3=>exact⟨x0,x1,x2,x3,rfl,h⟩
 |_=>exact no_tt h
noncomputable def wS_Expr (z:Stmt) (f:Expr->Pos->Bool):Bool:=match z with
 | .Expr x0 x1=>f x0 x1
 |_=>false
theorem wS_Expr_of {z f} (h:wS_Expr z f=true):∃x0 x1,z=.Expr x0 x1/\f x0 x1=true:=by
 cases z with
 |Expr x0 x1=>exact⟨x0,x1,rfl,h⟩
 |_=>exact no_tt h
noncomputable def wS_Return (z:Stmt) (f:Option Expr->Pos->Bool):Bool:=match z with
 | .Return x0 x1=>f x0 x1
 |_=>false
theorem wS_Return_of {z f} (h:wS_Return z f=true):∃x0 x1,z=.Return x0 x1/\f x0 x1=true:=by
 cases z with
 |Return x0 x1=>exact⟨x0,x1,rfl,h⟩
 |_=>exact no_tt h
noncomputable def wS_Assign (z:Stmt) (f:List Expr->Expr->Pos->Bool):Bool:=match z with
 | .Assign x0 x1 x2=>f x0 x1 x2
 |_=>false
theorem wS_Assign_of {z f} (h:wS_Assign z f=true):∃x0 x1 x2,z=.Assign x0 x1 x2/\f x0 x1 x2=true:=by
 cases z with
 |Assign x0 x1 x2=>exact⟨x0,x1,x2,rfl,h⟩
 |_=>exact no_tt h
noncomputable def wS_AugAssign (z:Stmt) (f:Expr->Operator->Expr->Pos->Bool):Bool:=match z with
 | .AugAssign x0 x1 x2 x3=>f x0 x1 x2 x3
 |_=>false
theorem wS_AugAssign_of {z f} (h:wS_AugAssign z f=true):∃x0 x1 x2 x3,z=.AugAssign x0 x1 x2 x3/\f x0 x1 x2 x3=true:=by
 cases z with
 |AugAssign x0 x1 x2 x3=>exact⟨x0,x1,x2,x3,rfl,h⟩
 |_=>exact no_tt h
noncomputable def wS_If (z:Stmt) (f:Expr->List Stmt->List Stmt->Pos->Bool):Bool:=match z with
 | .If x0 x1 x2 x3=>f x0 x1 x2 x3
 |_=>false
theorem wS_If_of {z f} (h:wS_If z f=true):∃x0 x1 x2 x3,z=.If x0 x1 x2 x3/\f x0 x1 x2 x3=true:=by
 cases z with
 |If x0 x1 x2 x3=>exact⟨x0,x1,x2,x3,rfl,h⟩
 |_=>exact no_tt h
noncomputable def wS_While (z:Stmt) (f:Expr->List Stmt->List Stmt->Pos->Bool):Bool:=match z with
 | .While x0 x1 x2 x3=>f x0 x1 x2 x3
 |_=>false
theorem wS_While_of {z f} (h:wS_While z f=true):∃x0 x1 x2 x3,z=.While x0 x1 x2 x3/\f x0 x1 x2 x3=true:=by
 cases z with
 |While x0 x1 x2 x3=>exact⟨x0,x1,x2,x3,rfl,h⟩
 |_=>exact no_tt h
noncomputable def wS_For (z:Stmt) (f:Expr->Expr->List Stmt->List Stmt->Pos->Bool):Bool:=match z with
 | .For x0 x1 x2 x3 x4=>f x0 x1 x2 x3 x4
 |_=>false
theorem wS_For_of {z f} (h:wS_For z f=true):∃x0 x1 x2 x3 x4,z=.For x0 x1 x2 x3 x4/\f x0 x1 x2 x3 x4=true:=by
 cases z with
 |For x0 x1 x2 x3 x4=>exact⟨x0,x1,x2,x3,x4,rfl,h⟩
 |_=>exact no_tt h
noncomputable def v1 (zz:Expr) (f:Str->Bool):Bool:=wE_Name zz fun y1 y2=>f y1
theorem v1_k {zz f} {P:Prop} (h:v1 zz f=true) (k:∀x w1,zz=.Name x w1->f x=true->P):P:=by
 obtain⟨y1,y2,e0,h⟩:=wE_Name_of h
 exact k y1 y2 (by rw[e0]) h
noncomputable def v2 (zz:Expr) (f:Int->Bool):Bool:=wE_Constant zz fun y1 y2 y3=>wC_int y1 fun y4=>f y4
theorem v2_k {zz f} {P:Prop} (h:v2 zz f=true) (k:∀m w1 w2,zz=.Constant (.int m) w1 w2->f m=true->P):P:=by
 obtain⟨y1,y2,y3,e0,h⟩:=wE_Constant_of h
 obtain⟨y4,e1,h⟩:=wC_int_of h
 exact k y4 y2 y3 (by rw[e0,e1]) h
noncomputable def v3 (zz:Expr) (f:Bool->Bool):Bool:=wE_Constant zz fun y1 y2 y3=>wC_bool y1 fun y4=>f y4
theorem v3_k {zz f} {P:Prop} (h:v3 zz f=true) (k:∀c w1 w2,zz=.Constant (.bool c) w1 w2->f c=true->P):P:=by
 obtain⟨y1,y2,y3,e0,h⟩:=wE_Constant_of h
 obtain⟨y4,e1,h⟩:=wC_bool_of h
 exact k y4 y2 y3 (by rw[e0,e1]) h
noncomputable def v4 (zz:Expr) (f:Bool):Bool:=wE_Constant zz fun y1 y2 y3=>wC_none y1 (f)
theorem v4_k {zz f} {P:Prop} (h:v4 zz f=true) (k:∀w1 w2,zz=.Constant .none w1 w2->f=true->P):P:=by
 obtain⟨y1,y2,y3,e0,h⟩:=wE_Constant_of h
 obtain⟨e1,h⟩:=wC_none_of h
 exact k y2 y3 (by rw[e0,e1]) h
noncomputable def v5 (zz:Expr) (f:Str->Bool):Bool:=wE_Constant zz fun y1 y2 y3=>wC_str y1 fun y4=>f y4
theorem v5_k {zz f} {P:Prop} (h:v5 zz f=true) (k:∀y w1 w2,zz=.Constant (.str y) w1 w2->f y=true->P):P:=by
 obtain⟨y1,y2,y3,e0,h⟩:=wE_Constant_of h
 obtain⟨y4,e1,h⟩:=wC_str_of h
 exact k y4 y2 y3 (by rw[e0,e1]) h
noncomputable def v6 (zz:Expr) (f:Expr->Operator->Expr->Bool):Bool:=wE_BinOp zz fun y1 y2 y3 y4=>f y1 y2 y3
theorem v6_k {zz f} {P:Prop} (h:v6 zz f=true) (k:∀ea op' eb w1,zz=.BinOp ea op' eb w1->f ea op' eb=true->P):P:=by
 obtain⟨y1,y2,y3,y4,e0,h⟩:=wE_BinOp_of h
 exact k y1 y2 y3 y4 (by rw[e0]) h
noncomputable def v7 (zz:Expr) (f:Expr->Bool):Bool:=wE_UnaryOp zz fun y1 y2 y3=>wU_USub y1 (f y2)
theorem v7_k {zz f} {P:Prop} (h:v7 zz f=true) (k:∀ea w1,zz=.UnaryOp .USub ea w1->f ea=true->P):P:=by
 obtain⟨y1,y2,y3,e0,h⟩:=wE_UnaryOp_of h
 obtain⟨e1,h⟩:=wU_USub_of h
 exact k y2 y3 (by rw[e0,e1]) h
noncomputable def v8 (zz:Expr) (f:Expr->Bool):Bool:=wE_UnaryOp zz fun y1 y2 y3=>wU_Not y1 (f y2)
theorem v8_k {zz f} {P:Prop} (h:v8 zz f=true) (k:∀ea w1,zz=.UnaryOp .Not ea w1->f ea=true->P):P:=by
 obtain⟨y1,y2,y3,e0,h⟩:=wE_UnaryOp_of h
 obtain⟨e1,h⟩:=wU_Not_of h
 exact k y2 y3 (by rw[e0,e1]) h
noncomputable def v9 (zz:Expr) (f:Expr->CmpOp->Expr->Bool):Bool:=wE_Compare zz fun y1 y2 y3 y4=>w_cons y2 fun y5 y6=>w_nil y6 (w_cons y3 fun y7 y8=>w_nil y8 (f y1 y5 y7))
theorem v9_k {zz f} {P:Prop} (h:v9 zz f=true) (k:∀ea op' eb w1,zz=.Compare ea (op' :: []) (eb :: []) w1->f ea op' eb=true->P):P:=by
 obtain⟨y1,y2,y3,y4,e0,h⟩:=wE_Compare_of h
 obtain⟨y5,y6,e1,h⟩:=w_cons_of h
 obtain⟨e2,h⟩:=w_nil_of h
 obtain⟨y7,y8,e3,h⟩:=w_cons_of h
 obtain⟨e4,h⟩:=w_nil_of h
 exact k y1 y5 y7 y4 (by rw[e0,e1,e2,e3,e4]) h
noncomputable def v10 (zz:Expr) (f:Expr->CmpOp->CmpOp->Expr->Expr->Bool):Bool:=wE_Compare zz fun y1 y2 y3 y4=>w_cons y2 fun y5 y6=>w_cons y6 fun y7 y8=>w_nil y8 (w_cons y3 fun y9 y10=>w_cons y10 fun y11 y12=>w_nil y12 (f y1 y5 y7 y9 y11))
theorem v10_k {zz f} {P:Prop} (h:v10 zz f=true) (k:∀ea o1 o2 eb ec w1,zz=.Compare ea (o1 :: (o2 :: [])) (eb :: (ec :: [])) w1->f ea o1 o2 eb ec=true->P):P:=by
 obtain⟨y1,y2,y3,y4,e0,h⟩:=wE_Compare_of h
 obtain⟨y5,y6,e1,h⟩:=w_cons_of h
 obtain⟨y7,y8,e2,h⟩:=w_cons_of h
 obtain⟨e3,h⟩:=w_nil_of h
 obtain⟨y9,y10,e4,h⟩:=w_cons_of h
 obtain⟨y11,y12,e5,h⟩:=w_cons_of h
 obtain⟨e6,h⟩:=w_nil_of h
 exact k y1 y5 y7 y9 y11 y4 (by rw[e0,e1,e2,e3,e4,e5,e6]) h
noncomputable def v12 (zz:Expr) (f:List Expr->Bool):Bool:=wE_Tuple zz fun y1 y2 y3=>f y1
theorem v12_k {zz f} {P:Prop} (h:v12 zz f=true) (k:∀xs w1 w2,zz=.Tuple xs w1 w2->f xs=true->P):P:=by
 obtain⟨y1,y2,y3,e0,h⟩:=wE_Tuple_of h
 exact k y1 y2 y3 (by rw[e0]) h
noncomputable def v13 (zz:Expr) (f:List Expr->Bool):Bool:=wE_List zz fun y1 y2=>f y1
theorem v13_k {zz f} {P:Prop} (h:v13 zz f=true) (k:∀xs w1,zz=.List xs w1->f xs=true->P):P:=by
 obtain⟨y1,y2,e0,h⟩:=wE_List_of h
 exact k y1 y2 (by rw[e0]) h
noncomputable def v14 (zz:Expr) (f:Expr->Expr->Bool):Bool:=wE_Subscript zz fun y1 y2 y3=>f y1 y2
theorem v14_k {zz f} {P:Prop} (h:v14 zz f=true) (k:∀ea eb w1,zz=.Subscript ea eb w1->f ea eb=true->P):P:=by
 obtain⟨y1,y2,y3,e0,h⟩:=wE_Subscript_of h
 exact k y1 y2 y3 (by rw[e0]) h
noncomputable def v16 (zz:Expr) (f:Str->Expr->List Expr->Bool):Bool:=wE_Call zz fun y1 y2 y3 y4=>wE_Name y1 fun y5 y6=>w_cons y2 fun y7 y8=>w_nil y3 (f y5 y7 y8)
theorem v16_k {zz f} {P:Prop} (h:v16 zz f=true) (k:∀x w1 e r w2,zz=.Call (.Name x w1) (e :: r) [] w2->f x e r=true->P):P:=by
 obtain⟨y1,y2,y3,y4,e0,h⟩:=wE_Call_of h
 obtain⟨y5,y6,e1,h⟩:=wE_Name_of h
 obtain⟨y7,y8,e2,h⟩:=w_cons_of h
 obtain⟨e3,h⟩:=w_nil_of h
 exact k y5 y6 y7 y8 y4 (by rw[e0,e1,e2,e3]) h
noncomputable def v17 (zz:Expr) (f:Expr->Str->Pos->List Expr->Pos->Bool):Bool:=wE_Call zz fun y1 y2 y3 y4=>wE_Attribute y1 fun y5 y6 y7=>w_nil y3 (f y5 y6 y7 y2 y4)
theorem v17_k {zz f} {P:Prop} (h:v17 zz f=true) (k:∀eo nm apos args pos,zz=.Call (.Attribute eo nm apos) args [] pos->f eo nm apos args pos=true->P):P:=by
 obtain⟨y1,y2,y3,y4,e0,h⟩:=wE_Call_of h
 obtain⟨y5,y6,y7,e1,h⟩:=wE_Attribute_of h
 obtain⟨e2,h⟩:=w_nil_of h
 exact k y5 y6 y7 y2 y4 (by rw[e0,e1,e2]) h
noncomputable def v18 (zz:Expr) (f:Bool):Bool:=wE_Dict zz fun y1 y2 y3=>w_nil y1 (w_nil y2 (f))
theorem v18_k {zz f} {P:Prop} (h:v18 zz f=true) (k:∀w1,zz=.Dict [] [] w1->f=true->P):P:=by
 obtain⟨y1,y2,y3,e0,h⟩:=wE_Dict_of h
 obtain⟨e1,h⟩:=w_nil_of h
 obtain⟨e2,h⟩:=w_nil_of h
 exact k y3 (by rw[e0,e1,e2]) h
noncomputable def v21 (zz:Expr) (f:Expr->Str->Pos->Expr->Expr->Pos->Bool):Bool:=wE_Call zz fun y1 y2 y3 y4=>wE_Attribute y1 fun y5 y6 y7=>w_cons y2 fun y8 y9=>w_cons y9 fun y10 y11=>w_nil y11 (w_nil y3 (f y5 y6 y7 y8 y10 y4))
theorem v21_k {zz f} {P:Prop} (h:v21 zz f=true) (k:∀eo nm apos y z pos,zz=.Call (.Attribute eo nm apos) (y :: (z :: [])) [] pos->f eo nm apos y z pos=true->P):P:=by
 obtain⟨y1,y2,y3,y4,e0,h⟩:=wE_Call_of h
 obtain⟨y5,y6,y7,e1,h⟩:=wE_Attribute_of h
 obtain⟨y8,y9,e2,h⟩:=w_cons_of h
 obtain⟨y10,y11,e3,h⟩:=w_cons_of h
 obtain⟨e4,h⟩:=w_nil_of h
 obtain⟨e5,h⟩:=w_nil_of h
 exact k y5 y6 y7 y8 y10 y4 (by rw[e0,e1,e2,e3,e4,e5]) h
noncomputable def v72 (zz:Expr) (f:Int->Int->Bool):Bool:=wE_Dict zz fun y1 y2 y3=>w_cons y1 fun y4 y5=>w_some y4 fun y6=>wE_Constant y6 fun y7 y8 y9=>wC_int y7 fun ya=>w_nil y5 (w_cons y2 fun y10 y11=>wE_Constant y10 fun y12 y13 y14=>wC_int y12 fun y15=>w_nil y11 (f ya y15))
theorem v72_k {zz f} {P:Prop} (h:v72 zz f=true) (k:∀a b w1 w2 w3 w4 w5,zz=.Dict ((some (.Constant (.int a) w1 w2)) :: []) ((.Constant (.int b) w3 w4) :: []) w5->f a b=true->P):P:=by
 obtain⟨y1,y2,y3,e0,h⟩:=wE_Dict_of h
 obtain⟨y4,y5,e1,h⟩:=w_cons_of h
 obtain⟨y6,e2,h⟩:=w_some_of h
 obtain⟨y7,y8,y9,e3,h⟩:=wE_Constant_of h
 obtain⟨ya,e4,h⟩:=wC_int_of h
 obtain⟨e5,h⟩:=w_nil_of h
 obtain⟨y10,y11,e6,h⟩:=w_cons_of h
 obtain⟨y12,y13,y14,e7,h⟩:=wE_Constant_of h
 obtain⟨y15,e8,h⟩:=wC_int_of h
 obtain⟨e9,h⟩:=w_nil_of h
 exact k ya y15 y8 y9 y13 y14 y3 (by rw[e0,e1,e2,e3,e4,e5,e6,e7,e8,e9]) h
noncomputable def v23 (zz:Expr) (f:Str->Expr->Bool):Bool:=wE_Call zz fun y1 y2 y3 y4=>wE_Name y1 fun y5 y6=>w_cons y2 fun y7 y8=>w_nil y8 (w_nil y3 (f y5 y7))
theorem v23_k {zz f} {P:Prop} (h:v23 zz f=true) (k:∀x w1 y w2,zz=.Call (.Name x w1) (y :: []) [] w2->f x y=true->P):P:=by
 obtain⟨y1,y2,y3,y4,e0,h⟩:=wE_Call_of h
 obtain⟨y5,y6,e1,h⟩:=wE_Name_of h
 obtain⟨y7,y8,e2,h⟩:=w_cons_of h
 obtain⟨e3,h⟩:=w_nil_of h
 obtain⟨e4,h⟩:=w_nil_of h
 exact k y5 y6 y7 y4 (by rw[e0,e1,e2,e3,e4]) h
noncomputable def v26 (zz:Expr) (f:Expr->Expr->Expr->List Expr->Int->Scope->Bool):Bool:=wE_ListComp zz fun y1 y2 y3 y4=>w_cons y2 fun y5 y6=>w_gen y5 fun y7 y8 y9 y10=>w_nil y6 (f y1 y7 y8 y9 y10 y3)
theorem v26_k {zz f} {P:Prop} (h:v26 zz f=true) (k:∀ee tg iter ifs a scope w1,zz=.ListComp ee (⟨tg,iter,ifs,a⟩ :: []) scope w1->f ee tg iter ifs a scope=true->P):P:=by
 obtain⟨y1,y2,y3,y4,e0,h⟩:=wE_ListComp_of h
 obtain⟨y5,y6,e1,h⟩:=w_cons_of h
 obtain⟨y7,y8,y9,y10,e2,h⟩:=w_gen_of h
 obtain⟨e3,h⟩:=w_nil_of h
 exact k y1 y7 y8 y9 y10 y3 y4 (by rw[e0,e1,e2,e3]) h
noncomputable def v29 (zz:List Expr) (f:Bool):Bool:=w_nil zz (f)
theorem v29_k {zz f} {P:Prop} (h:v29 zz f=true) (k:zz=[]->f=true->P):P:=by
 obtain⟨e0,h⟩:=w_nil_of h
 exact k (by rw[e0]) h
noncomputable def v30 (zz:List Expr) (f:Expr->List Expr->Bool):Bool:=w_cons zz fun y1 y2=>f y1 y2
theorem v30_k {zz f} {P:Prop} (h:v30 zz f=true) (k:∀x xs,zz=(x :: xs)->f x xs=true->P):P:=by
 obtain⟨y1,y2,e0,h⟩:=w_cons_of h
 exact k y1 y2 (by rw[e0]) h
noncomputable def v31 (zz:List Expr) (f:Expr->Bool):Bool:=w_cons zz fun y1 y2=>w_nil y2 (f y1)
theorem v31_k {zz f} {P:Prop} (h:v31 zz f=true) (k:∀e,zz=(e :: [])->f e=true->P):P:=by
 obtain⟨y1,y2,e0,h⟩:=w_cons_of h
 obtain⟨e1,h⟩:=w_nil_of h
 exact k y1 (by rw[e0,e1]) h
noncomputable def v32 (zz:Option Expr) (f:Bool):Bool:=w_none zz (f)
theorem v32_k {zz f} {P:Prop} (h:v32 zz f=true) (k:zz=none->f=true->P):P:=by
 obtain⟨e0,h⟩:=w_none_of h
 exact k (by rw[e0]) h
noncomputable def v33 (zz:Option Expr) (f:Expr->Bool):Bool:=w_some zz fun y1=>f y1
theorem v33_k {zz f} {P:Prop} (h:v33 zz f=true) (k:∀y,zz=(some y)->f y=true->P):P:=by
 obtain⟨y1,e0,h⟩:=w_some_of h
 exact k y1 (by rw[e0]) h
noncomputable def v34 (zz:Expr) (f:Str->Expr->Expr->Bool):Bool:=wE_Call zz fun y1 y2 y3 y4=>wE_Name y1 fun y5 y6=>w_cons y2 fun y7 y8=>w_cons y8 fun y9 y10=>w_nil y10 (w_nil y3 (f y5 y7 y9))
theorem v34_k {zz f} {P:Prop} (h:v34 zz f=true) (k:∀n w1 y z w2,zz=.Call (.Name n w1) (y :: (z :: [])) [] w2->f n y z=true->P):P:=by
 obtain⟨y1,y2,y3,y4,e0,h⟩:=wE_Call_of h
 obtain⟨y5,y6,e1,h⟩:=wE_Name_of h
 obtain⟨y7,y8,e2,h⟩:=w_cons_of h
 obtain⟨y9,y10,e3,h⟩:=w_cons_of h
 obtain⟨e4,h⟩:=w_nil_of h
 obtain⟨e5,h⟩:=w_nil_of h
 exact k y5 y6 y7 y9 y4 (by rw[e0,e1,e2,e3,e4,e5]) h
noncomputable def v36 (zz:Stmt) (f:Expr->Bool):Bool:=wS_Expr zz fun y1 y2=>f y1
theorem v36_k {zz f} {P:Prop} (h:v36 zz f=true) (k:∀x w1,zz=.Expr x w1->f x=true->P):P:=by
 obtain⟨y1,y2,e0,h⟩:=wS_Expr_of h
 exact k y1 y2 (by rw[e0]) h
noncomputable def v37 (zz:Stmt) (f:Expr->Bool):Bool:=wS_Return zz fun y1 y2=>w_some y1 fun y3=>f y3
theorem v37_k {zz f} {P:Prop} (h:v37 zz f=true) (k:∀x w1,zz=.Return (some x) w1->f x=true->P):P:=by
 obtain⟨y1,y2,e0,h⟩:=wS_Return_of h
 obtain⟨y3,e1,h⟩:=w_some_of h
 exact k y3 y2 (by rw[e0,e1]) h
noncomputable def v39 (zz:Stmt) (f:Expr->Expr->Bool):Bool:=wS_Assign zz fun y1 y2 y3=>w_cons y1 fun y4 y5=>w_nil y5 (f y4 y2)
theorem v39_k {zz f} {P:Prop} (h:v39 zz f=true) (k:∀tg x w1,zz=.Assign (tg :: []) x w1->f tg x=true->P):P:=by
 obtain⟨y1,y2,y3,e0,h⟩:=wS_Assign_of h
 obtain⟨y4,y5,e1,h⟩:=w_cons_of h
 obtain⟨e2,h⟩:=w_nil_of h
 exact k y4 y2 y3 (by rw[e0,e1,e2]) h
noncomputable def v43 (zz:Stmt) (f:Str->Pos->Str->Pos->Expr->Expr->Bool):Bool:=wS_Assign zz fun y1 y2 y3=>w_cons y1 fun y4 y5=>wE_Tuple y4 fun y6 y7 y8=>w_cons y6 fun y9 y10=>wE_Name y9 fun y11 y12=>w_cons y10 fun y13 y14=>wE_Name y13 fun y15 y16=>w_nil y14 (w_nil y5 (wE_Tuple y2 fun y17 y18 y19=>w_cons y17 fun y20 y21=>w_cons y21 fun y22 y23=>w_nil y23 (f y11 y12 y15 y16 y20 y22)))
theorem v43_k {zz f} {P:Prop} (h:v43 zz f=true) (k:∀x px y py w1 w2 ea eb w3 w4 w5,zz=.Assign ((.Tuple ((.Name x px) :: ((.Name y py) :: [])) w1 w2) :: []) (.Tuple (ea :: (eb :: [])) w3 w4) w5->f x px y py ea eb=true->P):P:=by
 obtain⟨y1,y2,y3,e0,h⟩:=wS_Assign_of h
 obtain⟨y4,y5,e1,h⟩:=w_cons_of h
 obtain⟨y6,y7,y8,e2,h⟩:=wE_Tuple_of h
 obtain⟨y9,y10,e3,h⟩:=w_cons_of h
 obtain⟨y11,y12,e4,h⟩:=wE_Name_of h
 obtain⟨y13,y14,e5,h⟩:=w_cons_of h
 obtain⟨y15,y16,e6,h⟩:=wE_Name_of h
 obtain⟨e7,h⟩:=w_nil_of h
 obtain⟨e8,h⟩:=w_nil_of h
 obtain⟨y17,y18,y19,e9,h⟩:=wE_Tuple_of h
 obtain⟨y20,y21,e10,h⟩:=w_cons_of h
 obtain⟨y22,y23,e11,h⟩:=w_cons_of h
 obtain⟨e12,h⟩:=w_nil_of h
 exact k y11 y12 y15 y16 y7 y8 y20 y22 y18 y19 y3 (by rw[e0,e1,e2,e3,e4,e5,e6,e7,e8,e9,e10,e11,e12]) h
noncomputable def v48 (zz:Stmt) (f:Expr->Expr->Expr->Bool):Bool:=wS_Assign zz fun y1 y2 y3=>w_cons y1 fun y4 y5=>wE_Subscript y4 fun y6 y7 y8=>w_nil y5 (f y6 y7 y2)
theorem v48_k {zz f} {P:Prop} (h:v48 zz f=true) (k:∀eo ei w1 ee w2,zz=.Assign ((.Subscript eo ei w1) :: []) ee w2->f eo ei ee=true->P):P:=by
 obtain⟨y1,y2,y3,e0,h⟩:=wS_Assign_of h
 obtain⟨y4,y5,e1,h⟩:=w_cons_of h
 obtain⟨y6,y7,y8,e2,h⟩:=wE_Subscript_of h
 obtain⟨e3,h⟩:=w_nil_of h
 exact k y6 y7 y8 y2 y3 (by rw[e0,e1,e2,e3]) h
noncomputable def v49 (zz:Stmt) (f:Str->Operator->Expr->Bool):Bool:=wS_AugAssign zz fun y1 y2 y3 y4=>wE_Name y1 fun y5 y6=>f y5 y2 y3
theorem v49_k {zz f} {P:Prop} (h:v49 zz f=true) (k:∀x w1 op ee w2,zz=.AugAssign (.Name x w1) op ee w2->f x op ee=true->P):P:=by
 obtain⟨y1,y2,y3,y4,e0,h⟩:=wS_AugAssign_of h
 obtain⟨y5,y6,e1,h⟩:=wE_Name_of h
 exact k y5 y6 y2 y3 y4 (by rw[e0,e1]) h
noncomputable def v50 (zz:Stmt) (f:Expr->List Stmt->List Stmt->Bool):Bool:=wS_If zz fun y1 y2 y3 y4=>f y1 y2 y3
theorem v50_k {zz f} {P:Prop} (h:v50 zz f=true) (k:∀x ss rs w1,zz=.If x ss rs w1->f x ss rs=true->P):P:=by
 obtain⟨y1,y2,y3,y4,e0,h⟩:=wS_If_of h
 exact k y1 y2 y3 y4 (by rw[e0]) h
noncomputable def v51 (zz:Stmt) (f:Expr->List Stmt->Bool):Bool:=wS_While zz fun y1 y2 y3 y4=>w_nil y3 (f y1 y2)
theorem v51_k {zz f} {P:Prop} (h:v51 zz f=true) (k:∀x ss w1,zz=.While x ss [] w1->f x ss=true->P):P:=by
 obtain⟨y1,y2,y3,y4,e0,h⟩:=wS_While_of h
 obtain⟨e1,h⟩:=w_nil_of h
 exact k y1 y2 y4 (by rw[e0,e1]) h
noncomputable def v52 (zz:Stmt) (f:Expr->Expr->List Stmt->Bool):Bool:=wS_For zz fun y1 y2 y3 y4 y5=>w_nil y4 (f y1 y2 y3)
theorem v52_k {zz f} {P:Prop} (h:v52 zz f=true) (k:∀tg iter ss w1,zz=.For tg iter ss [] w1->f tg iter ss=true->P):P:=by
 obtain⟨y1,y2,y3,y4,y5,e0,h⟩:=wS_For_of h
 obtain⟨e1,h⟩:=w_nil_of h
 exact k y1 y2 y3 y5 (by rw[e0,e1]) h
noncomputable def v56 (zz:List Stmt) (f:Bool):Bool:=w_nil zz (f)
theorem v56_k {zz f} {P:Prop} (h:v56 zz f=true) (k:zz=[]->f=true->P):P:=by
 obtain⟨e0,h⟩:=w_nil_of h
 exact k (by rw[e0]) h
noncomputable def v57 (zz:List Stmt) (f:Stmt->List Stmt->Bool):Bool:=w_cons zz fun y1 y2=>f y1 y2
theorem v57_k {zz f} {P:Prop} (h:v57 zz f=true) (k:∀x xs,zz=(x :: xs)->f x xs=true->P):P:=by
 obtain⟨y1,y2,e0,h⟩:=w_cons_of h
 exact k y1 y2 (by rw[e0]) h
mutual
noncomputable def mE (N B:List Str) (sc:Scope):Ce->Expr->Bool
 | .var i,e=>v1 e fun x=>nameOk N i x&&vis sc x
 | .int n,e=>v2 e fun m=>decide (n=m)
 | .bl b,e=>v3 e fun c=>decide (b=c)
 | .non,e=>v4 e (true)
 | .str x,e=>v5 e fun y=>decide (x=y)
 | .ty n,e=>v1 e fun x=>decide (x=Str.ofString n)&&glb sc x&&typeNames.contains n&&decide (x∈B)
 | .bin op a b,e=>v6 e fun ea op' eb=>decide (op=op')&&mE N B sc a ea&&mE N B sc b eb
 | .neg a,e=>v7 e fun ea=>mE N B sc a ea
 | .not a,e=>v8 e fun ea=>mE N B sc a ea
 | .and a b,e=>vAnd e fun x y=>mE N B sc a x&&mE N B sc b y
 | .or a b,e=>vOr e fun x y=>mE N B sc a x&&mE N B sc b y
 | .cmp op a b,e=>v9 e fun ea op' eb=>decide (op=op')&&mE N B sc a ea&&mE N B sc b eb&&okIter eb
 | .chn op1 op2 a b c,e=>v10 e fun ea o1 o2 eb ec=>decide (op1=o1)&&decide (op2=o2)&&mE N B sc a ea&&mE N B sc b eb&&mE N B sc c ec&&okIter ec
 | .tup es,e=>v12 e fun xs=>mA N B sc es xs
 | .lst es,e=>v13 e fun xs=>mA N B sc es xs
 | .idx a b,e=>v14 e fun ea eb=>mE N B sc a ea&&mE N B sc b eb&&notSlice eb
 | .call f es,e=>v16 e fun x e r=>decide (x=f)&&glb sc x&&mA N B sc es (e :: r)&&!(x == ("__debug__":Str))&&!(hat B)&&!(tld B&&decide (bang x∈B))
 | .blt f es,e=>v16 e fun x e r=>decide (x=bltName f)&&glb sc x&&mA N B sc es (e :: r)&&decide (x∈B)&&(!(hat B) || decide (f=.isinstance))
 | .met m o es,e=>v17 e fun eo nm apos args pos=>decide (nm=metName m)&&mE N B sc o eo&&baseOk eo&&(apos.endLine == pos.line)&&mA N B sc es args&&decide (args.length<28)
 | .dnew,e=>v18 e (true)
 | .dsi m n,e=>v72 e fun a b=>decide (m=a)&&decide (n=b)
 | .dix a b,e=>v14 e fun ea eb=>mE N B sc a ea&&mE N B sc b eb&&notSlice eb
 | .dg2 a b c,e=>v21 e fun eo nm apos y z pos=>decide (nm="get")&&mE N B sc a eo&&baseOk eo&&(apos.endLine == pos.line)&&mE N B sc b y&&notStar y&&mE N B sc c z&&notStar z
 | .comp elt own t it q .nil,e=>v26 e fun ee tg iter ifs a scope=>!(hat B)&&scOk N sc scope own&&mE N ("~" :: B) scope elt ee&&tOwn own t&&decide (a=0)&&mI N B sc it iter&&zipT it tg&&okIter iter&&mT N ("~" :: B) scope t tg&&mQo N ("~" :: B) scope q ifs
 | .comp _ _ _ _ _ (.cons _ _ _ _ _),_=>false
noncomputable def mA (N B:List Str) (sc:Scope):Ces->List Expr->Bool
 | .nil,es=>v29 es (true)
 | .cons e r,es=>v30 es fun x xs=>mE N B sc e x&&notStar x&&mA N B sc r xs
noncomputable def mQ (N B:List Str) (sc:Scope):Cq->Expr->Bool
 | .val e,x=>mE N B sc e x&&plainT x
 | .not q,x=>v8 x fun y=>mQ N B sc q y
 | .and a b,e=>vAnd e fun x y=>mQ N B sc a x&&mQ N B sc b y
 | .or a b,e=>vOr e fun x y=>mQ N B sc a x&&mQ N B sc b y
 | .cmp op a b,e=>v9 e fun ea op' eb=>decide (op=op')&&mE N B sc a ea&&mE N B sc b eb&&okIter eb
 | .chn op1 op2 a b c,e=>v10 e fun ea o1 o2 eb ec=>decide (op1=o1)&&decide (op2=o2)&&mE N B sc a ea&&mE N B sc b eb&&mE N B sc c ec&&okIter ec
 | .cmw k a b,e=>v9 e fun ea op' eb=>decide (op'=zfOp k)&&mE N B sc a ea&&mE N B sc b eb&&okIter eb
noncomputable def mQo (N B:List Str) (sc:Scope):Cqo->List Expr->Bool
 | .none,es=>v29 es (true)
 | .some q,es=>v31 es fun e=>mQ N B sc q e
noncomputable def mO (N B:List Str) (sc:Scope):Co->Option Expr->Bool
 | .none,x=>v32 x (true)
 | .some e,x=>v33 x fun y=>mE N B sc e y
noncomputable def mI (N B:List Str) (sc:Scope):Ci->Expr->Bool
 | .val e,x=>mE N B sc e x
 | .range1 a,x=>v23 x fun n y=>decide (n="range")&&glb sc n&&decide (n∈B)&&mE N B sc a y&&notStar y
 | .range2 a b,x=>v34 x fun n y z=>decide (n="range")&&glb sc n&&decide (n∈B)&&mE N B sc a y&&notStar y&&mE N B sc b z&&notStar z
 | .zip a b,x=>v34 x fun n y z=>decide (n="zip")&&glb sc n&&decide (n∈B)&&mE N B sc a y&&notStar y&&mE N B sc b z&&notStar z
 | .enum a,x=>v23 x fun n y=>decide (n="enumerate")&&glb sc n&&decide (n∈B)&&mE N B sc a y&&notStar y
 | .rev a,x=>v23 x fun n y=>decide (n="reversed")&&glb sc n&&decide (n∈B)&&mE N B sc a y&&notStar y
 | .dk e,x=>mE N B sc e x
noncomputable def mT (N B:List Str) (sc:Scope):Ct->Expr->Bool
 | .name i,e=>v1 e fun x=>nameOk N i x&&locb sc x
 | .tup ts,e=>v12 e fun es=>mTs N B sc ts es&&!(hat B)
 | .sub o i,e=>v14 e fun eo ei=>mE N B sc o eo&&mE N B sc i ei&&notSlice ei
noncomputable def mTs (N B:List Str) (sc:Scope):Cts->List Expr->Bool
 | .nil,es=>v29 es (true)
 | .cons t r,es=>v30 es fun x xs=>mT N B sc t x&&notStar x&&mTs N B sc r xs
end
noncomputable def isDcx:Ce->Bool
 |_=>false
mutual
noncomputable def mS (N B:List Str) (sc:Scope):Cs->Stmt->Bool
 | .expr e,s=>v36 s fun x=>mE N B sc e x&&(match e with | .comp ..=>false|_=>true)&&!isDcx e
 | .ret e,s=>v37 s fun x=>mE N B sc e x
 | .asg t e,s=>v39 s fun tg x=>mE N B sc e x&&!isDcx e&&mT N B sc t tg&&notStar tg&&(match tg,x with
   | .Tuple ..,.Tuple vs _ _=>vs.all (foldedForSure 8)
   | .Tuple ..,.ListComp ..=>false
   |_,_=>true)
 | .par i j a b,s=>v43 s fun x px y py ea eb=>nameOk N i x&&nameOk N j y&&decide (i≠j)&&decide (sc.names.lookup x=some .local)&&decide (sc.names.lookup y=some .local)&&
    mE N B sc a ea&&mE N B sc b eb&&notStar ea&&notStar eb&&(px.line == py.line)&&(!(foldedForSure 8 ea&&foldedForSure 8 eb))&&(!(constantsAlone 8 ea&&constantsAlone 8 eb))&&!(hat B)
 | .raise_,s=>match s with
  | .Raise ..=>true
  |_=>false
 | .dput o i e,s=>v48 s fun eo ei ee=>mE N B sc o eo&&mE N B sc i ei&&notSlice ei&&mE N B sc e ee&&(match ee with
   | .ListComp ..=>false
   | .SetComp ..=>false
   | .DictComp ..=>false
   |_=>true)
 | .aug i sub e,s=>v49 s fun x op ee=>nameOk N i x&&locb sc x&&mE N B sc e ee&&decide (op=if sub then .Sub else .Add)
 | .ite q a b,s=>v50 s fun x ss rs=>mQ N B sc q x&&mSs N B sc a ss&&mSs N B sc b rs
 | .whl q b,s=>v51 s fun x ss=>mQ N B sc q x&&mSs N B sc b ss
 | .for_ t it b,s=>v52 s fun tg iter ss=>mI N B sc it iter&&zipT it tg&&okIter iter&&mT N B sc t tg&&mSs N B sc b ss&&!(hat B)
noncomputable def mSs (N B:List Str) (sc:Scope):Css->List Stmt->Bool
 | .nil,ss=>v56 ss (true)
 | .cons s r,ss=>v57 ss fun x xs=>mS N B sc s x&&mSs N B sc r xs
end
def PassS (CX:CXT) (X:Cx) (xk:L2.St->XK):Prop:=∀(pins:List (Addr×Obj)) (σ:L2.St) (H:Hp) (s:Shared) (e:Value) (s':Shared),Inv X pins σ H s->CX X.stack H s (xk σ) e s'->X.xe e s'
theorem passS0 {X:Cx} {xk:L2.St->XK}:PassS CX0 X xk:=fun _ _ _ _ _ _ _ h=>h.elim
structure Rok (C:Rc) (B:List Str) (X:Cx) (sc:Scope):Prop where
 hN:X.N=C.N
 nd:C.N.Nodup
 hK:X.K=C.K
 own:PassesOwn (model X.prog X.w) X.A X.env X.xe
 calm:hat B=false->X.calm=true
 hu:X.A.units+64<cLine
 gd:X.A.guards=some []
 loc:∀x,sc.names.lookup x=some .local->X.env.scope.names.lookup x=some .local
 cel:∀x,sc.names.lookup x=some .cell->X.env.scope.names.lookup x=some .cell/\X.fn x=true
 fre:∀x,sc.names.lookup x=some .free->X.env.scope.names.lookup x=some .cell\/X.env.scope.names.lookup x=some .free
 glo:∀x,sc.names.lookup x=some .globalImplicit->X.env.kindOf x=some .globalImplicit
 fn:∀x sp,C.fs x=some sp->hat B=false->(tld B=true->bang x∉B)->∃f fd ps k CX,FnOk X.prog X.w X.K X.mg X.base CX k f fd ps sp/\Room k X.A/\X.mg x=some (.ref f)/\W.keepIn X.K (.ref f)=true/\Binds X.K fd ps []/\(CX=CX0\/CX=CX1 X.prog X.w X.mg/\bang x∈B)/\PassS CX X C.xk
 blt:∀x∈B,X.mg x=none
 mrk:X.mg "~"=none/\X.mg "^"=none/\X.mg "%"=none
 cls:∀c Ca,C.cl c=some Ca->X.mg c=some (.ref Ca)/\W.nsIn X.K mainGlobals c=some (some (.ref Ca))
 fx:tld B=false->FnCx X
 nohat:tld B=false->hat B=false
 xr:tld B=false->pct B=false->∀nm Ca pins σ H s e t,C.cl nm=some Ca->Inv X pins σ H s->H e=none->X.s₀.heap.get? e=none->(∀p∈X.pn++pins,p.1≠e)->s.heap.get? e=some { cls:=.ref Ca,data:=.fields #[.ref t,.none,.none,.none,.bool false,.none] }->C.xk σ (.str nm 0) none H->X.xe (.ref e) s
theorem Rok.hu1 {C:Rc} {B:List Str} {X:Cx} {sc:Scope} (R:Rok C B X sc):X.A.units+1<cLine:=by have:=R.hu;omega
section
variable {C:Rc} {B:List Str} {X:Cx} {sc:Scope}
theorem Rok.vis (R:Rok C B X sc) {x:Str} (h:R3.vis sc x=true):Vis X.env.scope x:=by
 unfold R3.vis at h
 split at h
 .rename_i e;exact .inl (R.loc x e)
 .rename_i e;exact .inr (.inl (R.cel x e).1)
 .rename_i e
  rcases R.fre x e with q|q
  .exact .inr (.inl q)
  .exact .inr (.inr q)
 .cases h
theorem Rok.locb (R:Rok C B X sc) {x:Str} (h:R3.locb sc x=true):Loc X.env.scope x/\(X.fn x=true\/X.env.scope.names.lookup x=some .local):=by
 unfold R3.locb at h
 split at h
 .rename_i e;exact⟨.inl (R.loc x e),.inr (R.loc x e)⟩
 .rename_i e;exact⟨.inr (R.cel x e).1,.inl (R.cel x e).2⟩
 .cases h
theorem Rok.glb (R:Rok C B X sc) {x:Str} (h:R3.glb sc x=true):Gl X x:=R.glo x (of_decide_eq_true h)
theorem nameOk_of {N:List Str} {i:Nat} {x:Str} (h:nameOk N i x=true):N[i]?=some x/\(x == ("__debug__":Str))=false/\(x == ("__classdict__":Str))=false:=by
 unfold nameOk at h
 simp only[Bool.and_eq_true,decide_eq_true_eq,Bool.not_eq_true']at h
 exact⟨h.1.1,h.1.2,h.2⟩
theorem star_cons {e:Expr} {es:List Expr} {env:Env} (h:notStar e=true):starEach (e :: es) env=(false,eval e env) :: starEach es env:=by
 cases e<;>first|rfl|cases h
theorem mA_star {N B:List Str} {sc:Scope} {env:Env} {pos:Pos}:∀{es:Ces} {xs:List Expr},mA N B sc es xs=true->(backTo pos (starEach xs env)).any (·.1)=false
 | .nil,xs,h=>by
  refine v29_k h fun e0 g=>?_
  clear h
  subst e0
  revert g
  intro h
  rfl
 | .cons e r,xs,h=>by
  refine v30_k h fun x xs e0 g=>?_
  clear h
  subst e0
  revert g
  intro h
  simp only[Bool.and_eq_true]at h
  rw[star_cons h.1.2]
  have ih:=mA_star (env:=env) (pos:=pos) (es:=r) h.2
  exact ih
theorem folded_ok {e:Expr} {env:Env} (h:okIter e=true) (x:Value):foldedSetIterable e env x=pure x:=by
 cases e<;>first|rfl|cases h
theorem marks_ok {op:CmpOp} {e:Expr} (h:okIter e=true):behindInMarks op e=false:=by
 cases e<;>first|rfl|cases h
theorem last_ok {o1 o2:CmpOp} {a e:Expr} (h:okIter e=true):lastMarks [o1,o2] [a,e]=false:=by
 show behindInMarks o2 e=false
 exact marks_ok h
theorem ix_plain {e:Expr} (h:notSlice e=true):PlainIx e:=by
 intro o i
 cases e<;>first|rfl|cases h
theorem base_ok {e:Expr} {f:Str} {env:Env} {w:Sem Value} (h:baseOk e=true):attributeBase e f env w=w:=by
 cases e with
 |Call g args kw pos=>
  cases args with
  |nil=>cases h
  |cons a r=>cases g<;>rfl
 |_=>rfl
theorem plainT_ok {e:Expr} {env:Env} (h:plainT e=true) (w:Sem Value):isTrue e env w=(do let v <- w;standAt e.pos;holding [v] (truthy v)):=by
 cases e with
 |UnaryOp op a p=>cases op<;>first|rfl|cases h
 |_=>first|rfl|cases h
theorem OpR.imp {f:Value->Value->Sem Value} {r r':R2} (h:OpR X f r) (i:∀x y H Q,r' x y H Q->r x y H Q):OpR X f r':=fun pins s σ H x y v u Q I rx ry q=>h pins s σ H x y v u Q I rx ry (i _ _ _ _ q)
theorem CallR.imp {f:Value} {r r':List V->Hp->VK->Prop} (h:CallR X f r) (i:∀xs H Q,r' xs H Q->r xs H Q):CallR X f r':=fun pins s σ H xs us Q I rv q=>h pins s σ H xs us Q I rv (i _ _ _ q)
theorem ixM:IxR X (rIxM X.K):=by
 intro value slice pins s σ H x y v u Q I rx ry q hp
 refine ix_seq value slice pins s σ H x y v u Q I rx ry ?_ hp
 unfold rIxM at q
 split at q
 .obtain⟨z,c,hc,q⟩:=q
  exact .inr (.inr ⟨_,_,c,rfl,rfl,z,hc,q⟩)
 .rcases q with q|q
  .exact .inl q
  .exact .inr (.inl q)
theorem run_at {CX:CXT} {k:Nat} {f:Addr} {fd:FuncData} {ps:List Str} {sp:Sp} {dvs:List V} {ds:List Value} {E:XK} {pins:List (Addr×Obj)} {σ:L2.St} {H:Hp} {s:Shared} {Q:VK} {us:List Value} {vs:List V} (F:FnOk X.prog X.w X.K X.mg X.base CX k f fd ps sp) (hr:Room k X.A) (hb:Binds X.K fd ps ds) (hd:Vals dvs ds)
  (hx:∀e s',CX X.stack H s E e s'->X.xe e s') (I:Inv X pins σ H s) (r:Vals vs us) (h:sp (vs++dvs) H Q E):wpAny (model X.prog X.w) X.A (call (.ref f) us) (EP X pins σ Q) X.xe s:=by
 have r2:=r.append hd
 have hl:(us++ds).length=ps.length:=r2.length ▸ F.len _ _ _ _ h
 have go:=F.run X.A X.stack s H ⟨us,[]⟩ (us++ds) (vs++dvs) Q E hr I.env0 (hb s us I.kIn hl) r2 h
 refine wpAny_call (codeAny_mono go fun r s' hq=>?_)
 match r,hq with
 | .error e,hq=>exact hx e s' hq
 | .ok (.ret u),hq=>exact I.after hq
theorem pe_callS {CX:CXT} {k:Nat} {f:Addr} {fd:FuncData} {ps:List Str} {sp:Sp} {dvs:List V} {ds:List Value} {xk:L2.St->XK} {x:Str} {p pos:Pos} {e:Expr} {es:List Expr} {t:TA} (F:FnOk X.prog X.w X.K X.mg X.base CX k f fd ps sp) (hr:Room k X.A) (hg:Gl X x) (hm:X.mg x=some (.ref f)) (hk:W.keepIn X.K (.ref f)=true) (hb:Binds X.K fd ps ds) (hd:Vals dvs ds) (hx:PassS CX X xk)
  (ha:PA X (e :: es) t) (hdb:(x == ("__debug__":Str))=false) (he:starEach (e :: es) X.env=(false,eval e X.env) :: starEach es X.env) (hpl:(backTo pos (starEach es X.env)).any (·.1)=false):
  PE X (.Call (.Name x p) (e :: es) [] pos) (fun σ H Q=>tCall sp dvs (xk σ) t σ H Q):=by
 intro pins s σ H Q I h
 refine wpAny_Call_Name_kw (ld_glob I hg hm ?_ hdb)
 exact W.callWith_K (h₀:=X.base) I.ok.mod.kin hk (thn (ha pos pins s σ H _ I h) fun us s1 ⟨vs,H1,I1,r,q⟩=>⟨I1.kIn,run_at F hr hb hd (fun e s' c=>hx pins σ H1 s1 e s' I1 c) I1 r q⟩) he hpl
theorem bits100 {a:Int} (h:a.natAbs<2 ^ 100):(Builtin.Int.intBits a:Int)<=100:=by
 unfold Builtin.Int.intBits
 by_cases h0:a.natAbs=0
 .rw[if_pos (by simpa using h0)];decide
 .rw[if_neg (by simpa using h0)]
  have:=(Nat.log2_lt h0).mpr h
  omega
theorem op_shlX {X:Cx}:OpR X (binaryOp .LShift) (rI CShl fun i j=>.int (i*2 ^ j.toNat)):=opI fun _ _ _ _ _ _ _ hc q=>lshift_int hc.1 (by have:=bits100 hc.2.2;have:=hc.2.1;omega) q
theorem bin_ok (op:Operator):OpR X (binaryOp op) (rBin X.K op):=by
 cases op with
 |Add=>
  refine OpR.imp ((op_add.or op_add_str).or (op_cat.or (op_catT.or op_catT0))) fun x y H Q q=>?_
  unfold rBin at q
  dsimp only at q
  split at q
  .exact .inl (.inl ⟨_,_,rfl,rfl,q⟩)
  .exact .inl (.inr ⟨_,_,rfl,rfl,q.1,q.2⟩)
  .exact .inr q
 |Sub=>exact op_sub
 |Mult=>
  refine OpR.imp (op_mulW.or (op_mul_str.or op_rep)) fun x y H Q q=>?_
  unfold rBin at q
  dsimp only at q
  split at q
  .refine .inl ⟨_,_,rfl,rfl,?_,q.2⟩
   rcases q.1 with h|h|h
   .exact CMul.ok (.inl h)
   .exact CMul.ok (.inr h)
   .exact h
  .exact .inr (.inl ⟨_,_,rfl,rfl,q.1,q.2.1,q.2.2.1,q.2.2.2⟩)
  .exact .inr (.inr q)
 |Mod=>exact op_mod
 |FloorDiv=>
  refine OpR.imp (op_fdiv.or op_fdivW) fun x y H Q q=>?_
  obtain⟨i,j,h1,h2,⟨h3,h4⟩,q⟩:=q
  rcases h4 with h4|h4
  .exact .inl ⟨i,j,h1,h2,⟨h3,h4⟩,q⟩
  .exact .inr ⟨i,j,h1,h2,⟨h3,h4⟩,q⟩
 |Pow=>exact op_pow
 |LShift=>exact op_shlX
 |RShift=>exact op_shr
 |MatMult=>exact fun _ _ _ _ _ _ _ _ _ _ _ _ h=>h.elim
 |Div=>exact fun _ _ _ _ _ _ _ _ _ _ _ _ h=>h.elim
 |BitOr=>exact fun _ _ _ _ _ _ _ _ _ _ _ _ h=>h.elim
 |BitXor=>exact fun _ _ _ _ _ _ _ _ _ _ _ _ h=>h.elim
 |BitAnd=>exact op_and1
theorem cmp_ok (hu':X.A.units+64<cLine) (op:CmpOp):OpR X (compareOp op) (rCmp X.K op):=by
 cases op with
 |Eq=>
  refine OpR.imp (op_eq.or ((op_eqL (by omega)).or (op_eqD hu'))) fun x y H Q q=>?_
  unfold rCmp at q
  dsimp only at q
  split at q
  .exact .inr q
  .exact .inl q
 |NotEq=>
  refine OpR.imp (op_ne.or ((op_neL (by omega)).or (op_neD hu'))) fun x y H Q q=>?_
  unfold rCmp at q
  dsimp only at q
  split at q
  .exact .inr q
  .exact .inl q
 |Lt=>exact op_lt
 |LtE=>exact op_le
 |Gt=>
  refine OpR.imp (op_gt.or op_gtS) fun x y H Q q=>?_
  unfold rCmp at q
  dsimp only at q
  split at q
  .exact .inr q
  .exact .inl q
 |GtE=>exact op_ge
 |Is=>
  refine OpR.imp (op_isN.or op_isB) fun x y H Q q=>?_
  unfold rCmp at q
  dsimp only at q
  split at q
  .exact .inr q
  .exact .inl q
 |IsNot=>
  refine OpR.imp (op_notN.or op_isNotB) fun x y H Q q=>?_
  unfold rCmp at q
  dsimp only at q
  split at q
  .exact .inr q
  .exact .inl q
 |In=>
  refine OpR.imp (op_inS.or op_in_seq) fun x y H Q q=>?_
  unfold rCmp at q
  dsimp only at q
  split at q
  .exact .inl q
  .exact .inr q
 |NotIn=>
  refine OpR.imp (op_notInS.or op_notIn_seq) fun x y H Q q=>?_
  unfold rCmp at q
  dsimp only at q
  split at q
  .exact .inl q
  .exact .inr q
theorem zf_ok (hu':X.A.units+64<cLine) (k:Zf):OpR X (compareOp (zfOp k)) (rZf k):=by
 cases k with
 |eqB=>exact op_eqB hu'
 |ninB=>exact op_ninB hu'
 |ltS=>exact op_lt_str
inductive BltIs:Bf->Prop where
 |fn (f:Bf) (id:String) (hv:bootBuiltins (bltName f)=some (.builtin id)) (h:∀X:Cx,(X.calm=true\/f=.isinstance)->CallR X (.builtin id) (rBlt X.K f)):BltIs f
 |ty (f:Bf) (T:String) (hv:bootBuiltins (bltName f)=some (.type T)) (h:∀X:Cx,(X.calm=true\/f=.isinstance)->CallR X (.type T) (rBlt X.K f)):BltIs f
theorem blt_is (f:Bf):BltIs f:=by
 cases f with
 |len=>exact .fn _ "len" (by decide +kernel) fun X _=>call_len
 |abs=>exact .fn _ "abs" (by decide +kernel) fun X _=>call_abs
 |int=>
  refine .ty _ "int" (by decide +kernel) fun X _=>CallR.imp call_intB fun xs H Q q=>?_
  unfold rBlt at q
  dsimp only at q
  split at q
  .exact .inl (.inl (.inl ⟨_,rfl,q⟩))
  .exact .inl (.inl (.inr ⟨_,rfl,q⟩))
  .obtain⟨n,h1,h2,q⟩:=q
   exact .inl (.inr ⟨_,n,rfl,h1,h2,q⟩)
  .obtain⟨rfl,n,h1,q⟩:=q
   exact .inr ⟨_,n,rfl,h1,q⟩
  .exact q.elim
 |sortA=>exact .fn _ "sorted" (by decide +kernel) fun X _=>call_sortA
 |isinstance=>exact .fn _ "isinstance" (by decide +kernel) fun X _=>CallR.imp call_isi fun _ _ _ q=>q.resolve_right id
 |all=>exact .fn _ "all" (by decide +kernel) fun X c0=>have c:X.calm=true:=c0.resolve_right (fun z=>by cases z);call_allL c
 |min=>
  refine .fn _ "min" (by decide +kernel) fun X c0=>have c:X.calm=true:=c0.resolve_right (fun z=>by cases z);CallR.imp ((call_min2 c).or (call_minL c)) fun xs H Q q=>?_
  unfold rBlt at q
  dsimp only at q
  split at q
  .exact .inl ⟨_,_,rfl,q⟩
  .exact .inr q
 |list=>exact .ty _ "list" (by decide +kernel) fun X c0=>have c:X.calm=true:=c0.resolve_right (fun z=>by cases z);call_list_of.or (call_lrg c)
 |range=>exact .ty _ "range" (by decide +kernel) fun X _=>call_rng
structure MetIs (m:Mf) (id:String):Prop where
 pa:PlainAttrs (metTy m)
 slot:Slot (metTy m) (metName m) id
 ty:typeOf (.builtin id)=pure (.type "method_descriptor")
 h:∀X:Cx,MtR X id (rMet X.K m)
theorem met_is (m:Mf):∃id,MetIs m id:=by
 cases m with
 |append=>exact⟨_,F.plainAttrs_list,F.slot_list_append,F.type_list_append,fun _=>mt_append⟩
 |join=>exact⟨_,F.plainAttrs_str,F.slot_str_join,F.type_str_join,fun _=>mt_join⟩
 |countS=>exact⟨_,F.plainAttrs_str,F.slot_str_count,F.type_str_count,fun _=>mt_count⟩
end
theorem scOk_of {N:List Str} {sc scope:Scope} {own:List Nat} (h:scOk N sc scope own=true):scope.kind=.function/\(∀x∈scope.names,x.2=.local->scope.names.lookup x.1=some .local)/\(∀n,(n,NameKind.cell)∈scope.names->scope.names.lookup n=some .cell)/\
  (∀n,(n,NameKind.free)∈scope.names->sc.names.lookup n=some .cell\/sc.names.lookup n=some .free)/\∀(i:Nat) (x:Str),N[i]?=some x->(scope.names.lookup x=some .local\/scope.names.lookup x=some .cell)->i∈own:=by
 unfold scOk at h
 simp only[Bool.and_eq_true,decide_eq_true_eq,List.all_eq_true,Bool.or_eq_true]at h
 obtain⟨⟨hk,hn⟩,ho⟩:=h
 refine⟨hk,fun x hx e=>?_,fun n hn'=>?_,fun n hn'=>?_,fun i x e hx=>?_⟩
 .exact(hn x hx).1.1.resolve_left fun q=>q e
 .exact(hn _ hn').1.2.resolve_left fun q=>q rfl
 .rcases(hn _ hn').2 with(q|q)|q
  .exact absurd rfl q
  .exact .inl q
  .exact .inr q
 .have:=ho i (List.mem_range.mpr (List.getElem?_eq_some_iff.mp e).1)
  rw[e]at this
  simp only[Bool.or_eq_true,Bool.and_eq_true,decide_eq_true_eq]at this
  rcases this with⟨q1,q2⟩|q
  .rcases hx with z|z
   .exact absurd z q1
   .exact absurd z q2
  .exact q
theorem Rok.compSc {C:Rc} {B:List Str} {X:Cx} {sc scope:Scope} {own:List Nat} (R:Rok C B X sc) (h:scOk C.N sc scope own=true):CompSc X scope:=by
 obtain⟨h1,h2,h3,h4,h5⟩:=scOk_of h
 refine⟨h1,h2,h3,fun n hn=>?_⟩
 rcases h4 n hn with q|q
 .exact .inl (R.cel n q).1
 .exact R.fre n q
theorem tld_cons {B:List Str}:tld ("~" :: B)=true:=decide_eq_true (List.mem_cons_self)
theorem Rok.comp {C:Rc} {B:List Str} {X:Cx} {sc scope:Scope} {own:List Nat} (R:Rok C B X sc) (hh:hat B=false) (h:scOk C.N sc scope own=true) (s0:Shared) (H0:Hp) (ex:List Addr):Rok C ("~" :: B) (X.comp scope s0 H0 ex) scope:=by
 refine⟨R.hN,R.nd,R.hK,PassesOwn.never,fun _=>R.calm hh,R.hu,R.gd,fun x e=>lookup_relabel_local e,fun x e=>⟨?_,?_⟩,fun x e=>?_,fun x e=>?_,fun x sp e _ ht=>?_,fun x hx=>?_,R.mrk,R.cls,(fun z=>by rw[tld_cons]at z;cases z),(fun z=>by rw[tld_cons]at z;cases z),(fun z=>by rw[tld_cons]at z;cases z)⟩
 .obtain⟨k',e1,e2⟩:=relabel_lookup' (env:=X.env) e
  rcases e2 with rfl|⟨q,_⟩
  .exact e1
  .cases q
 .exact W.cellsFrom_some _ _ _ (.inl e)
 .obtain⟨k',e1,e2⟩:=relabel_lookup' (env:=X.env) e
  rcases e2 with rfl|⟨_,rfl⟩
  .exact .inr e1
  .exact .inl e1
 .obtain⟨k',e1,e2⟩:=relabel_lookup' (env:=X.env) e
  rcases e2 with rfl|⟨q,_⟩
  .exact e1
  .cases q
 .have hb:bang x∉B:=fun z=>ht tld_cons (List.mem_cons_of_mem _ z)
  obtain⟨f,fd,ps,k,CX,h1,h2,h3,h4,h5,h6,_⟩:=R.fn x sp e hh fun _=>hb
  rcases h6 with rfl|⟨_,z⟩
  .exact⟨f,fd,ps,k,CX0,h1,h2,h3,h4,h5,.inl rfl,passS0⟩
  .exact absurd z hb
 .rcases List.mem_cons.mp hx with rfl|hx
  .exact R.mrk.1
  .exact R.blt x hx
mutual
theorem gmono_of (C:Rc) (own:List Nat):∀(t:Ct),tOwn own t=true->∀(x:V) (σ:L2.St) (H:Hp) (Q Q':L2.St->Hp->Prop),tG C t x σ H Q->(∀σ2 H2,Q σ2 H2->Ext own σ σ2->Q' σ2 H2)->tG C t x σ H Q'
 | .name i,h,x,σ,H,Q,Q',q,m=>by
  simp only[tOwn,decide_eq_true_eq]at h
  simp only[tG]at q ⊢
  obtain⟨q1,q2⟩:=gext_name h x σ H Q q
  exact m _ _ q1 q2
 | .tup ts,h,x,σ,H,Q,Q',q,m=>by
  simp only[tOwn]at h
  simp only[tG]at q ⊢
  obtain⟨a,xs,e,hs,hl,q⟩:=q
  exact⟨a,xs,e,hs,hl,gmonos_of C own ts h xs σ H Q Q' q m⟩
 | .sub _ _,h,_,_,_,_,_,_,_=>by simp[tOwn]at h
theorem gmonos_of (C:Rc) (own:List Nat):∀(ts:Cts),tOwns own ts=true->∀(xs:List V) (σ:L2.St) (H:Hp) (Q Q':L2.St->Hp->Prop),tGs C ts xs σ H Q->(∀σ2 H2,Q σ2 H2->Ext own σ σ2->Q' σ2 H2)->tGs C ts xs σ H Q'
 | .nil,h,xs,σ,H,Q,Q',q,m=>by
  simp only[tGs,gNil]at q ⊢
  exact⟨q.1,m _ _ q.2 Ext.refl⟩
 | .cons t r,h,xs,σ,H,Q,Q',q,m=>by
  simp only[tOwns,Bool.and_eq_true]at h
  simp only[tGs,gCons]at q ⊢
  obtain⟨v,vr,e,q⟩:=q
  exact⟨v,vr,e,gmono_of C own t h.1 v σ H _ _ q fun σ2 H2 q2 x2=>gmonos_of C own r h.2 vr σ2 H2 _ _ q2 fun σ3 H3 q3 x3=>m _ _ q3 (x2.trans x3)⟩
end
theorem gext_of {C:Rc} {own:List Nat} {t:Ct} (h:tOwn own t=true):GExt own (tG C t):=fun x σ H Q q=>gmono_of C own t h x σ H Q _ q fun _ _ q x=>⟨q,x⟩
theorem assign_star:∀{ts:Cts} {es:List Expr} {N B:List Str} {sc:Scope} {env:Env},mTs N B sc ts es=true->(assignEach es env).length=lenTs ts/\(assignEach es env).findIdx? (·.1)=none
 | .nil,es,N,B,sc,env,h=>by
  refine v29_k h fun e0 g=>?_
  clear h
  subst e0
  revert g
  intro h
  exact⟨rfl,rfl⟩
 | .cons t r,es,N,B,sc,env,h=>by
  refine v30_k h fun x xs e0 g=>?_
  clear h
  subst e0
  revert g
  intro h
  simp only[Bool.and_eq_true]at h
  obtain⟨h1,h2⟩:=assign_star (env:=env) h.2
  have e:assignEach (x :: xs) env=(false,assign x env) :: assignEach xs env:=by
   have hs:=h.1.2
   cases x<;>first|rfl|cases hs
  rw[e]
  refine⟨by rw[List.length_cons,h1];rfl,?_⟩
  rw[List.findIdx?_cons,h2]
  rfl
theorem assign_each {x:Expr} {xs:List Expr} {env:Env} (hs:notStar x=true):(assignEach (x :: xs) env).map (·.2)=assign x env :: (assignEach xs env).map (·.2):=by
 cases x<;>first|rfl|cases hs
theorem asg_sub {o i:Expr} {pos:Pos} {env:Env} (h:notSlice i=true) (v:Value):assign (.Subscript o i pos) env v=(do
   let ov <- holding [v] (eval o env)
   let iv <- holding [v,ov] (eval i env)
   standAt pos
   holding [v,ov,iv] (setItem ov iv v)
   release [v,ov,iv] []):=by
 cases i<;>first|rfl|cases h
noncomputable def CompX (C:Rc) (X:Cx) (e:Expr):Ce->Prop
 | .comp elt own t it q r=>∃tg iter ifs nx scope pos,CompIn X e scope tg iter ifs nx (tG C t) (tQo C q) (tR C r (tEmit (tE C elt))) own/\PI X tg iter (tI C it)/\
   eval e X.env=comprehension e scope X.env pos (newList []) false (eval iter X.env)/\(∀u,evalThenUse e X.env u=(do let _ <- comprehension e scope X.env pos (newList []) false (eval iter X.env) (some u)))/\
   ∀y py line,∃b,swapsWith e (some (.Name y py)) line X.env=pure b
 |_=>True
theorem inv1 {N B:List Str} {sc:Scope} {elt:Ce} {own:List Nat} {t:Ct} {it:Ci} {q:Cqo} {e:Expr} (h:mE N B sc (.comp elt own t it q .nil) e=true):∃ee tg iter ifs scope pos,e=.ListComp ee [⟨tg,iter,ifs,0⟩] scope pos/\
  hat B=false/\scOk N sc scope own=true/\mE N ("~" :: B) scope elt ee=true/\tOwn own t=true/\mI N B sc it iter=true/\zipT it tg=true/\okIter iter=true/\mT N ("~" :: B) scope t tg=true/\mQo N ("~" :: B) scope q ifs=true:=by
 refine v26_k h fun ee tg iter ifs a scope w1 e0 g=>?_
 clear h
 subst e0
 revert g
 intro h
 simp only[Bool.and_eq_true,decide_eq_true_eq,Bool.not_eq_true']at h
 obtain⟨⟨⟨⟨⟨⟨⟨⟨⟨hh,hsc⟩,helt⟩,hown⟩,rfl⟩,h1⟩,h2⟩,h3⟩,h4⟩,h5⟩:=h
 exact⟨_,_,_,_,_,_,rfl,hh,hsc,helt,hown,h1,h2,h3,h4,h5⟩
theorem inv4 {N B:List Str} {sc:Scope} {elt:Ce} {own:List Nat} {t:Ct} {it:Ci} {q:Cqo} {ws:List Nat} {t2:Ct} {it2:Ci} {q2:Cqo} {r4:Cc} {e:Expr} (h:mE N B sc (.comp elt own t it q (.cons ws t2 it2 q2 r4)) e=true):False:=by
 exact no_tt h
set_option maxHeartbeats 4000000
mutual
theorem sE0 {C:Rc}:∀(c:Ce) {B:List Str} {X:Cx} {sc:Scope} {e:Expr},Rok C B X sc->mE C.N B sc c e=true->PE X e (tE C c)/\CompX C X e c
 | .var i,B,X,sc,e,R,h=>by
  refine⟨?_,trivial⟩
  refine v1_k h fun x w1 e0 g=>?_
  clear h
  subst e0
  revert g
  intro h
  simp only[Bool.and_eq_true]at h
  obtain⟨h1,h2,h3⟩:=nameOk_of h.1
  simp only[tE]
  exact pe_var (by rw[R.hN];exact h1) (R.vis h.2) h2 h3
 | .int n,B,X,sc,e,R,h=>by
  refine⟨?_,trivial⟩
  refine v2_k h fun m w1 w2 e0 g=>?_
  clear h
  subst e0
  revert g
  intro h
  cases of_decide_eq_true h
  simp only[tE]
  exact pe_int
 | .bl n,B,X,sc,e,R,h=>by
  refine⟨?_,trivial⟩
  refine v3_k h fun c w1 w2 e0 g=>?_
  clear h
  subst e0
  revert g
  intro h
  cases of_decide_eq_true h
  simp only[tE]
  exact pe_bl
 | .non,B,X,sc,e,R,h=>by
  refine⟨?_,trivial⟩
  refine v4_k h fun w1 w2 e0 g=>?_
  clear h
  subst e0
  revert g
  intro h
  simp only[tE]
  exact pe_non
 | .str n,B,X,sc,e,R,h=>by
  refine⟨?_,trivial⟩
  refine v5_k h fun y w1 w2 e0 g=>?_
  clear h
  subst e0
  revert g
  intro h
  cases of_decide_eq_true h
  simp only[tE]
  exact pe_str
 | .ty n,B,X,sc,e,R,h=>by
  refine⟨?_,trivial⟩
  refine v1_k h fun x w1 e0 g=>?_
  clear h
  subst e0
  revert g
  intro h
  simp only[Bool.and_eq_true,decide_eq_true_eq]at h
  obtain⟨⟨⟨rfl,h2⟩,h3⟩,h4⟩:=h
  simp only[tE]
  have hb:bootBuiltins (Str.ofString n)=some (.type n)/\Str.ofString n≠"__name__"/\(Str.ofString n == ("__debug__":Str))=false:=by
   simp only[typeNames,List.contains_iff_mem,List.mem_cons,List.not_mem_nil,or_false]at h3
   rcases h3 with rfl|rfl|rfl|rfl|rfl|rfl|rfl<;>decide +kernel
  exact pe_bltn (v:=.ty n) (R.glb h2) (R.blt _ h4) hb.1 rfl hb.2.1 hb.2.2
 | .bin op a b,B,X,sc,e,R,h=>by
  refine⟨?_,trivial⟩
  refine v6_k h fun ea op' eb w1 e0 g=>?_
  clear h
  subst e0
  revert g
  intro h
  simp only[Bool.and_eq_true,decide_eq_true_eq]at h
  obtain⟨⟨rfl,h1⟩,h2⟩:=h
  simp only[tE]
  rw[<- R.hK]
  exact pe_op (bin_ok _) ((sE0 a R h1).1) ((sE0 b R h2).1)
 | .neg a,B,X,sc,e,R,h=>by
  refine⟨?_,trivial⟩
  refine v7_k h fun ea w1 e0 g=>?_
  clear h
  subst e0
  revert g
  intro h
  simp only[tE]
  exact pe_un un_neg ((sE0 a R h).1)
 | .not a,B,X,sc,e,R,h=>by
  refine⟨?_,trivial⟩
  refine v8_k h fun ea w1 e0 g=>?_
  clear h
  subst e0
  revert g
  intro h
  simp only[tE]
  exact pe_not ((sE0 a R h).1)
 | .and a b,B,X,sc,e,R,h=>by
  refine⟨?_,trivial⟩
  replace h:=vAnd_of h
  rcases h with⟨x,y,pos,rfl,h⟩|⟨x,y,z,r,pos,rfl,h⟩
  .simp only[Bool.and_eq_true]at h
   simp only[tE]
   exact pe_and ((sE0 a R h.1).1) (pe_one ((sE0 b R h.2).1))
  .simp only[Bool.and_eq_true]at h
   simp only[tE]
   exact pe_and ((sE0 a R h.1).1) ((sE0 b R h.2).1)
 | .or a b,B,X,sc,e,R,h=>by
  refine⟨?_,trivial⟩
  replace h:=vOr_of h
  rcases h with⟨x,y,pos,rfl,h⟩|⟨x,y,z,r,pos,rfl,h⟩
  .simp only[Bool.and_eq_true]at h
   simp only[tE]
   exact pe_or ((sE0 a R h.1).1) (pe_one ((sE0 b R h.2).1))
  .simp only[Bool.and_eq_true]at h
   simp only[tE]
   exact pe_or ((sE0 a R h.1).1) ((sE0 b R h.2).1)
 | .cmp op a b,B,X,sc,e,R,h=>by
  refine⟨?_,trivial⟩
  refine v9_k h fun ea op' eb w1 e0 g=>?_
  clear h
  subst e0
  revert g
  intro h
  simp only[Bool.and_eq_true,decide_eq_true_eq]at h
  obtain⟨⟨⟨rfl,h1⟩,h2⟩,h3⟩:=h
  simp only[tE]
  rw[<- R.hK]
  exact pe_cmpR (cmp_ok R.hu _) ((sE0 a R h1).1) ((sE0 b R h2).1) (marks_ok h3)
 | .chn op1 op2 a b c,B,X,sc,e,R,h=>by
  refine⟨?_,trivial⟩
  refine v10_k h fun ea o1 o2 eb ec w1 e0 g=>?_
  clear h
  subst e0
  revert g
  intro h
  simp only[Bool.and_eq_true,decide_eq_true_eq]at h
  obtain⟨⟨⟨⟨⟨rfl,rfl⟩,h1⟩,h2⟩,h3⟩,h4⟩:=h
  simp only[tE]
  rw[<- R.hK]
  exact pe_chain (cmp_ok R.hu _) (cmp_ok R.hu _) ((sE0 a R h1).1) ((sE0 b R h2).1) ((sE0 c R h3).1) (last_ok h4)
 | .tup es,B,X,sc,e,R,h=>by
  refine⟨?_,trivial⟩
  refine v12_k h fun xs w1 w2 e0 g=>?_
  clear h
  subst e0
  revert g
  intro h
  simp only[tE]
  exact pe_tup (sA es R h)
 | .lst es,B,X,sc,e,R,h=>by
  refine⟨?_,trivial⟩
  refine v13_k h fun xs w1 e0 g=>?_
  clear h
  subst e0
  revert g
  intro h
  simp only[tE]
  exact pe_lst (sA es R h)
 | .idx a b,B,X,sc,e,R,h=>by
  refine⟨?_,trivial⟩
  refine v14_k h fun ea eb w1 e0 g=>?_
  clear h
  subst e0
  revert g
  intro h
  simp only[Bool.and_eq_true]at h
  simp only[tE]
  rw[<- R.hK]
  exact pe_ix ixM ((sE0 a R h.1.1).1) ((sE0 b R h.1.2).1) (ix_plain h.2)
 | .call f es,B,X,sc,e,R,h=>by
  refine⟨?_,trivial⟩
  refine v16_k h fun x w1 e r pos e0 g=>?_
  clear h
  subst e0
  revert g
  intro h
  simp only[Bool.and_eq_true,decide_eq_true_eq,Bool.not_eq_true']at h
  obtain⟨⟨⟨⟨⟨rfl,h1⟩,h2⟩,h3⟩,hh⟩,h6⟩:=h
  simp only[tE]
  have ht:tld B=true->bang x∉B:=fun t m=>by rw[t,decide_eq_true m]at h6;cases h6
  cases hf:C.fs x with
  |none=>exact fun _ _ _ _ _ _ q=>q.elim
  |some sp=>
   obtain⟨f,fd,ps,k,CX,F,hr,hm,hk,hb,_,hx⟩:=R.fn x sp hf hh ht
   have hs:notStar e=true:=by
    cases es with
    |nil=>exact no_tt h2
    |cons c r=>exact(band (band h2).1).2
   have hp:(backTo pos (starEach r X.env)).any (·.1)=false:=by
    have q:=mA_star (env:=X.env) (pos:=pos) h2
    rw[star_cons hs]at q
    exact q
   exact pe_callS F hr (R.glb h1) hm hk hb .nil hx (sA es R h2) h3 (star_cons hs) hp
 | .blt f es,B,X,sc,e,R,h=>by
  refine⟨?_,trivial⟩
  refine v16_k h fun x w1 e r pos e0 g=>?_
  clear h
  subst e0
  revert g
  intro h
  simp only[Bool.and_eq_true,decide_eq_true_eq,Bool.or_eq_true,Bool.not_eq_true']at h
  obtain⟨⟨⟨⟨rfl,h1⟩,h2⟩,h4⟩,h5⟩:=h
  have hcc:X.calm=true\/f=.isinstance:=h5.imp R.calm id
  simp only[tE]
  have hs:notStar e=true:=by
   cases es with
   |nil=>exact no_tt h2
   |cons c r=>exact(band (band h2).1).2
  have hp:(backTo pos (starEach r X.env)).any (·.1)=false:=by
   have q:=mA_star (env:=X.env) (pos:=pos) h2
   rw[star_cons hs]at q
   exact q
  rw[<- R.hK]
  have hn:bltName f≠"__name__"/\(bltName f == ("__debug__":Str))=false:=by cases f<;>decide +kernel
  cases blt_is f with
  |fn id hv hc=>exact pe_callB (hc X hcc) (R.glb h1) (R.blt _ h4) hv (sA es R h2) hn.1 hn.2 (star_cons hs) hp
  |ty T hv hc=>exact pe_callTy (hc X hcc) (R.glb h1) (R.blt _ h4) hv (sA es R h2) hn.1 hn.2 (star_cons hs) hp
 | .dnew,B,X,sc,e,R,h=>by
  refine⟨?_,trivial⟩
  refine v18_k h fun w1 e0 g=>?_
  clear h
  subst e0
  revert g
  intro h
  simp only[tE];exact pe_dnewK
 | .dsi m n,B,X,sc,e,R,h=>by
  refine⟨?_,trivial⟩
  refine v72_k h fun a b w1 w2 w3 w4 w5 e0 g=>?_
  clear h
  subst e0
  revert g
  intro h
  simp only[Bool.and_eq_true,decide_eq_true_eq]at h
  obtain⟨rfl,rfl⟩:=h
  simp only[tE]
  intro pins s σ H Q I q
  refine pe_disp (trs:=[(tC (.int m),tC (.int n))]) (pps_cons pe_int pe_int pps_nil) rfl rfl (by simp) (by simp) pins s σ H Q I ?_
  intro p hp
  refine⟨upd_same,[(.inl m,.int n)],rfl,by simp,?_⟩
  rw[upd_upd]
  exact q p hp
 | .dix a b,B,X,sc,e,R,h=>by
  refine⟨?_,trivial⟩
  refine v14_k h fun ea eb w1 e0 g=>?_
  clear h
  subst e0
  revert g
  intro h
  simp only[Bool.and_eq_true]at h
  simp only[tE]
  exact pe_dget R.hu1 (sE0 a R h.1.1).1 (sE0 b R h.1.2).1 (ix_plain h.2)
 | .dg2 a b c,B,X,sc,e,R,h=>by
  refine⟨?_,trivial⟩
  refine v21_k h fun eo nm apos y z pos e0 g=>?_
  clear h
  subst e0
  revert g
  intro h
  simp only[Bool.and_eq_true,decide_eq_true_eq]at h
  obtain⟨⟨⟨⟨⟨⟨⟨rfl,h1⟩,h2⟩,h3⟩,h4⟩,h5⟩,h6⟩,h7⟩:=h
  simp only[tE]
  have e2:starEach [y,z] X.env=[(false,eval y X.env),(false,eval z X.env)]:=by rw[star_cons h5,star_cons h7];rfl
  refine pe_dget2 R.hu1 (sE0 a R h1).1 (sE0 b R h4).1 (sE0 c R h6).1 ⟨base_ok h2,?_,h3,?_⟩
  .rw[e2];rfl
  .rw[e2];rfl
 | .met m o es,B,X,sc,e,R,h=>by
  refine⟨?_,trivial⟩
  refine v17_k h fun eo nm apos args pos e0 g=>?_
  clear h
  subst e0
  revert g
  intro h
  simp only[Bool.and_eq_true,decide_eq_true_eq]at h
  obtain⟨⟨⟨⟨⟨rfl,h1⟩,h2⟩,h3⟩,h4⟩,h5⟩:=h
  simp only[tE]
  rw[<- R.hK]
  obtain⟨id,M⟩:=met_is m
  cases args with
  |nil=>
   cases es with
   |cons c r=>exact no_tt h4
   |nil=>
    simp only[tA]
    exact pe_bm0 M.pa M.slot M.ty (M.h X) ((sE0 o R h1).1) (base_ok h2) h3
  |cons a r=>
   have hs:notStar a=true:=by
    cases es with
    |nil=>exact no_tt h4
    |cons c r=>exact(band (band h4).1).2
   have hq:=mA_star (env:=X.env) (pos:=pos) h4
   have hp:(backTo pos (starEach r X.env)).any (·.1)=false:=by
    rw[star_cons hs]at hq
    exact hq
   refine pe_bm M.pa M.slot M.ty (M.h X) ((sE0 o R h1).1) (sA es R h4) (base_ok h2) ?_ h3 (star_cons hs) hp
   have e1:(backTo pos (starEach (a :: r) X.env)).all (fun x=>!x.1)=true:=by
    rw[List.all_eq_true]
    intro x hx
    rw[List.any_eq_false]at hq
    simpa using hq x hx
   rw[e1]
   show(true&&true&&decide ((a :: r).length+0+0<30))=true
   simp only[Bool.true_and,decide_eq_true_eq]
   omega
 | .comp elt own t it q .nil,B,X,sc,e,R,h=>by
  have D:CompX C X e (.comp elt own t it q .nil):=by
   obtain⟨ee,tg,iter,ifs,scope,pos,rfl,hh,hsc,helt,hown,h1,h2,h3,h4,h5⟩:=inv1 h
   refine⟨tg,iter,ifs,fun D env=>do let _ <- call (.builtin "list.append") [.ref D,<- eval ee env],scope,_,⟨R.compSc hsc,?_,⟨[],rfl⟩,folded_ok h3,R.calm hh,fun _ _ _=>⟨rfl,rfl⟩,fun _ _ _ _=>⟨rfl,rfl⟩,fun _ _ _ _ _=>rfl,fun _ _ _ _ _=>rfl,gext_of hown,?_⟩,sI it R h1 h2,rfl,fun _=>rfl,fun _ _ _=>⟨_,rfl⟩⟩
   .rw[R.hN];exact(scOk_of hsc).2.2.2.2
   .intro s0 H0 ex D
    have R':=R.comp hh hsc s0 H0 ex
    refine⟨sG t R' h4,sQo q R' h5,[],by simp,?_⟩
    simp only[tR]
    exact run_emit rfl (sE0 elt R' helt).1
  refine⟨?_,D⟩
  obtain⟨tg,iter,ifs,nx,scope,pos,D,hi,he,_⟩:=D
  simp only[tE]
  exact pe_comp D hi he
 | .comp elt own t it q (.cons _ _ _ _ _),B,X,sc,e,R,h=>(inv4 h).elim
termination_by structural c=>c
theorem sA {C:Rc}:∀(es:Ces) {B:List Str} {X:Cx} {sc:Scope} {xs:List Expr},Rok C B X sc->mA C.N B sc es xs=true->PA X xs (tA C es)
 | .nil,B,X,sc,xs,R,h=>by
  refine v29_k h fun e0 g=>?_
  clear h
  subst e0
  revert g
  intro h
  simp only[tA]
  exact pa_nil
 | .cons e r,B,X,sc,xs,R,h=>by
  refine v30_k h fun x xs e0 g=>?_
  clear h
  subst e0
  revert g
  intro h
  simp only[Bool.and_eq_true]at h
  simp only[tA]
  exact pa_cons ((sE0 e R h.1.1).1) (sA r R h.2) (star_cons h.1.2)
termination_by structural c=>c
theorem sQ {C:Rc}:∀(q:Cq) {B:List Str} {X:Cx} {sc:Scope} {e:Expr},Rok C B X sc->mQ C.N B sc q e=true->PT X e (tQ C q)/\((∃op vs pos,e=.BoolOp op vs pos)->PW X e (tQ C q))
 | .val c,B,X,sc,e,R,h=>by
  replace h:=band h
  refine⟨?_,fun⟨op,vs,pos,z⟩=>?_⟩
  .simp only[tQ]
   rw[<- R.hK]
   exact pt_truth (sE0 c R h.1).1 (plainT_ok h.2)
  .subst z;exact absurd h.2 (by simp[plainT])
 | .cmw k a b,B,X,sc,e,R,h=>by
  refine v9_k h fun ea op' eb w1 e0 g=>?_
  clear h
  subst e0
  revert g
  intro h
  simp only[Bool.and_eq_true,decide_eq_true_eq]at h
  obtain⟨⟨⟨rfl,h1⟩,h2⟩,h3⟩:=h
  simp only[tQ]
  exact⟨pt_cmpR (zf_ok R.hu _) (sE0 a R h1).1 (sE0 b R h2).1 (marks_ok h3),fun⟨op,vs,pos,z⟩=>by cases z⟩
 | .not q,B,X,sc,e,R,h=>by
  refine v8_k h fun y w1 e0 g=>?_
  clear h
  subst e0
  revert g
  intro h
  simp only[tQ]
  exact⟨pt_not (sQ q R h).1,fun⟨op,vs,pos,z⟩=>by cases z⟩
 | .and a b,B,X,sc,e,R,h=>by
  replace h:=vAnd_of h
  rcases h with⟨x,y,pos,rfl,h⟩|⟨x,y,z,r,pos,rfl,h⟩
  .simp only[Bool.and_eq_true]at h
   simp only[tQ]
   have w:PW X (.BoolOp .And [x,y] pos) (tAnd (tQ C a) (tQ C b)):=pw_and (sQ a R h.1).1 (pw_and1 (sQ b R h.2).1)
   exact⟨w.pt,fun _=>w⟩
  .simp only[Bool.and_eq_true]at h
   simp only[tQ]
   have w:=pw_and (sQ a R h.1).1 ((sQ b R h.2).2 ⟨_,_,_,rfl⟩)
   exact⟨w.pt,fun _=>w⟩
 | .or a b,B,X,sc,e,R,h=>by
  replace h:=vOr_of h
  rcases h with⟨x,y,pos,rfl,h⟩|⟨x,y,z,r,pos,rfl,h⟩
  .simp only[Bool.and_eq_true]at h
   simp only[tQ]
   have w:PW X (.BoolOp .Or [x,y] pos) (tOr (tQ C a) (tQ C b)):=pw_or (sQ a R h.1).1 (pw_or1 (sQ b R h.2).1)
   exact⟨w.pt,fun _=>w⟩
  .simp only[Bool.and_eq_true]at h
   simp only[tQ]
   have w:=pw_or (sQ a R h.1).1 ((sQ b R h.2).2 ⟨_,_,_,rfl⟩)
   exact⟨w.pt,fun _=>w⟩
 | .cmp op a b,B,X,sc,e,R,h=>by
  refine v9_k h fun ea op' eb w1 e0 g=>?_
  clear h
  subst e0
  revert g
  intro h
  simp only[Bool.and_eq_true,decide_eq_true_eq]at h
  obtain⟨⟨⟨rfl,h1⟩,h2⟩,h3⟩:=h
  simp only[tQ]
  rw[<- R.hK]
  exact⟨pt_cmpR (cmp_ok R.hu _) (sE0 a R h1).1 (sE0 b R h2).1 (marks_ok h3),fun⟨op,vs,pos,z⟩=>by cases z⟩
 | .chn op1 op2 a b c,B,X,sc,e,R,h=>by
  refine v10_k h fun ea o1 o2 eb ec w1 e0 g=>?_
  clear h
  subst e0
  revert g
  intro h
  simp only[Bool.and_eq_true,decide_eq_true_eq]at h
  obtain⟨⟨⟨⟨⟨rfl,rfl⟩,h1⟩,h2⟩,h3⟩,h4⟩:=h
  simp only[tQ]
  rw[<- R.hK]
  exact⟨pt_chain (cmp_ok R.hu _) (cmp_ok R.hu _) (sE0 a R h1).1 (sE0 b R h2).1 (sE0 c R h3).1 (last_ok h4),fun⟨op,vs,pos,z⟩=>by cases z⟩
termination_by structural c=>c
theorem sQo {C:Rc}:∀(q:Cqo) {B:List Str} {X:Cx} {sc:Scope} {es:List Expr},Rok C B X sc->mQo C.N B sc q es=true->PTs X es (tQo C q)
 | .none,B,X,sc,es,R,h=>by
  refine v29_k h fun e0 g=>?_
  clear h
  subst e0
  revert g
  intro h
  simp only[tQo];exact pts_nil
 | .some q,B,X,sc,es,R,h=>by
  refine v31_k h fun e e0 g=>?_
  clear h
  subst e0
  revert g
  intro h
  simp only[tQo];exact pts_one (sQ q R h).1
termination_by structural c=>c
theorem sO {C:Rc}:∀(o:Co) {B:List Str} {X:Cx} {sc:Scope} {e:Option Expr},Rok C B X sc->mO C.N B sc o e=true->PO X e (tO C o)
 | .none,B,X,sc,e,R,h=>by
  refine v32_k h fun e0 g=>?_
  clear h
  subst e0
  revert g
  intro h
  simp only[tO];exact po_none
 | .some c,B,X,sc,e,R,h=>by
  refine v33_k h fun y e0 g=>?_
  clear h
  subst e0
  revert g
  intro h
  simp only[tO];exact po_some (sE0 c R h).1
termination_by structural c=>c
theorem sI {C:Rc}:∀(i:Ci) {B:List Str} {X:Cx} {sc:Scope} {x tg:Expr},Rok C B X sc->mI C.N B sc i x=true->zipT i tg=true->PI X tg x (tI C i)
 | .val c,B,X,sc,x,tg,R,h,_=>by
  simp only[tI]
  rw[<- R.hK]
  exact pi_val (sE0 c R h).1
 | .range1 a,B,X,sc,x,tg,R,h,_=>by
  refine v23_k h fun n w1 y w2 e0 g=>?_
  clear h
  subst e0
  revert g
  intro h
  simp only[Bool.and_eq_true,decide_eq_true_eq]at h
  obtain⟨⟨⟨⟨rfl,h1⟩,h2⟩,h3⟩,h4⟩:=h
  simp only[tI]
  exact pi_range1 (R.glb h1) (R.blt _ h2) (pa_cons (sE0 a R h3).1 pa_nil (star_cons h4)) (star_cons h4)
 | .range2 a b,B,X,sc,x,tg,R,h,_=>by
  refine v34_k h fun n w1 y z w2 e0 g=>?_
  clear h
  subst e0
  revert g
  intro h
  simp only[Bool.and_eq_true,decide_eq_true_eq]at h
  obtain⟨⟨⟨⟨⟨⟨rfl,h1⟩,h2⟩,h3⟩,h4⟩,h5⟩,h6⟩:=h
  simp only[tI]
  have e2:starEach [_] X.env=[(false,eval _ X.env)]:=star_cons (es:=[]) h6
  exact pi_range2 (R.glb h1) (R.blt _ h2) (pa_cons (sE0 a R h3).1 (pa_cons (sE0 b R h5).1 pa_nil (star_cons h6)) (star_cons h4)) (by rw[star_cons h4,e2]) e2
 | .zip a b,B,X,sc,x,tg,R,h,hz=>by
  refine v34_k h fun n w1 y z w2 e0 g=>?_
  clear h
  subst e0
  revert g
  intro h
  simp only[Bool.and_eq_true,decide_eq_true_eq]at h
  obtain⟨⟨⟨⟨⟨⟨rfl,h1⟩,h2⟩,h3⟩,h4⟩,h5⟩,h6⟩:=h
  simp only[tI]
  rw[<- R.hK]
  have e2:starEach [_] X.env=[(false,eval _ X.env)]:=star_cons (es:=[]) h6
  cases tg with
  |Tuple es k p=>exact pi_zip (R.glb h1) (R.blt _ h2) (pa_cons (sE0 a R h3).1 (pa_cons (sE0 b R h5).1 pa_nil (star_cons h6)) (star_cons h4)) (by rw[star_cons h4,e2]) e2
  |_=>cases hz
 | .enum a,B,X,sc,x,tg,R,h,hz=>by
  refine v23_k h fun n w1 y w2 e0 g=>?_
  clear h
  subst e0
  revert g
  intro h
  simp only[Bool.and_eq_true,decide_eq_true_eq]at h
  obtain⟨⟨⟨⟨rfl,h1⟩,h2⟩,h3⟩,h4⟩:=h
  simp only[tI]
  rw[<- R.hK]
  cases tg with
  |Tuple es k p=>exact pi_enum (R.glb h1) (R.blt _ h2) (pa_cons (sE0 a R h3).1 pa_nil (star_cons h4)) (star_cons h4)
  |_=>cases hz
 | .rev a,B,X,sc,x,tg,R,h,_=>by
  refine v23_k h fun n w1 y w2 e0 g=>?_
  clear h
  subst e0
  revert g
  intro h
  simp only[Bool.and_eq_true,decide_eq_true_eq]at h
  obtain⟨⟨⟨⟨rfl,h1⟩,h2⟩,h3⟩,h4⟩:=h
  simp only[tI]
  rw[<- R.hK]
  exact pi_rev (R.glb h1) (R.blt _ h2) (pa_cons (sE0 a R h3).1 pa_nil (star_cons h4)) (star_cons h4)
 | .dk c,B,X,sc,x,tg,R,h,_=>by
  simp only[tI]
  exact pi_dct (sE0 c R h).1
termination_by structural c=>c
theorem sG {C:Rc}:∀(t:Ct) {B:List Str} {X:Cx} {sc:Scope} {e:Expr},Rok C B X sc->mT C.N B sc t e=true->PG X e (tG C t)
 | .name i,B,X,sc,e,R,h=>by
  refine v1_k h fun x w1 e0 g=>?_
  clear h
  subst e0
  revert g
  intro h
  simp only[Bool.and_eq_true]at h
  obtain⟨h1,h2,h3⟩:=nameOk_of h.1
  obtain⟨h4,h5⟩:=R.locb h.2
  simp only[tG]
  exact pg_name (by rw[R.hN];exact R.nd) (by rw[R.hN];exact h1) h4 h5
 | .tup ts,B,X,sc,e,R,h=>by
  refine v12_k h fun es w1 w2 e0 g=>?_
  clear h
  subst e0
  revert g
  intro h
  simp only[tG]
  rw[<- R.hK]
  simp only[Bool.and_eq_true,Bool.not_eq_true']at h
  exact pg_tup (R.calm h.2) (sGs ts R h.1) (assign_star h.1).1 (assign_star h.1).2
 | .sub o i,B,X,sc,e,R,h=>by
  refine v14_k h fun eo ei w1 e0 g=>?_
  clear h
  subst e0
  revert g
  intro h
  simp only[Bool.and_eq_true]at h
  simp only[tG]
  exact pg_sub (sE0 o R h.1.1).1 (sE0 i R h.1.2).1 set_list (asg_sub h.2)
termination_by structural c=>c
theorem sGs {C:Rc}:∀(ts:Cts) {B:List Str} {X:Cx} {sc:Scope} {es:List Expr},Rok C B X sc->mTs C.N B sc ts es=true->PGs X es (tGs C ts)
 | .nil,B,X,sc,es,R,h=>by
  refine v29_k h fun e0 g=>?_
  clear h
  subst e0
  revert g
  intro h
  simp only[tGs];exact pgs_nil
 | .cons t r,B,X,sc,es,R,h=>by
  refine v30_k h fun x xs e0 g=>?_
  clear h
  subst e0
  revert g
  intro h
  simp only[Bool.and_eq_true]at h
  simp only[tGs]
  exact pgs_cons (sG t R h.1.1) (sGs r R h.2) (assign_each h.1.2)
termination_by structural c=>c
end
theorem sE {C:Rc} {B:List Str} (c:Ce) {X:Cx} {sc:Scope} {e:Expr} (R:Rok C B X sc) (h:mE C.N B sc c e=true):PE X e (tE C c):=(sE0 c R h).1
end R3
set_option maxHeartbeats 4000000
namespace R3
open PySem PySem.Spec PyProof.Rows L2
noncomputable def noCompX:Expr->Bool
 | .ListComp ..=>false
 | .SetComp ..=>false
 | .DictComp ..=>false
 |_=>true
theorem swaps_no {x tg:Expr} {l:Nat} {env:Env} (h:noCompX x=true):swapsWithSole [tg] x l env=pure false:=by
 cases x<;>first|rfl|cases h
theorem swaps_none {x:Expr} {l:Nat} {env:Env} (h:noCompX x=true):swapsWith x none l env=pure false:=by
 cases x<;>first|rfl|cases h
theorem mE_comp {N B:List Str} {sc:Scope} {c:Ce} {x:Expr} (h:mE N B sc c x=true) (hd:isDcx c=false) (hx:noCompX x=false):∃elt own t it q r,c=.comp elt own t it q r/\∃ee gens scope pos,x=.ListComp ee gens scope pos:=by
 cases x<;>first|(simp[noCompX]at hx;done)|skip
 .cases c<;>first|(exact no_tt h)|(cases hd;done)|exact⟨_,_,_,_,_,_,rfl,_,_,_,_,rfl⟩
 .cases c<;>first|(exact no_tt h)|(cases hd;done)|(rename_i r;cases r<;>first|(exact no_tt h)|(cases hd;done)|(rename_i r;cases r<;>first|(exact no_tt h)|(cases hd;done)|(rename_i r;cases r<;>exact no_tt h)))
 .cases c<;>first|(exact no_tt h)|(cases hd;done)|(rename_i r;cases r<;>first|(exact no_tt h)|(cases hd;done)|(rename_i r;cases r<;>first|(exact no_tt h)|(cases hd;done)|(rename_i r;cases r<;>exact no_tt h)))
noncomputable def isStar:Expr->Bool
 | .Starred ..=>true
 |_=>false
theorem nst {e:Expr} (h:notStar e=true):isStar e=false:=by
 cases e<;>first|rfl|cases h
theorem swapped_two {x y:Str} {px py pt pt2:Pos} {kt k2:Nat} {ea eb:Expr} {env:Env} (hb:env.scope.kind=.function) (kx:env.kindOf x=some .local) (ky:env.kindOf y=some .local) (hxy:x≠y) (hl:px.line=py.line) (h8:notStar ea=true) (h9:notStar eb=true)
  (h11:(foldedForSure 8 ea&&foldedForSure 8 eb)=false) (h12:(constantsAlone 8 ea&&constantsAlone 8 eb)=false):swappedStores [.Tuple [.Name x px,.Name y py] kt pt] (.Tuple [ea,eb] k2 pt2) env=pure (some [x,y]):=by
 have hbk:env.blockKind=.function:=by unfold Env.blockKind;rw[hb];rfl
 have p1:(Expr.Name x px).pos=px:=rfl
 have p2:(Expr.Name y py).pos=py:=rfl
 have hyx:(y == x)=false:=by simpa using fun z=>hxy z.symm
 have s1:[ea,eb].any isStar=false:=by
  rw[List.any_cons,List.any_cons,List.any_nil,nst h8,nst h9]
  rfl
 have s2:[ea,eb].all (foldedForSure 8)=false:=by
  rw[List.all_cons,List.all_cons,List.all_nil,Bool.and_true];exact h11
 have s3:[ea,eb].all (constantsAlone 8)=false:=by
  rw[List.all_cons,List.all_cons,List.all_nil,Bool.and_true];exact h12
 have s4:([x,y].eraseDups).length=2:=by
  simp[List.eraseDups_cons,hxy,hyx]
 unfold swappedStores
 dsimp only
 refine(if_neg ?_).trans ((if_neg (Bool.eq_false_iff.mp s1)).trans ?_)
 .simp[hbk]
 rw[s2,s3]
 simp[kx,ky,p1,p2,hl,List.filterMap_cons,s4]
theorem one_assign {tg:Expr} {env:Env} (h:notStar tg=true):(assignEach [tg] env).map (·.2)=[assign tg env]:=by
 cases tg<;>first|rfl|cases h
noncomputable def notPair:Expr->Expr->Bool
 | .Tuple ..,.Tuple ..=>false
 | .List ..,.Tuple ..=>false
 |_,_=>true
theorem swapped_no {tg x:Expr} {env:Env} (h:notPair tg x=true):swappedStores [tg] x env=pure none:=by
 cases tg<;>first|rfl|(cases x<;>first|rfl|cases h)
theorem swapped_fold {tg:Expr} {vs:List Expr} {k:Nat} {pos:Pos} {env:Env} (h:vs.all (foldedForSure 8)=true):swappedStores [tg] (.Tuple vs k pos) env=pure none:=by
 have key:∀ts:List Expr,swappedStores [.Tuple ts 0 pos] (.Tuple vs k pos) env=pure none:=by
  intro ts
  unfold swappedStores
  dsimp only
  split
  .rfl
  .split
   .rfl
   .split
    .rfl
    .rfl
 cases tg<;>first|rfl|exact key _
theorem mT_list {N B:List Str} {sc:Scope} {t:Ct} {a:List Expr} {p:Pos} (h:mT N B sc t (.List a p)=true):False:=by
 cases t<;>exact no_tt h
section
variable {C:Rc} {B:List Str} {X:Cx} {sc:Scope}
theorem Rok.suite (R:Rok C B X sc) (e:Addr):Rok { C with xk:=fun _=>E0 } ("~" :: "^" :: B) (X.inX e) sc:=by
 have t1:tld ("~" :: "^" :: B)=true:=tld_cons
 have t2:hat ("~" :: "^" :: B)=true:=decide_eq_true (List.mem_cons_of_mem _ List.mem_cons_self)
 refine⟨R.hN,R.nd,R.hK,PassesOwn.never,(fun z=>by rw[t2]at z;cases z),R.hu,R.gd,R.loc,R.cel,R.fre,R.glo,(fun _ _ _ z=>by rw[t2]at z;cases z),fun x hx=>?_,R.mrk,R.cls,(fun z=>by rw[t1]at z;cases z),(fun z=>by rw[t1]at z;cases z),(fun z=>by rw[t1]at z;cases z)⟩
 rcases List.mem_cons.mp hx with rfl|hx
 .exact R.mrk.1
 .rcases List.mem_cons.mp hx with rfl|hx
  .exact R.mrk.2.1
  .exact R.blt x hx
end
set_option maxHeartbeats 4000000
mutual
theorem sS:∀(c:Cs) {C:Rc} {B:List Str} {X:Cx} {sc:Scope} {s:Stmt},Rok C B X sc->X.env.scope.kind=.function->mS C.N B sc c s=true->PS X s (tS C c)
 | .expr e,C,B,X,sc,s,R,hk,h=>by
  refine v36_k h fun x w1 e0 g=>?_
  clear h
  subst e0
  revert g
  intro h
  simp only[Bool.and_eq_true,Bool.not_eq_true']at h
  simp only[tS]
  refine ps_expr (sE e R h.1.1) (swaps_none ?_)
  cases hx:noCompX x with
  |true=>rfl
  |false=>
   obtain⟨elt,own,t,it,q,r,rfl,_⟩:=mE_comp h.1.1 h.2 hx
   exact absurd h.1.2 (by simp)
 | .ret e,C,B,X,sc,s,R,hk,h=>by
  refine v37_k h fun x w1 e0 g=>?_
  clear h
  subst e0
  revert g
  intro h
  simp only[tS]
  exact ps_ret (sE e R h)
 | .asg t e,C,B,X,sc,s,R,hk,h=>by
  refine v39_k h fun tg x pos e0 g=>?_
  clear h
  subst e0
  revert g
  intro h
  simp only[Bool.and_eq_true]at h
  obtain⟨⟨⟨⟨h1,h0⟩,h2⟩,h3⟩,h4⟩:=h
  simp only[Bool.not_eq_true']at h0
  simp only[tS]
  have hw:swappedStores [tg] x X.env=pure none:=by
   cases tg with
   |Tuple a b c=>cases x<;>first|exact swapped_no rfl|exact swapped_fold h4|(simp at h4)
   |List a b=>exact(mT_list h2).elim
   |_=>exact swapped_no rfl
  cases hx:noCompX x with
  |true=>exact ps_asg (sE e R h1) (sG t R h2) (swaps_no hx) hw (one_assign h3)
  |false=>
   obtain⟨elt,own,t',it,q,r,rfl,ee,gens,scope,p2,rfl⟩:=mE_comp h1 h0 hx
   have D:=(sE0 _ R h1).2
   obtain⟨tg',iter,ifs,nx,scope',pos',D,hi,he,hu,hsw⟩:=D
   cases t with
   |name i=>
    cases tg with
    |Name y py=>
     obtain⟨b,hb⟩:=hsw y py pos.line
     cases b with
     |true=>
      replace h2:=band h2
      obtain⟨g1,g2,g3⟩:=nameOk_of h2.1
      obtain⟨g4,g5⟩:=R.locb h2.2
      simp only[tE,tG]
      exact ps_setcomp D hi (by rw[R.hN];exact R.nd) (by rw[R.hN];exact g1) g4 g5 (hu _) hb
     |false=>exact ps_asg (sE _ R h1) (sG _ R h2) hb hw (one_assign h3)
    |_=>exact no_tt h2
   |tup ts=>
    cases tg with
    |Tuple a b c=>simp at h4
    |_=>exact no_tt h2
   |sub o i=>
    cases tg with
    |Subscript a b c=>exact ps_asg (sE _ R h1) (sG _ R h2) rfl hw (one_assign h3)
    |_=>exact no_tt h2
 | .par i j a b,C,B,X,sc,s,R,hk,h=>by
  refine v43_k h fun x px y py kt pt ea eb k2 pt2 pos e0 g=>?_
  clear h
  subst e0
  revert g
  intro h
  simp only[Bool.and_eq_true,decide_eq_true_eq,Bool.not_eq_true',beq_iff_eq]at h
  obtain⟨⟨⟨⟨⟨⟨⟨⟨⟨⟨⟨⟨h1,h2⟩,h3⟩,h4⟩,h5⟩,h6⟩,h7⟩,h8⟩,h9⟩,h10⟩,h11⟩,h12⟩,hh⟩:=h
  obtain⟨g1,g2,g3⟩:=nameOk_of h1
  obtain⟨f1,f2,f3⟩:=nameOk_of h2
  simp only[tS]
  have lx:=R.loc x h4
  have ly:=R.loc y h5
  refine ps_par (R.calm hh) (by rw[R.hN];exact R.nd) (by rw[R.hN];exact g1) (by rw[R.hN];exact f1) h3 lx ly (pa_cons (sE a R h6) (pa_cons (sE b R h7) pa_nil (star_cons h9)) (star_cons h8)) ?_
  have hxy:x≠y:=fun z=>h3 (nodup_ix R.nd g1 (z ▸ f1))
  exact swapped_two hk lx ly hxy h10 h8 h9 h11 h12
 | .raise_,C,B,X,sc,s,R,hk,h=>by
  simp only[tS]
  exact ps_never
 | .dput o i e,C,B,X,sc,s,R,hk,h=>by
  refine v48_k h fun eo ei w1 ee w2 e0 g=>?_
  clear h
  subst e0
  revert g
  intro h
  simp only[Bool.and_eq_true]at h
  obtain⟨⟨⟨⟨h1,h2⟩,h3⟩,h4⟩,h5⟩:=h
  simp only[tS]
  refine ps_dput R.hu1 (sE o R h1) (sE i R h2) (sE e R h4) ?_
  cases ee<;>first|rfl|cases h5
 | .aug i sub e,C,B,X,sc,s,R,hk,h=>by
  refine v49_k h fun x w1 op ee w2 e0 g=>?_
  clear h
  subst e0
  revert g
  intro h
  simp only[Bool.and_eq_true,decide_eq_true_eq]at h
  obtain⟨⟨⟨h1,h2⟩,h3⟩,rfl⟩:=h
  obtain⟨g1,g2,g3⟩:=nameOk_of h1
  obtain⟨g4,g5⟩:=R.locb h2
  simp only[tS]
  cases sub with
  |true=>exact ps_aug (by rw[R.hN];exact R.nd) (by rw[R.hN];exact g1) g4 (sE e R h3) ip_sub g5
  |false=>exact ps_aug (by rw[R.hN];exact R.nd) (by rw[R.hN];exact g1) g4 (sE e R h3) ip_add g5
 | .ite q a b,C,B,X,sc,s,R,hk,h=>by
  refine v50_k h fun x ss rs w1 e0 g=>?_
  clear h
  subst e0
  revert g
  intro h
  simp only[Bool.and_eq_true]at h
  simp only[tS]
  exact ps_if (sQ q R h.1.1).1 (sSs a R hk h.1.2) (sSs b R hk h.2)
 | .whl q b,C,B,X,sc,s,R,hk,h=>by
  refine v51_k h fun x ss w1 e0 g=>?_
  clear h
  subst e0
  revert g
  intro h
  simp only[Bool.and_eq_true]at h
  simp only[tS]
  exact ps_while R.own (sQ q R h.1).1 (sSs b R hk h.2)
 | .for_ t it b,C,B,X,sc,s,R,hk,h=>by
  refine v52_k h fun tg iter ss w1 e0 g=>?_
  clear h
  subst e0
  revert g
  intro h
  simp only[Bool.and_eq_true,Bool.not_eq_true']at h
  obtain⟨⟨⟨⟨⟨h1,h2⟩,h3⟩,h4⟩,h5⟩,hh⟩:=h
  simp only[tS]
  exact ps_for R.own (R.calm hh) (sI it R h1 h2) (sG t R h4) (sSs b R hk h5) (folded_ok h3)
theorem sSs:∀(c:Css) {C:Rc} {B:List Str} {X:Cx} {sc:Scope} {ss:List Stmt},Rok C B X sc->X.env.scope.kind=.function->mSs C.N B sc c ss=true->PSs X ss (tSs C c)
 | .nil,C,B,X,sc,ss,R,hk,h=>by
  refine v56_k h fun e0 g=>?_
  clear h
  subst e0
  revert g
  intro h
  simp only[tSs];exact pss_nil
 | .cons c r,C,B,X,sc,ss,R,hk,h=>by
  refine v57_k h fun x xs e0 g=>?_
  clear h
  subst e0
  revert g
  intro h
  simp only[Bool.and_eq_true]at h
  simp only[tSs]
  exact pss_cons (sS c R hk h.1) (sSs r R hk h.2)
end
section
variable {P:Program} {w:World} {K:W.Frag} {mg:Str->Option Value} {base:Heap}
structure Ask (P:Program) (w:World) (K:W.Frag) (mg:Str->Option Value) (base:Heap) (k:Nat) (C:Rc):Prop where
 fs:∀y sp',C.fs y=some sp'->∃f' fd' ps',(FnOk P w K mg base CX0 k f' fd' ps' sp'\/FnOk P w K mg base (CX1 P w mg) k f' fd' ps' sp'/\bang y∈C.B)/\mg y=some (.ref f')/\W.keepIn K (.ref f')=true/\Binds K fd' ps' []
 B:∀y∈C.B,mg y=none
 mrk:mg "~"=none/\mg "^"=none/\mg "%"=none
 cl:∀c Ca,C.cl c=some Ca->mg c=some (.ref Ca)/\W.nsIn K mainGlobals c=some (some (.ref Ca))
 nt:tld C.B=false
 nh:hat C.B=false
theorem code_ok {x qual:Str} {st:Stmt} {f:Addr} {fd:FuncData} {ps:List Str} {k:Nat} {sp:Sp} (F:Fun K x qual st f fd) (C:Rc) (S:FnScope C.N ps (defScope st)) (hK:C.K=K) (code:Css) (hm:mSs C.N C.B (defScope st) code (defBody st)=true)
  (len:∀vs H Q E,sp vs H Q E->vs.length=ps.length) (ask:Ask P w K mg base k C) (hxk:C.xk=fun _=>E0)
  (hbody:∀vs H Q E,sp vs H Q E->tSs C code { nx:=fun _ H'=>Q .non H',rt:=Q } (start C.N vs) H):FnOk P w K mg base CX0 (k+1) f fd ps sp:=by
 refine F.ok S len fun cdv A outer s H vs Q E hr h=>⟨_,sSs code (sc:=defScope st) (B:=C.B) ?_ S.kind hm,hbody vs H Q E h⟩
 refine⟨rfl,S.nd,hK.symm,PassesOwn.never,fun _=>rfl,hr.units,hr.gd,fun _ e=>e,fun _ e=>⟨e,rfl⟩,fun _ e=>.inr e,fun _ e=>e,fun y sp' e _ _=>?_,ask.B,ask.mrk,ask.cl,fun _=>⟨rfl,fun _=>rfl,rfl,rfl⟩,fun _=>ask.nh,fun _ _ nm Ca pins σ H s e t _ _ _ _ _ _ z=>?_⟩
 .obtain⟨f',fd',ps',h1,h2,h3,h4⟩:=ask.fs y sp' e
  rcases h1 with h1|⟨h1,hb⟩
  .exact⟨f',fd',ps',k,CX0,h1,hr,h2,h3,h4,.inl rfl,passS0⟩
  .refine⟨f',fd',ps',k,_,h1,hr,h2,h3,h4,.inr ⟨rfl,hb⟩,?_⟩
   rintro pins σ H s e s' I ⟨ea,T,Ca,nm,H',_,_,_,_,_,_,_,_,_,_,_,z⟩
   rw[hxk]at z
   exact z.elim
 .rw[hxk]at z
  exact z.elim
end
def BoxAt (a:Addr) (k:Nat) (h:Heap):Prop:=∃(x y z:Int) (t1 t2 t3:Tok) (n:Nat),h.get? a=some { cls:=.type "list",data:=.seq #[.int x t1,.int y t2,.int z t3] n }/\0<=x/\0<=y/\y<2 ^ 62/\0<=z/\z<=k
noncomputable def BoxO (a:Addr) (k:Nat):HO:=.ext (BoxAt a k)
noncomputable def BoxL (x y z:Int):HO:=.lst [.int x,.int y,.int z]
theorem box_le {a:Addr} {n k:Nat} (e:BoxO a n=BoxO a k):n<=k:=by
 have e1:BoxAt a n=BoxAt a k:=HO.ext.inj e
 let o:Obj:={ cls:=.type "list",data:=.seq #[.int 0 0,.int 0 0,.int n 0] 0 }
 let h0:Heap:={ (default:Heap)with objs:=Array.replicate a default }
 have hs:h0.objs.size=a:=Array.size_replicate
 have g:(h0.push o).get? a=some o:=by
  have:=Heap.get?_push_size h0 (o:=o) rfl
  rw[hs]at this
  exact this
 have q:BoxAt a n (h0.push o):=⟨0,0,n,0,0,0,0,g,by omega,by omega,by decide,by omega,by omega⟩
 rw[e1]at q
 obtain⟨x,y,z,t1,t2,t3,m,g2,_,_,_,_,hz⟩:=q
 rw[g]at g2
 have g3:=Option.some.inj g2
 have g4:(#[.int 0 0,.int 0 0,.int n 0]:Array Value)=#[.int x t1,.int y t2,.int z t3]:=by
  have:o.data=_:=congrArg Obj.data g3
  injection this
 have g6:=congrArg Array.toList g4
 simp only[List.cons.injEq,Value.int.injEq]at g6
 have g5:(n:Int)=z:=g6.2.2.1.1
 omega
theorem box_close {P:Program} {w:World} {H:Hp} {h:Heap} {b:Addr} {x y z:Int} {k:Nat} (hok:HOk P w H h) (e:H b=some (BoxL x y z)) (hx:0<=x) (hy:0<=y) (hy2:y<2 ^ 62) (hz:0<=z) (hk:z<=k):HOk P w (upd H b (BoxO b k)) h:=by
 intro c o ec
 by_cases hc:c=b
 .subst hc
  rw[upd_same]at ec
  cases ec
  obtain⟨_,its,n,rv,g⟩:=(show ObjOk P w H h c (.lst _) from hok c _ e)
  cases rv with
  |cons r1 r=>
   cases r with
   |cons r2 r=>
    cases r with
    |cons r3 r=>
     cases r
     obtain⟨t1,rfl⟩:=r1
     obtain⟨t2,rfl⟩:=r2
     obtain⟨t3,rfl⟩:=r3
     refine⟨⟨x,y,z,t1,t2,t3,n,g,hx,hy,hy2,hz,hk⟩,⟨_,g⟩,fun h1 h2 q kk=>?_⟩
     obtain⟨x,y,z,t1,t2,t3,n,g,r⟩:=q
     exact⟨x,y,z,t1,t2,t3,n,kk _ g,r⟩
 .rw[upd_ne hc]at ec
  have ne:∀d u,H d=some u->(∀xs,u≠.lst xs)->d≠b:=fun d u q nu z=>by subst z;rw[e]at q;cases q;exact nu _ rfl
  exact(hok c o ec).stay (fun _ _ _ q=>q) (fun d q=>by rw[upd_ne (ne d _ q fun _ z=>by cases z)];exact q) fun d xs q=>by rw[upd_ne (ne d _ q fun _ z=>by cases z)];exact q
theorem box_open {P:Program} {w:World} {H:Hp} {h:Heap} {b:Addr} {k:Nat} (hok:HOk P w H h) (e:H b=some (BoxO b k)):∃x y z:Int,0<=x/\0<=y/\y<2 ^ 62/\0<=z/\z<=k/\HOk P w (upd H b (BoxL x y z)) h:=by
 obtain⟨⟨x,y,z,t1,t2,t3,n,g,hx,hy,hy2,hz,hk⟩,_,_⟩:=(show ObjOk P w H h b (.ext _) from hok b _ e)
 refine⟨x,y,z,hx,hy,hy2,hz,hk,fun c o ec=>?_⟩
 by_cases hc:c=b
 .subst hc
  rw[upd_same]at ec
  cases ec
  exact⟨by show 3<=sizeLine;decide,[.int x t1,.int y t2,.int z t3],n,.cons ⟨_,rfl⟩ (.cons ⟨_,rfl⟩ (.cons ⟨_,rfl⟩ .nil)),g⟩
 .rw[upd_ne hc]at ec
  have ne:∀d u,H d=some u->(∀φ,u≠.ext φ)->d≠b:=fun d u q nu z=>by subst z;rw[e]at q;cases q;exact nu _ rfl
  exact(hok c o ec).stay (fun _ _ _ q=>q) (fun d q=>by rw[upd_ne (ne d _ q fun _ z=>by cases z)];exact q) fun d xs q=>by rw[upd_ne (ne d _ q fun _ z=>by cases z)];exact q
theorem un_close {fs ex:List Addr} {H H':Hp} {h h':Heap} {b:Addr} {xs:List V} {o:HO} (u:Un fs ex H H' h h') (e:H' b=some (.lst xs)):Un fs ex H (upd H' b o) h h' where
 keep:=u.keep
 slot:=u.slot
 free:=fun c ob q n hx=>by
  have z:=u.free c ob q n hx
  rw[upd_ne (fun z2=>by subst z2;rw[e]at z;cases z)]
  exact z
 there:=u.there
 tups:=fun c ys q=>by
  have z:=u.tups c ys q
  rw[upd_ne (fun z2=>by subst z2;rw[e]at z;cases z)]
  exact z
 frzs:=fun c ob ys q=>by
  have z:=u.frzs c ob ys q
  rw[upd_ne (fun z2=>by subst z2;rw[e]at z;cases z)]
  exact z
 tbls:=fun c ps q=>by
  obtain⟨m,z⟩:=u.tbls c ps q
  exact⟨m,by rw[upd_ne (fun z2=>by subst z2;rw[e]at z;cases z)];exact z⟩
theorem un_open {fs ex:List Addr} {H H':Hp} {h h':Heap} {b:Addr} {φ:Heap->Prop} {o:HO} (u:Un fs ex (upd H b o) H' h h') (e:H b=some (.ext φ)):Un fs ex H H' h h':=by
 have ne:∀c,H c=none->c≠b:=fun c n z=>by subst z;rw[e]at n;cases n
 have ne2:∀c v,H c=some v->(∀ψ,v≠.ext ψ)->c≠b:=fun c v q nv z=>by subst z;rw[e]at q;cases q;exact nv _ rfl
 exact⟨fun c ob q n=>u.keep c ob q (by rw[upd_ne (ne c n)];exact n),fun c ob q n=>u.slot c ob q (by rw[upd_ne (ne c n)];exact n),fun c ob q n=>u.free c ob q (by rw[upd_ne (ne c n)];exact n),u.there,
  fun c ys q=>u.tups c ys (by rw[upd_ne (ne2 c _ q fun _ z=>by cases z)];exact q),fun c ob ys q=>u.frzs c ob ys (by rw[upd_ne (ne2 c _ q fun _ z=>by cases z)];exact q),fun c ps q=>u.tbls c ps (by rw[upd_ne (ne2 c _ q fun _ z=>by cases z)];exact q)⟩
section
variable {P:Program} {w:World} {K:W.Frag} {mg:Str->Option Value} {base:Heap} {k:Nat} {f:Addr} {fd:FuncData} {ps:List Str} {sp sp':Sp}
def Shut (Q:VK) (v:V) (H:Hp):Prop:=∃b x y z m,H b=some (BoxL x y z)/\0<=x/\0<=y/\y<2 ^ 62/\0<=z/\z<=((m:Nat):Int)/\Q v (upd H b (BoxO b m))
theorem shut_fn (F:FnOk P w K mg base CX0 k f fd ps sp) (h:∀vs H Q E,sp' vs H Q E->sp vs H (Shut Q) E):FnOk P w K mg base CX0 k f fd ps sp':=by
 refine⟨fun vs H Q E q=>F.len vs H _ E (h _ _ _ _ q),fun A outer s H args us vs Q E hr e0 hb hv hs=>?_⟩
 refine codeAny_mono (F.run A outer s H args us vs _ E hr e0 hb hv (h _ _ _ _ hs)) fun r s' hq=>?_
 cases r with
 |error e=>exact hq
 |ok fl=>
  cases fl with
  |next=>exact hq
  |brk=>exact hq
  |cont=>exact hq
  |ret u=>
   obtain⟨v,H',os,bare,un,hok,rv,b,x,y,z,m,eb,hx,hy,hy2,hz,hm,q⟩:=hq
   exact⟨v,_,os,bare,un_close un eb,box_close hok eb hx hy hy2 hz hm,rv,q⟩
theorem open_fn (F:FnOk P w K mg base CX0 k f fd ps sp) (h:∀vs H Q E,sp' vs H Q E->∃b n,H b=some (BoxO b n)/\∀x y z,0<=x->0<=y->y<2 ^ 62->0<=z->z<=((n:Nat):Int)->sp vs (upd H b (BoxL x y z)) Q E) (len:∀vs H Q E,sp' vs H Q E->vs.length=ps.length):FnOk P w K mg base CX0 k f fd ps sp':=by
 refine⟨len,fun A outer s H args us vs Q E hr e0 hb hv hs=>?_⟩
 obtain⟨b,n,eb,hsp⟩:=h _ _ _ _ hs
 obtain⟨x,y,z,hx,hy,hy2,hz,hn,hok⟩:=box_open e0.hok eb
 have ne:∀c,H c=none->c≠b:=fun c n z=>by subst z;rw[eb]at n;cases n
 have e1:Env0 P w K mg base A outer s (upd H b (BoxL x y z)):=⟨e0.frames,e0.mod,fun c o e=>⟨(e0.bs c o e).1,by rw[upd_ne (ne c (e0.bs c o e).2)];exact(e0.bs c o e).2⟩,e0.bsz,e0.funs,fun c hc=>by rw[upd_ne (ne c (e0.frf c hc))];exact e0.frf c hc,hok,e0.bare⟩
 refine codeAny_mono (F.run A outer s _ args us vs Q E hr e1 hb hv (hsp x y z hx hy hy2 hz hn)) fun r s' hq=>?_
 cases r with
 |error e=>exact hq
 |ok fl=>
  cases fl with
  |next=>exact hq
  |brk=>exact hq
  |cont=>exact hq
  |ret u=>
   obtain⟨v,H',os,bare,un,hok,rv,q⟩:=hq
   exact⟨v,H',os,bare,un_open un eb,hok,rv,q⟩
end
structure Go (c:Nat) (H H':Hp):Prop where
 box:∀a n,H a=some (BoxO a n)->∃m,m<=n+c/\H' a=some (BoxO a m)
 oth:∀a o,H a=some o->(∀φ,o≠.ext φ)->H' a=some o
 free:∀a,H' a=none->H a=none
theorem Go.of_same {c:Nat} {H H':Hp} (h:Same H H'):Go c H H':=⟨fun a n e=>⟨n,by omega,h a _ e⟩,fun a o e _=>h a o e,fun a e=>h.free e⟩
theorem Go.refl {c:Nat} {H:Hp}:Go c H H:=.of_same (Same.refl H)
theorem Go.trans {c d:Nat} {H H1 H2:Hp} (a:Go c H H1) (b:Go d H1 H2):Go (c+d) H H2:=⟨fun p n e=>by
  obtain⟨m,hm,e1⟩:=a.box p n e
  obtain⟨m',hm',e2⟩:=b.box p m e1
  exact⟨m',by omega,e2⟩,fun p o e no=>b.oth p o (a.oth p o e no) no,fun p e=>a.free p (b.free p e)⟩
theorem Go.mono {c d:Nat} {H H1:Hp} (a:Go c H H1) (h:c<=d):Go d H H1:=⟨fun p n e=>by
  obtain⟨m,hm,e1⟩:=a.box p n e
  exact⟨m,by omega,e1⟩,a.oth,a.free⟩
theorem Go.lst {c:Nat} {H H1:Hp} (a:Go c H H1) {p:Addr} {xs:List V} (e:H p=some (.lst xs)):H1 p=some (.lst xs):=a.oth p _ e fun _ z=>by cases z
theorem Go.seq {c:Nat} {K:W.Frag} {H H1:Hp} (g:Go c H H1) {a:Addr} {xs:List V} (h:SqL K H a xs):SqL K H1 a xs:=by
 rcases h with(h|⟨o,h⟩)|h
 .exact .inl (.inl (g.lst h))
 .exact .inl (.inr ⟨o,g.oth _ _ h fun _ z=>by cases z⟩)
 .exact .inr h
theorem Go.draw {H:Hp} {b:Addr} {n m:Nat} (e:H b=some (BoxO b n)) (h:m<=n+1) (o:HO):Go 1 H (upd (upd H b o) b (BoxO b m)):=by
 rw[upd_upd]
 refine⟨fun p k q=>?_,fun p u q no=>?_,fun p q=>?_⟩
 .by_cases hp:p=b
  .subst hp
   rw[e]at q
   have:=box_le (Option.some.inj q)
   exact⟨m,by omega,upd_same⟩
  .exact⟨k,by omega,by rw[upd_ne hp];exact q⟩
 .rw[upd_ne]
  .exact q
  .intro z
   subst z
   rw[e]at q
   cases q
   exact no _ rfl
 .by_cases hp:p=b
  .subst hp
   rw[upd_same]at q
   cases q
  .rw[upd_ne hp]at q
   exact q
section
variable {C:Rc} {σ:L2.St} {H:Hp} {Q:VK} {D:Ends} {Qb:Bool->Hp->Prop}
def kV (o:Option (Option V)) (H:Hp) (Q:VK):Prop:=∃v,o=some (some v)/\Q v H
theorem kV_some {v:V}:kV (some (some v)) H Q=Q v H:=propext ⟨fun⟨u,e,q⟩=>by cases e;exact q,fun q=>⟨v,rfl,q⟩⟩
theorem tE_var {i:Nat}:tE C (.var i) σ H Q=kV σ[i]? H Q:=rfl
theorem tE_int {n:Int}:tE C (.int n) σ H Q=Q (.int n) H:=rfl
theorem tE_bl {b:Bool}:tE C (.bl b) σ H Q=Q (.bl b) H:=rfl
theorem tE_non:tE C .non σ H Q=Q .non H:=rfl
theorem tE_str {x:Str}:tE C (.str x) σ H Q=Q (.str x) H:=rfl
theorem tE_ty {x:String}:tE C (.ty x) σ H Q=Q (.ty x) H:=rfl
noncomputable def kB1 (C:Rc) (σ:L2.St) (op:Operator) (b:Ce) (Q:VK):VK:=fun x H=>tE C b σ H fun y H2=>rBin C.K op x y H2 Q
noncomputable def kB2 (C:Rc) (op:Operator) (x:V) (Q:VK):VK:=fun y H=>rBin C.K op x y H Q
theorem tE_bin {op:Operator} {a b:Ce}:tE C (.bin op a b) σ H Q=tE C a σ H (kB1 C σ op b Q):=rfl
theorem kB1_at {op:Operator} {b:Ce} {x:V}:kB1 C σ op b Q x H=tE C b σ H (kB2 C op x Q):=rfl
theorem kB2_at {op:Operator} {x y:V}:kB2 C op x Q y H=rBin C.K op x y H Q:=rfl
noncomputable def kC1 (C:Rc) (σ:L2.St) (op:CmpOp) (b:Ce) (Q:VK):VK:=fun x H=>tE C b σ H fun y H2=>rCmp C.K op x y H2 Q
noncomputable def kC2 (C:Rc) (op:CmpOp) (x:V) (Q:VK):VK:=fun y H=>rCmp C.K op x y H Q
theorem tE_cmp {op:CmpOp} {a b:Ce}:tE C (.cmp op a b) σ H Q=tE C a σ H (kC1 C σ op b Q):=rfl
theorem kC1_at {op:CmpOp} {b:Ce} {x:V}:kC1 C σ op b Q x H=tE C b σ H (kC2 C op x Q):=rfl
theorem kC2_at {op:CmpOp} {x y:V}:kC2 C op x Q y H=rCmp C.K op x y H Q:=rfl
noncomputable def kI1 (C:Rc) (σ:L2.St) (b:Ce) (Q:VK):VK:=fun x H=>tE C b σ H fun y H2=>rIxM C.K x y H2 Q
noncomputable def kI2 (C:Rc) (x:V) (Q:VK):VK:=fun y H=>rIxM C.K x y H Q
theorem tE_idx {a b:Ce}:tE C (.idx a b) σ H Q=tE C a σ H (kI1 C σ b Q):=rfl
theorem kI1_at {b:Ce} {x:V}:kI1 C σ b Q x H=tE C b σ H (kI2 C x Q):=rfl
theorem kI2_at {x y:V}:kI2 C x Q y H=rIxM C.K x y H Q:=rfl
noncomputable def kNeg (Q:VK):VK:=fun x H=>rU (fun i=>.int (-i)) x H Q
theorem tE_neg {a:Ce}:tE C (.neg a) σ H Q=tE C a σ H (kNeg Q):=rfl
theorem kNeg_int {i:Int}:kNeg Q (.int i) H=Q (.int (-i)) H:=propext ⟨fun⟨u,e,q⟩=>by cases e;exact q,fun q=>⟨i,rfl,q⟩⟩
noncomputable def kT (Qb:Bool->Hp->Prop):VK:=fun x H=>∃k,x=.bl k/\Qb k H
theorem kT_bl {k:Bool}:kT Qb (.bl k) H=Qb k H:=propext ⟨fun⟨u,e,q⟩=>by cases e;exact q,fun q=>⟨k,rfl,q⟩⟩
theorem tQ_cmp {op:CmpOp} {a b:Ce}:tQ C (.cmp op a b) σ H Qb=tE C a σ H (kC1 C σ op b (kT Qb)):=rfl
noncomputable def kNotQ (Qb:Bool->Hp->Prop):Bool->Hp->Prop:=fun c H=>Qb (!c) H
theorem tQ_not {q:Cq}:tQ C (.not q) σ H Qb=tQ C q σ H (kNotQ Qb):=rfl
theorem kNotQ_at {c:Bool}:kNotQ Qb c H=Qb (!c) H:=rfl
noncomputable def kAndQ (C:Rc) (σ:L2.St) (b:Cq) (Qb:Bool->Hp->Prop):Bool->Hp->Prop:=fun c H=>if c=true then tQ C b σ H Qb else Qb false H
noncomputable def kOrQ (C:Rc) (σ:L2.St) (b:Cq) (Qb:Bool->Hp->Prop):Bool->Hp->Prop:=fun c H=>if c=true then Qb true H else tQ C b σ H Qb
theorem tQ_and {a b:Cq}:tQ C (.and a b) σ H Qb=tQ C a σ H (kAndQ C σ b Qb):=rfl
theorem tQ_or {a b:Cq}:tQ C (.or a b) σ H Qb=tQ C a σ H (kOrQ C σ b Qb):=rfl
theorem kAndQ_t {b:Cq}:kAndQ C σ b Qb true H=tQ C b σ H Qb:=rfl
theorem kAndQ_f {b:Cq}:kAndQ C σ b Qb false H=Qb false H:=rfl
theorem kOrQ_t {b:Cq}:kOrQ C σ b Qb true H=Qb true H:=rfl
theorem kOrQ_f {b:Cq}:kOrQ C σ b Qb false H=tQ C b σ H Qb:=rfl
variable {K:W.Frag} {i j:Int} {x y:Str}
theorem b_add:rBin K .Add (.int i) (.int j) H Q=Q (.int (i+j)) H:=rfl
theorem b_adds:rBin K .Add (.str x) (.str y) H Q=(x.length+y.length<=sizeLine/\Q (.str (x++y)) H):=rfl
theorem b_sub:rBin K .Sub (.int i) (.int j) H Q=Q (.int (i-j)) H:=propext ⟨fun⟨_,_,e,e',q⟩=>by cases e;cases e';exact q,fun q=>⟨_,_,rfl,rfl,q⟩⟩
theorem b_mul:rBin K .Mult (.int i) (.int j) H Q=(CMulW i j/\Q (.int (i*j)) H):=rfl
theorem b_muls:rBin K .Mult (.str x) (.int j) H Q=(-1000000<=j/\j<=1000000/\x.length*j.toNat<=1000000/\Q (.str (Txt.mul x j)) H):=rfl
theorem b_mod:rBin K .Mod (.int i) (.int j) H Q=(0<j/\Q (.int (i % j)) H):=propext ⟨fun⟨_,_,e,e',c,q⟩=>by cases e;cases e';exact⟨c,q⟩,fun q=>⟨_,_,rfl,rfl,q.1,q.2⟩⟩
theorem b_div:rBin K .FloorDiv (.int i) (.int j) H Q=(CDivW i j/\Q (.int (i / j)) H):=propext ⟨fun⟨_,_,e,e',c,q⟩=>by cases e;cases e';exact⟨c,q⟩,fun q=>⟨_,_,rfl,rfl,q.1,q.2⟩⟩
theorem b_pow:rBin K .Pow (.int i) (.int j) H Q=(CPow i j/\Q (.int (i ^ j.toNat)) H):=propext ⟨fun⟨_,_,e,e',c,q⟩=>by cases e;cases e';exact⟨c,q⟩,fun q=>⟨_,_,rfl,rfl,q.1,q.2⟩⟩
theorem c_lt:rCmp K .Lt (.int i) (.int j) H Q=Q (.bl (decide (i<j))) H:=propext ⟨fun⟨_,_,e,e',q⟩=>by cases e;cases e';exact q,fun q=>⟨_,_,rfl,rfl,q⟩⟩
theorem c_gt:rCmp K .Gt (.int i) (.int j) H Q=Q (.bl (decide (j<i))) H:=propext ⟨fun⟨_,_,e,e',q⟩=>by cases e;cases e';exact q,fun q=>⟨_,_,rfl,rfl,q⟩⟩
theorem c_ge:rCmp K .GtE (.int i) (.int j) H Q=Q (.bl (decide (j<=i))) H:=propext ⟨fun⟨_,_,e,e',q⟩=>by cases e;cases e';exact q,fun q=>⟨_,_,rfl,rfl,q⟩⟩
theorem c_eq:rCmp K .Eq (.int i) (.int j) H Q=Q (.bl (decide (i=j))) H:=by
 have e:decide (V.int i=V.int j)=decide (i=j):=by simp
 exact propext ⟨fun q=>e ▸ q.2,fun q=>⟨rfl,e.symm ▸ q⟩⟩
theorem c_eqs:rCmp K .Eq (.str x) (.str y) H Q=Q (.bl (decide (x=y))) H:=by
 have e:decide (V.str x=V.str y)=decide (x=y):=by simp
 exact propext ⟨fun q=>e ▸ q.2,fun q=>⟨rfl,e.symm ▸ q⟩⟩
theorem ix_ref {a:Addr}:rIxM K (.ref a) (.int i) H Q=(rIxL K (.ref a) (.int i) H Q\/rIxT K (.ref a) (.int i) H Q):=rfl
noncomputable def kSeq (C:Rc) (r:Css) (D:Ends):Ends:={ D with nx:=tSs C r D }
theorem ss_nil:tSs C .nil D σ H=D.nx σ H:=rfl
theorem ss_cons {s:Cs} {r:Css}:tSs C (.cons s r) D σ H=tS C s (kSeq C r D) σ H:=rfl
theorem seq_nx {r:Css}:(kSeq C r D).nx σ H=tSs C r D σ H:=rfl
theorem seq_rt {r:Css}:(kSeq C r D).rt=D.rt:=rfl
theorem seq_bk {r:Css}:(kSeq C r D).bk=D.bk:=rfl
theorem seq_ct {r:Css}:(kSeq C r D).ct=D.ct:=rfl
theorem s_ret {e:Ce}:tS C (.ret e) D σ H=tE C e σ H D.rt:=rfl
noncomputable def kDrop (D:Ends) (σ:L2.St):VK:=fun _ H=>D.nx σ H
theorem s_expr {e:Ce}:tS C (.expr e) D σ H=tE C e σ H (kDrop D σ):=rfl
theorem kDrop_at {v:V}:kDrop D σ v H=D.nx σ H:=rfl
noncomputable def kSet (i:Nat) (D:Ends) (σ:L2.St):VK:=fun x H=>D.nx (σ.set i (some x)) H
theorem s_set {i:Nat} {e:Ce}:tS C (.asg (.name i) e) D σ H=tE C e σ H (kSet i D σ):=rfl
theorem kSet_at {i:Nat} {v:V}:kSet i D σ v H=D.nx (σ.set i (some v)) H:=rfl
noncomputable def kSub1 (C:Rc) (o i:Ce) (D:Ends) (σ:L2.St):VK:=fun v H=>tE C o σ H fun p H1=>tE C i σ H1 fun k H2=>rSetL p k v H2 fun H3=>D.nx σ H3
noncomputable def kSub2 (C:Rc) (i:Ce) (v:V) (D:Ends) (σ:L2.St):VK:=fun p H1=>tE C i σ H1 fun k H2=>rSetL p k v H2 fun H3=>D.nx σ H3
noncomputable def kSub3 (p v:V) (D:Ends) (σ:L2.St):VK:=fun k H2=>rSetL p k v H2 fun H3=>D.nx σ H3
theorem s_sub {o i e:Ce}:tS C (.asg (.sub o i) e) D σ H=tE C e σ H (kSub1 C o i D σ):=rfl
theorem kSub1_at {o i:Ce} {v:V}:kSub1 C o i D σ v H=tE C o σ H (kSub2 C i v D σ):=rfl
theorem kSub2_at {i:Ce} {v p:V}:kSub2 C i v D σ p H=tE C i σ H (kSub3 p v D σ):=rfl
theorem kSub3_at {v p k:V}:kSub3 p v D σ k H=rSetL p k v H (D.nx σ):=rfl
noncomputable def kIf (C:Rc) (a b:Css) (D:Ends) (σ:L2.St):Bool->Hp->Prop:=fun c H=>if c=true then tSs C a D σ H else tSs C b D σ H
theorem s_if {q:Cq} {a b:Css}:tS C (.ite q a b) D σ H=tQ C q σ H (kIf C a b D σ):=rfl
theorem kIf_t {a b:Css}:kIf C a b D σ true H=tSs C a D σ H:=rfl
theorem kIf_f {a b:Css}:kIf C a b D σ false H=tSs C b D σ H:=rfl
theorem by_dec {p:Prop} [Decidable p] {F:Bool->Hp->Prop} (h1:p->F true H) (h2:¬p->F false H):F (decide p) H:=by
 by_cases h:p
 .rw[decide_eq_true h];exact h1 h
 .rw[decide_eq_false h];exact h2 h
end
section
variable {C:Rc} {σ:L2.St} {H:Hp} {Q:VK} {D:Ends} {Qb:Bool->Hp->Prop} {Qs:List V->Hp->Prop}
noncomputable def kA1 (C:Rc) (σ:L2.St) (r:Ces) (Qs:List V->Hp->Prop):VK:=fun x H=>tA C r σ H fun xs H2=>Qs (x :: xs) H2
noncomputable def kA2 (x:V) (Qs:List V->Hp->Prop):List V->Hp->Prop:=fun xs H=>Qs (x :: xs) H
theorem a_nil:tA C .nil σ H Qs=Qs [] H:=rfl
theorem a_cons {e:Ce} {r:Ces}:tA C (.cons e r) σ H Qs=tE C e σ H (kA1 C σ r Qs):=rfl
theorem kA1_at {r:Ces} {x:V}:kA1 C σ r Qs x H=tA C r σ H (kA2 x Qs):=rfl
theorem kA2_at {x:V} {xs:List V}:kA2 x Qs xs H=Qs (x :: xs) H:=rfl
noncomputable def kTup (Q:VK):List V->Hp->Prop:=fun xs H=>xs.length<=sizeLine/\∀p,H p=none->Q (.ref p) (upd H p (.tup xs))
noncomputable def kLst (Q:VK):List V->Hp->Prop:=fun xs H=>xs.length<=sizeLine/\∀p,H p=none->Q (.ref p) (upd H p (.lst xs))
theorem tE_tup {es:Ces}:tE C (.tup es) σ H Q=tA C es σ H (kTup Q):=rfl
theorem tE_lst {es:Ces}:tE C (.lst es) σ H Q=tA C es σ H (kLst Q):=rfl
theorem kTup_at {xs:List V}:kTup Q xs H=(xs.length<=sizeLine/\∀p,H p=none->Q (.ref p) (upd H p (.tup xs))):=rfl
theorem kLst_at {xs:List V}:kLst Q xs H=(xs.length<=sizeLine/\∀p,H p=none->Q (.ref p) (upd H p (.lst xs))):=rfl
noncomputable def kCall (o:Option Sp) (E:XK) (Q:VK):List V->Hp->Prop:=fun vs H=>match o with
 |some sp=>sp (vs++[]) H Q E
 |none=>False
theorem tE_call {f:Str} {es:Ces} {sp:Sp} (h:C.fs f=some sp):tE C (.call f es) σ H Q=tA C es σ H (kCall (some sp) (C.xk σ) Q):=by
 show(match C.fs f with|some sp=>tCall sp [] (C.xk σ) (tA C es) σ H Q|none=>False)=_
 rw[h]
 rfl
theorem kCall_at {sp:Sp} {E:XK} {vs:List V}:kCall (some sp) E Q vs H=sp vs H Q E:=by
 show sp (vs++[]) H Q E=_
 rw[List.append_nil]
noncomputable def kBlt (C:Rc) (f:Bf) (Q:VK):List V->Hp->Prop:=fun vs H=>rBlt C.K f vs H Q
theorem tE_blt {f:Bf} {es:Ces}:tE C (.blt f es) σ H Q=tA C es σ H (kBlt C f Q):=rfl
theorem kBlt_at {f:Bf} {vs:List V}:kBlt C f Q vs H=rBlt C.K f vs H Q:=rfl
noncomputable def kMet1 (C:Rc) (σ:L2.St) (m:Mf) (es:Ces) (Q:VK):VK:=fun x H=>tyV C.K (metTy m) x H/\tA C es σ H fun xs H2=>rMet C.K m x xs H2 Q
noncomputable def kMet2 (C:Rc) (m:Mf) (x:V) (Q:VK):List V->Hp->Prop:=fun xs H=>rMet C.K m x xs H Q
theorem tE_met {m:Mf} {o:Ce} {es:Ces}:tE C (.met m o es) σ H Q=tE C o σ H (kMet1 C σ m es Q):=rfl
theorem kMet1_at {m:Mf} {es:Ces} {x:V}:kMet1 C σ m es Q x H=(tyV C.K (metTy m) x H/\tA C es σ H (kMet2 C m x Q)):=rfl
theorem kMet2_at {m:Mf} {x:V} {xs:List V}:kMet2 C m x Q xs H=rMet C.K m x xs H Q:=rfl
noncomputable def kIfe (C:Rc) (σ:L2.St) (a b:Ce) (Q:VK):Bool->Hp->Prop:=fun c H=>if c=true then tE C a σ H Q else tE C b σ H Q
theorem kIfe_t {a b:Ce}:kIfe C σ a b Q true H=tE C a σ H Q:=rfl
theorem kIfe_f {a b:Ce}:kIfe C σ a b Q false H=tE C b σ H Q:=rfl
noncomputable def kNotV (Q:VK):VK:=fun x H=>∃c,x=.bl c/\Q (.bl (!c)) H
theorem tE_not {a:Ce}:tE C (.not a) σ H Q=tE C a σ H (kNotV Q):=rfl
theorem kNotV_bl {c:Bool}:kNotV Q (.bl c) H=Q (.bl (!c)) H:=propext ⟨fun⟨u,e,q⟩=>by cases e;exact q,fun q=>⟨c,rfl,q⟩⟩
noncomputable def kAndV (C:Rc) (σ:L2.St) (b:Ce) (Q:VK):VK:=fun x H=>∃c,x=.bl c/\if c=true then tE C b σ H Q else Q (.bl false) H
noncomputable def kOrV (C:Rc) (σ:L2.St) (b:Ce) (Q:VK):VK:=fun x H=>∃c,x=.bl c/\if c=true then Q (.bl true) H else tE C b σ H Q
theorem tE_and {a b:Ce}:tE C (.and a b) σ H Q=tE C a σ H (kAndV C σ b Q):=rfl
theorem tE_or {a b:Ce}:tE C (.or a b) σ H Q=tE C a σ H (kOrV C σ b Q):=rfl
theorem kAndV_t {b:Ce}:kAndV C σ b Q (.bl true) H=tE C b σ H Q:=propext ⟨fun⟨u,e,q⟩=>by cases e;exact q,fun q=>⟨_,rfl,q⟩⟩
noncomputable def kTru (C:Rc) (Qb:Bool->Hp->Prop):VK:=fun x H=>∃k,TruV C.K x H k/\Qb k H
theorem tQ_val {e:Ce}:tQ C (.val e) σ H Qb=tE C e σ H (kTru C Qb):=rfl
theorem kTru_bl {b:Bool}:kTru C Qb (.bl b) H=Qb b H:=propext ⟨fun⟨u,e,q⟩=>by
  have e:u=b:=e
  subst e
  exact q,fun q=>⟨b,rfl,q⟩⟩
noncomputable def kCut1 (C:Rc) (σ:L2.St) (lo hi:Co) (Q:VK):VK:=fun x H=>tO C lo σ H fun l H2=>tO C hi σ H2 fun u H3=>rSl C.K x l u H3 Q
noncomputable def kCut2 (C:Rc) (σ:L2.St) (hi:Co) (x:V) (Q:VK):Option Int->Hp->Prop:=fun l H=>tO C hi σ H fun u H3=>rSl C.K x l u H3 Q
noncomputable def kCut3 (C:Rc) (x:V) (l:Option Int) (Q:VK):Option Int->Hp->Prop:=fun u H=>rSl C.K x l u H Q
theorem kCut1_at {lo hi:Co} {x:V}:kCut1 C σ lo hi Q x H=tO C lo σ H (kCut2 C σ hi x Q):=rfl
theorem kCut2_at {hi:Co} {x:V} {l:Option Int}:kCut2 C σ hi x Q l H=tO C hi σ H (kCut3 C x l Q):=rfl
theorem kCut3_at {x:V} {l u:Option Int}:kCut3 C x l Q u H=rSl C.K x l u H Q:=rfl
variable {Qo:Option Int->Hp->Prop}
noncomputable def kPart (Qo:Option Int->Hp->Prop):VK:=fun x H=>∃i,x=.int i/\Qo (some i) H
theorem o_none:tO C .none σ H Qo=Qo none H:=rfl
theorem o_some {e:Ce}:tO C (.some e) σ H Qo=tE C e σ H (kPart Qo):=rfl
theorem sl_ref {K:W.Frag} {a:Addr} {l u:Option Int}:rSl K (.ref a) l u H Q=(rSlL K (.ref a) l u H Q\/rSlT K (.ref a) l u H Q\/rSlW K (.ref a) l u H Q):=rfl
noncomputable def kAug (i:Nat) (sub:Bool) (x:V) (D:Ends) (σ:L2.St):VK:=fun y H=>∃a b,x=.int a/\y=.int b/\D.nx (σ.set i (some (.int (if sub then a-b else a+b)))) H
theorem s_aug {i:Nat} {sub:Bool} {e:Ce} {a:Int} (h:σ[i]?=some (some (.int a))):tS C (.aug i sub e) D σ H=tE C e σ H (kAug i sub (.int a) D σ):=by
 show(∃x,σ[i]?=some (some x)/\tE C e σ H fun y H1=>(ipI fun i j=>if sub then i-j else i+j) x y H1 fun z H2=>D.nx (σ.set i (some z)) H2)=_
 rw[h]
 exact propext ⟨fun⟨x,e,q⟩=>by cases e;exact q,fun q=>⟨_,rfl,q⟩⟩
theorem kAug_int {i:Nat} {sub:Bool} {a b:Int}:kAug i sub (.int a) D σ (.int b) H=D.nx (σ.set i (some (.int (if sub then a-b else a+b)))) H:=propext ⟨fun⟨_,_,e,e',q⟩=>by cases e;cases e';exact q,fun q=>⟨_,_,rfl,rfl,q⟩⟩
noncomputable def kPar1 (C:Rc) (σ:L2.St) (i j:Nat) (b:Ce) (D:Ends):VK:=fun v H=>tE C b σ H fun w H1=>D.nx ((σ.set i (some v)).set j (some w)) H1
noncomputable def kPar2 (σ:L2.St) (i j:Nat) (v:V) (D:Ends):VK:=fun w H=>D.nx ((σ.set i (some v)).set j (some w)) H
theorem kPar1_at {i j:Nat} {b:Ce} {v:V}:kPar1 C σ i j b D v H=tE C b σ H (kPar2 σ i j v D):=rfl
theorem kPar2_at {i j:Nat} {v w:V}:kPar2 σ i j v D w H=D.nx ((σ.set i (some v)).set j (some w)) H:=rfl
end
noncomputable def cb (b:Bool):Nat:=if b then 49 else 48
noncomputable def tx (l:List Bool):Str:=⟨(l.map cb).toArray⟩
theorem cb_inj {a b:Bool} (h:cb a=cb b):a=b:=by cases a<;>cases b<;>first|rfl|cases h
theorem tx_inj {a b:List Bool} (h:tx a=tx b):a=b:=by
 have h1:(a.map cb).toArray=(b.map cb).toArray:=congrArg Str.cps h
 have h2:a.map cb=b.map cb:=by simpa using h1
 exact List.map_inj_right (f:=cb) (fun x y=>cb_inj) |>.mp h2
theorem tx_len {a:List Bool}:(tx a).length=a.length:=by show(a.map cb).toArray.size=_;simp
theorem tx_cps {a:List Bool}:(tx a).cps.toList=a.map cb:=rfl
theorem tx_size {a:List Bool}:(tx a).cps.size=a.length:=by show(a.map cb).toArray.size=_;simp
theorem tx_get {a:List Bool} {i:Nat}:(tx a).cps[i]?=a[i]?.map cb:=by show(a.map cb).toArray[i]?=_;simp
theorem tx_app {a b:List Bool}:tx a++tx b=tx (a++b):=by
 show(⟨(a.map cb).toArray++(b.map cb).toArray⟩:Str)=⟨((a++b).map cb).toArray⟩
 simp
theorem tx_0:(PySem.Str.ofString "0")=tx [false]:=by decide +kernel
theorem tx_1:(PySem.Str.ofString "1")=tx [true]:=by decide +kernel
theorem tx_nil:(PySem.Str.ofString "")=tx []:=by decide +kernel
theorem occ_count (s:Str) (c:Nat) (hi limit:Nat):∀(n lo:Nat) (st:Array Nat×Nat),st.2<=lo->lo+n<=hi+1->hi=s.cps.size->st.1.size+n<=limit ->
  (forIn (List.range' lo n) st (StrLaws.occBody s ⟨#[c]⟩ hi limit)).run.fst.size=st.1.size+((s.cps.toList.drop lo).take n).count c
 |0,lo,st,h1,h2,h3,h4=>by
  simp
 |n+1,lo,st,h1,h2,h3,h4=>by
  rw[List.range'_succ,List.forIn_cons]
  by_cases hlt2:lo<s.cps.size
  .have hlt:lo<s.cps.toList.length:=by rw[Array.length_toList];omega
   have ed:(s.cps.toList.drop lo).take (n+1)=s.cps.toList[lo] :: (s.cps.toList.drop (lo+1)).take n:=by
    rw[List.drop_eq_getElem_cons hlt,List.take_succ_cons]
   have hsub:Builtin.Str.subAt s ⟨#[c]⟩ lo=decide (s.cps.toList[lo]=c):=by
    unfold Builtin.Str.subAt
    have e1:s.cps.extract lo (lo+(⟨#[c]⟩:Str).length)=#[s.cps[lo]]:=by
     show s.cps.extract lo (lo+1)=_
     apply Array.ext
     .simp;omega
     .intro i h1 h2
      have:i=0:=by simp at h2;omega
      subst this
      simp
    rw[e1]
    by_cases hc:s.cps[lo]=c
    .simp[hc]
    .simp[hc]
   unfold StrLaws.occBody
   by_cases hc:s.cps.toList[lo]=c
   .have cond:((st.fst.size<limit/\st.snd<=lo)/\lo+(⟨#[c]⟩:Str).length<=hi)/\Builtin.Str.subAt s ⟨#[c]⟩ lo=true:=⟨⟨⟨by omega,h1⟩,by show lo+1<=hi;omega⟩,by rw[hsub];exact decide_eq_true hc⟩
    rw[if_pos cond]
    have ih:=occ_count s c hi limit n (lo+1) (st.fst.push lo,lo+(⟨#[c]⟩:Str).length) (Nat.le_refl _) (by omega) h3 (by simp;omega)
    refine ih.trans ?_
    rw[ed,List.count_cons,hc]
    simp
    omega
   .have cond:¬(((st.fst.size<limit/\st.snd<=lo)/\lo+(⟨#[c]⟩:Str).length<=hi)/\Builtin.Str.subAt s ⟨#[c]⟩ lo=true):=fun h=>hc (of_decide_eq_true (hsub ▸ h.2))
    rw[if_neg cond]
    have ih:=occ_count s c hi limit n (lo+1) (st.fst,st.snd) (by show st.snd<=lo+1;omega) (by omega) h3 (by show st.fst.size+n<=limit;omega)
    refine ih.trans ?_
    rw[ed,List.count_cons_of_ne hc]
  .have cond:¬(((st.fst.size<limit/\st.snd<=lo)/\lo+(⟨#[c]⟩:Str).length<=hi)/\Builtin.Str.subAt s ⟨#[c]⟩ lo=true):=fun h=>by
    have:lo+1<=hi:=h.1.2
    omega
   unfold StrLaws.occBody
   rw[if_neg cond]
   have ih:=occ_count s c hi limit n (lo+1) (st.fst,st.snd) (by show st.snd<=lo+1;omega) (by omega) h3 (by show st.fst.size+n<=limit;omega)
   refine ih.trans ?_
   rw[List.drop_of_length_le (by rw[Array.length_toList];omega),List.drop_of_length_le (by rw[Array.length_toList];omega)]
   simp
theorem tx_count {a:List Bool} {c:Bool}:(Builtin.Str.occurrences (tx a) (tx [c]) 0 (tx a).length ((tx a).length+1)).length=a.count c:=by
 rw[StrLaws.occ_eq]
 have k:=occ_count (tx a) (cb c) (tx a).length ((tx a).length+1) ((tx a).length+1-0) 0 (#[],0) (Nat.le_refl _) (by omega) rfl (by simp)
 have e2:(⟨#[cb c]⟩:Str)=tx [c]:=rfl
 rw[e2]at k
 rw[Array.length_toList,k]
 simp only[List.drop_zero,tx_cps]
 rw[List.take_of_length_le (by rw[tx_len];simp)]
 simp
 rw[List.count_eq_countP,List.countP_map,List.count_eq_countP]
 congr 1
 funext x
 cases x<;>cases c<;>rfl
theorem start_eq {N:List Str} {vs:List V} {n:Nat} (h:N.length=n):L2.start N vs=vs.map some++List.replicate (n-vs.length) none:=by subst h;rfl
section
variable {C:Rc} {σ:L2.St} {H:Hp} {Q:VK} {D:Ends} {Qb:Bool->Hp->Prop}
theorem g_name {i:Nat} {v:V} {R:L2.St->Hp->Prop}:tG C (.name i) v σ H R=R (σ.set i (some v)) H:=rfl
theorem g_tup2 {i j:Nat} {a:Addr} {x y:V} {R:L2.St->Hp->Prop} (h:SqT C.K H a [x,y]) (q:R ((σ.set i (some x)).set j (some y)) H):tG C (.tup (.cons (.name i) (.cons (.name j) .nil))) (.ref a) σ H R:=
 ⟨a,[x,y],rfl,h,rfl,_,_,rfl,_,_,rfl,rfl,q⟩
def kFor (C:Rc) (t:Ct) (b:Css) (D:Ends) (σ:L2.St) (J:It) (H1:Hp):Prop:=∃W:Nat->Nat->L2.St->Hp->Prop,(∃m,W 0 m σ H1)/\∀i m σ H,W i m σ H->
 (J.stop i H/\D.nx σ H)\/(J.go i H/\∃N:L2.St->Hp->Prop,(∀σ' H',N σ' H'->∃m',m'<m/\W (i+1) m' σ' H')/\∀x H',J.yld i H x H'->tG C t x σ H' fun σ2 H2=>tSs C b { D with nx:=N,ct:=N,bk:=D.nx } σ2 H2)
theorem s_for {t:Ct} {it:Ci} {b:Css}:tS C (.for_ t it b) D σ H=tI C it σ H (kFor C t b D σ):=rfl
noncomputable def kIv (C:Rc) (R:It->Hp->Prop):VK:=fun x H1=>
 (∃a,x=.ref a/\(∃xs,SqL C.K H1 a xs)/\R (Itl C.K a) H1)\/(∃a,x=.ref a/\(∃xs,SqT C.K H1 a xs)/\R (Itt C.K a) H1)\/∃z,x=.str z/\R (Its z) H1
theorem i_val {e:Ce} {R:It->Hp->Prop}:tI C (.val e) σ H R=tE C e σ H (kIv C R):=rfl
noncomputable def kR1 (R:It->Hp->Prop):VK:=fun x H1=>∃j:Int,x=.int j/\-(2 ^ 62)<=j/\j<2 ^ 62/\R (Itr 0 j.toNat) H1
theorem i_range1 {e:Ce} {R:It->Hp->Prop}:tI C (.range1 e) σ H R=tE C e σ H fun x H1=>∃j:Int,[x]=[.int j]/\-(2 ^ 62)<=j/\j<2 ^ 62/\R (Itr 0 j.toNat) H1:=rfl
theorem i_range1' {e:Ce} {R:It->Hp->Prop}:tI C (.range1 e) σ H R=tE C e σ H (kR1 R):=by
 rw[i_range1]
 congr 1
 funext x H1
 unfold kR1
 simp only[List.cons.injEq,and_true]
noncomputable def kR2b (R:It->Hp->Prop) (x:V):VK:=fun y H1=>∃i j:Int,x=.int i/\y=.int j/\(-(2 ^ 62)<=i/\i<2 ^ 62/\-(2 ^ 62)<=j/\j<2 ^ 62)/\R (Itr i (j-i).toNat) H1
noncomputable def kR2a (C:Rc) (σ:L2.St) (e:Ce) (R:It->Hp->Prop):VK:=fun x H1=>tE C e σ H1 (kR2b R x)
theorem i_range2' {a b:Ce} {R:It->Hp->Prop}:tI C (.range2 a b) σ H R=tE C a σ H (kR2a C σ b R):=by
 show(tE C a σ H fun x H1=>tE C b σ H1 fun y H2=>∃i j:Int,[x,y]=[.int i,.int j]/\(-(2 ^ 62)<=i/\i<2 ^ 62/\-(2 ^ 62)<=j/\j<2 ^ 62)/\R (Itr i (j-i).toNat) H2)=_
 congr 1
 funext x H1
 unfold kR2a
 congr 1
 funext y H2
 unfold kR2b
 simp only[List.cons.injEq,and_true,and_assoc]
theorem kR2a_at {e:Ce} {R:It->Hp->Prop} {x:V}:kR2a C σ e R x H=tE C e σ H (kR2b R x):=rfl
noncomputable def kZ2 (C:Rc) (R:It->Hp->Prop) (x:V):VK:=fun y H1=>∃(k j:Bool) (a b:Addr),x=.ref a/\y=.ref b/\(∃xs,Sq k C.K H1 a xs)/\(∃ys,Sq j C.K H1 b ys)/\R (Itz2 k j C.K a b) H1
noncomputable def kZ1 (C:Rc) (σ:L2.St) (e:Ce) (R:It->Hp->Prop):VK:=fun x H1=>tE C e σ H1 (kZ2 C R x)
theorem i_zip {a b:Ce} {R:It->Hp->Prop}:tI C (.zip a b) σ H R=tE C a σ H (kZ1 C σ b R):=by
 show(tE C a σ H fun x H1=>tE C b σ H1 fun y H2=>∃(k j:Bool) (p q:Addr),[x,y]=[.ref p,.ref q]/\(∃xs,Sq k C.K H2 p xs)/\(∃ys,Sq j C.K H2 q ys)/\R (Itz2 k j C.K p q) H2)=_
 congr 1
 funext x H1
 unfold kZ1
 congr 1
 funext y H2
 unfold kZ2
 simp only[List.cons.injEq,and_true,and_assoc]
theorem kZ1_at {e:Ce} {R:It->Hp->Prop} {x:V}:kZ1 C σ e R x H=tE C e σ H (kZ2 C R x):=rfl
noncomputable def kEn (C:Rc) (R:It->Hp->Prop):VK:=fun x H1=>(∃a,x=.ref a/\(∃xs,SqL C.K H1 a xs)/\R (Ite C.K a) H1)\/(∃z,x=.str z/\R (Iteg z) H1)\/∃a,x=.ref a/\(∃xs,SqT C.K H1 a xs)/\R (Itet C.K a) H1
theorem i_enum {a:Ce} {R:It->Hp->Prop}:tI C (.enum a) σ H R=tE C a σ H (kEn C R):=by
 show(tE C a σ H fun x H1=>∃y,[x]=[y]/\((∃a,y=.ref a/\(∃xs,SqL C.K H1 a xs)/\R (Ite C.K a) H1)\/(∃z,y=.str z/\R (Iteg z) H1)\/∃a,y=.ref a/\(∃xs,SqT C.K H1 a xs)/\R (Itet C.K a) H1))=_
 congr 1
 funext x H1
 unfold kEn
 exact propext ⟨fun⟨y,e,q⟩=>by cases e;exact q,fun q=>⟨x,rfl,q⟩⟩
theorem at_enS {R:It->Hp->Prop} {z:Str} (q:R (Iteg z) H):kEn C R (.str z) H:=.inr (.inl ⟨z,rfl,q⟩)
theorem at_iv_lst {R:It->Hp->Prop} {a:Addr} {xs:List V} (h:SqL C.K H a xs) (q:R (Itl C.K a) H):kIv C R (.ref a) H:=.inl ⟨a,rfl,⟨xs,h⟩,q⟩
theorem at_iv_tup {R:It->Hp->Prop} {a:Addr} {xs:List V} (h:SqT C.K H a xs) (q:R (Itt C.K a) H):kIv C R (.ref a) H:=.inr (.inl ⟨a,rfl,⟨xs,h⟩,q⟩)
theorem at_r1 {R:It->Hp->Prop} {j:Int} (h0:-(2 ^ 62)<=j) (h1:j<2 ^ 62) (q:R (Itr 0 j.toNat) H):kR1 R (.int j) H:=⟨j,rfl,h0,h1,q⟩
theorem at_r2 {R:It->Hp->Prop} {i j:Int} (h0:-(2 ^ 62)<=i) (h1:i<2 ^ 62) (h2:-(2 ^ 62)<=j) (h3:j<2 ^ 62) (q:R (Itr i (j-i).toNat) H):kR2b R (.int i) (.int j) H:=⟨i,j,rfl,rfl,⟨h0,h1,h2,h3⟩,q⟩
theorem at_zipL {R:It->Hp->Prop} {a b:Addr} {xs ys:List V} (h:SqL C.K H a xs) (h2:SqL C.K H b ys) (q:R (Itz false C.K a b) H):kZ2 C R (.ref a) (.ref b) H:=⟨false,false,a,b,rfl,rfl,⟨xs,h⟩,⟨ys,h2⟩,q⟩
theorem at_zipT {R:It->Hp->Prop} {a b:Addr} {xs ys:List V} (h:SqT C.K H a xs) (h2:SqT C.K H b ys) (q:R (Itz true C.K a b) H):kZ2 C R (.ref a) (.ref b) H:=⟨true,true,a,b,rfl,rfl,⟨xs,h⟩,⟨ys,h2⟩,q⟩
theorem for_t {a:Addr} {xs:List V} {t:Ct} {b:Css} (Pv:Nat->L2.St->Hp->Prop) (h0:Pv 0 σ H) (hl:∀i σ H,i<=xs.length->Pv i σ H->SqT C.K H a xs)
  (hs:∀i x σ H,xs[i]?=some x->Pv i σ H->tG C t x σ H (tSs C b { D with nx:=Pv (i+1),ct:=Pv (i+1),bk:=D.nx })) (hd:∀σ H,Pv xs.length σ H->D.nx σ H):kFor C t b D σ (Itt C.K a) H:=for_tup Pv h0 hl hs hd
theorem for_r {lo:Int} {n:Nat} {t:Ct} {b:Css} (Pv:Nat->L2.St->Hp->Prop) (h0:Pv 0 σ H)
  (hs:∀i σ H,i<n->Pv i σ H->tG C t (.int (lo+i)) σ H (tSs C b { D with nx:=Pv (i+1),ct:=Pv (i+1),bk:=D.nx })) (hd:∀σ H,Pv n σ H->D.nx σ H):kFor C t b D σ (Itr lo n) H:=for_range Pv h0 hs hd
theorem for_etx {l:List Bool} {t:Ct} {b:Css} (Pv:Nat->L2.St->Hp->Prop) (h0:Pv 0 σ H)
  (hs:∀i c σ H p,l[i]?=some c->H p=none->Pv i σ H->tG C t (.ref p) σ (upd H p (.tup [.int i,.str (tx [c])])) (tSs C b { D with nx:=Pv (i+1),ct:=Pv (i+1),bk:=D.nx })) (hd:∀σ H,Pv l.length σ H->D.nx σ H):kFor C t b D σ (Iteg (tx l)) H:=by
 refine⟨fun i m σ H=>m=l.length-i/\i<=l.length/\Pv i σ H,⟨l.length,by simp,Nat.zero_le _,h0⟩,?_⟩
 rintro i m σ H ⟨rfl,hi,p⟩
 by_cases hlt:i<l.length
 .refine .inr ⟨(show i<(tx l).cps.size by rw[tx_size];exact hlt),Pv (i+1),fun σ' H' p'=>⟨l.length-(i+1),by omega,rfl,hlt,p'⟩,fun x H' y=>?_⟩
  obtain⟨ad,v,rfl,hn,⟨c,hc,rfl⟩,rfl⟩:=y
  rw[tx_get,List.getElem?_eq_getElem hlt]at hc
  cases hc
  exact hs i l[i] σ _ ad (List.getElem?_eq_getElem hlt) hn p
 .have e:i=l.length:=by omega
  subst e
  exact .inl ⟨(show(tx l).cps.size=l.length from tx_size),hd σ H p⟩
noncomputable def kWhl (C:Rc) (b:Css) (D:Ends) (N:L2.St->Hp->Prop) (σ:L2.St):Bool->Hp->Prop:=fun c H1=>if c=true then ∃N':L2.St->Hp->Prop,(∀σ' H',N' σ' H'->N σ' H')/\tSs C b { D with nx:=N',ct:=N',bk:=D.nx } σ H1 else D.nx σ H1
theorem whl_by {q:Cq} {b:Css} (Pv:Nat->L2.St->Hp->Prop) (m:Nat) (h0:Pv m σ H) (hs:∀m σ H,Pv m σ H->tQ C q σ H (kWhl C b D (fun σ' H'=>∃m',m'<m/\Pv m' σ' H') σ)):tS C (.whl q b) D σ H:=⟨Pv,⟨m,h0⟩,hs⟩
theorem kWhl_t {b:Css} {N:L2.St->Hp->Prop} (h:tSs C b { D with nx:=N,ct:=N,bk:=D.nx } σ H):kWhl C b D N σ true H:=⟨N,fun _ _ q=>q,h⟩
theorem kWhl_f {b:Css} {N:L2.St->Hp->Prop} (h:D.nx σ H):kWhl C b D N σ false H:=by unfold kWhl;rw[if_neg (by decide)];exact h
noncomputable def kPush (xs:List V) (P:List V->Hp->Prop):VK:=fun v H=>xs.length<sizeLine/\P (xs++[v]) H
noncomputable def kCT (C:Rc) (elt:Ce) (xs:List V) (P:List V->Hp->Prop) (σ:L2.St):Bool->Hp->Prop:=fun ok H=>if ok=true then tE C elt σ H (kPush xs P)else P xs H
noncomputable def kCG (C:Rc) (elt:Ce) (q:Cqo) (xs:List V) (P:List V->Hp->Prop):L2.St->Hp->Prop:=fun σ H=>tQo C q σ H (kCT C elt xs P σ)
theorem kCG_n {elt:Ce} {xs:List V} {P:List V->Hp->Prop}:kCG C elt .none xs P σ H=tE C elt σ H (kPush xs P):=rfl
theorem kCG_q {elt:Ce} {q:Cq} {xs:List V} {P:List V->Hp->Prop}:kCG C elt (.some q) xs P σ H=tQ C q σ H (kCT C elt xs P σ):=rfl
theorem kCT_t {elt:Ce} {xs:List V} {P:List V->Hp->Prop}:kCT C elt xs P σ true H=tE C elt σ H (kPush xs P):=rfl
theorem kCT_f {elt:Ce} {xs:List V} {P:List V->Hp->Prop}:kCT C elt xs P σ false H=P xs H:=rfl
theorem kPush_at {xs:List V} {P:List V->Hp->Prop} {v:V}:kPush xs P v H=(xs.length<sizeLine/\P (xs++[v]) H):=rfl
def kNew (Q:VK) (xs:List V) (H2:Hp):Prop:=∀p,H2 p=none->Q (.ref p) (upd H2 p (.lst xs))
def kComp (C:Rc) (elt:Ce) (own:List Nat) (t:Ct) (q:Cqo) (σ:L2.St) (Q:VK) (J:It) (H1:Hp):Prop:=tClause own (tG C t) (tQo C q) (tEmit (tE C elt)) J σ [] H1 (kNew Q)
theorem tE_comp {elt:Ce} {own:List Nat} {t:Ct} {it:Ci} {q:Cqo}:tE C (.comp elt own t it q .nil) σ H Q=tI C it σ H (kComp C elt own t q σ Q):=rfl
theorem comp_by {elt:Ce} {own:List Nat} {t:Ct} {q:Cqo} {J:It} {n:Nat} (Pv:Nat->List V->Hp->Prop) (h0:Pv 0 [] H) (hgo:∀i xs H,i<n->Pv i xs H->J.go i H) (hstop:∀xs H,Pv n xs H->J.stop n H)
  (hs:∀i xs H x H' (R:List V->Hp->Prop),i<n->Pv i xs H->J.yld i H x H'->(∀ys H2,Pv (i+1) ys H2->R ys H2)->tG C t x (clr own σ) H' (kCG C elt q xs R)) (hd:∀xs H,Pv n xs H->kNew Q xs H):kComp C elt own t q σ Q J H:=by
 refine⟨fun i m xs H=>m=n-i/\i<=n/\Pv i xs H,⟨n,by simp,Nat.zero_le _,h0⟩,?_⟩
 rintro i m xs H ⟨rfl,hi,p⟩
 by_cases hlt:i<n
 .refine .inr ⟨hgo i xs H hlt p,fun x H' y=>?_⟩
  exact hs i xs H x H' (fun c H4=>∃m',m'<n-i/\(m'=n-(i+1)/\i+1<=n/\Pv (i+1) c H4)) hlt p y fun ys H2 p2=>⟨n-(i+1),by omega,rfl,hlt,p2⟩
 .have e:i=n:=by omega
  subst e
  exact .inl ⟨hstop xs H p,hd xs H p⟩
theorem comp_l {elt:Ce} {own:List Nat} {t:Ct} {q:Cqo} {a:Addr} {vs:List V} (Pv:Nat->List V->Hp->Prop) (h0:Pv 0 [] H) (hl:∀i xs H,Pv i xs H->SqL C.K H a vs)
  (hs:∀i xs H x (R:List V->Hp->Prop),vs[i]?=some x->Pv i xs H->(∀ys H2,Pv (i+1) ys H2->R ys H2)->tG C t x (clr own σ) H (kCG C elt q xs R)) (hd:∀xs H,Pv vs.length xs H->kNew Q xs H):kComp C elt own t q σ Q (Itl C.K a) H:=
 comp_by (n:=vs.length) Pv h0 (fun i xs H hi p=>⟨vs,vs[i],hl i xs H p,by simp[hi]⟩) (fun xs H p=>⟨vs,hl _ xs H p,Nat.le_refl _⟩) (fun i xs H x H' R hi p y k=>by
  obtain⟨e,y⟩:=y
  subst e
  exact hs i xs H' x R (y vs (hl i xs H' p)) p k) hd
theorem comp_r {elt:Ce} {own:List Nat} {t:Ct} {q:Cqo} {lo:Int} {n:Nat} (Pv:Nat->List V->Hp->Prop) (h0:Pv 0 [] H)
  (hs:∀i xs H (R:List V->Hp->Prop),i<n->Pv i xs H->(∀ys H2,Pv (i+1) ys H2->R ys H2)->tG C t (.int (lo+i)) (clr own σ) H (kCG C elt q xs R)) (hd:∀xs H,Pv n xs H->kNew Q xs H):kComp C elt own t q σ Q (Itr lo n) H:=
 comp_by (n:=n) Pv h0 (fun i xs H hi p=>hi) (fun xs H p=>Nat.le_refl _) (fun i xs H x H' R hi p y k=>by
  obtain⟨e,rfl⟩:=y
  subst e
  exact hs i xs H' R hi p k) hd
theorem comp_z {elt:Ce} {own:List Nat} {t:Ct} {q:Cqo} {k j:Bool} {a b:Addr} {vs ws:List V} (hw:vs.length=ws.length) (Pv:Nat->List V->Hp->Prop) (h0:Pv 0 [] H) (hl:∀i xs H,Pv i xs H->Sq k C.K H a vs/\Sq j C.K H b ws)
  (hs:∀i xs H x y p (R:List V->Hp->Prop),vs[i]?=some x->ws[i]?=some y->H p=none->Pv i xs H->(∀ys H2,Pv (i+1) ys H2->R ys H2)->tG C t (.ref p) (clr own σ) (upd H p (.tup [x,y])) (kCG C elt q xs R)) (hd:∀xs H,Pv vs.length xs H->kNew Q xs H):kComp C elt own t q σ Q (Itz2 k j C.K a b) H:=
 comp_by (n:=vs.length) Pv h0 (fun i xs H hi p=>⟨vs,ws,vs[i],ws[i],(hl i xs H p).1,(hl i xs H p).2,by simp[hi],by simp[hw ▸ hi]⟩) (fun xs H p=>⟨vs,ws,(hl _ xs H p).1,(hl _ xs H p).2,.inl (Nat.le_refl _)⟩) (fun i xs H x H' R hi p y kk=>by
  obtain⟨ad,u,v,rfl,hn,y1,y2,rfl⟩:=y
  exact hs i xs H u v ad R (y1 vs (hl i xs H p).1) (y2 ws (hl i xs H p).2) hn p kk) hd
end
section
variable {C:Rc} {K:W.Frag} {σ:L2.St} {H:Hp} {Q:VK} {D:Ends} {Qb:Bool->Hp->Prop}
theorem call_e {f:Str} {es:Ces} {sp:Sp} (h:C.fs f=some sp) (q:tA C es σ H (kCall (some sp) (C.xk σ) Q)):tE C (.call f es) σ H Q:=by
 rw[tE_call h]
 exact q
theorem bl_len_str {x:Str}:rBlt K .len [.str x] H Q=(x.length<=sizeLine/\Q (.int x.length) H):=propext ⟨fun⟨u,n,e,h,q⟩=>by cases e;obtain⟨h1,h2⟩:=h;subst h2;exact⟨h1,q⟩,fun q=>⟨_,_,rfl,⟨q.1,rfl⟩,q.2⟩⟩
theorem bl_len_tx {l:List Bool}:rBlt K .len [.str (tx l)] H Q=(l.length<=sizeLine/\Q (.int l.length) H):=by rw[bl_len_str,tx_len]
theorem at_lenL {a:Addr} {xs:List V} (h:SqL K H a xs) (q:Q (.int xs.length) H):rBlt K .len [.ref a] H Q:=⟨_,_,rfl,.inl ⟨xs,h,rfl⟩,q⟩
theorem at_lenT {a:Addr} {xs:List V} (h:SqT K H a xs) (q:Q (.int xs.length) H):rBlt K .len [.ref a] H Q:=⟨_,_,rfl,.inr ⟨xs,h,rfl⟩,q⟩
theorem bl_abs {i:Int}:rBlt K .abs [.int i] H Q=Q (.int (if i<0 then -i else i)) H:=propext ⟨fun⟨u,e,q⟩=>by cases e;exact q,fun q=>⟨_,rfl,q⟩⟩
theorem bl_int_int {i:Int}:rBlt K .int [.int i] H Q=Q (.int i) H:=rfl
theorem bl_int_bl {k:Bool}:rBlt K .int [.bl k] H Q=Q (.int (if k then 1 else 0)) H:=rfl
theorem bl_min2 {i j:Int}:rBlt K .min [.int i,.int j] H Q=Q (.int (if j<i then j else i)) H:=rfl
theorem at_all {a:Addr} {bs:List Bool} (h:SqL K H a (bs.map V.bl)) (q:Q (.bl (bs.all id)) H):rBlt K .all [.ref a] H Q:=⟨a,bs,rfl,h,q⟩
theorem at_isi {x:V} {T c:String} (h:tyName H x=some T) (hT:T∈tyKnown) (hc:c∈["bool","int","str","list","tuple","dict"]) (q:Q (.bl (isT T c)) H):rBlt K .isinstance [x,.ty c] H Q:=.inl (.inl ⟨x,T,c,rfl,h,hT,hc,q⟩)
theorem at_isi2 {x:V} {T c d:String} {p:Addr} (h:tyName H x=some T) (hT:T∈tyKnown) (hp:H p=some (.tup [.ty c,.ty d])) (hc:c∈["bool","int","str","list","tuple","dict"]) (hd:d∈["bool","int","str","list","tuple","dict"]) (q:Q (.bl (isT T c || isT T d)) H):rBlt K .isinstance [x,.ref p] H Q:=
 .inl <| .inr ⟨x,T,p,[c,d],rfl,h,hT,hp,fun e he=>by
  simp only[List.mem_cons,List.not_mem_nil,or_false]at he
  rcases he with rfl|rfl
  .exact hc
  .exact hd,by simpa using q⟩
theorem at_ixL {a:Addr} {xs:List V} {i:Int} {v:V} (h:SqL K H a xs) (e:atI xs i=some v) (q:Q v H):rIxL K (.ref a) (.int i) H Q\/rIxT K (.ref a) (.int i) H Q:=.inl ⟨a,xs,i,v,rfl,rfl,h,e,q⟩
theorem at_two {a:Addr} {u v:V} {k:Bool} (h:SqL K H a [u,v]) (q:Q (if k then v else u) H):rIxL K (.ref a) (.int (if k then 1 else 0)) H Q\/rIxT K (.ref a) (.int (if k then 1 else 0)) H Q:=by
 refine at_ixL h ?_ q
 cases k<;>rfl
theorem tx_eq0 {c:Bool}:decide (tx [c]=tx [false])=!c:=by
 cases c
 .exact decide_eq_true rfl
 .exact decide_eq_false fun h=>by cases tx_inj h
theorem b_addtx {x y:List Bool}:rBin K .Add (.str (tx x)) (.str (tx y)) H Q=(x.length+y.length<=sizeLine/\Q (.str (tx (x++y))) H):=by
 rw[b_adds,tx_len,tx_len,tx_app]
theorem c_eqV {x y:V} (h:scal x y=true):rCmp K .Eq x y H Q=Q (.bl (decide (x=y))) H:=by
 have e:rCmp K .Eq x y H Q=rEq x y H Q:=by
  unfold rCmp
  dsimp only
  split
  .cases h
  .rfl
 rw[e]
 exact propext ⟨fun⟨_,q⟩=>q,fun q=>⟨h,q⟩⟩
theorem at_range2 {i j:Int} (q:∀p,H p=none->Q (.ref p) (upd H p (.rng i j))):rBlt K .range [.int i,.int j] H Q:=⟨i,j,.inl rfl,q⟩
theorem at_range1 {j:Int} (q:∀p,H p=none->Q (.ref p) (upd H p (.rng 0 j))):rBlt K .range [.int j] H Q:=⟨0,j,.inr ⟨rfl,rfl⟩,q⟩
theorem at_listR {r:Addr} {i j:Int} (h:H r=some (.rng i j)) (h1:-(2 ^ 62)<=i) (h2:i<2 ^ 62) (h3:-(2 ^ 62)<=j) (h4:j<2 ^ 62) (hz:(j-i).toNat<=sizeLine) (q:∀p,H p=none->Q (.ref p) (upd H p (.lst (rgs i (j-i).toNat)))):rBlt K .list [.ref r] H Q:=.inr ⟨r,i,j,rfl,h,⟨h1,h2,h3,h4⟩,hz,q⟩
theorem c_eqb {x y:Bool}:rCmp K .Eq (.bl x) (.bl y) H Q=Q (.bl (x == y)) H:=by
 rw[c_eqV rfl]
 cases x<;>cases y<;>rfl
theorem c_neb {x y:Bool}:rCmp K .NotEq (.bl x) (.bl y) H Q=Q (.bl (x != y)) H:=by
 have e:rCmp K .NotEq (.bl x) (.bl y) H Q=Q (.bl (!decide (V.bl x=V.bl y))) H:=propext ⟨fun⟨_,q⟩=>q,fun q=>⟨rfl,q⟩⟩
 rw[e]
 cases x<;>cases y<;>rfl
theorem c_nei {x y:Int}:rCmp K .NotEq (.int x) (.int y) H Q=Q (.bl (!decide (x=y))) H:=by
 have e:rCmp K .NotEq (.int x) (.int y) H Q=Q (.bl (!decide (V.int x=V.int y))) H:=propext ⟨fun⟨_,q⟩=>q,fun q=>⟨rfl,q⟩⟩
 rw[e]
 congr 3
 simp only[V.int.injEq]
theorem c_is {x:V}:rCmp K .Is x .non H Q=Q (.bl (decide (x=.non))) H:=propext ⟨fun⟨_,q⟩=>q,fun q=>⟨rfl,q⟩⟩
theorem m_count {l:List Bool} {c:Bool}:rMet K .countS (.str (tx l)) [.str (tx [c])] H Q=Q (.int (l.count c)) H:=propext ⟨fun⟨a,b,e1,e2,q⟩=>by
  cases e1
  cases e2
  rw[tx_count]at q
  exact q,fun q=>⟨_,_,rfl,rfl,by rw[tx_count];exact q⟩⟩
theorem s_par {i j:Nat} {a b:Ce}:tS C (.par i j a b) D σ H=tE C a σ H (kPar1 C σ i j b D):=by
 show(tE C a σ H fun x H1=>tE C b σ H1 fun y H2=>∃v w,[x,y]=[v,w]/\D.nx ((σ.set i (some v)).set j (some w)) H2)=_
 congr 1
 funext x H1
 unfold kPar1
 congr 1
 funext y H2
 exact propext ⟨fun⟨v,w,e,q⟩=>by cases e;exact q,fun q=>⟨x,y,rfl,q⟩⟩
theorem at_app {a:Addr} {xs:List V} {y:V} (h:H a=some (.lst xs)) (hz:xs.length<sizeLine) (q:Q .non (upd H a (.lst (xs++[y])))):rMet K .append (.ref a) [y] H Q:=⟨a,xs,y,rfl,rfl,h,hz,q⟩
theorem tyL {a:Addr} {xs:List V} {m:Mf} (h:H a=some (.lst xs)) (hm:metTy m="list"):tyV K (metTy m) (.ref a) H:=.inl ⟨hm,xs,SqL.of h⟩
theorem at_cat {a b:Addr} {xs zs:List V} (h:H a=some (.lst xs)) (h2:H b=some (.lst zs)) (hz:xs.length+zs.length<=sizeLine) (q:∀p,H p=none->Q (.ref p) (upd H p (.lst (xs++zs)))):rBin K .Add (.ref a) (.ref b) H Q:=.inl ⟨a,b,xs,zs,rfl,rfl,h,h2,hz,q⟩
theorem same_new {H:Hp} {p:Addr} (h:H p=none) (o:HO):Same H (upd H p o):=fun b u q=>by rw[upd_ne (ne_of_none q h)];exact q
theorem lt_of_get {α:Type} {l:List α} {i:Nat} {c:α} (hc:l[i]?=some c):i<l.length:=by
 rcases Nat.lt_or_ge i l.length with h|h
 .exact h
 .rw[List.getElem?_eq_none_iff.mpr h]at hc;cases hc
theorem tE_dsi {k v:Int}:tE C (.dsi k v) σ H Q=(∀p,H p=none->Q (.ref p) (upd H p (.dK [(.inl k,.int v)]))):=rfl
theorem tE_dnew:tE C .dnew σ H Q=(∀p,H p=none->Q (.ref p) (upd H p (.dK []))):=rfl
noncomputable def kDx2 (x:V) (Q:VK):VK:=fun y H=>∃a v,x=.ref a/\DGet H a y (some v)/\Q v H
noncomputable def kDx1 (C:Rc) (σ:L2.St) (b:Ce) (Q:VK):VK:=fun x H=>tE C b σ H (kDx2 x Q)
theorem tE_dix {a b:Ce}:tE C (.dix a b) σ H Q=tE C a σ H (kDx1 C σ b Q):=rfl
theorem kDx1_at {b:Ce} {x:V}:kDx1 C σ b Q x H=tE C b σ H (kDx2 x Q):=rfl
end
end R3
namespace R3
open PySem PySem.Spec PyProof.Rows L2 PySem.Builtin PySem.Builtin.Str
theorem tx_join:∀{ls:List (List Bool)},Txt.join (tx []) (ls.map tx)=tx ls.flatten:=by
 intro ls
 unfold Txt.join
 rw[StrLaws.glued_eq_join]
 induction ls with
 |nil=>rfl
 |cons l r ih=>
  cases r with
  |nil=>simp[Str.join]
  |cons y r=>
   rw[List.map_cons,List.map_cons]
   show tx l++tx []++Str.join (tx []) (List.map tx (y :: r))=_
   rw[ih,tx_app,tx_app]
   simp
section
variable {K:W.Frag} {H:Hp} {Q:VK}
theorem at_join {a:Addr} {ls:List (List Bool)} (h:SqL K H a (ls.map fun l=>V.str (tx l))) (hz:ls.flatten.length<=16000000) (q:Q (.str (tx ls.flatten)) H):rMet K .join (.str (tx [])) [.ref a] H Q:=by
 refine⟨tx [],a,ls.map tx,rfl,rfl,.inl (by rw[List.map_map];exact h),?_,by rw[tx_join];exact q⟩
 have e:((ls.map tx).map (·.length)).sum=ls.flatten.length:=by
  rw[List.map_map,List.length_flatten]
  congr 1
  apply List.map_congr_left
  intro l _
  exact tx_len
 rw[e,tx_len,List.length_nil,Nat.mul_zero]
 omega
end
section
variable {C:Rc} {K:W.Frag} {σ:L2.St} {H:Hp} {Q:VK} {D:Ends} {Qb:Bool->Hp->Prop} {i j:Int}
theorem kTru_int {n:Int}:kTru C Qb (.int n) H=Qb (!decide (n=0)) H:=by
 have e:(n != 0)=!decide (n=0):=by
  by_cases h:n=0
  .subst h;rfl
  .rw[decide_eq_false h];simpa using h
 exact propext ⟨fun⟨u,h,q⟩=>by
  have h:u=(n != 0):=h
  subst h
  rw[e]at q
  exact q,fun q=>⟨n != 0,rfl,by rw[e];exact q⟩⟩
noncomputable def kR3c (R:It->Hp->Prop) (x y:V):VK:=fun z H1=>∃i j c:Int,x=.int i/\y=.int j/\z=.int c/\(-(2 ^ 60)<=i/\i<2 ^ 60/\-(2 ^ 60)<=j/\j<2 ^ 60/\0<c/\c<2 ^ 29)/\R (Itc i c (nStep i j c)) H1
noncomputable def kR3b (C:Rc) (σ:L2.St) (e:Ce) (R:It->Hp->Prop) (x:V):VK:=fun y H1=>tE C e σ H1 (kR3c R x y)
noncomputable def kR3a (C:Rc) (σ:L2.St) (e e':Ce) (R:It->Hp->Prop):VK:=fun x H1=>tE C e σ H1 (kR3b C σ e' R x)
theorem kR3a_at {e e':Ce} {R:It->Hp->Prop} {x:V}:kR3a C σ e e' R x H=tE C e σ H (kR3b C σ e' R x):=rfl
theorem kR3b_at {e:Ce} {R:It->Hp->Prop} {x y:V}:kR3b C σ e R x y H=tE C e σ H (kR3c R x y):=rfl
noncomputable def kRv (C:Rc) (R:It->Hp->Prop):VK:=fun x H1=>RevV C.K x H1 R
theorem i_rev {a:Ce} {R:It->Hp->Prop}:tI C (.rev a) σ H R=tE C a σ H (kRv C R):=by
 show(tE C a σ H fun x H1=>∃y,[x]=[y]/\RevV C.K y H1 R)=_
 congr 1
 funext x H1
 exact propext ⟨fun⟨y,e,q⟩=>by cases e;exact q,fun q=>⟨x,rfl,q⟩⟩
theorem at_rvR {R:It->Hp->Prop} {p:Addr} {i j:Int} (h:H p=some (.rng i j)) (h0:-(2 ^ 62)<=i) (h1:i<2 ^ 62) (h2:-(2 ^ 62)<=j) (h3:j<2 ^ 62) (q:R (Itc (i+((j-i).toNat:Int)-1) (-1) (j-i).toNat) H):kRv C R (.ref p) H:=.inl ⟨p,i,j,rfl,h,⟨h0,h1,h2,h3⟩,q⟩
noncomputable def kDk (R:It->Hp->Prop):VK:=fun x H1=>DkV x H1 R\/DtV x H1 R
theorem i_dk {e:Ce} {R:It->Hp->Prop}:tI C (.dk e) σ H R=tE C e σ H (kDk R):=rfl
theorem at_dk {R:It->Hp->Prop} {d:Addr} {kvs:List (Key×V)} (h:Rd H d (.dK kvs)) (q:∀o,R (Itdk d o (kvs.map fun kv=>L2.kV kv.1)) (upd H d (.frz o (.dK kvs)))):kDk R (.ref d) H:=.inl ⟨d,kvs,rfl,h,fun o _=>q o⟩
theorem for_dk {d:Addr} {o:Obj} {ks:List V} {t:Ct} {b:Css} (Pv:Nat->L2.St->Hp->Prop) (h0:Pv 0 σ H) (hl:∀i σ H,Pv i σ H->Fz H d o)
  (hs:∀i x σ H,ks[i]?=some x->Pv i σ H->tG C t x σ H (tSs C b { D with nx:=Pv (i+1),ct:=Pv (i+1),bk:=D.nx })) (hd:∀σ H,Pv ks.length σ H->D.nx σ H):kFor C t b D σ (Itdk d o ks) H:=by
 refine⟨fun i m σ H=>m=ks.length-i/\i<=ks.length/\Pv i σ H,⟨ks.length,by simp,Nat.zero_le _,h0⟩,?_⟩
 rintro i m σ H ⟨rfl,hi,p⟩
 by_cases hlt:i<ks.length
 .refine .inr ⟨⟨hlt,hl i σ H p⟩,Pv (i+1),fun σ' H' p'=>⟨ks.length-(i+1),by omega,rfl,hlt,p'⟩,fun x H' y=>?_⟩
  obtain⟨e,y⟩:=y
  subst e
  exact hs i x σ _ y p
 .have e:i=ks.length:=by omega
  exact .inl ⟨⟨by omega,hl i σ H p⟩,hd σ H (e ▸ p)⟩
theorem for_c {lo c:Int} {n:Nat} {t:Ct} {b:Css} (Pv:Nat->L2.St->Hp->Prop) (h0:Pv 0 σ H)
  (hs:∀i σ H,i<n->Pv i σ H->tG C t (.int (lo+i*c)) σ H (tSs C b { D with nx:=Pv (i+1),ct:=Pv (i+1),bk:=D.nx })) (hd:∀σ H,Pv n σ H->D.nx σ H):kFor C t b D σ (Itc lo c n) H:=by
 refine⟨fun i m σ H=>m=n-i/\i<=n/\Pv i σ H,⟨n,by simp,Nat.zero_le _,h0⟩,?_⟩
 rintro i m σ H ⟨rfl,hi,p⟩
 by_cases hlt:i<n
 .refine .inr ⟨hlt,Pv (i+1),fun σ' H' p'=>⟨n-(i+1),by omega,rfl,hlt,p'⟩,fun x H' y=>?_⟩
  obtain⟨e,rfl⟩:=y
  subst e
  exact hs i σ _ hlt p
 .have e:i=n:=by omega
  subst e
  exact .inl ⟨Nat.le_refl _,hd σ H p⟩
def kIn2 (C:Rc) (elt:Ce) (ws:List Nat) (t2:Ct) (q2:Cqo) (xs:List V) (P:List V->Hp->Prop) (σ:L2.St) (J:It) (H1:Hp):Prop:=tClause ws (tG C t2) (tQo C q2) (tEmit (tE C elt)) J σ xs H1 P
noncomputable def kCT2 (C:Rc) (elt:Ce) (ws:List Nat) (t2:Ct) (it2:Ci) (q2:Cqo) (xs:List V) (P:List V->Hp->Prop) (σ:L2.St):Bool->Hp->Prop:=fun ok H=>if ok=true then tI C it2 σ H (kIn2 C elt ws t2 q2 xs P σ)else P xs H
noncomputable def kCG2 (C:Rc) (elt:Ce) (q:Cqo) (ws:List Nat) (t2:Ct) (it2:Ci) (q2:Cqo) (xs:List V) (P:List V->Hp->Prop):L2.St->Hp->Prop:=fun σ H=>tQo C q σ H (kCT2 C elt ws t2 it2 q2 xs P σ)
theorem kCG2_n {elt:Ce} {ws:List Nat} {t2:Ct} {it2:Ci} {q2:Cqo} {xs:List V} {P:List V->Hp->Prop}:kCG2 C elt .none ws t2 it2 q2 xs P σ H=tI C it2 σ H (kIn2 C elt ws t2 q2 xs P σ):=rfl
theorem kCG2_q {elt:Ce} {q:Cq} {ws:List Nat} {t2:Ct} {it2:Ci} {q2:Cqo} {xs:List V} {P:List V->Hp->Prop}:kCG2 C elt (.some q) ws t2 it2 q2 xs P σ H=tQ C q σ H (kCT2 C elt ws t2 it2 q2 xs P σ):=rfl
theorem kCT2_t {elt:Ce} {ws:List Nat} {t2:Ct} {it2:Ci} {q2:Cqo} {xs:List V} {P:List V->Hp->Prop}:kCT2 C elt ws t2 it2 q2 xs P σ true H=tI C it2 σ H (kIn2 C elt ws t2 q2 xs P σ):=rfl
theorem kCT2_f {elt:Ce} {ws:List Nat} {t2:Ct} {it2:Ci} {q2:Cqo} {xs:List V} {P:List V->Hp->Prop}:kCT2 C elt ws t2 it2 q2 xs P σ false H=P xs H:=rfl
def kComp2 (C:Rc) (elt:Ce) (own:List Nat) (t:Ct) (q:Cqo) (ws:List Nat) (t2:Ct) (it2:Ci) (q2:Cqo) (σ:L2.St) (Q:VK) (J:It) (H1:Hp):Prop:=tClause own (tG C t) (tQo C q) (tNest (tI C it2) (tClause ws (tG C t2) (tQo C q2) (tEmit (tE C elt)))) J σ [] H1 (kNew Q)
theorem tE_comp2 {elt:Ce} {own:List Nat} {t:Ct} {it:Ci} {q:Cqo} {ws:List Nat} {t2:Ct} {it2:Ci} {q2:Cqo}:tE C (.comp elt own t it q (.cons ws t2 it2 q2 .nil)) σ H Q=tI C it σ H (kComp2 C elt own t q ws t2 it2 q2 σ Q):=rfl
end
section
variable {α β:Type} {R S:α->β->Prop}
end
section
variable {C:Rc} {σ:L2.St} {H:Hp} {Q:VK} {D:Ends}
structure ClsG (C:Rc) (r:Str) (Cr:Addr) (L:List Str):Prop where
 own:C.cl r=some Cr
 e:∃Ce,C.cl "RunError"=some Ce/\W.exmOne C.K (.ref Cr) (.ref Ce)=some true
 ex:W.excIn C.K Cr bmV "ValueError.__new__"=true
 x:XCls C.K Cr
 kv:W.kitOne C.K (.ref Cr) (.type "ValueError")=some true
 k:∀c∈L,∃Cc,C.cl c=some Cc/\W.kitOne C.K (.ref Cr) (.ref Cc)=some (decide (c=r))
end
noncomputable def fsOf (l:List (Str×Sp)) (y:Str):Option Sp:=l.lookup y
theorem lookup_here {x:Str} {s:Sp} {l:List (Str×Sp)}:fsOf ((x,s) :: l) x=some s:=by unfold fsOf;simp
theorem lookup_skip {x y:Str} {s:Sp} {l:List (Str×Sp)} (h:(y == x)=false):fsOf ((x,s) :: l) y=fsOf l y:=by
 unfold fsOf
 rw[List.lookup_cons,h]
theorem lookup_mem {y:Str} {s:Sp}:∀{l:List (Str×Sp)},fsOf l y=some s->(y,s)∈l
 | [],h=>by cases h
 |(x,t) :: l,h=>by
  unfold fsOf at h
  rw[List.lookup_cons]at h
  cases e:y == x with
  |true=>
   rw[e]at h
   cases h
   rw[eq_of_beq e]
   exact List.mem_cons_self ..
  |false=>
   rw[e]at h
   exact List.mem_cons_of_mem _ (lookup_mem h)
theorem hfs_of {P:Program} {w:World} {K:W.Frag} {mg:Str->Option Value} {base:Heap} {k:Nat} {l:List (Str×Sp)} (h:∀p∈l,∃f' fd' ps',FnOk P w K mg base CX0 k f' fd' ps' p.2/\mg p.1=some (.ref f')/\W.keepIn K (.ref f')=true/\Binds K fd' ps' []):
  ∀y sp',fsOf l y=some sp'->∃f' fd' ps',FnOk P w K mg base CX0 k f' fd' ps' sp'/\mg y=some (.ref f')/\W.keepIn K (.ref f')=true/\Binds K fd' ps' []:=fun y sp' e=>h (y,sp') (lookup_mem e)
theorem code_ok0 {P:Program} {w:World} {K:W.Frag} {mg:Str->Option Value} {base:Heap} {x qual:Str} {st:Stmt} {f:Addr} {fd:FuncData} {ps:List Str} {k:Nat} {sp:Sp} (F:Fun K x qual st f fd) (C:Rc) (S:FnScope C.N ps (defScope st)) (hK:C.K=K) (code:Css) (hm:mSs C.N C.B (defScope st) code (defBody st)=true)
  (len:∀vs H Q E,sp vs H Q E->vs.length=ps.length)
  (hfs:∀y sp',C.fs y=some sp'->∃f' fd' ps',FnOk P w K mg base CX0 k f' fd' ps' sp'/\mg y=some (.ref f')/\W.keepIn K (.ref f')=true/\Binds K fd' ps' []) (hB:∀y∈C.B,mg y=none) (hmk:mg "~"=none/\mg "^"=none/\mg "%"=none) (nt:tld C.B=false) (nh:hat C.B=false) (hxk:C.xk=fun _=>E0) (hcl:C.cl=fun _=>none)
  (hbody:∀vs H Q E,sp vs H Q E->tSs C code { nx:=fun _ H'=>Q .non H',rt:=Q } (start C.N vs) H):FnOk P w K mg base CX0 (k+1) f fd ps sp:=
 code_ok F C S hK code hm len ⟨fun y sp' e=>by
  obtain⟨f',fd',ps',h1,h2⟩:=hfs y sp' e
  exact⟨f',fd',ps',.inl h1,h2⟩,hB,hmk,(fun c Ca e=>by rw[hcl]at e;cases e),nt,nh⟩ hxk hbody
theorem mC {α:Type} {P:α->Prop} {a:α} {l:List α} (h:P a/\∀x∈l,P x):∀x∈a :: l,P x:=List.forall_mem_cons.mpr h
theorem mN {α:Type} {P:α->Prop}:∀x∈([]:List α),P x:=fun y hy=>absurd hy List.not_mem_nil
theorem len1 {α:Type} {P:List α->Prop} (h:∀x0,P [x0]):∀us:List α,us.length=1->P us
 | [x0],_=>h x0
theorem len2 {α:Type} {P:List α->Prop} (h:∀x0 x1,P [x0,x1]):∀us:List α,us.length=2->P us
 | [x0,x1],_=>h x0 x1
theorem len3 {α:Type} {P:List α->Prop} (h:∀x0 x1 x2,P [x0,x1,x2]):∀us:List α,us.length=3->P us
 | [x0,x1,x2],_=>h x0 x1 x2
noncomputable def kRestT {α:Type} (rest:TL α) (b:α) (P:α->Hp->Prop) (σ:L2.St):Bool->Hp->Prop:=fun ok H=>if ok=true then rest σ b H P else P b H
noncomputable def kRest {α:Type} (tc:TT) (rest:TL α) (b:α) (P:α->Hp->Prop):L2.St->Hp->Prop:=fun σ H=>tc σ H (kRestT rest b P σ)
def kCl {α:Type} (own:List Nat) (g:TG) (tc:TT) (rest:TL α) (σ:L2.St) (a:α) (N:α->Hp->Prop) (J:It) (H:Hp):Prop:=tClause own g tc rest J σ a H N
section
variable {C:Rc} {σ:L2.St} {H:Hp} {Q:VK} {D:Ends} {α:Type}
theorem kRest_n {rest:TL α} {b:α} {P:α->Hp->Prop}:kRest (tQo C .none) rest b P σ H=rest σ b H P:=rfl
theorem kRest_q {q:Cq} {rest:TL α} {b:α} {P:α->Hp->Prop}:kRest (tQo C (.some q)) rest b P σ H=tQ C q σ H (kRestT rest b P σ):=rfl
theorem kRestT_t {rest:TL α} {b:α} {P:α->Hp->Prop}:kRestT rest b P σ true H=rest σ b H P:=rfl
theorem kRestT_f {rest:TL α} {b:α} {P:α->Hp->Prop}:kRestT rest b P σ false H=P b H:=rfl
theorem tE_compN {elt:Ce} {own:List Nat} {t:Ct} {it:Ci} {q:Cqo} {ws:List Nat} {t2:Ct} {it2:Ci} {q2:Cqo} {r:Cc}:tE C (.comp elt own t it q (.cons ws t2 it2 q2 r)) σ H Q=tI C it σ H (kCl own (tG C t) (tQo C q) (tR C (.cons ws t2 it2 q2 r) (tEmit (tE C elt))) σ [] (kNew Q)):=rfl
theorem tR_cons {ws:List Nat} {t:Ct} {it:Ci} {q:Cqo} {r:Cc} {em:TL (List V)} {b:List V} {P:List V->Hp->Prop}:tR C (.cons ws t it q r) em σ b H P=tI C it σ H (kCl ws (tG C t) (tQo C q) (tR C r em) σ b P):=rfl
theorem tR_nil {em:TL (List V)} {b:List V} {P:List V->Hp->Prop}:tR C .nil em σ b H P=em σ b H P:=rfl
theorem emit_at {elt:Ce} {b:List V} {P:List V->Hp->Prop}:tEmit (tE C elt) σ b H P=tE C elt σ H (kPush b P):=rfl
noncomputable def kAddS (b:(Option Int->Bool)×Nat) (P:(Option Int->Bool)×Nat->Hp->Prop):VK:=fun v H=>∃k,v=kO k/\b.2<4000/\P (fun j=>b.1 j || decide (j=k),b.2+1) H
theorem emitS_at {elt:Ce} {b:(Option Int->Bool)×Nat} {P:(Option Int->Bool)×Nat->Hp->Prop}:tEmitS (tE C elt) σ b H P=tE C elt σ H (kAddS b P):=rfl
theorem nest_at {it:Ci} {own:List Nat} {g:TG} {tc:TT} {rest:TL α} {b:α} {P:α->Hp->Prop}:tNest (tI C it) (tClause own g tc rest) σ b H P=tI C it σ H (kCl own g tc rest σ b P):=rfl
noncomputable def kEK2 (a:List (Key×V)) (P:List (Key×V)->Hp->Prop) (y:V):VK:=fun v H2=>∃k,y=L2.kV k/\a.length<sizeLine/\P (putK a k v) H2
noncomputable def kEK1 (C:Rc) (σ:L2.St) (v:Ce) (a:List (Key×V)) (P:List (Key×V)->Hp->Prop):VK:=fun y H1=>tE C v σ H1 (kEK2 a P y)
theorem emitK_at {k v:Ce} {a:List (Key×V)} {P:List (Key×V)->Hp->Prop}:tEmitK (tE C k) (tE C v) σ a H P=tE C k σ H (kEK1 C σ v a P):=rfl
theorem kEK1_at {v:Ce} {a:List (Key×V)} {P:List (Key×V)->Hp->Prop} {y:V}:kEK1 C σ v a P y H=tE C v σ H (kEK2 a P y):=rfl
noncomputable def kET2 (a:KTL) (P:KTL->Hp->Prop) (y:V):VK:=fun v H2=>∃(k:List Key) (b:Addr),y=.ref b/\H2 b=some (.tup (k.map L2.kV))/\okT a H2/\(∀x∈a,x.1≠k)/\a.length<sizeLine/\P (a++[(k,b,v)]) H2
noncomputable def kET1 (C:Rc) (σ:L2.St) (v:Ce) (a:KTL) (P:KTL->Hp->Prop):VK:=fun y H1=>tE C v σ H1 (kET2 a P y)
theorem emitT_at {k v:Ce} {a:KTL} {P:KTL->Hp->Prop}:tEmitT (tE C k) (tE C v) σ a H P=tE C k σ H (kET1 C σ v a P):=rfl
theorem kET1_at {v:Ce} {a:KTL} {P:KTL->Hp->Prop} {y:V}:kET1 C σ v a P y H=tE C v σ H (kET2 a P y):=rfl
theorem at_sortA {K:W.Frag} {a:Addr} {ss:List PySem.Str} (h:SqL K H a (ss.map V.str)) (q:∀p (ss':List PySem.Str),H p=none->ss'.Perm ss->Rise ss'->Q (.ref p) (upd H p (.lst (ss'.map V.str)))):rBlt K .sortA [.ref a] H Q:=⟨a,ss,rfl,h,q⟩
noncomputable def kInX2 (neg:Bool) (y:V) (Q:VK):VK:=fun x H2=>(∃a o,x=.ref a/\DGet H2 a y o/\Q (.bl (if neg then !o.isSome else o.isSome)) H2)\/rInO neg y x H2 Q
noncomputable def kInX1 (C:Rc) (σ:L2.St) (neg:Bool) (b:Ce) (Q:VK):VK:=fun y H1=>tE C b σ H1 (kInX2 neg y Q)
theorem kInX1_at {neg:Bool} {b:Ce} {y:V}:kInX1 C σ neg b Q y H=tE C b σ H (kInX2 neg y Q):=rfl
noncomputable def kGetD3 (a:Addr) (y:V) (Q:VK):VK:=fun z H3=>∃o,DGet H3 a y o/\Q (o.getD z) H3
noncomputable def kGetD2 (C:Rc) (σ:L2.St) (c:Ce) (a:Addr) (Q:VK):VK:=fun y H2=>tE C c σ H2 (kGetD3 a y Q)
noncomputable def kGetD1 (C:Rc) (σ:L2.St) (b c:Ce) (Q:VK):VK:=fun x H1=>∃a,x=.ref a/\IsD H1 a/\tE C b σ H1 (kGetD2 C σ c a Q)
theorem tE_dg2 {a b c:Ce}:tE C (.dg2 a b c) σ H Q=tE C a σ H (kGetD1 C σ b c Q):=rfl
theorem kGetD2_at {c:Ce} {a:Addr} {y:V}:kGetD2 C σ c a Q y H=tE C c σ H (kGetD3 a y Q):=rfl
theorem at_getD1 {b c:Ce} {p:Addr} (h:IsD H p) (q:tE C b σ H (kGetD2 C σ c p Q)):kGetD1 C σ b c Q (.ref p) H:=⟨p,rfl,h,q⟩
theorem at_getD3 {p:Addr} {y z:V} {o:Option V} (h:DGet H p y o) (q:Q (o.getD z) H):kGetD3 p y Q z H:=⟨o,h,q⟩
end
section
variable {C:Rc} {σ:L2.St} {H:Hp} {Q:VK} {Qb:Bool->Hp->Prop}
noncomputable def kW1 (C:Rc) (σ:L2.St) (k:Zf) (b:Ce) (Q:VK):VK:=fun x H=>tE C b σ H fun y H'=>rZf k x y H' Q
noncomputable def kW2 (k:Zf) (x:V) (Q:VK):VK:=fun y H=>rZf k x y H Q
theorem tQ_cmw {k:Zf} {a b:Ce}:tQ C (.cmw k a b) σ H Qb=tE C a σ H (kW1 C σ k b (kT Qb)):=rfl
theorem kW1_at {k:Zf} {b:Ce} {x:V}:kW1 C σ k b Q x H=tE C b σ H (kW2 k x Q):=rfl
theorem at_ltS {a b:PySem.Str} (q:Q (.bl (decide (a.cps.toList<b.cps.toList))) H):kW2 .ltS (.str a) Q (.str b) H:=⟨a,b,rfl,rfl,q⟩
section
variable {D:Ends}
noncomputable def kAg3 (x y z:V) (sub:Bool) (D:Ends) (σ:L2.St):VK:=fun w H4=>ipI (fun i j=>if sub then i-j else i+j) z w H4 fun u H5=>rSetL x y u H5 fun H6=>D.nx σ H6
noncomputable def kAg2 (C:Rc) (e:Ce) (sub:Bool) (x:V) (D:Ends) (σ:L2.St):VK:=fun y H2=>rIxL C.K x y H2 fun z H3=>tE C e σ H3 (kAg3 x y z sub D σ)
noncomputable def kAg1 (C:Rc) (i:Ce) (sub:Bool) (e:Ce) (D:Ends) (σ:L2.St):VK:=fun x H1=>tE C i σ H1 (kAg2 C e sub x D σ)
theorem kAg1_at {i e:Ce} {sub:Bool} {x:V}:kAg1 C i sub e D σ x H=tE C i σ H (kAg2 C e sub x D σ):=rfl
noncomputable def kDp3 (x v:V) (D:Ends) (σ:L2.St):VK:=fun y H3=>∃a H4,x=.ref a/\DPut H3 a y v H4/\D.nx σ H4
noncomputable def kDp2 (C:Rc) (i:Ce) (v:V) (D:Ends) (σ:L2.St):VK:=fun x H2=>tE C i σ H2 (kDp3 x v D σ)
noncomputable def kDp1 (C:Rc) (o i:Ce) (D:Ends) (σ:L2.St):VK:=fun v H1=>tE C o σ H1 (kDp2 C i v D σ)
theorem s_dput {o i e:Ce}:tS C (.dput o i e) D σ H=tE C e σ H (kDp1 C o i D σ):=rfl
theorem kDp1_at {o i:Ce} {v:V}:kDp1 C o i D σ v H=tE C o σ H (kDp2 C i v D σ):=rfl
theorem kDp2_at {i:Ce} {v x:V}:kDp2 C i v D σ x H=tE C i σ H (kDp3 x v D σ):=rfl
theorem at_dputK {a:Addr} {kvs:List (Key×V)} {k:Key} {v:V} (h:H a=some (.dK kvs)) (hz:kvs.length<sizeLine) (q:D.nx σ (upd H a (.dK (putK kvs k v)))):kDp3 (.ref a) v D σ (L2.kV k) H:=⟨a,_,rfl,.inl ⟨kvs,k,h,rfl,hz,rfl⟩,q⟩
end
end
end R3
section
open PySem PySem.Spec PyProof.Rows L2 R3
local macro_rules | `(tactic| walk_at "y") => `(tactic| try walk_at "sy")
set_option hygiene false in
local macro_rules | `(tactic| walk_at "sy") => `(tactic| simp only [i_dk, tE_dsi, tQ_cmw, kW1_at, s_dput, kDp1_at, kDp2_at, kAg1_at, tE_compN, tR_cons, tR_nil, emit_at, kInX1_at, tE_dg2, kGetD2_at, emitS_at, nest_at, emitK_at, kEK1_at, emitT_at, kET1_at, kRest_n, kRest_q, kRestT_t, kRestT_f, tE_var, tE_int, tE_bl, tE_non, tE_str, tE_ty, tE_bin, kB1_at, kB2_at, tE_cmp, kC1_at, kC2_at, tE_idx, kI1_at, kI2_at, tE_neg, kNeg_int, kT_bl, tQ_cmp, tQ_not, kNotQ_at, tQ_and, tQ_or, kAndQ_t, kAndQ_f, kOrQ_t, kOrQ_f, kTru_int, kR3a_at, kR3b_at, i_rev, kCG2_n, kCG2_q, kCT2_t, kCT2_f, tE_comp2, b_add, b_addtx, b_sub, b_mul, b_muls, b_mod, b_div, b_pow, c_lt, c_gt, c_ge, c_eq, c_eqs, c_eqb, c_neb, c_nei, tE_dnew, tE_dix, kDx1_at, c_is, ix_ref, ss_nil, ss_cons, seq_nx, seq_rt, seq_bk, seq_ct, s_ret, s_expr, kDrop_at, s_set, kSet_at, s_sub, kSub1_at, kSub2_at, kSub3_at, s_if, kIf_t, kIf_f, kV_some, kA1_at, kA2_at, a_nil, a_cons, tE_tup, tE_lst, kTup_at, kLst_at, kCall_at, tE_blt, kBlt_at, tE_met, kMet1_at, kMet2_at, kIfe_t, kIfe_f, tE_not, kNotV_bl, tE_and, tE_or, kAndV_t, tQ_val, kTru_bl, kCut1_at, kCut2_at, kCut3_at, o_none, o_some, sl_ref, kAug_int, kPar1_at, kPar2_at, s_par, bl_len_tx, bl_abs, bl_int_int, bl_int_bl, bl_min2, m_count, tx_0, tx_1, tx_nil, tx_eq0, s_for, i_val, i_range1', i_range2', kR2a_at, i_zip, kZ1_at, i_enum, g_name, tE_comp, kCG_n, kCG_q, kCT_t, kCT_f, kPush_at, clr, List.foldl_cons, List.foldl_nil, L2.start, List.map_cons, List.map_nil, List.length_cons, List.length_nil, List.cons_append, List.nil_append, List.replicate, Nat.reduceSub, Nat.reduceAdd, List.set_cons_zero, List.set_cons_succ, List.getElem?_cons_zero, List.getElem?_cons_succ, reduceCtorEq, decide_true, decide_false, eq_self, Bool.not_true, Bool.not_false, bne_self_eq_false, BEq.rfl])
namespace LW
open PySem PySem.Spec PyProof.Rows L2 R3
noncomputable def c_cell_at:Css:=(.cons (.ite (.cmp .Lt (.var 1) (.blt .len (.cons (.var 0) .nil))) (.cons (.ret (.idx (.var 0) (.var 1)))
  .nil) .nil)
  (.cons (.ret (.int 0))
  .nil))
noncomputable def c_box:Css:=(.cons (.asg (.name 2) (.call "_law_cell_at" (.cons (.var 0) (.cons (.var 1) .nil))))
  (.cons (.ret (.lst (.cons (.bin .Mult (.blt .abs (.cons (.var 2) .nil)) (.blt .int (.cons (.cmp .GtE (.blt .abs (.cons (.var 2) .nil)) (.bin .Pow (.int 10) (.int 18))) .nil))) (.cons (.bin .Add (.bin .Add (.bin .Mod (.var 2) (.int 2305843009213693951)) (.bin .Mult (.int 39373) (.var 1))) (.int 17)) (.cons (.int 0) .nil)))))
  .nil))
noncomputable def c_take:Css:=(.cons (.ite (.cmp .Gt (.idx (.var 0) (.int 0)) (.int 0)) (.cons (.asg (.name 2) (.bin .Mod (.idx (.var 0) (.int 0)) (.var 1)))
  (.cons (.asg (.sub (.var 0) (.int 0)) (.bin .FloorDiv (.idx (.var 0) (.int 0)) (.var 1)))
  (.cons (.ret (.var 2))
  .nil))) .nil)
  (.cons (.asg (.sub (.var 0) (.int 2)) (.bin .Add (.idx (.var 0) (.int 2)) (.int 1)))
  (.cons (.asg (.name 3) (.bin .Mod (.bin .Mult (.bin .Add (.idx (.var 0) (.int 1)) (.bin .Mult (.int 48271) (.idx (.var 0) (.int 2)))) (.bin .Add (.int 39373) (.idx (.var 0) (.int 2)))) (.int 2147483647)))
  (.cons (.asg (.name 4) (.bin .Mod (.bin .Mult (.bin .Add (.var 3) (.idx (.var 0) (.int 2))) (.bin .Add (.bin .Mod (.var 3) (.int 40009)) (.int 7))) (.int 2147483629)))
  (.cons (.ret (.bin .Mod (.bin .FloorDiv (.bin .Mod (.bin .Add (.bin .Mult (.var 4) (.int 48271)) (.var 3)) (.int 2147483587)) (.int 64)) (.var 1)))
  .nil)))))
noncomputable def c_same:Css:=(.cons (.ite (.val (.blt .isinstance (.cons (.var 1) (.cons (.tup (.cons (.ty "list") (.cons (.ty "tuple") .nil))) .nil)))) (.cons (.ite (.or (.cmp .NotEq (.blt .isinstance (.cons (.var 0) (.cons (.ty "list") .nil))) (.blt .isinstance (.cons (.var 1) (.cons (.ty "list") .nil)))) (.cmp .NotEq (.blt .isinstance (.cons (.var 0) (.cons (.ty "tuple") .nil))) (.blt .isinstance (.cons (.var 1) (.cons (.ty "tuple") .nil))))) (.cons (.ret (.bl false))
  .nil) .nil)
  (.cons (.ret (.and (.cmp .Eq (.blt .len (.cons (.var 0) .nil)) (.blt .len (.cons (.var 1) .nil))) (.blt .all (.cons (.comp (.call "_law_same" (.cons (.var 2) (.cons (.var 3) .nil))) [2,3] (.tup (.cons (.name 2) (.cons (.name 3) .nil))) (.zip (.var 0) (.var 1)) .none .nil) .nil))))
  .nil)) .nil)
  (.cons (.ite (.or (.cmp .Is (.var 1) .non) (.val (.blt .isinstance (.cons (.var 1) (.cons (.ty "str") .nil))))) (.cons (.ret (.and (.cmp .Eq (.var 0) (.var 1)) (.cmp .Eq (.blt .isinstance (.cons (.var 0) (.cons (.ty "str") .nil))) (.blt .isinstance (.cons (.var 1) (.cons (.ty "str") .nil))))))
  .nil) .nil)
  (.cons (.ite (.val (.blt .isinstance (.cons (.var 1) (.cons (.ty "bool") .nil)))) (.cons (.ret (.and (.blt .isinstance (.cons (.var 0) (.cons (.ty "bool") .nil))) (.cmp .Eq (.var 0) (.var 1))))
  .nil) .nil)
  (.cons (.ret (.and (.blt .isinstance (.cons (.var 0) (.cons (.ty "int") .nil))) (.and (.not (.blt .isinstance (.cons (.var 0) (.cons (.ty "bool") .nil)))) (.cmp .Eq (.var 0) (.var 1)))))
  .nil))))
def spCell (K:W.Frag):Sp:=fun vs H Q _=>∃(a:Addr) (ns:List Int) (k:Int),vs=[.ref a,.int k]/\SqL K H a (ns.map V.int)/\0<=k/\∀c:Int,Q (.int c) H
theorem atI_ints {ns:List Int} {k:Int} (h0:0<=k) (h1:k<ns.length):∃c:Int,atI (ns.map V.int) k=some (.int c):=by
 obtain⟨j,rfl⟩:=Int.eq_ofNat_of_zero_le h0
 have hk:j<ns.length:=by omega
 exact⟨ns[j],atI_nat (by rw[List.getElem?_map,List.getElem?_eq_getElem hk];rfl)⟩
theorem body_cell {C:Rc} (hN:C.N.length=2):∀vs H Q E,spCell C.K vs H Q E->tSs C c_cell_at { nx:=fun _ H'=>Q .non H',rt:=Q } (L2.start C.N vs) H:=by
 intro vs H Q E h
 obtain⟨a,ns,k,rfl,hs,hk,q⟩:=h
 rw[start_eq hN]
 unfold c_cell_at
 walk_at "y"
 refine at_lenL hs ?_
 rw[List.length_map]
 walk_at "y"
 refine by_dec (fun c=>?_) fun _=>?_
 .obtain⟨v,hv⟩:=atI_ints hk c
  walk_at "y"
  exact at_ixL hs hv (q v)
 .walk_at "y"
  exact q 0
def spBox0 (K:W.Frag):Sp:=fun vs H Q _=>∃(a:Addr) (ns:List Int) (k:Int),vs=[.ref a,.int k]/\SqL K H a (ns.map V.int)/\0<=k/\k<=1000/\∀(p:Addr) (x y:Int),H p=none->0<=x->0<=y->y<2 ^ 62->Q (.ref p) (upd H p (BoxL x y 0))
theorem body_box {C:Rc} (hN:C.N.length=3) (hf:C.fs "_law_cell_at"=some (spCell C.K)):∀vs H Q E,spBox0 C.K vs H Q E->tSs C c_box { nx:=fun _ H'=>Q .non H',rt:=Q } (L2.start C.N vs) H:=by
 intro vs H Q E h
 obtain⟨a,ns,k,rfl,hs,hk,hk2,q⟩:=h
 rw[start_eq hN]
 unfold c_box
 walk_at "y"
 refine call_e hf ?_
 walk_at "y"
 refine⟨a,ns,k,rfl,hs,hk,fun c=>?_⟩
 walk_at "y"
 have hm0:0<=c % 2305843009213693951:=Int.emod_nonneg _ (by decide)
 have hm1:c % 2305843009213693951<2305843009213693951:=Int.emod_lt_of_pos _ (by decide)
 refine⟨⟨by decide,by decide,by decide⟩,?_,by decide,.inl ⟨by decide,by decide⟩,by decide,fun p hp=>q p _ _ hp ?_ ?_ ?_⟩
 .refine .inr (.inl ⟨?_,?_⟩)<;>split<;>split<;>decide
 .split<;>split<;>omega
 .omega
 .omega
section
variable {K:W.Frag} {H:Hp} {b:Addr} {x y z:Int} {Q:VK}
theorem ix0 (h:H b=some (BoxL x y z)) (q:Q (.int x) H):rIxL K (.ref b) (.int 0) H Q\/rIxT K (.ref b) (.int 0) H Q:=.inl ⟨b,_,0,_,rfl,rfl,SqL.of h,rfl,q⟩
theorem ix1 (h:H b=some (BoxL x y z)) (q:Q (.int y) H):rIxL K (.ref b) (.int 1) H Q\/rIxT K (.ref b) (.int 1) H Q:=.inl ⟨b,_,1,_,rfl,rfl,SqL.of h,rfl,q⟩
theorem ix2 (h:H b=some (BoxL x y z)) (q:Q (.int z) H):rIxL K (.ref b) (.int 2) H Q\/rIxT K (.ref b) (.int 2) H Q:=.inl ⟨b,_,2,_,rfl,rfl,SqL.of h,rfl,q⟩
theorem st0 {u:Int} {Q:Hp->Prop} (h:H b=some (BoxL x y z)) (q:Q (upd H b (BoxL u y z))):rSetL (.ref b) (.int 0) (.int u) H Q:=⟨b,_,0,0,rfl,rfl,h,rfl,q⟩
theorem st2 {u:Int} {Q:Hp->Prop} (h:H b=some (BoxL x y z)) (q:Q (upd H b (BoxL x y u))):rSetL (.ref b) (.int 2) (.int u) H Q:=⟨b,_,2,2,rfl,rfl,h,rfl,q⟩
end
def spTake0:Sp:=fun vs H Q _=>∃(b:Addr) (x y z m:Int),vs=[.ref b,.int m]/\H b=some (BoxL x y z)/\0<=x/\0<=y/\y<2 ^ 62/\0<=z/\z<=2 ^ 40/\0<m/\m<4611686018427387904/\
 ∀(r x' z':Int),0<=r->r<m->0<=x'->0<=z'->z'<=z+1->Q (.int r) (upd H b (BoxL x' y z'))
theorem body_take {C:Rc} (hN:C.N.length=5):∀vs H Q E,spTake0 vs H Q E->tSs C c_take { nx:=fun _ H'=>Q .non H',rt:=Q } (L2.start C.N vs) H:=by
 intro vs H Q E h
 obtain⟨b,x,y,z,m,rfl,hb,hx,hy,hy2,hz,hz2,hm,hm2,q⟩:=h
 rw[start_eq hN]
 unfold c_take
 walk_at "sy"
 refine ix0 hb ?_
 walk_at "sy"
 refine by_dec (fun c=>?_) fun _=>?_
 .walk_at "sy"
  refine ix0 hb ?_
  walk_at "sy"
  refine⟨hm,?_⟩
  refine ix0 hb ?_
  walk_at "sy"
  refine⟨⟨hm,.inr (Nat.lt_of_lt_of_le ((Nat.log2_lt (by omega)).mpr (show m.natAbs<2 ^ 62 by omega)) (by decide))⟩,st0 hb ?_⟩
  walk_at "sy"
  exact q _ _ _ (Int.emod_nonneg _ (by omega)) (Int.emod_lt_of_pos _ hm) (Int.ediv_nonneg hx (by omega)) hz (by omega)
 .walk_at "sy"
  refine ix2 hb ?_
  walk_at "sy"
  refine st2 hb ?_
  have hb':upd H b (BoxL x y (z+1)) b=some (BoxL x y (z+1)):=upd_same
  walk_at "sy"
  refine ix1 hb' ?_
  walk_at "sy"
  refine ix2 hb' ?_
  walk_at "sy"
  refine⟨.inl ⟨by decide,by decide⟩,?_⟩
  refine ix2 hb' ?_
  walk_at "sy"
  refine⟨.inr (.inl ⟨by omega,by omega⟩),by decide,?_⟩
  refine ix2 hb' ?_
  walk_at "sy"
  generalize (y+48271*(z+1))*(39373+(z+1)) % 2147483647=once
  have ho0:0<=once % 40009:=Int.emod_nonneg _ (by decide)
  have ho1:once % 40009<40009:=Int.emod_lt_of_pos _ (by decide)
  refine⟨by decide,.inr (.inl ⟨by omega,by omega⟩),by decide,.inr (.inl ⟨by decide,by decide⟩),by decide,⟨by decide,by decide⟩,hm,?_⟩
  exact q _ _ _ (Int.emod_nonneg _ (by omega)) (Int.emod_lt_of_pos _ hm) hx (by omega) (by omega)
def spTake:Sp:=fun vs H Q _=>∃(b:Addr) (n:Nat) (m:Int),vs=[.ref b,.int m]/\H b=some (BoxO b n)/\n<=2 ^ 40/\0<m/\m<4611686018427387904/\∀(r:Int) (H':Hp),0<=r->r<m->Go 1 H H'->Q (.int r) H'
theorem take_fn {P:Program} {w:World} {K:W.Frag} {mg:Str->Option Value} {base:Heap} {k:Nat} {f:Addr} {fd:FuncData} {ps:List Str} (hp:ps.length=2) (F:FnOk P w K mg base CX0 k f fd ps spTake0):FnOk P w K mg base CX0 k f fd ps spTake:=by
 refine open_fn (shut_fn (sp':=fun vs H Q E=>spTake0 vs H (Shut Q) E) F fun _ _ _ _ h=>h) (fun vs H Q E h=>?_) fun vs H Q E h=>?_
 .obtain⟨b,n,m,rfl,hb,hn,hm,hm2,q⟩:=h
  refine⟨b,n,hb,fun x y z hx hy hy2 hz hzn=>⟨b,x,y,z,m,rfl,upd_same,hx,hy,hy2,hz,by omega,hm,hm2,fun r x' z' h1 h2 h3 h4 h5=>?_⟩⟩
  refine⟨b,x',y,z',n+1,upd_same,h3,hy,hy2,h4,by omega,?_⟩
  refine q r _ h1 h2 ?_
  rw[upd_upd]
  exact Go.draw hb (Nat.le_refl _) _
 .obtain⟨b,n,m,rfl,_⟩:=h
  rw[hp]
  rfl
def spBox (K:W.Frag):Sp:=fun vs H Q _=>∃(a:Addr) (ns:List Int) (k:Int),vs=[.ref a,.int k]/\SqL K H a (ns.map V.int)/\0<=k/\k<=1000/\∀(p:Addr),H p=none->Q (.ref p) (upd H p (BoxO p 0))
theorem box_fn {P:Program} {w:World} {K:W.Frag} {mg:Str->Option Value} {base:Heap} {k:Nat} {f:Addr} {fd:FuncData} {ps:List Str} (F:FnOk P w K mg base CX0 k f fd ps (spBox0 K)):FnOk P w K mg base CX0 k f fd ps (spBox K):=by
 refine shut_fn F fun vs H Q E h=>?_
 obtain⟨a,ns,k,rfl,hs,h0,h1,q⟩:=h
 refine⟨a,ns,k,rfl,hs,h0,h1,fun p x y hp hx hy hy2=>⟨p,x,y,0,0,upd_same,hx,hy,hy2,by omega,by omega,?_⟩⟩
 rw[upd_upd]
 exact q p hp
theorem _root_.R3.Go.boxed {c n:Nat} {H H':Hp} {b:Addr} (g:Go c H H') (h:H b=some (BoxO b n)) (hn:n+c<=2 ^ 40):∃m,H' b=some (BoxO b m)/\m<=n+c/\m<=2 ^ 40:=by
 obtain⟨m,hm,e⟩:=g.box b n h
 exact⟨m,e,hm,by omega⟩
noncomputable def Sc:V->Bool
 | .non=>true
 | .bl _=>true
 | .int _=>true
 | .str _=>true
 |_=>false
noncomputable def Eqv (H:Hp):Nat->V->V->Prop
 |0,v,w=>v=w/\Sc v=true
 |n+1,v,w=>(v=w/\Sc v=true)\/∃a b xs ys,v=.ref a/\w=.ref b/\((H a=some (.lst xs)/\H b=some (.lst ys))\/(H a=some (.tup xs)/\H b=some (.tup ys)))/\xs.length<=sizeLine/\xs.length=ys.length/\∀(i:Nat) x y,xs[i]?=some x->ys[i]?=some y->Eqv H n x y
theorem Eqv.mono {H H':Hp} (s:Same H H'):∀{n:Nat} {v w:V},Eqv H n v w->Eqv H' n v w
 |0,_,_,h=>h
 |n+1,v,w,h=>by
  rcases h with h|⟨a,b,xs,ys,rfl,rfl,hab,hz,hl,he⟩
  .exact .inl h
  .refine .inr ⟨a,b,xs,ys,rfl,rfl,?_,hz,hl,fun i x y h1 h2=>Eqv.mono s (he i x y h1 h2)⟩
   rcases hab with⟨h1,h2⟩|⟨h1,h2⟩
   .exact .inl ⟨s _ _ h1,s _ _ h2⟩
   .exact .inr ⟨s _ _ h1,s _ _ h2⟩
theorem Eqv.int {H:Hp} {n:Nat} {i:Int}:Eqv H n (.int i) (.int i):=by
 cases n
 .exact⟨rfl,rfl⟩
 .exact .inl ⟨rfl,rfl⟩
theorem Eqv.str {H:Hp} {n:Nat} {i:Str}:Eqv H n (.str i) (.str i):=by
 cases n
 .exact⟨rfl,rfl⟩
 .exact .inl ⟨rfl,rfl⟩
def spSame (n:Nat):Sp:=fun vs H Q _=>∃v w,vs=[v,w]/\Eqv H n v w/\∀H',Same H H'->Q (.bl true) H'
section
variable {K:W.Frag} {H:Hp} {Q:VK}
theorem isi1 {x:V} {T c:String} {k:Bool} (h:tyName H x=some T) (hk:isT T c=k) (hT:T∈tyKnown) (hc:c∈["bool","int","str","list","tuple","dict"]) (q:Q (.bl k) H):rBlt K .isinstance [x,.ty c] H Q:=at_isi h hT hc (by rw[hk];exact q)
theorem isi2 {x:V} {T c d:String} {p:Addr} {k:Bool} (h:tyName H x=some T) (hp:H p=some (.tup [.ty c,.ty d])) (hk:(isT T c || isT T d)=k) (hT:T∈tyKnown) (hc:c∈["bool","int","str","list","tuple","dict"]) (hd:d∈["bool","int","str","list","tuple","dict"]) (q:Q (.bl k) H):rBlt K .isinstance [x,.ref p] H Q:=at_isi2 h hT hp hc hd (by rw[hk];exact q)
theorem eq_self_at {x:V} (h:scal x x=true) (q:Q (.bl true) H):rCmp K .Eq x x H Q:=by
 rw[c_eqV h,decide_eq_true rfl]
 exact q
end
theorem body_same {C:Rc} {n:Nat} (hN:C.N.length=4) (hS:∀m,n=m+1->C.fs "_law_same"=some (spSame m)):∀vs H Q E,spSame n vs H Q E->tSs C c_same { nx:=fun _ H'=>Q .non H',rt:=Q } (L2.start C.N vs) H:=by
 intro vs H Q E h
 obtain⟨v,w,rfl,he,q⟩:=h
 rw[start_eq hN]
 unfold c_same
 have hcase:(v=w/\Sc v=true)\/∃m a b xs ys,n=m+1/\v=.ref a/\w=.ref b/\((H a=some (.lst xs)/\H b=some (.lst ys))\/(H a=some (.tup xs)/\H b=some (.tup ys)))/\xs.length<=sizeLine/\xs.length=ys.length/\∀(i:Nat) x y,xs[i]?=some x->ys[i]?=some y->Eqv H m x y:=by
  cases n with
  |zero=>exact .inl he
  |succ m=>
   rcases he with h|⟨a,b,xs,ys,h⟩
   .exact .inl h
   .exact .inr ⟨m,a,b,xs,ys,rfl,h⟩
 walk_at "sy"
 refine⟨by decide,fun p hp=>?_⟩
 have sp:=same_new hp (.tup [.ty "list",.ty "tuple"])
 have hpp:upd H p (.tup [.ty "list",.ty "tuple"]) p=some (.tup [.ty "list",.ty "tuple"]):=upd_same
 generalize upd H p (.tup [.ty "list",.ty "tuple"])=H1 at sp hpp ⊢
 rcases hcase with⟨rfl,hsc⟩|⟨m,a,b,xs,ys,rfl,rfl,rfl,hab,hz,hl,hel⟩
 .cases v with
  |byt _=>cases hsc
  |flt _=>cases hsc
  |ref _=>cases hsc
  |ty _=>cases hsc
  |non=>
   refine isi2 (T:="NoneType") rfl hpp (k:=false) rfl (by decide) (by decide) (by decide) ?_
   walk_at "sy"
   refine eq_self_at rfl ?_
   walk_at "sy"
   refine isi1 (T:="NoneType") rfl (k:=false) rfl (by decide) (by decide) ?_
   walk_at "sy"
   refine isi1 (T:="NoneType") rfl (k:=false) rfl (by decide) (by decide) ?_
   walk_at "sy"
   exact q H1 sp
  |bl c=>
   refine isi2 (T:="bool") rfl hpp (k:=false) rfl (by decide) (by decide) (by decide) ?_
   walk_at "sy"
   refine isi1 (T:="bool") rfl (k:=false) rfl (by decide) (by decide) ?_
   walk_at "sy"
   refine isi1 (T:="bool") rfl (k:=true) rfl (by decide) (by decide) ?_
   walk_at "sy"
   refine isi1 (T:="bool") rfl (k:=true) rfl (by decide) (by decide) ?_
   walk_at "sy"
   exact q H1 sp
  |int i=>
   refine isi2 (T:="int") rfl hpp (k:=false) rfl (by decide) (by decide) (by decide) ?_
   walk_at "sy"
   refine isi1 (T:="int") rfl (k:=false) rfl (by decide) (by decide) ?_
   walk_at "sy"
   refine isi1 (T:="int") rfl (k:=false) rfl (by decide) (by decide) ?_
   walk_at "sy"
   refine isi1 (T:="int") rfl (k:=true) rfl (by decide) (by decide) ?_
   walk_at "sy"
   refine isi1 (T:="int") rfl (k:=false) rfl (by decide) (by decide) ?_
   walk_at "sy"
   exact q H1 sp
  |str x=>
   refine isi2 (T:="str") rfl hpp (k:=false) rfl (by decide) (by decide) (by decide) ?_
   walk_at "sy"
   refine isi1 (T:="str") rfl (k:=true) rfl (by decide) (by decide) ?_
   walk_at "sy"
   refine isi1 (T:="str") rfl (k:=true) rfl (by decide) (by decide) ?_
   walk_at "sy"
   refine isi1 (T:="str") rfl (k:=true) rfl (by decide) (by decide) ?_
   walk_at "sy"
   exact q H1 sp
 .have fin:∀(J:Bool),(Sq J C.K H1 a xs/\Sq J C.K H1 b ys)->(∀H',Same H1 H'->Sq J C.K H' a xs/\Sq J C.K H' b ys) ->
    kComp C (.call "_law_same" (.cons (.var 2) (.cons (.var 3) .nil))) [2,3] (.tup (.cons (.name 2) (.cons (.name 3) .nil))) .none [some (.ref a),some (.ref b),none,none] (kA1 C [some (.ref a),some (.ref b),none,none] .nil (kBlt C .all Q)) (Itz J C.K a b) H1:=by
   intro J h0 hk
   refine comp_z hl (fun i zs H'=>zs=List.replicate i (.bl true)/\Same H1 H') ⟨rfl,Same.refl _⟩ (fun i zs H' p=>hk H' p.2) ?_ ?_
   .rintro i zs H' x y p R hx hy hp' ⟨rfl,s⟩ hR
    refine g_tup2 (SqT.of upd_same) ?_
    walk_at "sy"
    refine call_e (hS m rfl) ?_
    walk_at "sy"
    have s2:=s.trans (same_new hp' (.tup [x,y]))
    refine⟨x,y,rfl,(hel i x y hx hy).mono (sp.trans s2),fun H2 s3=>?_⟩
    walk_at "sy"
    have hi:i<xs.length:=by
     rcases Nat.lt_or_ge i xs.length with h|h
     .exact h
     .rw[List.getElem?_eq_none_iff.mpr h]at hx;cases hx
    refine⟨by rw[List.length_replicate];omega,hR _ _ ⟨?_,s2.trans s3⟩⟩
    rw[List.replicate_succ',List.append_cancel_left_eq]
   .rintro zs H' ⟨rfl,s⟩ p hp'
    walk_at "sy"
    have e:List.replicate xs.length (V.bl true)=(List.replicate xs.length true).map V.bl:=by simp
    refine at_all (bs:=List.replicate xs.length true) (SqL.of (by rw[<- e];exact upd_same)) ?_
    rw[show(List.replicate xs.length true).all id=true by simp]
    exact q _ ((sp.trans s).trans (same_new hp' _))
  rcases hab with⟨ha,hb⟩|⟨ha,hb⟩
  .have ha1:=sp _ _ ha
   have hb1:=sp _ _ hb
   have ta:tyName H1 (.ref a)=some "list":=by simp only[tyName,ha1]
   have tb:tyName H1 (.ref b)=some "list":=by simp only[tyName,hb1]
   refine isi2 tb hpp (k:=true) rfl (by decide) (by decide) (by decide) ?_
   walk_at "sy"
   refine isi1 ta (k:=true) rfl (by decide) (by decide) ?_
   walk_at "sy"
   refine isi1 tb (k:=true) rfl (by decide) (by decide) ?_
   walk_at "sy"
   refine isi1 ta (k:=false) rfl (by decide) (by decide) ?_
   walk_at "sy"
   refine isi1 tb (k:=false) rfl (by decide) (by decide) ?_
   walk_at "sy"
   refine at_lenL (SqL.of ha1) ?_
   walk_at "sy"
   refine at_lenL (SqL.of hb1) ?_
   rw[hl]
   walk_at "sy"
   exact at_zipL (SqL.of ha1) (SqL.of hb1) (fin false ⟨SqL.of ha1,SqL.of hb1⟩ fun H' s=>⟨SqL.of (s _ _ ha1),SqL.of (s _ _ hb1)⟩)
  .have ha1:=sp _ _ ha
   have hb1:=sp _ _ hb
   have ta:tyName H1 (.ref a)=some "tuple":=by simp only[tyName,ha1]
   have tb:tyName H1 (.ref b)=some "tuple":=by simp only[tyName,hb1]
   refine isi2 tb hpp (k:=true) rfl (by decide) (by decide) (by decide) ?_
   walk_at "sy"
   refine isi1 ta (k:=false) rfl (by decide) (by decide) ?_
   walk_at "sy"
   refine isi1 tb (k:=false) rfl (by decide) (by decide) ?_
   walk_at "sy"
   refine isi1 ta (k:=true) rfl (by decide) (by decide) ?_
   walk_at "sy"
   refine isi1 tb (k:=true) rfl (by decide) (by decide) ?_
   walk_at "sy"
   refine at_lenT (SqT.of ha1) ?_
   walk_at "sy"
   refine at_lenT (SqT.of hb1) ?_
   rw[hl]
   walk_at "sy"
   exact at_zipT (SqT.of ha1) (SqT.of hb1) (fin true ⟨SqT.of ha1,SqT.of hb1⟩ fun H' s=>⟨SqT.of (s _ _ ha1),SqT.of (s _ _ hb1)⟩)
end LW
namespace SR
open PySem PySem.Spec PyProof.Rows L2 R3 LW
noncomputable def c_p_sum_of:Css:=(.cons (.ret (.bin .Sub (.met .countS (.var 0) (.cons (.str "1") .nil)) (.met .countS (.var 0) (.cons (.str "0") .nil))))
  .nil)
theorem flat1:∀{l:List Bool},(l.map fun c=>[c]).flatten=l
 | []=>rfl
 |c :: r=>by rw[List.map_cons,List.flatten_cons,flat1];rfl
noncomputable def sm (l:List Bool):Int:=(l.count true:Int)-(l.count false:Int)
def spSumOf:Sp:=fun vs H Q _=>∃l:List Bool,vs=[.str (tx l)]/\Q (.int (sm l)) H
theorem body_sum_of {C:Rc} (hN:C.N.length=1):∀vs H Q E,spSumOf vs H Q E->tSs C c_p_sum_of { nx:=fun _ H'=>Q .non H',rt:=Q } (L2.start C.N vs) H:=by
 intro vs H Q E h
 obtain⟨l,rfl,q⟩:=h
 rw[start_eq hN]
 unfold c_p_sum_of
 walk_at "sy"
 refine⟨rfl,rfl,?_⟩
 exact q
section
variable {K:W.Frag} {H:Hp} {Q:VK}
end
theorem small16 {n:Nat} (h:n<=1000):n<=sizeLine:=Nat.le_of_lt (small1000 h)
noncomputable def ones (l:List Bool):List V:=(l.map fun c=>[c]).map fun l=>V.str (tx l)
theorem ones_len {l:List Bool}:(ones l).length=l.length:=by unfold ones;simp
theorem ones_snoc {l:List Bool} {c:Bool}:ones l++[V.str (tx [c])]=ones (l++[c]):=by unfold ones;simp
theorem at_joinO {K:W.Frag} {H:Hp} {Q:VK} {a:Addr} {l:List Bool} (h:SqL K H a (ones l)) (hz:l.length<=16000000) (q:Q (.str (tx l)) H):rMet K .join (.str (tx [])) [.ref a] H Q:=by
 refine at_join (ls:=l.map fun c=>[c]) h (by rw[flat1];exact hz) ?_
 rw[flat1]
 exact q
noncomputable def tn (l:List Bool) (n:Nat):List Bool:=(l.take n).map (!·)++l.drop n
end SR
namespace LW
open PySem PySem.Spec PyProof.Rows L2 R3
noncomputable abbrev Rm:=Option Nat×Option Nat
end LW
namespace LW
open PySem PySem.Spec PyProof.Rows L2 R3
noncomputable def stp (M:List Rm) (r:Nat) (c:Bool):Option Nat:=match M[r]? with
 |some rm=>if c then rm.2 else rm.1
 |none=>none
end LW
namespace LW
open PySem PySem.Spec PyProof.Rows L2 R3
noncomputable def ow (f:Nat->Nat):Option Nat->Nat
 |none=>0
 |some m=>f m
end LW
namespace LW
open PySem PySem.Spec PyProof.Rows L2 R3
noncomputable def sg (N:Nat) (f:Nat->Nat):Nat:=((List.range N).map f).sum
noncomputable abbrev Tb:=Nat->Nat->Nat
noncomputable def mm (N:Nat) (A B:Tb):Tb:=fun i j=>sg N fun k=>A i k*B k j
noncomputable def Ad (M:List Rm):Tb:=fun i j=>(if stp M i false=some j then 1 else 0)+(if stp M i true=some j then 1 else 0)
noncomputable def pw (M:List Rm):Nat->Tb
 |0=>fun i j=>if i=j then 1 else 0
 |n+1=>mm M.length (Ad M) (pw M n)
theorem mul_ok {a b:Nat} (ha:a<=2 ^ 2000) (hb:b<=2 ^ 2000):CMulW (a:Int) (b:Int):=by
 have key:∀{a:Nat},a<=2 ^ 2000->Builtin.Int.intBits ((a:Nat):Int)<=2001:=fun {a} h=>intBits_le_iff.mpr (by
  rw[Int.natAbs_natCast]
  exact Nat.lt_of_le_of_lt h (Nat.pow_lt_pow_right (by decide) (by decide)))
 exact .inr (.inr (IntMulOk.of_le (key ha) (key hb) (by decide)))
end LW
namespace BA
open PySem PySem.Spec PyProof.Rows L2 R3 LW SR
noncomputable def c_p_balanced_count:Css:=(.cons (.ite (.val (.bin .Mod (.var 0) (.int 2))) (.cons (.ret (.int 0))
  .nil) .nil)
  (.cons (.asg (.name 1) (.bin .FloorDiv (.var 0) (.int 2)))
  (.cons (.asg (.name 2) (.int 1))
  (.cons (.for_ (.name 3) (.range2 (.int 1) (.bin .Add (.var 1) (.int 1))) (.cons (.asg (.name 2) (.bin .FloorDiv (.bin .Mult (.var 2) (.bin .Add (.var 1) (.var 3))) (.var 3)))
  .nil))
  (.cons (.ret (.var 2))
  .nil)))))
noncomputable def c_p_count_by_nought:Css:=(.cons (.ret (.bin .FloorDiv (.bin .Mult (.var 0) (.bin .Sub (.var 1) (.var 2))) (.var 1)))
  .nil)
noncomputable def bcL (h:Nat):Nat->Nat
 |0=>1
 |k+1=>bcL h k*(h+(k+1)) / (k+1)
noncomputable def bc (m:Nat):Nat:=if m % 2=0 then bcL (m / 2) (m / 2)else 0
theorem bcL_le {h:Nat} (hh:h<=100):∀k,k<=100->bcL h k<=2 ^ (8*k)
 |0,_=>Nat.le_refl _
 |k+1,hk=>by
  show bcL h k*(h+(k+1)) / (k+1)<=_
  have ih:=bcL_le hh k (by omega)
  have h1:bcL h k*(h+(k+1))<=2 ^ (8*k)*256:=Nat.mul_le_mul ih (by omega)
  refine Nat.le_trans (Nat.div_le_self _ _) (Nat.le_trans h1 ?_)
  rw[show 8*(k+1)=8*k+8 by omega,Nat.pow_add]
  exact Nat.le_refl _
theorem big_ok {n:Nat} (h:n<=800) {x:Nat} (hx:x<=2 ^ n):x<=2 ^ 2000:=Nat.le_trans hx (Nat.pow_le_pow_right (by decide) (by omega))
theorem bc_le {m:Nat} (hm:m<=200):bc m<=2 ^ 800:=by
 unfold bc
 split
 .exact Nat.le_trans (bcL_le (by omega) (m / 2) (by omega)) (Nat.pow_le_pow_right (by decide) (by omega))
 .exact Nat.zero_le _
def spBCount:Sp:=fun vs H Q _=>∃m:Nat,vs=[.int m]/\m<=200/\Q (.int (bc m)) H
theorem body_bcount {C:Rc} (hN:C.N.length=4):∀vs H Q E,spBCount vs H Q E->tSs C c_p_balanced_count { nx:=fun _ H'=>Q .non H',rt:=Q } (L2.start C.N vs) H:=by
 intro vs H Q E h
 obtain⟨m,rfl,hm,q⟩:=h
 rw[start_eq hN]
 unfold c_p_balanced_count
 walk_at "y"
 refine⟨by decide,?_⟩
 rw[<- decide_not]
 refine by_dec (fun hq=>?_) fun hq=>?_
 .walk_at "y"
  have:bc m=0:=by unfold bc;rw[if_neg (by omega)]
  rw[this]at q
  exact q
 .walk_at "y"
  refine⟨⟨by decide,.inl (by decide)⟩,?_⟩
  have eb:bc m=bcL (m / 2) (m / 2):=by unfold bc;rw[if_pos (by omega)]
  rw[eb]at q
  rw[show(m:Int) / 2=((m / 2:Nat):Int) from rfl]
  have hh:m / 2<=100:=by omega
  generalize m / 2=h at q hh ⊢
  walk_at "y"
  refine at_r2 (by omega) (by omega) (by omega) (by omega) (for_r (fun i σ H'=>(∃x,σ=[some (.int m),some (.int h),some (.int (bcL h i)),x])/\H'=H) ⟨⟨none,rfl⟩,rfl⟩ ?_ ?_)
  .rintro i σ H' hi ⟨⟨x,rfl⟩,rfl⟩
   have hi2:i<h:=by omega
   walk_at "y"
   have e1:(h:Int)+(1+i)=((h+(i+1):Nat):Int):=by omega
   have e2:(1:Int)+i=((i+1:Nat):Int):=by omega
   rw[e1,e2]
   refine⟨mul_ok (big_ok (by omega) (bcL_le hh i (by omega))) (Nat.le_trans (show h+(i+1)<=1000 by omega) (by decide +kernel)),⟨by omega,.inl (by omega)⟩,?_⟩
   exact⟨⟨_,rfl⟩,trivial⟩
  .rintro σ H' ⟨⟨x,rfl⟩,rfl⟩
   rw[show((h:Int)+1-1).toNat=h by omega]
   walk_at "y"
   exact q
noncomputable def bn (c r o:Nat):Nat:=c*(r-o) / r
theorem bn_le {c r o:Nat} (hr:0<r):bn c r o<=c:=by
 unfold bn
 exact Nat.le_trans (Nat.div_le_div_right (Nat.mul_le_mul_left c (Nat.sub_le r o))) (Nat.le_of_eq (Nat.mul_div_cancel c hr))
def spByN:Sp:=fun vs H Q _=>∃c r o:Nat,vs=[.int c,.int r,.int o]/\c<=2 ^ 2000/\0<r/\r<=200/\o<=r/\Q (.int (bn c r o)) H
theorem body_byn {C:Rc} (hN:C.N.length=3):∀vs H Q E,spByN vs H Q E->tSs C c_p_count_by_nought { nx:=fun _ H'=>Q .non H',rt:=Q } (L2.start C.N vs) H:=by
 intro vs H Q E h
 obtain⟨c,r,o,rfl,hc,hr,hr2,ho,q⟩:=h
 rw[start_eq hN]
 unfold c_p_count_by_nought
 walk_at "y"
 rw[show(r:Int)-o=((r-o:Nat):Int) by omega]
 refine⟨mul_ok hc (Nat.le_trans (show r-o<=1000 by omega) (by decide +kernel)),⟨by omega,.inl (by omega)⟩,?_⟩
 exact q
noncomputable def bat:Nat->Nat->Nat->Nat->List Bool
 |0,_,_,_=>[]
 |r+1,c,o,a=>if a<bn c (r+1) o then false :: bat r (bn c (r+1) o) o a else true :: bat r (c-bn c (r+1) o) (o-1) (a-bn c (r+1) o)
def Bt (m:Nat) (all:List Bool) (i:Nat) (bits:List Bool) (c o a:Nat):Prop:=bits++bat (m-i) c o a=all/\bits.length=i/\o<=m-i/\a<c/\c<=2 ^ 800
theorem bt_step {m:Nat} {all:List Bool} {i:Nat} {bits:List Bool} {c o a:Nat} (h:Bt m all i bits c o a) (hi:i<m):
  (a<bn c (m-i) o->Bt m all (i+1) (bits++[false]) (bn c (m-i) o) o a)/\(¬a<bn c (m-i) o->0<o/\Bt m all (i+1) (bits++[true]) (c-bn c (m-i) o) (o-1) (a-bn c (m-i) o)):=by
 obtain⟨h1,h2,h3,h4,h5⟩:=h
 obtain⟨r,hr⟩:∃r,m-i=r+1:=⟨m-i-1,by omega⟩
 have hr2:m-(i+1)=r:=by omega
 have hl:=bn_le (c:=c) (o:=o) (show 0<m-i by omega)
 rw[hr]at h1 h3 hl
 unfold Bt
 rw[hr,hr2]
 constructor
 .intro hq
  unfold bat at h1
  rw[if_pos hq]at h1
  refine⟨by rw[<- h1];simp,by simp[h2],?_,hq,Nat.le_trans hl h5⟩
  have:o≠r+1:=by
   rintro rfl
   unfold bn at hq
   simp at hq
  omega
 .intro hq
  have ho:0<o:=by
   rcases Nat.eq_zero_or_pos o with rfl|h
   .unfold bn at hq
    rw[Nat.sub_zero,Nat.mul_div_cancel _ (by omega)]at hq
    exact absurd h4 hq
   .exact h
  unfold bat at h1
  rw[if_neg hq]at h1
  exact⟨ho,by rw[<- h1];simp,by simp[h2],by omega,by omega,Nat.le_trans (Nat.sub_le _ _) h5⟩
noncomputable def batR (m k:Nat):List Bool:=bat m (bc m) (m / 2) k
theorem tQ_chnv {C:Rc} {σ:L2.St} {H:Hp} {Qb:Bool->Hp->Prop} {j k:Nat} {a n m:Int} (hσ:σ[j]?=some (some (.int n))) (hk:σ[k]?=some (some (.int m))) (h:a<=n) (q:Qb (decide (n<m)) H):tQ C (.chn .LtE .Lt (.int a) (.var j) (.var k)) σ H Qb:=by
 show tTest (tChain (rCmp C.K .LtE) (rCmp C.K .Lt) (tE C (.int a)) (tE C (.var j)) (tE C (.var k))) σ H Qb
 unfold tTest tChain
 simp only[tE_int,tE_var,hσ,hk,kV_some]
 refine⟨a,n,rfl,rfl,true,?_,?_⟩
 .show V.bl (decide (a<=n))=_
  rw[decide_eq_true h]
 .rw[if_pos rfl]
  exact⟨n,m,rfl,rfl,_,rfl,q⟩
noncomputable def bnm:List Bool->Nat->Nat->Nat
 | [],_,_=>0
 |b :: r,c,o=>if b then bn c (r.length+1) o+bnm r (c-bn c (r.length+1) o) (o-1)else bnm r (bn c (r.length+1) o) o
noncomputable def bnR (l:List Bool):Nat:=bnm l (bc l.length) (l.length / 2)
def Bm (l:List Bool) (i c o a:Nat):Prop:=a+bnm (l.drop i) c o=bnR l/\o=(l.drop i).count true/\c<=2 ^ 800
theorem sm0 {l:List Bool} (h:sm l=0):l.length / 2=l.count true:=by
 have:l.count true+l.count false=l.length:=by
  clear h
  induction l with
  |nil=>rfl
  |cons b l ih=>cases b<;>simp<;>omega
 unfold sm at h
 omega
end BA
namespace K56
open PySem PySem.Spec PyProof.Rows L2 R3 LW
noncomputable def n_p_sum_of:List Str:=["row"]
noncomputable def b_p_sum_of:List Str:=[]
noncomputable def n_p_balanced_count:List Str:=["many","half","count","ones"]
noncomputable def b_p_balanced_count:List Str:=["range"]
noncomputable def n_p_count_by_nought:List Str:=["count","rest","ones"]
noncomputable def b_p_count_by_nought:List Str:=[]
noncomputable def n_p_balanced_at:List Str:=["many","number","count","bits","ones","ahead","rest","by_nought"]
noncomputable def b_p_balanced_at:List Str:=["range","reversed"]
noncomputable def c_p_balanced_at:Css:=(.cons (.asg (.name 2) (.call "balanced_count" (.cons (.var 0) .nil)))
  (.cons (.ite (.not (.chn .LtE .Lt (.int 0) (.var 1) (.var 2))) (.cons .raise_
  .nil) .nil)
  (.cons (.asg (.name 3) (.lst .nil))
  (.cons (.asg (.name 4) (.bin .FloorDiv (.var 0) (.int 2)))
  (.cons (.asg (.name 5) (.var 1))
  (.cons (.for_ (.name 6) (.rev (.blt .range (.cons (.int 1) (.cons (.bin .Add (.var 0) (.int 1)) .nil)))) (.cons (.asg (.name 7) (.call "count_by_nought" (.cons (.var 2) (.cons (.var 6) (.cons (.var 4) .nil)))))
  (.cons (.ite (.cmp .Lt (.var 5) (.var 7)) (.cons (.expr (.met .append (.var 3) (.cons (.str "0") .nil)))
  (.cons (.asg (.name 2) (.var 7))
  .nil)) (.cons (.expr (.met .append (.var 3) (.cons (.str "1") .nil)))
  (.cons (.aug 2 true (.var 7))
  (.cons (.aug 5 true (.var 7))
  (.cons (.aug 4 true (.int 1))
  .nil)))))
  .nil)))
  (.cons (.ret (.met .join (.str "") (.cons (.var 3) .nil)))
  .nil)))))))
noncomputable def n_p_balanced_number:List Str:=["row","count","ones","ahead","at","bit","by_nought"]
noncomputable def b_p_balanced_number:List Str:=["enumerate","len"]
noncomputable def c_p_balanced_number:Css:=(.cons (.ite (.cmp .NotEq (.call "sum_of" (.cons (.var 0) .nil)) (.int 0)) (.cons .raise_
  .nil) .nil)
  (.cons (.asg (.name 1) (.call "balanced_count" (.cons (.blt .len (.cons (.var 0) .nil)) .nil)))
  (.cons (.asg (.name 2) (.bin .FloorDiv (.blt .len (.cons (.var 0) .nil)) (.int 2)))
  (.cons (.asg (.name 3) (.int 0))
  (.cons (.for_ (.tup (.cons (.name 4) (.cons (.name 5) .nil))) (.enum (.var 0)) (.cons (.asg (.name 6) (.call "count_by_nought" (.cons (.var 1) (.cons (.bin .Sub (.blt .len (.cons (.var 0) .nil)) (.var 4)) (.cons (.var 2) .nil)))))
  (.cons (.ite (.cmp .Eq (.var 5) (.str "0")) (.cons (.asg (.name 1) (.var 6))
  .nil) (.cons (.aug 1 true (.var 6))
  (.cons (.aug 3 false (.var 6))
  (.cons (.aug 2 true (.int 1))
  .nil))))
  .nil)))
  (.cons (.ret (.var 3))
  .nil))))))
noncomputable def n_cell_at:List Str:=["_law_script","_law_k"]
noncomputable def b_cell_at:List Str:=["len"]
noncomputable def n_box:List Str:=["_law_script","_law_k","_law_cell"]
noncomputable def b_box:List Str:=["abs","int"]
noncomputable def n_take:List Str:=["_law_box_here","_law_many","_law_found","_law_once","_law_twice"]
noncomputable def b_take:List Str:=[]
noncomputable def n_same:List Str:=["_law_found","_law_due","_law_one","_law_other"]
noncomputable def b_same:List Str:=["all","bool","int","isinstance","len","list","str","tuple","zip"]
noncomputable def n_count:List Str:=["_law_many","_law_ways","_law_turn","_law_more","_law_total","_law_step"]
noncomputable def b_count:List Str:=["range"]
noncomputable def c_count:Css:=(.cons (.asg (.name 1) (.dsi 0 1))
  (.cons (.for_ (.name 2) (.range1 (.var 0)) (.cons (.asg (.name 3) .dnew)
  (.cons (.for_ (.name 4) (.dk (.var 1)) (.cons (.for_ (.name 5) (.val (.tup (.cons (.neg (.int 1)) (.cons (.int 1) .nil)))) (.cons (.dput (.var 3) (.bin .Add (.var 4) (.var 5)) (.bin .Add (.dg2 (.var 3) (.bin .Add (.var 4) (.var 5)) (.int 0)) (.dix (.var 1) (.var 4))))
  .nil))
  .nil))
  (.cons (.asg (.name 1) (.var 3))
  .nil))))
  (.cons (.ret (.dg2 (.var 1) (.int 0) (.int 0)))
  .nil)))
noncomputable def n_balanced_row:List Str:=["_law_box_here","_law_many","_law_row","_law_ones","_law_noughts"]
noncomputable def b_balanced_row:List Str:=[]
noncomputable def c_balanced_row:Css:=(.cons (.asg (.name 2) (.str ""))
  (.cons (.par 3 4 (.bin .FloorDiv (.var 1) (.int 2)) (.bin .FloorDiv (.var 1) (.int 2)))
  (.cons (.whl (.cmp .Gt (.bin .Add (.var 3) (.var 4)) (.int 0)) (.cons (.ite (.cmp .Lt (.call "_law_take" (.cons (.var 0) (.cons (.bin .Add (.var 3) (.var 4)) .nil))) (.var 3)) (.cons (.par 2 3 (.bin .Add (.var 2) (.str "1")) (.bin .Sub (.var 3) (.int 1)))
  .nil) (.cons (.par 2 4 (.bin .Add (.var 2) (.str "0")) (.bin .Sub (.var 4) (.int 1)))
  .nil))
  .nil))
  (.cons (.ret (.var 2))
  .nil))))
noncomputable def n_short_right:List Str:=["_law_many","_law_rows","_law_turn","_law_row","_law_due","_law_number"]
noncomputable def b_short_right:List Str:=["len","list","range","sorted"]
noncomputable def c_short_right:Css:=(.cons (.asg (.name 1) (.lst (.cons (.str "") .nil)))
  (.cons (.for_ (.name 2) (.range1 (.var 0)) (.cons (.asg (.name 1) (.bin .Add (.comp (.bin .Add (.var 3) (.str "0")) [3] (.name 3) (.val (.var 1)) .none .nil) (.comp (.bin .Add (.var 3) (.str "1")) [3] (.name 3) (.val (.var 1)) .none .nil)))
  .nil))
  (.cons (.asg (.name 4) (.blt .sortA (.cons (.comp (.var 3) [3] (.name 3) (.val (.var 1)) (.some (.cmp .Eq (.bin .Mult (.int 2) (.met .countS (.var 3) (.cons (.str "1") .nil))) (.var 0))) .nil) .nil)))
  (.cons (.ite (.not (.val (.call "_law_same" (.cons (.call "balanced_count" (.cons (.var 0) .nil)) (.cons (.blt .len (.cons (.var 4) .nil)) .nil))))) (.cons (.ret (.bl false))
  .nil) .nil)
  (.cons (.ite (.not (.val (.call "_law_same" (.cons (.comp (.call "balanced_at" (.cons (.var 0) (.cons (.var 5) .nil))) [5] (.name 5) (.range1 (.blt .len (.cons (.var 4) .nil))) .none .nil) (.cons (.var 4) .nil))))) (.cons (.ret (.bl false))
  .nil) .nil)
  (.cons (.ret (.call "_law_same" (.cons (.comp (.call "balanced_number" (.cons (.var 3) .nil)) [3] (.name 3) (.val (.var 4)) .none .nil) (.cons (.blt .list (.cons (.blt .range (.cons (.blt .len (.cons (.var 4) .nil)) .nil)) .nil)) .nil))))
  .nil))))))
noncomputable def n_law:List Str:=["_law_script","_law_k","_law_box_here","_law_many","_law_due","_law_number","_law_row"]
noncomputable def b_law:List Str:=["all","int","len","min","range"]
noncomputable def c_law:Css:=(.cons (.for_ (.name 1) (.range1 (.bin .Add (.int 1) (.blt .min (.cons (.int 12) (.cons (.blt .len (.cons (.var 0) .nil)) .nil))))) (.cons (.asg (.name 2) (.call "_law_box" (.cons (.var 0) (.cons (.var 1) .nil))))
  (.cons (.asg (.name 3) (.idx (.lst (.cons (.call "_law_take" (.cons (.var 2) (.cons (.int 16) .nil))) (.cons (.call "_law_take" (.cons (.var 2) (.cons (.int 61) .nil))) .nil))) (.blt .int (.cons (.cmp .Eq (.call "_law_take" (.cons (.var 2) (.cons (.int 3) .nil))) (.int 0)) .nil))))
  (.cons (.asg (.name 4) (.call "_law_count" (.cons (.var 3) .nil)))
  (.cons (.ite (.not (.val (.call "_law_same" (.cons (.call "balanced_count" (.cons (.var 3) .nil)) (.cons (.var 4) .nil))))) (.cons (.ret (.bl false))
  .nil) .nil)
  (.cons (.ite (.cmp .Gt (.var 4) (.int 0)) (.cons (.asg (.name 5) (.call "_law_take" (.cons (.var 2) (.cons (.var 4) .nil))))
  (.cons (.asg (.name 6) (.call "balanced_at" (.cons (.var 3) (.cons (.var 5) .nil))))
  (.cons (.ite (.or (.cmp .NotEq (.blt .len (.cons (.var 6) .nil)) (.var 3)) (.or (.cmp .NotEq (.bin .Mult (.int 2) (.met .countS (.var 6) (.cons (.str "1") .nil))) (.var 3)) (.not (.val (.call "_law_same" (.cons (.call "balanced_number" (.cons (.var 6) .nil)) (.cons (.var 5) .nil))))))) (.cons (.ret (.bl false))
  .nil) .nil)
  (.cons (.ite (.and (.cmp .Lt (.bin .Add (.var 5) (.int 1)) (.var 4)) (.not (.cmw .ltS (.var 6) (.call "balanced_at" (.cons (.var 3) (.cons (.bin .Add (.var 5) (.int 1)) .nil)))))) (.cons (.ret (.bl false))
  .nil) .nil)
  (.cons (.asg (.name 6) (.call "_law_balanced_row" (.cons (.var 2) (.cons (.var 3) .nil))))
  (.cons (.ite (.not (.val (.call "_law_same" (.cons (.call "balanced_at" (.cons (.var 3) (.cons (.call "balanced_number" (.cons (.var 6) .nil)) .nil))) (.cons (.var 6) .nil))))) (.cons (.ret (.bl false))
  .nil) .nil)
  .nil)))))) .nil)
  .nil))))))
  (.cons (.ret (.blt .all (.cons (.comp (.call "_law_short_right" (.cons (.var 3) .nil)) [3] (.name 3) (.range1 (.int 9)) .none .nil) .nil)))
  .nil))
open SR BA
noncomputable def cho:Nat->Nat->Nat
 |_,0=>1
 |0,_+1=>0
 |n+1,k+1=>cho n k+cho n (k+1)
theorem cho_0 {n:Nat}:cho n 0=1:=by cases n<;>rfl
theorem cho_gt:∀{n k:Nat},n<k->cho n k=0
 |0,k+1,_=>rfl
 |n+1,k+1,h=>by
  show cho n k+cho n (k+1)=0
  rw[cho_gt (show n<k by omega),cho_gt (show n<k+1 by omega)]
theorem cho_self:∀{n:Nat},cho n n=1
 |0=>rfl
 |n+1=>by
  show cho n n+cho n (n+1)=1
  rw[cho_self,cho_gt (by omega)]
theorem cho_le:∀{n k:Nat},cho n k<=2 ^ n
 |n,0=>by rw[cho_0];exact Nat.one_le_two_pow
 |0,k+1=>Nat.zero_le _
 |n+1,k+1=>by
  show cho n k+cho n (k+1)<=2 ^ (n+1)
  have h1:=cho_le (n:=n) (k:=k)
  have h2:=cho_le (n:=n) (k:=k+1)
  rw[Nat.pow_succ]
  omega
theorem cho_abs:∀(n k:Nat),cho (n+1) (k+1)*(k+1)=cho n k*(n+1)
 |0,0=>rfl
 |0,k+1=>by
  rw[cho_gt (show 0+1<k+1+1 by omega)]
  show 0*_=0*_
  rw[Nat.zero_mul,Nat.zero_mul]
 |n+1,0=>by
  have ih:=cho_abs n 0
  show(cho (n+1) 0+cho (n+1) (0+1))*(0+1)=cho (n+1) 0*(n+1+1)
  rw[cho_0]at ih ⊢
  omega
 |n+1,k+1=>by
  have h1:=cho_abs n k
  have h2:=cho_abs n (k+1)
  show(cho (n+1) (k+1)+cho (n+1) (k+1+1))*(k+1+1)=cho (n+1) (k+1)*(n+1+1)
  have e:cho (n+1) (k+1)=cho n k+cho n (k+1):=rfl
  rw[Nat.add_mul,h2]
  rw[Nat.mul_add (cho (n+1) (k+1)) (k+1) 1,h1,Nat.mul_add (cho (n+1) (k+1)) (n+1) 1]
  rw[e]
  simp only[Nat.add_mul,Nat.mul_add,Nat.mul_one]
  omega
theorem cho_less:∀(n k:Nat),k<=n+1->cho (n+1) k*(n+1-k)=cho n k*(n+1)
 |n,0,_=>by rw[cho_0,cho_0];rfl
 |n,k+1,h=>by
  have h1:=cho_abs n k
  have e:cho (n+1) (k+1)=cho n k+cho n (k+1):=rfl
  have h2:cho (n+1) (k+1)*(n+1-(k+1))+cho (n+1) (k+1)*(k+1)=cho (n+1) (k+1)*(n+1):=by
   rw[<- Nat.mul_add]
   congr 1
   omega
  rw[h1]at h2
  have h3:cho (n+1) (k+1)*(n+1)=cho n k*(n+1)+cho n (k+1)*(n+1):=by rw[e,Nat.add_mul]
  omega
theorem bcL_cho {h:Nat}:∀k,bcL h k=cho (h+k) k
 |0=>by rw[Nat.add_zero,cho_0];rfl
 |k+1=>by
  show bcL h k*(h+(k+1)) / (k+1)=cho (h+k+1) (k+1)
  rw[bcL_cho k,show h+(k+1)=h+k+1 by omega,<- cho_abs]
  exact Nat.mul_div_cancel _ (by omega)
theorem bc_even {m:Nat} (h:m % 2=0):bc m=cho m (m / 2):=by
 unfold bc
 rw[if_pos h,bcL_cho,show m / 2+m / 2=m by omega]
theorem bc_odd {m:Nat} (h:m % 2≠0):bc m=0:=by unfold bc;rw[if_neg h]
theorem bn_cho {r o:Nat} (h:o<=r+1):bn (cho (r+1) o) (r+1) o=cho r o:=by
 unfold bn
 rw[cho_less r o h]
 exact Nat.mul_div_cancel _ (by omega)
noncomputable def cr:Nat->Nat->List (List Bool)
 |0,0=>[[]]
 |0,_+1=>[]
 |r+1,0=>(cr r 0).map (false :: ·)
 |r+1,o+1=>(cr r (o+1)).map (false :: ·)++(cr r o).map (true :: ·)
theorem cr_len:∀(r o:Nat),(cr r o).length=cho r o
 |0,0=>rfl
 |0,_+1=>rfl
 |r+1,0=>by
  show((cr r 0).map (false :: ·)).length=_
  rw[List.length_map,cr_len r 0,cho_0,cho_0]
 |r+1,o+1=>by
  show((cr r (o+1)).map (false :: ·)++(cr r o).map (true :: ·)).length=cho r o+cho r (o+1)
  rw[List.length_append,List.length_map,List.length_map,cr_len r o,cr_len r (o+1)]
  omega
theorem cr_mem:∀{r o:Nat} {l:List Bool},l∈cr r o↔l.length=r/\l.count true=o
 |0,0,l=>by
  show l∈[[]]↔_
  rw[List.mem_singleton]
  refine⟨fun h=>by rw[h];exact⟨rfl,rfl⟩,fun h=>List.eq_nil_of_length_eq_zero h.1⟩
 |0,o+1,l=>by
  show l∈[]↔_
  refine⟨fun h=>absurd h List.not_mem_nil,fun h=>?_⟩
  rw[List.eq_nil_of_length_eq_zero h.1]at h
  have:=h.2
  simp at this
 |r+1,0,l=>by
  show l∈(cr r 0).map (false :: ·)↔_
  rw[List.mem_map]
  constructor
  .rintro⟨x,hx,rfl⟩
   obtain⟨h1,h2⟩:=cr_mem.mp hx
   exact⟨by rw[List.length_cons,h1],by simpa using h2⟩
  .rintro⟨h1,h2⟩
   cases l with
   |nil=>simp at h1
   |cons b l=>
    cases b with
    |true=>simp at h2
    |false=>exact⟨l,cr_mem.mpr ⟨by simpa using h1,by simpa using h2⟩,rfl⟩
 |r+1,o+1,l=>by
  show l∈(cr r (o+1)).map (false :: ·)++(cr r o).map (true :: ·)↔_
  rw[List.mem_append,List.mem_map,List.mem_map]
  constructor
  .rintro(⟨x,hx,rfl⟩|⟨x,hx,rfl⟩)
   .obtain⟨h1,h2⟩:=cr_mem.mp hx
    exact⟨by rw[List.length_cons,h1],by simpa using h2⟩
   .obtain⟨h1,h2⟩:=cr_mem.mp hx
    exact⟨by rw[List.length_cons,h1],by simp[h2]⟩
  .rintro⟨h1,h2⟩
   cases l with
   |nil=>simp at h1
   |cons b l=>
    cases b with
    |false=>exact .inl ⟨l,cr_mem.mpr ⟨by simpa using h1,by simpa using h2⟩,rfl⟩
    |true=>exact .inr ⟨l,cr_mem.mpr ⟨by simpa using h1,by simpa using h2⟩,rfl⟩
def ltR (a b:List Bool):Prop:=(a.map cb)<(b.map cb)
theorem ltR_cons {b:Bool} {x y:List Bool} (h:ltR x y):ltR (b :: x) (b :: y):=by
 unfold ltR at *
 rw[List.map_cons,List.map_cons]
 exact List.cons_lt_cons_iff.mpr (.inr ⟨rfl,h⟩)
theorem ltR_ft {x y:List Bool}:ltR (false :: x) (true :: y):=by
 unfold ltR
 rw[List.map_cons,List.map_cons]
 exact List.cons_lt_cons_iff.mpr (.inl (by decide))
theorem cr_up:∀(r o:Nat),(cr r o).Pairwise ltR
 |0,0=>by simp[cr]
 |0,_+1=>.nil
 |r+1,0=>by
  show((cr r 0).map (false :: ·)).Pairwise ltR
  rw[List.pairwise_map]
  exact(cr_up r 0).imp fun h=>ltR_cons h
 |r+1,o+1=>by
  show((cr r (o+1)).map (false :: ·)++(cr r o).map (true :: ·)).Pairwise ltR
  refine List.pairwise_append.mpr ⟨?_,?_,fun x hx y hy=>?_⟩
  .rw[List.pairwise_map];exact(cr_up r (o+1)).imp fun h=>ltR_cons h
  .rw[List.pairwise_map];exact(cr_up r o).imp fun h=>ltR_cons h
  .obtain⟨u,_,rfl⟩:=List.mem_map.mp hx
   obtain⟨v,_,rfl⟩:=List.mem_map.mp hy
   exact ltR_ft
theorem bat_cr:∀{r o a:Nat},o<=r->a<cho r o->(cr r o)[a]?=some (bat r (cho r o) o a)
 |0,0,a,_,h=>by
  have h:a<1:=h
  have:a=0:=by omega
  subst this
  rfl
 |r+1,0,a,_,h=>by
  rw[cho_0]at h
  have h1:a<cho r 0:=by rw[cho_0];exact h
  have ih:=bat_cr (r:=r) (o:=0) (Nat.zero_le _) h1
  show((cr r 0).map (false :: ·))[a]?=some (if a<bn (cho (r+1) 0) (r+1) 0 then _ else _)
  rw[bn_cho (Nat.zero_le _),if_pos h1,List.getElem?_map,ih]
  rfl
 |r+1,o+1,a,ho,h=>by
  show((cr r (o+1)).map (false :: ·)++(cr r o).map (true :: ·))[a]?=some (if a<bn (cho (r+1) (o+1)) (r+1) (o+1)then _ else _)
  rw[bn_cho (by omega)]
  have e:cho (r+1) (o+1)=cho r o+cho r (o+1):=rfl
  have hl:((cr r (o+1)).map (false :: ·)).length=cho r (o+1):=by rw[List.length_map,cr_len]
  by_cases hq:a<cho r (o+1)
  .rw[if_pos hq,List.getElem?_append_left (by omega),List.getElem?_map]
   have hor:o+1<=r:=by
    rcases Nat.lt_or_ge r (o+1)with z|z
    .rw[cho_gt z]at hq;omega
    .exact z
   rw[bat_cr hor hq]
   rfl
  .rw[if_neg hq,List.getElem?_append_right (by omega),hl,List.getElem?_map,bat_cr (show o<=r by omega) (by omega)]
   show _=some (true :: bat r (cho (r+1) (o+1)-cho r (o+1)) (o+1-1) (a-cho r (o+1)))
   rw[show cho (r+1) (o+1)-cho r (o+1)=cho r o by omega]
   rfl
theorem bnm_cr:∀{l:List Bool},(cr l.length (l.count true))[bnm l (cho l.length (l.count true)) (l.count true)]?=some l
 | []=>rfl
 |false :: l=>by
  have ih:=bnm_cr (l:=l)
  have hc:(false :: l).count true=l.count true:=by simp
  have hle:l.count true<=l.length:=List.count_le_length
  rw[hc]
  show(cr (l.length+1) (l.count true))[if false=true then _ else bnm l (bn (cho (l.length+1) (l.count true)) (l.length+1) (l.count true)) (l.count true)]?=_
  rw[if_neg (by decide),bn_cho (by omega)]
  have hb:=(List.getElem?_eq_some_iff.mp ih).1
  cases ho:l.count true with
  |zero=>
   rw[ho]at ih
   show((cr l.length 0).map (false :: ·))[_]?=_
   rw[List.getElem?_map,ih]
   rfl
  |succ o=>
   rw[ho]at ih hb
   show((cr l.length (o+1)).map (false :: ·)++(cr l.length o).map (true :: ·))[_]?=_
   rw[List.getElem?_append_left (by rw[List.length_map];exact hb),List.getElem?_map,ih]
   rfl
 |true :: l=>by
  have ih:=bnm_cr (l:=l)
  have hc:(true :: l).count true=l.count true+1:=by simp
  have hle:l.count true<=l.length:=List.count_le_length
  rw[hc]
  generalize l.count true=o at ih hle
  show(cr (l.length+1) (o+1))[if true=true then bn (cho (l.length+1) (o+1)) (l.length+1) (o+1)+bnm l (cho (l.length+1) (o+1)-bn (cho (l.length+1) (o+1)) (l.length+1) (o+1)) (o+1-1)else _]?=_
  rw[if_pos rfl,bn_cho (by omega)]
  have e:cho (l.length+1) (o+1)=cho l.length o+cho l.length (o+1):=rfl
  rw[show cho (l.length+1) (o+1)-cho l.length (o+1)=cho l.length o by omega,show o+1-1=o by omega]
  show((cr l.length (o+1)).map (false :: ·)++(cr l.length o).map (true :: ·))[_]?=_
  rw[List.getElem?_append_right (by rw[List.length_map,cr_len];omega),List.length_map,cr_len,Nat.add_sub_cancel_left,List.getElem?_map,ih]
  rfl
theorem cr_nd {r o i j:Nat} {l:List Bool} (h1:(cr r o)[i]?=some l) (h2:(cr r o)[j]?=some l):i=j:=by
 obtain⟨b1,e1⟩:=List.getElem?_eq_some_iff.mp h1
 obtain⟨b2,e2⟩:=List.getElem?_eq_some_iff.mp h2
 have up:=List.pairwise_iff_getElem.mp (cr_up r o)
 rcases Nat.lt_trichotomy i j with z|z|z
 .have:=up i j b1 b2 z
  rw[e1,e2]at this
  exact absurd this (List.lt_irrefl _)
 .exact z
 .have:=up j i b2 b1 z
  rw[e1,e2]at this
  exact absurd this (List.lt_irrefl _)
theorem batR_at {m k:Nat} (hm:m % 2=0) (hk:k<bc m):(cr m (m / 2))[k]?=some (batR m k):=by
 unfold batR
 rw[bc_even hm]at hk ⊢
 exact bat_cr (by omega) hk
theorem batR_ok {m k:Nat} (hk:k<bc m):m % 2=0/\(batR m k).length=m/\(batR m k).count true=m / 2:=by
 have hm:m % 2=0:=by
  rcases Nat.decEq (m % 2) 0 with z|z
  .rw[bc_odd z]at hk;omega
  .exact z
 have:=cr_mem.mp (List.mem_of_getElem? (batR_at hm hk))
 exact⟨hm,this.1,this.2⟩
theorem bnR_at {l:List Bool} (h:l.length=2*l.count true):(cr l.length (l.length / 2))[bnR l]?=some l:=by
 have e:l.length / 2=l.count true:=by omega
 unfold bnR
 rw[bc_even (by omega),e]
 exact bnm_cr
theorem bnR_lt {l:List Bool} (h:l.length=2*l.count true):bnR l<bc l.length:=by
 have:=(List.getElem?_eq_some_iff.mp (bnR_at h)).1
 rw[cr_len]at this
 rw[bc_even (by omega)]
 exact this
theorem bnR_batR {m k:Nat} (hk:k<bc m):bnR (batR m k)=k:=by
 obtain⟨hm,hl,hc⟩:=batR_ok hk
 have h1:=bnR_at (l:=batR m k) (by omega)
 rw[hl]at h1
 exact cr_nd h1 (batR_at hm hk)
theorem batR_bnR {l:List Bool} (h:l.length=2*l.count true):batR l.length (bnR l)=l:=by
 have h1:=batR_at (m:=l.length) (by omega) (bnR_lt h)
 rw[bnR_at h]at h1
 exact(Option.some.inj h1).symm
theorem batR_up {m k:Nat} (hk:k+1<bc m):ltR (batR m k) (batR m (k+1)):=by
 obtain⟨hm,_⟩:=batR_ok (m:=m) (k:=k) (by omega)
 obtain⟨b1,e1⟩:=List.getElem?_eq_some_iff.mp (batR_at hm (show k<bc m by omega))
 obtain⟨b2,e2⟩:=List.getElem?_eq_some_iff.mp (batR_at hm hk)
 have:=List.pairwise_iff_getElem.mp (cr_up m (m / 2)) k (k+1) b1 b2 (by omega)
 rw[e1,e2]at this
 exact this
def spAtZ:Sp:=fun vs H Q _=>∃(m k:Nat),vs=[.int m,.int k]/\m<=200/\k<bc m/\∀H',Same H H'->Q (.str (tx (batR m k))) H'
theorem body_atZ {C:Rc} (hN:C.N.length=8) (hB:C.fs "balanced_count"=some spBCount) (hY:C.fs "count_by_nought"=some spByN):∀vs H Q E,spAtZ vs H Q E->tSs C c_p_balanced_at { nx:=fun _ H'=>Q .non H',rt:=Q } (L2.start C.N vs) H:=by
 intro vs H Q E h
 obtain⟨m,k,rfl,hm,hkm,q⟩:=h
 rw[start_eq hN]
 unfold c_p_balanced_at
 walk_at "y"
 refine call_e hB ?_
 walk_at "y"
 refine⟨m,rfl,hm,?_⟩
 walk_at "y"
 have h0:(0:Int)<=(k:Int):=by omega
 have hlt:(k:Int)<(bc m:Int):=by omega
 refine tQ_chnv rfl rfl h0 ?_
 rw[decide_eq_true hlt]
 walk_at "y"
 refine⟨by decide,fun a ha=>?_⟩
 walk_at "y"
 refine⟨⟨by decide,.inl (by decide)⟩,?_⟩
 refine at_range2 fun pr hpr=>?_
 walk_at "y"
 have har:a≠pr:=fun z=>by subst z;rw[upd_same]at hpr;cases hpr
 refine at_rvR (upd_same) (by omega) (by omega) (by omega) (by omega) ?_
 rw[show((m:Int)+1-1).toNat=m by omega]
 have hS0:∀o,Same H (upd (upd (upd H a (.lst [])) pr (.rng 1 (m+1))) a o):=by
  intro o b u hb
  have hab:b≠a:=fun z=>by subst z;rw[ha]at hb;cases hb
  have hbp:b≠pr:=fun z=>by subst z;rw[upd_ne hab,hb]at hpr;cases hpr
  rw[upd_ne hab,upd_ne hbp,upd_ne hab]
  exact hb
 have hA0:(upd (upd H a (.lst [])) pr (.rng 1 (m+1))) a=some (.lst (ones [])):=by rw[upd_ne har,upd_same];rfl
 refine for_c (fun i σ H'=>(∃bits c o a' x6 x7,σ=[some (.int m),some (.int k),some (.int (c:Nat)),some (.ref a),some (.int (o:Nat)),some (.int (a':Nat)),x6,x7]/\Bt m (batR m k) i bits c o a'/\H' a=some (.lst (ones bits)))/\∀o,Same H (upd H' a o)) ⟨⟨[],bc m,m / 2,k,none,none,rfl,⟨rfl,rfl,by omega,by omega,bc_le hm⟩,hA0⟩,hS0⟩ ?_ ?_
 .rintro i σ H1 hi ⟨⟨bits,c,o,a',x6,x7,rfl,bt,hA⟩,hS⟩
  rw[show(1:Int)+(m:Nat)-1+i*(-1)=((m-i:Nat):Int) by omega]
  obtain⟨t1,t2⟩:=bt_step bt hi
  have hbl:=bt.2.1
  walk_at "y"
  refine call_e hY ?_
  walk_at "y"
  refine⟨c,m-i,o,rfl,big_ok (by omega) bt.2.2.2.2,by omega,by omega,bt.2.2.1,?_⟩
  have hbn:=bn_le (c:=c) (o:=o) (show 0<m-i by omega)
  generalize bn c (m-i) o=n at t1 t2 hbn ⊢
  walk_at "y"
  refine by_dec (fun hq=>?_) fun hq=>?_
  .walk_at "y"
   refine⟨tyL hA rfl,at_app hA (by rw[ones_len];exact small1000 (by omega)) ?_⟩
   walk_at "y"
   exact⟨⟨_,n,o,a',_,_,rfl,t1 (by omega),by rw[upd_same,ones_snoc]⟩,fun o=>by rw[upd_upd];exact hS o⟩
  .obtain⟨ho,t2⟩:=t2 (by omega)
   walk_at "y"
   refine⟨tyL hA rfl,at_app hA (by rw[ones_len];exact small1000 (by omega)) ?_⟩
   walk_at "y"
   rw[s_aug (a:=(c:Int)) rfl]
   walk_at "y"
   rw[s_aug (a:=(a':Int)) rfl]
   walk_at "y"
   rw[s_aug (a:=(o:Int)) rfl]
   walk_at "y"
   simp only[if_true]
   rw[show(c:Int)-n=((c-n:Nat):Int) by omega,show(a':Int)-n=((a'-n:Nat):Int) by omega,show(o:Int)-1=((o-1:Nat):Int) by omega]
   exact⟨⟨_,c-n,o-1,a'-n,_,_,rfl,t2,by rw[upd_same,ones_snoc]⟩,fun o=>by rw[upd_upd];exact hS o⟩
 .rintro σ H1 ⟨⟨bits,c,o,a',x6,x7,rfl,bt,hA⟩,hS⟩
  obtain⟨b1,b2,_⟩:=bt
  rw[Nat.sub_self]at b1
  have eb:bits=batR m k:=by rw[<- b1];simp[bat]
  rw[eb]at hA
  walk_at "y"
  refine⟨rfl,?_⟩
  refine at_joinO (SqL.of hA) (by rw[<- eb,b2];omega) ?_
  refine q _ (fun b u hb=>?_)
  have:=hS (.lst []) b u hb
  have hab:b≠a:=fun z=>by subst z;rw[ha]at hb;cases hb
  rw[upd_ne hab]at this
  exact this
def spNumZ:Sp:=fun vs H Q _=>∃l:List Bool,vs=[.str (tx l)]/\l.length<=200/\sm l=0/\∀H',Same H H'->Q (.int (bnR l)) H'
theorem body_numZ {C:Rc} (hN:C.N.length=7) (hS:C.fs "sum_of"=some spSumOf) (hB:C.fs "balanced_count"=some spBCount) (hY:C.fs "count_by_nought"=some spByN):∀vs H Q E,spNumZ vs H Q E->tSs C c_p_balanced_number { nx:=fun _ H'=>Q .non H',rt:=Q } (L2.start C.N vs) H:=by
 intro vs H Q E h
 obtain⟨l,rfl,hl,h0,q⟩:=h
 rw[start_eq hN]
 unfold c_p_balanced_number
 have hz:l.length<=sizeLine:=small16 (by omega)
 walk_at "y"
 refine call_e hS ?_
 walk_at "y"
 refine⟨l,rfl,?_⟩
 walk_at "y"
 rw[decide_eq_true h0]
 walk_at "y"
 refine call_e hB ?_
 walk_at "y"
 refine⟨hz,l.length,rfl,hl,?_⟩
 walk_at "y"
 refine⟨hz,⟨by decide,.inl (by decide)⟩,?_⟩
 refine at_enS (for_etx (l:=l) (fun i σ H'=>Same H H'/\∃(c o a:Nat) (x4 x5 x6:Option V),σ=[some (.str (tx l)),some (.int c),some (.int o),some (.int a),x4,x5,x6]/\Bm l i c o a) ⟨Same.refl _,bc l.length,l.length / 2,0,none,none,none,rfl,by rw[Nat.zero_add];rfl,sm0 h0,bc_le hl⟩ ?_ ?_)
 .rintro i b σ H1 p hc hp ⟨s1,c,o,a,x4,x5,x6,rfl,b1,b2,b3⟩
  have hi:=lt_of_get hc
  refine g_tup2 (SqT.of upd_same) ?_
  have s2:=s1.trans (same_new hp (.tup [.int i,.str (tx [b])]))
  generalize upd H1 p (.tup [.int i,.str (tx [b])])=H2 at s2 ⊢
  have ed:l.drop i=b :: l.drop (i+1):=by
   rw[List.drop_eq_getElem_cons hi]
   congr 1
   rw[List.getElem?_eq_getElem hi]at hc
   exact Option.some.inj hc
  have edl:(l.drop (i+1)).length+1=l.length-i:=by rw[List.length_drop];omega
  have ho:o<=l.length-i:=by rw[b2];exact Nat.le_trans List.count_le_length (by rw[List.length_drop];omega)
  walk_at "y"
  refine call_e hY ?_
  walk_at "y"
  refine⟨hz,?_⟩
  rw[show(l.length:Int)-i=((l.length-i:Nat):Int) by omega]
  refine⟨c,l.length-i,o,rfl,big_ok (by omega) b3,by omega,by omega,ho,?_⟩
  have hbn:=bn_le (c:=c) (o:=o) (show 0<l.length-i by omega)
  rw[ed]at b1 b2
  unfold bnm at b1
  rw[edl]at b1
  generalize bn c (l.length-i) o=n at b1 hbn ⊢
  cases b with
  |false=>
   walk_at "y"
   refine⟨s2,n,o,a,_,_,_,rfl,?_,?_,Nat.le_trans hbn b3⟩
   .simpa using b1
   .simpa using b2
  |true=>
   have ho1:0<o:=by rw[b2];simp
   walk_at "y"
   rw[s_aug (a:=(c:Int)) rfl]
   walk_at "y"
   rw[s_aug (a:=(a:Int)) rfl]
   walk_at "y"
   rw[s_aug (a:=(o:Int)) rfl]
   walk_at "y"
   simp only[if_true]
   rw[show(c:Int)-n=((c-n:Nat):Int) by omega,show(o:Int)-1=((o-1:Nat):Int) by omega,<- Int.natCast_add]
   refine⟨s2,c-n,o-1,a+n,_,_,_,rfl,?_,?_,Nat.le_trans (Nat.sub_le _ _) b3⟩
   .rw[if_pos rfl]at b1;omega
   .rw[b2];simp
 .rintro σ H1 ⟨s1,c,o,a,x4,x5,x6,rfl,b1,b2,b3⟩
  rw[List.drop_length]at b1
  have:a=bnR l:=by rw[<- b1];rfl
  walk_at "y"
  rw[this]
  exact q _ s1
noncomputable def wk1 (t k:Nat):Key:=.inl (2*(k:Int)-t)
noncomputable def wd (t:Nat):List (Key×V):=(List.range (t+1)).map fun k=>(wk1 t k,V.int (cho t k))
noncomputable def fd (t n:Nat):List (Key×V):=(List.range n).map fun k=>(wk1 (t+1) k,V.int (cho (t+1) k))
noncomputable def pd (t:Nat):Nat->List (Key×V)
 |0=>[]
 |i+1=>fd t (i+1)++[(wk1 (t+1) (i+1),V.int (cho t i))]
theorem wk1_inj {t j k:Nat} (h:wk1 t j=wk1 t k):j=k:=by
 have:(2*(j:Int)-t)=2*(k:Int)-t:=by
  unfold wk1 at h
  exact Key.inl.inj h
 omega
theorem val_rng {κ:Nat->Key} {v:Nat->V} (hi:∀j k,κ j=κ k->j=k) {j:Nat}:∀{n:Nat},valV ((List.range n).map fun k=>(κ k,v k)) (κ j)=if j<n then some (v j)else none
 |0=>by rw[if_neg (by omega)];rfl
 |n+1=>by
  have ih:=val_rng (v:=v) hi (j:=j) (n:=n)
  rw[List.range_succ,List.map_append]
  have hap:∀(l m:List (Key×V)) (k:Key),valV (l++m) k=(valV l k).or (valV m k):=fun l m k=>by
   unfold valV
   rw[List.find?_append]
   cases List.find? (fun kv=>decide (kv.1=k)) l<;>rfl
  rw[hap,ih]
  by_cases h1:j<n
  .rw[if_pos h1,if_pos (by omega)];rfl
  .rw[if_neg h1]
   by_cases h2:j=n
   .subst h2
    rw[if_pos (by omega)]
    show(none:Option V).or (valV [(κ j,v j)] (κ j))=_
    rw[valV_pos rfl];rfl
   .rw[if_neg (by omega)]
    show(none:Option V).or (valV [(κ n,v n)] (κ j))=_
    rw[valV_neg (fun z=>h2 (hi _ _ z).symm)];rfl
theorem put_new {l:List (Key×V)} {k:Key} {v:V} (h:valV l k=none):putK l k v=l++[(k,v)]:=by
 unfold putK
 rw[valV_any,h]
 rfl
theorem put_last {l:List (Key×V)} {k:Key} {v u:V} (h:valV l k=none):putK (l++[(k,u)]) k v=l++[(k,v)]:=by
 have ha:(l.any fun kv=>decide (kv.1=k))=false:=by rw[valV_any,h];rfl
 unfold putK
 rw[if_pos (by rw[List.any_append];simp),List.map_append]
 congr 1
 .conv=>rhs;rw[<- List.map_id l]
  refine List.map_congr_left fun p hp=>?_
  rw[if_neg]
  .rfl
  .intro z
   have:=List.any_eq_false.mp ha p hp
   simp[z]at this
 .simp
theorem fd_val {t n j:Nat}:valV (fd t n) (wk1 (t+1) j)=if j<n then some (V.int (cho (t+1) j))else none:=val_rng (κ:=wk1 (t+1)) (v:=fun k=>V.int (cho (t+1) k)) fun _ _=>wk1_inj
theorem fd_succ {t n:Nat}:fd t (n+1)=fd t n++[(wk1 (t+1) n,V.int (cho (t+1) n))]:=by unfold fd;rw[List.range_succ,List.map_append];rfl
theorem fd_len {t n:Nat}:(fd t n).length=n:=by unfold fd;rw[List.length_map,List.length_range]
theorem wd_val {t j:Nat}:valV (wd t) (wk1 t j)=if j<t+1 then some (V.int (cho t j))else none:=val_rng (κ:=wk1 t) (v:=fun k=>V.int (cho t k)) fun _ _=>wk1_inj
theorem pd_down {t i:Nat}:∃x:Nat,(valV (pd t i) (wk1 (t+1) i)).getD (.int 0)=.int x/\putK (pd t i) (wk1 (t+1) i) (.int ((x:Int)+(cho t i:Nat)))=fd t (i+1):=by
 cases i with
 |zero=>
  refine⟨0,rfl,?_⟩
  rw[show pd t 0=[] from rfl,put_new rfl,fd_succ]
  show[]++_=[]++_
  rw[cho_0,cho_0]
  rfl
 |succ i=>
  have h0:valV (fd t (i+1)) (wk1 (t+1) (i+1))=none:=by rw[fd_val,if_neg (by omega)]
  refine⟨cho t i,?_,?_⟩
  .show(valV (fd t (i+1)++[_]) _).getD _=_
   rw[valV_snoc _ _ _ _ h0,if_pos rfl]
   rfl
  .show putK (fd t (i+1)++[_]) _ _=_
   rw[put_last h0,fd_succ (n:=i+1)]
   congr 3
theorem pd_up {t i:Nat}:valV (fd t (i+1)) (wk1 (t+1) (i+1))=none/\putK (fd t (i+1)) (wk1 (t+1) (i+1)) (.int (cho t i))=pd t (i+1):=by
 have h0:valV (fd t (i+1)) (wk1 (t+1) (i+1))=none:=by rw[fd_val,if_neg (by omega)]
 exact⟨h0,put_new h0⟩
theorem pd_all {t:Nat}:pd t (t+1)=wd (t+1):=by
 show fd t (t+1)++[(wk1 (t+1) (t+1),V.int (cho t t))]=_
 have:wd (t+1)=fd t (t+1+1):=rfl
 rw[this,fd_succ (n:=t+1),cho_self,cho_self]
theorem pd_len {t i:Nat}:(pd t i).length<=i+1:=by
 cases i with
 |zero=>exact Nat.zero_le _
 |succ i=>show(fd t (i+1)++[_]).length<=_;rw[List.length_append,fd_len];simp
theorem wd_end {m:Nat}:(valV (wd m) (.inl 0)).getD (.int 0)=.int (bc m):=by
 by_cases h:m % 2=0
 .have e:(Key.inl 0:Key)=wk1 m (m / 2):=by unfold wk1;congr 1;omega
  rw[e,wd_val,if_pos (by omega),bc_even h]
  rfl
 .have hn:valV (wd m) (.inl 0)=none:=by
   unfold valV wd
   rw[List.find?_eq_none.mpr]
   .rfl
   .intro p hp
    obtain⟨k,_,rfl⟩:=List.mem_map.mp hp
    simp only[decide_eq_true_eq]
    intro z
    have:2*(k:Int)-m=0:=Key.inl.inj z
    omega
  rw[hn,bc_odd h]
  rfl
theorem sameF {H0 H:Hp} {p:Addr} {o:HO} (s:Same H0 H) (h:H0 p=none):Same H0 (upd H p o):=fun b u q=>by
 rw[upd_ne (ne_of_none q h)];exact s _ _ q
def spCnt:Sp:=fun vs H Q _=>∃m:Nat,vs=[.int m]/\m<=200/\∀H',Same H H'->Q (.int (bc m)) H'
theorem body_cnt {C:Rc} (hN:C.N.length=6):∀vs H Q E,spCnt vs H Q E->tSs C c_count { nx:=fun _ H'=>Q .non H',rt:=Q } (L2.start C.N vs) H:=by
 intro vs H Q E h
 obtain⟨m,rfl,hm,q⟩:=h
 rw[start_eq hN]
 unfold c_count
 walk_at "y"
 intro d0 hd0
 walk_at "y"
 refine at_r1 (by omega) (by omega) (for_r (fun t σ H'=>Same H H'/\∃d,(∃x2 x3 x4 x5,σ=[some (.int m),some (.ref d),x2,x3,x4,x5])/\H d=none/\H' d=some (.dK (wd t))) ⟨same_new hd0 _,d0,⟨_,_,_,_,rfl⟩,hd0,upd_same⟩ ?_ ?_)
 .rintro t σ H1 ht ⟨s1,d,⟨x2,x3,x4,x5,rfl⟩,hd,hd1⟩
  have ht:t<m:=by simpa using ht
  walk_at "y"
  intro e he
  have s2:=s1.trans (same_new he (.dK []))
  have he2:=upd_same (H:=H1) (a:=e) (o:=.dK [])
  have hd2:=same_new he (.dK []) _ _ hd1
  have hed:e≠d:=fun z=>by subst z;rw[hd1]at he;cases he
  have he0:=s1.free he
  generalize upd H1 e (.dK [])=H2 at s2 he2 hd2 ⊢
  walk_at "y"
  refine at_dk (.inl hd2) fun o=>?_
  have s3:Same H (upd H2 d (.frz o (.dK (wd t)))):=sameF s2 hd
  have he3:upd H2 d (.frz o (.dK (wd t))) e=some (.dK []):=by rw[upd_ne hed];exact he2
  have hd3:=upd_same (H:=H2) (a:=d) (o:=.frz o (.dK (wd t)))
  generalize upd H2 d (.frz o (.dK (wd t)))=H3 at s3 he3 hd3 ⊢
  refine for_dk (fun i σ H'=>Same H H'/\(∃y4 y5,σ=[some (.int m),some (.ref d),some (.int (0+t)),some (.ref e),y4,y5])/\H' d=some (.frz o (.dK (wd t)))/\H' e=some (.dK (pd t i))) ⟨s3,⟨_,_,rfl⟩,hd3,he3⟩ (fun i σ H' w=>⟨_,w.2.2.1⟩) ?_ ?_
  .rintro i x σ H4 hx ⟨s4,⟨y4,y5,rfl⟩,hd4,he4⟩
   have hi:=lt_of_get hx
   rw[List.length_map]at hi
   have hil:i<t+1:=by unfold wd at hi;rw[List.length_map,List.length_range]at hi;exact hi
   have hx':x=.int (2*(i:Int)-t):=by
    rw[List.getElem?_map]at hx
    unfold wd at hx
    rw[List.getElem?_map,List.getElem?_range hil]at hx
    cases hx
    rfl
   subst hx'
   have hget:∀{H':Hp},H' d=some (.frz o (.dK (wd t)))->DGet H' d (.int (2*(i:Int)-t)) (some (.int (cho t i))):=fun h=>.inl ⟨wd t,wk1 t i,.inr ⟨o,h⟩,rfl,by rw[wd_val,if_pos hil]⟩
   walk_at "y"
   refine⟨by decide,fun p hp=>?_⟩
   have s5:=s4.trans (same_new hp (.tup [.int (-1),.int 1]))
   have hp5:=upd_same (H:=H4) (a:=p) (o:=.tup [.int (-1),.int 1])
   have hd5:=same_new hp (.tup [.int (-1),.int 1]) _ _ hd4
   have he5:=same_new hp (.tup [.int (-1),.int 1]) _ _ he4
   have hpe:p≠e:=fun z=>by subst z;rw[he4]at hp;cases hp
   generalize upd H4 p (.tup [.int (-1),.int 1])=H5 at s5 hp5 hd5 he5 ⊢
   refine at_iv_tup (SqT.of hp5) (for_t (xs:=[.int (-1),.int 1]) (fun j σ H'=>Same H H'/\(∃y5,σ=[some (.int m),some (.ref d),some (.int (0+t)),some (.ref e),some (.int (2*(i:Int)-t)),y5])/\H' p=some (.tup [.int (-1),.int 1])/\H' d=some (.frz o (.dK (wd t)))/\H' e=some (.dK (if j=0 then pd t i else if j=1 then fd t (i+1)else pd t (i+1)))) ⟨s5,⟨_,rfl⟩,hp5,hd5,by rw[if_pos rfl];exact he5⟩ (fun j σ H' _ w=>SqT.of w.2.2.1) ?_ ?_)
   .rintro j z σ H6 hz ⟨s6,⟨y5,rfl⟩,hp6,hd6,he6⟩
    have hpl:(pd t i).length<sizeLine:=Nat.lt_of_le_of_lt pd_len (small1000 (by omega))
    have hfl:(fd t (i+1)).length<sizeLine:=by rw[fd_len];exact small1000 (by omega)
    have tp:∀o',H6 e=some o'->(∀xs,o'≠.tup xs)->∀v,upd H6 e v p=some (.tup [.int (-1),.int 1]):=fun o' h1 h2 v=>by rw[upd_ne hpe];exact hp6
    match j,hz with
    |0,hz=>
     cases hz
     rw[if_pos rfl]at he6
     obtain⟨x,hx1,hx2⟩:=pd_down (t:=t) (i:=i)
     have ek:(2*(i:Int)-t+-1)=2*(i:Int)-((t+1:Nat):Int):=by omega
     walk_at "y"
     walk_at "y"
     refine at_getD1 (.inl ⟨_,.inl he6⟩) ?_
     walk_at "y"
     rw[ek]
     refine at_getD3 (.inl ⟨_,wk1 (t+1) i,.inl he6,rfl,rfl⟩) ?_
     rw[hx1]
     walk_at "y"
     refine⟨d,_,rfl,hget hd6,?_⟩
     walk_at "y"
     rw[ek]
     refine at_dputK (k:=wk1 (t+1) i) he6 hpl ?_
     rw[hx2]
     exact⟨sameF s6 he0,⟨_,rfl⟩,by rw[upd_ne hpe];exact hp6,by rw[upd_ne (Ne.symm hed)];exact hd6,by rw[upd_same];rfl⟩
    |1,hz=>
     cases hz
     rw[if_neg (by decide),if_pos rfl]at he6
     obtain⟨hx1,hx2⟩:=pd_up (t:=t) (i:=i)
     have ek:(2*(i:Int)-t+1)=2*((i+1:Nat):Int)-((t+1:Nat):Int):=by omega
     walk_at "y"
     walk_at "y"
     refine at_getD1 (.inl ⟨_,.inl he6⟩) ?_
     walk_at "y"
     rw[ek]
     refine at_getD3 (.inl ⟨_,wk1 (t+1) (i+1),.inl he6,rfl,rfl⟩) ?_
     rw[hx1,Option.getD_none]
     walk_at "y"
     refine⟨d,_,rfl,hget hd6,?_⟩
     walk_at "y"
     rw[ek]
     refine at_dputK (k:=wk1 (t+1) (i+1)) he6 hfl ?_
     rw[show(0:Int)+(cho t i:Nat)=(cho t i:Nat) by omega,hx2]
     exact⟨sameF s6 he0,⟨_,rfl⟩,by rw[upd_ne hpe];exact hp6,by rw[upd_ne (Ne.symm hed)];exact hd6,by rw[upd_same];rfl⟩
    |j+2,hz=>cases hz
   .rintro σ H6 ⟨s6,⟨y5,rfl⟩,hp6,hd6,he6⟩
    walk_at "y"
    exact⟨s6,⟨_,_,rfl⟩,hd6,he6⟩
  .rintro σ H4 ⟨s4,⟨y4,y5,rfl⟩,hd4,he4⟩
   rw[List.length_map,show(wd t).length=t+1 by unfold wd;rw[List.length_map,List.length_range],pd_all]at he4
   walk_at "y"
   exact⟨s4,e,⟨_,_,_,_,rfl⟩,he0,he4⟩
 .rintro σ H1 ⟨s1,d,⟨x2,x3,x4,x5,rfl⟩,hd,hd1⟩
  rw[show(Int.toNat (m:Int))=m by omega]at hd1
  walk_at "y"
  walk_at "y"
  refine at_getD1 (.inl ⟨_,.inl hd1⟩) ?_
  walk_at "y"
  refine at_getD3 (.inl ⟨_,.inl 0,.inl hd1,rfl,rfl⟩) ?_
  rw[wd_end]
  exact q H1 s1
def spBRow:Sp:=fun vs H Q _=>∃(b:Addr) (n m:Nat),vs=[.ref b,.int m]/\H b=some (BoxO b n)/\n<=2 ^ 39/\m<=60/\m % 2=0/\∀(l:List Bool) (H':Hp),l.length=m->l.count true=m / 2->Go 60 H H'->Q (.str (tx l)) H'
theorem body_brow {C:Rc} (hN:C.N.length=5) (hT:C.fs "_law_take"=some spTake):∀vs H Q E,spBRow vs H Q E->tSs C c_balanced_row { nx:=fun _ H'=>Q .non H',rt:=Q } (L2.start C.N vs) H:=by
 intro vs H Q E h
 obtain⟨b,n,m,rfl,hb,hn,hm,h2,q⟩:=h
 rw[start_eq hN]
 unfold c_balanced_row
 walk_at "y"
 refine⟨⟨by decide,.inl (by decide)⟩,⟨by decide,.inl (by decide)⟩,?_⟩
 refine whl_by (fun k σ H'=>∃(l:List Bool) (o z:Nat),σ=[some (.ref b),some (.int m),some (.str (tx l)),some (.int o),some (.int z)]/\l.count true+o=m / 2/\l.length+o+z=m/\l.count true+z+l.length<=m+l.count true+l.count true+z/\k=o+z/\l.count false+z=m / 2/\Go l.length H H') _ ⟨[],m / 2,m / 2,?_,by simp,by simp;omega,by simp,rfl,by simp,Go.refl⟩ ?_
 .congr 4<;>omega
 rintro k σ H1 ⟨l,o,z,rfl,h3,h4,_,rfl,h5,g1⟩
 walk_at "y"
 refine by_dec (fun hc=>kWhl_t ?_) fun hc=>kWhl_f ?_
 .obtain⟨n1,hb1,hn1,_⟩:=g1.boxed hb (by omega)
  walk_at "y"
  refine call_e hT ?_
  walk_at "y"
  refine⟨b,n1,_,rfl,hb1,by omega,by omega,by omega,fun r H2 hr0 hr1 g2=>?_⟩
  walk_at "y"
  refine by_dec (fun hq=>?_) fun hq=>?_
  .walk_at "y"
   refine⟨show l.length+1<=sizeLine from Nat.le_of_lt (small1000 (by omega)),o-1+z,by omega,l++[true],o-1,z,?_,by simp;omega,by simp;omega,by simp;omega,rfl,by simp;omega,(g1.trans g2).mono (by simp)⟩
   rw[show(o:Int)-1=((o-1:Nat):Int) by omega]
  .walk_at "y"
   refine⟨show l.length+1<=sizeLine from Nat.le_of_lt (small1000 (by omega)),o+(z-1),by omega,l++[false],o,z-1,?_,by simp;omega,by simp;omega,by simp;omega,rfl,by simp;omega,(g1.trans g2).mono (by simp)⟩
   rw[show(z:Int)-1=((z-1:Nat):Int) by omega]
 .walk_at "y"
  exact q l H1 (by omega) (by omega) (g1.mono (by omega))
noncomputable def bl:Nat->List (List Bool)
 |0=>[[]]
 |n+1=>(bl n).map (·++[false])++(bl n).map (·++[true])
theorem bl_len:∀n,(bl n).length=2 ^ n
 |0=>rfl
 |n+1=>by rw[bl,List.length_append,List.length_map,List.length_map,bl_len n,Nat.pow_succ];omega
theorem bl_each:∀{n:Nat} {w:List Bool},w∈bl n->w.length=n
 |0,w,h=>by
  have:w=[]:=by simpa[bl]using h
  rw[this];rfl
 |n+1,w,h=>by
  rcases List.mem_append.mp h with h|h
  .obtain⟨u,hu,rfl⟩:=List.mem_map.mp h
   simp[bl_each hu]
  .obtain⟨u,hu,rfl⟩:=List.mem_map.mp h
   simp[bl_each hu]
noncomputable def rV (x:List Bool):V:=.str (tx x)
noncomputable def bal (n:Nat) (w:List Bool):Bool:=decide (2*(w.count true:Int)=n)
noncomputable def dl (n:Nat):List (List Bool):=if n % 2=0 then cr n (n / 2)else[]
theorem bl_dl {n:Nat} (h:n<9):((bl n).filter (bal n)).Perm (dl n):=by
 have:∀n:Fin 9,((bl n).filter (bal n)).Perm (dl n):=by decide +kernel
 exact this ⟨n,h⟩
theorem dl_len {n:Nat}:(dl n).length=bc n:=by
 unfold dl
 by_cases h:n % 2=0
 .rw[if_pos h,cr_len,bc_even h]
 .rw[if_neg h,bc_odd h];rfl
theorem dl_at {n k:Nat} (h:k<bc n):(dl n)[k]?=some (batR n k):=by
 obtain⟨hn,_⟩:=batR_ok h
 unfold dl
 rw[if_pos hn]
 exact batR_at hn h
theorem sort_uniq:∀{l m:List PySem.Str},l.Perm m->Rise l->Rise m->l=m
 | [],m,h,_,_=>(List.Perm.nil_eq h)
 |a :: l,[],h,_,_=>absurd h.length_eq (by simp)
 |a :: l,b :: m,h,h1,h2=>by
  obtain⟨p1,p2⟩:=List.pairwise_cons.mp h1
  obtain⟨q1,q2⟩:=List.pairwise_cons.mp h2
  have e:a=b:=by
   have ha:a∈b :: m:=h.mem_iff.mp (List.mem_cons_self ..)
   have hb:b∈a :: l:=h.mem_iff.mpr (List.mem_cons_self ..)
   rcases List.mem_cons.mp ha with e|ha
   .exact e
   rcases List.mem_cons.mp hb with e|hb
   .exact e.symm
   exact str_ext (List.le_antisymm (List.not_lt.mp (p1 b hb)) (List.not_lt.mp (q1 a ha)))
  subst e
  rw[sort_uniq (List.Perm.cons_inv h) p2 q2]
theorem rise_dl (n:Nat):Rise ((dl n).map tx):=by
 unfold Rise
 rw[List.pairwise_map]
 have:(dl n).Pairwise ltR:=by
  unfold dl
  split
  .exact cr_up _ _
  .exact .nil
 refine this.imp fun {a b} h=>?_
 rw[tx_cps,tx_cps]
 exact fun h2=>List.lt_irrefl _ (List.lt_trans h h2)
theorem sm_bal {l:List Bool} (h:l.length=2*l.count true):sm l=0:=by
 have:l.count true+l.count false=l.length:=by
  clear h
  induction l with
  |nil=>rfl
  |cons b l ih=>cases b<;>simp<;>omega
 unfold sm
 omega
theorem eqv_list {H:Hp} {p d:Addr} {xs ys:List V} (h1:H p=some (.lst xs)) (h2:H d=some (.lst ys)) (he:xs=ys) (hs:∀v∈xs,Sc v=true) (hz:xs.length<=1000):Eqv H 1 (.ref p) (.ref d):=by
 subst he
 refine .inr ⟨p,d,xs,xs,rfl,rfl,.inl ⟨h1,h2⟩,Nat.le_of_lt (small1000 hz),rfl,fun j u v hu hv=>?_⟩
 rw[hu]at hv
 cases hv
 exact⟨rfl,hs u (List.mem_of_getElem? hu)⟩
def spShort:Sp:=fun vs H Q _=>∃n:Nat,vs=[.int n]/\n<9/\∀H',Same H H'->Q (.bl true) H'
structure FsS (C:Rc):Prop where
 cnt:C.fs "balanced_count"=some spBCount
 bat:C.fs "balanced_at"=some spAtZ
 num:C.fs "balanced_number"=some spNumZ
 same:C.fs "_law_same"=some (spSame 1)
theorem body_short {C:Rc} (hN:C.N.length=6) (hcnt:C.fs "balanced_count"=some spBCount) (hbat:C.fs "balanced_at"=some spAtZ) (hnum:C.fs "balanced_number"=some spNumZ) (hsame:C.fs "_law_same"=some (spSame 1)):∀vs H Q E,spShort vs H Q E->tSs C c_short_right { nx:=fun _ H'=>Q .non H',rt:=Q } (L2.start C.N vs) H:=by
 intro vs H Q E h
 obtain⟨n,rfl,hn,q⟩:=h
 rw[start_eq hN]
 unfold c_short_right
 walk_at "y"
 refine⟨by decide,fun d0 hd0=>?_⟩
 have s1:=same_new hd0 (.lst [.str (tx [])])
 have hd1:=upd_same (H:=H) (a:=d0) (o:=.lst [.str (tx [])])
 generalize upd H d0 (.lst [.str (tx [])])=H1 at s1 hd1 ⊢
 walk_at "y"
 refine at_r1 (by omega) (by omega) (for_r (fun i σ H'=>Same H H'/\∃d,(∃x2 x3,σ=[some (.int n),some (.ref d),x2,x3,none,none])/\H' d=some (.lst ((bl i).map rV))) ⟨s1,d0,⟨_,_,rfl⟩,hd1⟩ ?_ ?_)
 .rintro i σ H2 hi ⟨s2,d,⟨x2,x3,rfl⟩,hd2⟩
  have hi:i<n:=by simpa using hi
  have hl:=bl_len i
  have hp256:2 ^ i<=128:=Nat.le_trans (Nat.pow_le_pow_right (by decide) (show i<=7 by omega)) (by decide)
  have half:∀(c:Bool) (H3:Hp) (Q3:VK) (x:Option V),H3 d=some (.lst ((bl i).map rV))->(∀p,H3 p=none->Q3 (.ref p) (upd H3 p (.lst (((bl i).map (·++[c])).map rV))))->
    kIv C (kComp C (.bin .Add (.var 3) (.str (tx [c]))) [3] (.name 3) .none [some (.int n),some (.ref d),some (.int (0+i)),x,none,none] Q3) (.ref d) H3:=by
   intro c H3 Q3 x hd3 q3
   refine at_iv_lst (SqL.of hd3) (comp_l (vs:=(bl i).map rV) (fun j xs H'=>H'=H3/\xs=(((bl i).take j).map (·++[c])).map rV) ⟨rfl,rfl⟩ (fun j xs H' w=>by rw[w.1];exact SqL.of hd3) ?_ ?_)
   .rintro j xs H' v R hv ⟨rfl,rfl⟩ hR
    have hj:=lt_of_get hv
    rw[List.length_map]at hj
    have hbj:(bl i)[j]?=some (bl i)[j]:=List.getElem?_eq_getElem hj
    rw[List.getElem?_map,hbj]at hv
    cases hv
    have hwl:(bl i)[j].length=i:=bl_each (List.getElem_mem hj)
    show tG C (.name 3) (.str (tx (bl i)[j])) _ _ _
    walk_at "y"
    refine⟨show(bl i)[j].length+1<=sizeLine from Nat.le_of_lt (small1000 (by omega)),?_⟩
    refine⟨by simp;exact small1000 (by omega),hR _ _ ⟨rfl,?_⟩⟩
    rw[List.take_succ,hbj,List.map_append,List.map_append]
    rfl
   .rintro xs H' ⟨rfl,rfl⟩ p hp
    rw[List.length_map,List.take_of_length_le (Nat.le_refl _)]
    exact q3 p hp
  walk_at "y"
  refine half false H2 _ _ hd2 fun p1 hp1=>?_
  walk_at "y"
  refine half true _ _ _ (same_new hp1 _ _ _ hd2) fun p2 hp2=>?_
  walk_at "y"
  refine at_cat (same_new hp2 _ _ _ upd_same) upd_same (by simp only[List.length_map];exact Nat.le_of_lt (small1000 (by omega))) fun p3 hp3=>?_
  walk_at "y"
  refine⟨((s2.trans (same_new hp1 _)).trans (same_new hp2 _)).trans (same_new hp3 _),p3,⟨_,_,rfl⟩,?_⟩
  rw[upd_same,<- List.map_append]
  rfl
 .rintro σ H2 ⟨s2,d,⟨x2,x3,rfl⟩,hd2⟩
  rw[show(Int.toNat (n:Int))=n by omega]at hd2
  have hl:=bl_len n
  have hp256:2 ^ n<=256:=Nat.le_trans (Nat.pow_le_pow_right (by decide) (show n<=8 by omega)) (by decide)
  walk_at "y"
  refine at_iv_lst (SqL.of hd2) (comp_l (vs:=(bl n).map rV) (fun j xs H'=>H'=H2/\xs=(((bl n).take j).filter (bal n)).map rV) ⟨rfl,rfl⟩ (fun j xs H' w=>by rw[w.1];exact SqL.of hd2) ?_ ?_)
  .rintro j xs H' v R hv ⟨rfl,rfl⟩ hR
   have hj:=lt_of_get hv
   rw[List.length_map]at hj
   have hbj:(bl n)[j]?=some (bl n)[j]:=List.getElem?_eq_getElem hj
   rw[List.getElem?_map,hbj]at hv
   cases hv
   have hwl:(bl n)[j].length=n:=bl_each (List.getElem_mem hj)
   have hxl:((((bl n).take j).filter (bal n)).map rV).length<sizeLine:=by
    rw[List.length_map]
    have:=List.length_filter_le (bal n) ((bl n).take j)
    rw[List.length_take]at this
    exact small1000 (by omega)
   have e5:((bl n).take (j+1)).filter (bal n)=((bl n).take j).filter (bal n)++(if bal n (bl n)[j]=true then[(bl n)[j]]else[]):=by
    rw[List.take_succ,hbj,List.filter_append]
    congr 1
    show List.filter (bal n) [(bl n)[j]]=_
    rw[List.filter_cons]
    split<;>rfl
   show tG C (.name 3) (.str (tx (bl n)[j])) _ _ _
   walk_at "y"
   refine⟨rfl,?_⟩
   walk_at "y"
   refine⟨.inl ⟨by decide,by decide⟩,?_⟩
   show kCT C _ _ _ _ (bal n (bl n)[j]) H'
   cases hb:bal n (bl n)[j]with
   |false=>
    walk_at "y"
    refine hR _ _ ⟨rfl,?_⟩
    rw[e5,hb,if_neg (by decide),List.append_nil]
   |true=>
    walk_at "y"
    refine⟨hxl,hR _ _ ⟨rfl,?_⟩⟩
    rw[e5,hb,if_pos rfl,List.map_append]
    rfl
  .rintro xs H' ⟨rfl,rfl⟩ p hp
   rw[List.length_map,List.take_of_length_le (Nat.le_refl _)]
   walk_at "y"
   refine at_sortA (ss:=((bl n).filter (bal n)).map tx) (by rw[List.map_map];exact SqL.of upd_same) fun D ss' hD hpm hr=>?_
   have e:ss'=(dl n).map tx:=sort_uniq (hpm.trans ((bl_dl hn).map tx)) hr (rise_dl n)
   subst e
   have s3:=s2.trans (same_new hp (.lst (((bl n).filter (bal n)).map rV)))
   have s4:=s3.trans (same_new hD (.lst (((dl n).map tx).map V.str)))
   have hD4:=upd_same (H:=upd H' p (.lst (((bl n).filter (bal n)).map rV))) (a:=D) (o:=.lst (((dl n).map tx).map V.str))
   generalize upd (upd H' p (.lst (((bl n).filter (bal n)).map rV))) D (.lst (((dl n).map tx).map V.str))=H4 at s4 hD4 ⊢
   rw[List.map_map]at hD4
   have hD4:H4 D=some (.lst ((dl n).map rV)):=hD4
   have hdl:=dl_len (n:=n)
   have hbc:bc n<=256:=by
    rw[<- hdl,<- (bl_dl hn).length_eq]
    have:=List.length_filter_le (bal n) (bl n)
    omega
   walk_at "y"
   refine call_e hsame ?_
   walk_at "y"
   refine call_e hcnt ?_
   walk_at "y"
   refine⟨n,rfl,by omega,?_⟩
   walk_at "y"
   refine at_lenL (SqL.of hD4) ?_
   rw[List.length_map,hdl]
   refine⟨_,_,rfl,Eqv.int,fun H5 s5=>?_⟩
   have hD5:=s5 _ _ hD4
   walk_at "y"
   refine call_e hsame ?_
   walk_at "y"
   refine at_lenL (SqL.of hD5) ?_
   rw[List.length_map,hdl]
   refine at_r1 (by omega) (by omega) (comp_r (fun k xs H'=>Same H5 H'/\xs=((dl n).take k).map rV) ⟨Same.refl _,rfl⟩ ?_ ?_)
   .rintro k xs H6 R hk ⟨s6,rfl⟩ hR
    have hk:k<bc n:=by simpa using hk
    walk_at "y"
    refine call_e hbat ?_
    walk_at "y"
    refine⟨n,k,by rw[show(0:Int)+(k:Int)=(k:Int) by omega],by omega,hk,fun H7 s7=>?_⟩
    walk_at "y"
    refine⟨by rw[List.length_map,List.length_take];exact small1000 (by omega),hR _ _ ⟨s6.trans s7,?_⟩⟩
    rw[List.take_succ,dl_at hk,List.map_append]
    rfl
   .rintro xs H6 ⟨s6,rfl⟩ p6 hp6
    rw[show(Int.toNat (bc n:Int))=bc n by omega,<- hdl,List.take_of_length_le (Nat.le_refl _)]
    have s7:=s6.trans (same_new hp6 (.lst ((dl n).map rV)))
    have hp7:=upd_same (H:=H6) (a:=p6) (o:=.lst ((dl n).map rV))
    generalize upd H6 p6 (.lst ((dl n).map rV))=H7 at s7 hp7 ⊢
    walk_at "y"
    refine⟨_,_,rfl,eqv_list hp7 (s7 _ _ hD5) rfl (fun v hv=>by obtain⟨w,_,rfl⟩:=List.mem_map.mp hv;rfl) (by rw[List.length_map];omega),fun H8 s8=>?_⟩
    have s58:=s7.trans s8
    have hD8:=s58 _ _ hD5
    walk_at "y"
    refine call_e hsame ?_
    walk_at "y"
    refine at_iv_lst (SqL.of hD8) (comp_l (vs:=(dl n).map rV) (fun k xs H'=>Same H8 H'/\xs=rgs 0 k) ⟨Same.refl _,rfl⟩ (fun k xs H' w=>SqL.of (w.1 _ _ hD8)) ?_ ?_)
    .rintro k xs H9 v R hv ⟨s9,rfl⟩ hR
     have hk:=lt_of_get hv
     rw[List.length_map,hdl]at hk
     obtain⟨o1,o2,o3⟩:=batR_ok hk
     rw[List.getElem?_map,dl_at hk]at hv
     cases hv
     show tG C (.name 3) (.str (tx (batR n k))) _ _ _
     walk_at "y"
     refine call_e hnum ?_
     walk_at "y"
     refine⟨batR n k,rfl,by omega,sm_bal (by omega),fun H10 s10=>?_⟩
     rw[bnR_batR hk]
     walk_at "y"
     refine⟨?_,hR _ _ ⟨s9.trans s10,?_⟩⟩
     .unfold rgs
      rw[List.length_map,List.length_range]
      exact small1000 (by omega)
     .unfold rgs
      rw[List.range_succ,List.map_append]
      show _=_++[V.int (0+(k:Int))]
      rw[Int.zero_add]
    .rintro xs H9 ⟨s9,rfl⟩ p9 hp9
     rw[List.length_map,hdl]
     have s10:=(s58.trans s9).trans (same_new hp9 (.lst (rgs 0 (bc n))))
     have hp10:=upd_same (H:=H9) (a:=p9) (o:=.lst (rgs 0 (bc n)))
     generalize upd H9 p9 (.lst (rgs 0 (bc n)))=H10 at s10 hp10 ⊢
     walk_at "y"
     refine at_lenL (SqL.of (s10 _ _ hD5)) ?_
     rw[List.length_map,hdl]
     walk_at "y"
     refine at_range1 fun u hu=>?_
     walk_at "y"
     refine at_listR upd_same (by omega) (by omega) (by omega) (by omega) (Nat.le_of_lt (small1000 (by omega))) fun L hL=>?_
     rw[show((bc n:Int)-0).toNat=bc n by omega]
     have s11:=(same_new hu (.rng 0 (bc n))).trans (same_new hL (.lst (rgs 0 (bc n))))
     have hL11:=upd_same (H:=upd H10 u (.rng 0 (bc n))) (a:=L) (o:=.lst (rgs 0 (bc n)))
     generalize upd (upd H10 u (.rng 0 (bc n))) L (.lst (rgs 0 (bc n)))=H11 at s11 hL11 ⊢
     walk_at "y"
     refine⟨_,_,rfl,eqv_list (s11 _ _ hp10) hL11 rfl (fun v hv=>by unfold rgs at hv;obtain⟨w,_,rfl⟩:=List.mem_map.mp hv;rfl) (by unfold rgs;rw[List.length_map,List.length_range];omega),fun H12 s12=>?_⟩
     walk_at "y"
     exact q _ ((((s4.trans s5).trans s10).trans s11).trans s12)
theorem bc_60 {m:Nat} (h:m<=60):bc m<4611686018427387904:=by
 by_cases h2:m % 2=0
 .rw[bc_even h2]
  refine Nat.lt_of_le_of_lt cho_le (Nat.lt_of_le_of_lt (Nat.pow_le_pow_right (by decide) h) (by decide))
 .rw[bc_odd h2];decide
def spLaw (K:W.Frag):Sp:=fun vs H Q _=>∃(a:Addr) (ns:List Int),vs=[.ref a]/\SqL K H a (ns.map V.int)/\ns.length<=63/\∀H',Q (.bl true) H'
structure FsLaw (C:Rc):Prop where
 box:C.fs "_law_box"=some (spBox C.K)
 take:C.fs "_law_take"=some spTake
 same:C.fs "_law_same"=some (spSame 1)
 cnt:C.fs "balanced_count"=some spBCount
 bat:C.fs "balanced_at"=some spAtZ
 num:C.fs "balanced_number"=some spNumZ
 due:C.fs "_law_count"=some spCnt
 brow:C.fs "_law_balanced_row"=some spBRow
 short:C.fs "_law_short_right"=some spShort
theorem body_law {C:Rc} (hN:C.N.length=7) (F:FsLaw C):∀vs H Q E,spLaw C.K vs H Q E->tSs C c_law { nx:=fun _ H'=>Q .non H',rt:=Q } (L2.start C.N vs) H:=by
 intro vs H Q E h
 obtain⟨a,ns,rfl,hs,h63,q⟩:=h
 rw[start_eq hN]
 unfold c_law
 walk_at "y"
 refine at_lenL hs ?_
 rw[List.length_map]
 walk_at "y"
 obtain⟨N,eN,hN1,hN2⟩:∃N:Int,N=1+(if(ns.length:Int)<12 then(ns.length:Int)else 12)/\1<=N/\N<=13:=by
  refine⟨_,rfl,?_,?_⟩<;>split<;>omega
 rw[<- eN]
 refine at_r1 (by omega) (by omega) (for_r (fun i σ H'=>(∃x1 x2 x3 x4 x5 x6,σ=[some (.ref a),x1,x2,x3,x4,x5,x6])/\SqL C.K H' a (ns.map V.int)) ⟨⟨_,_,_,_,_,_,rfl⟩,hs⟩ ?_ ?_)
 .rintro i σ H0 hi ⟨⟨x1,x2,x3,x4,x5,x6,rfl⟩,hs0⟩
  walk_at "y"
  refine call_e F.box ?_
  walk_at "y"
  refine⟨a,ns,_,rfl,hs0,by omega,by omega,fun b hb=>?_⟩
  have hs1:=(same_new hb (BoxO b 0)).seq hs0
  have hb1:upd H0 b (BoxO b 0) b=some (BoxO b 0):=upd_same
  generalize upd H0 b (BoxO b 0)=H1 at hs1 hb1 ⊢
  walk_at "y"
  refine call_e F.take ?_
  walk_at "y"
  refine⟨b,0,_,rfl,hb1,by omega,by omega,by omega,fun r2 H2 h20 h21 g2=>?_⟩
  obtain⟨n2,hb2,hn2,_⟩:=g2.boxed hb1 (by decide)
  have hs2:=g2.seq hs1
  walk_at "y"
  refine call_e F.take ?_
  walk_at "y"
  refine⟨b,n2,_,rfl,hb2,by omega,by omega,by omega,fun r3 H3 h30 h31 g3=>?_⟩
  obtain⟨n3,hb3,hn3,_⟩:=g3.boxed hb2 (by omega)
  have hs3:=g3.seq hs2
  walk_at "y"
  refine⟨by decide,fun p hp=>?_⟩
  have hpp:upd H3 p (.lst [.int r2,.int r3]) p=some (.lst [.int r2,.int r3]):=upd_same
  have s4:=same_new hp (.lst [.int r2,.int r3])
  generalize upd H3 p (.lst [.int r2,.int r3])=H4 at hpp s4 ⊢
  refine call_e F.take ?_
  walk_at "y"
  refine⟨b,n3,_,rfl,s4 _ _ hb3,by omega,by omega,by omega,fun r5 H5 h50 h51 g5=>?_⟩
  obtain⟨n5,hb5,hn5,_⟩:=g5.boxed (s4 _ _ hb3) (by omega)
  have hs5:=g5.seq (s4.seq hs3)
  walk_at "y"
  refine at_two (SqL.of (g5.lst hpp)) ?_
  obtain⟨m,em,hm⟩:∃m:Nat,(if decide (r5=0)=true then V.int r3 else V.int r2)=.int m/\m<=60:=by
   split
   .exact⟨r3.toNat,by congr 1;omega,by omega⟩
   .exact⟨r2.toNat,by congr 1;omega,by omega⟩
  rw[em]
  clear em
  have hb60:=bc_60 hm
  walk_at "y"
  refine call_e F.due ?_
  walk_at "y"
  refine⟨m,rfl,by omega,fun H6 s6=>?_⟩
  have hb6:=s6 _ _ hb5
  have hs6:=s6.seq hs5
  walk_at "y"
  refine call_e F.same ?_
  walk_at "y"
  refine call_e F.cnt ?_
  walk_at "y"
  refine⟨m,rfl,by omega,?_⟩
  walk_at "y"
  refine⟨_,_,rfl,Eqv.int,fun H7 s7=>?_⟩
  have hb7:=s7 _ _ hb6
  have hs7:=s7.seq hs6
  walk_at "y"
  refine by_dec (fun hc=>?_) fun hc=>?_
  .have hpos:0<bc m:=by omega
   walk_at "y"
   refine call_e F.take ?_
   walk_at "y"
   refine⟨b,n5,_,rfl,hb7,by omega,by omega,by omega,fun k H8 hk0 hk1 g8=>?_⟩
   obtain⟨k,rfl⟩:=Int.eq_ofNat_of_zero_le hk0
   have hk:k<bc m:=by omega
   obtain⟨o1,o2,o3⟩:=batR_ok hk
   obtain⟨n8,hb8,hn8,_⟩:=g8.boxed hb7 (by omega)
   have hs8:=g8.seq hs7
   walk_at "y"
   refine call_e F.bat ?_
   walk_at "y"
   refine⟨m,k,rfl,by omega,hk,fun H9 s9=>?_⟩
   have hb9:=s9 _ _ hb8
   have hs9:=s9.seq hs8
   walk_at "y"
   refine⟨Nat.le_of_lt (small1000 (by omega)),?_⟩
   rw[o2,decide_eq_true rfl]
   walk_at "y"
   refine⟨rfl,?_⟩
   walk_at "y"
   refine⟨.inl ⟨by decide,by decide⟩,?_⟩
   rw[o3,decide_eq_true (show 2*((m / 2:Nat):Int)=(m:Int) by omega)]
   walk_at "y"
   refine call_e F.same ?_
   walk_at "y"
   refine call_e F.num ?_
   walk_at "y"
   refine⟨batR m k,rfl,by omega,sm_bal (by omega),fun H10 s10=>?_⟩
   rw[bnR_batR hk]
   walk_at "y"
   refine⟨_,_,rfl,Eqv.int,fun H11 s11=>?_⟩
   have hb11:=s11 _ _ (s10 _ _ hb9)
   have hs11:=s11.seq (s10.seq hs9)
   walk_at "y"
   generalize hKI:kIf C _ _ _ _=KI
   have main:∀(H12:Hp),Same H11 H12->KI false H12:=by
    intro H12 s12
    have hb12:=s12 _ _ hb11
    have hs12:=s12.seq hs11
    rw[<- hKI]
    walk_at "y"
    refine call_e F.brow ?_
    walk_at "y"
    refine⟨b,n8,m,rfl,hb12,by omega,hm,o1,fun l H13 hl1 hl2 g13=>?_⟩
    have hs13:=g13.seq hs12
    walk_at "y"
    refine call_e F.same ?_
    walk_at "y"
    refine call_e F.bat ?_
    walk_at "y"
    refine call_e F.num ?_
    walk_at "y"
    refine⟨l,rfl,by omega,sm_bal (by omega),fun H14 s14=>?_⟩
    walk_at "y"
    have hlt:=bnR_lt (l:=l) (by omega)
    have hbb:=batR_bnR (l:=l) (by omega)
    rw[hl1]at hlt hbb
    refine⟨m,bnR l,rfl,by omega,hlt,fun H15 s15=>?_⟩
    rw[hbb]
    walk_at "y"
    refine⟨_,_,rfl,Eqv.str,fun H16 s16=>?_⟩
    walk_at "y"
    exact⟨⟨_,_,_,_,_,_,rfl⟩,((s14.trans s15).trans s16).seq hs13⟩
   refine by_dec (fun hq=>?_) fun hq=>?_
   .have hk1:k+1<bc m:=by omega
    walk_at "y"
    refine call_e F.bat ?_
    walk_at "y"
    refine⟨m,k+1,rfl,by omega,hk1,fun H12 s12=>?_⟩
    walk_at "y"
    refine at_ltS ?_
    have hup:(batR m k).map cb<(batR m (k+1)).map cb:=batR_up hk1
    rw[tx_cps,tx_cps,decide_eq_true hup]
    walk_at "y"
    exact main H12 s12
   .walk_at "y"
    exact main H11 (Same.refl _)
  .walk_at "y"
   exact⟨⟨_,_,_,_,_,_,rfl⟩,hs7⟩
 .rintro σ H0 ⟨⟨x1,x2,x3,x4,x5,x6,rfl⟩,hs0⟩
  walk_at "y"
  refine at_r1 (by omega) (by omega) (comp_r (fun k xs H'=>Same H0 H'/\xs=(List.replicate k true).map V.bl) ⟨Same.refl _,rfl⟩ ?_ ?_)
  .rintro k xs H1 R hk ⟨s1,rfl⟩ hR
   have hk:k<9:=by simpa using hk
   walk_at "y"
   refine call_e F.short ?_
   walk_at "y"
   refine⟨k,by rw[show(0:Int)+(k:Int)=(k:Int) by omega],hk,fun H2 s2=>?_⟩
   walk_at "y"
   refine⟨by rw[List.length_map,List.length_replicate];exact small1000 (by omega),hR _ _ ⟨s1.trans s2,?_⟩⟩
   rw[List.replicate_succ',List.map_append]
   rfl
  .rintro xs H1 ⟨s1,rfl⟩ p hp
   walk_at "y"
   refine at_all (bs:=List.replicate 9 true) (SqL.of upd_same) ?_
   exact q _
end K56
namespace K56
open PySem PySem.Spec PyProof.Rows L2 R3 LW SR BA
noncomputable def top (i:Nat):Stmt:=PySem.Challenge.pw_runbound_k56_numbers_of_balanced_rows.main.body.getD i (.Pass ⟨0,0,0,0⟩)
theorem m_sumOf:mSs n_p_sum_of b_p_sum_of (defScope (top 5)) c_p_sum_of (defBody (top 5))=true:=by decide +kernel
theorem sc_sumOf:FnScope n_p_sum_of ["row"] (defScope (top 5)):=⟨rfl,rfl,rfl,by decide +kernel,rfl,by decide +kernel,by decide +kernel⟩
theorem m_bcount:mSs n_p_balanced_count b_p_balanced_count (defScope (top 7)) c_p_balanced_count (defBody (top 7))=true:=by decide +kernel
theorem sc_bcount:FnScope n_p_balanced_count ["many"] (defScope (top 7)):=⟨rfl,rfl,rfl,by decide +kernel,rfl,by decide +kernel,by decide +kernel⟩
theorem m_byn:mSs n_p_count_by_nought b_p_count_by_nought (defScope (top 8)) c_p_count_by_nought (defBody (top 8))=true:=by decide +kernel
theorem sc_byn:FnScope n_p_count_by_nought ["count","rest","ones"] (defScope (top 8)):=⟨rfl,rfl,rfl,by decide +kernel,rfl,by decide +kernel,by decide +kernel⟩
theorem m_bat:mSs n_p_balanced_at b_p_balanced_at (defScope (top 9)) c_p_balanced_at (defBody (top 9))=true:=by decide +kernel
theorem sc_bat:FnScope n_p_balanced_at ["many","number"] (defScope (top 9)):=⟨rfl,rfl,rfl,by decide +kernel,rfl,by decide +kernel,by decide +kernel⟩
theorem m_bnum:mSs n_p_balanced_number b_p_balanced_number (defScope (top 10)) c_p_balanced_number (defBody (top 10))=true:=by decide +kernel
theorem sc_bnum:FnScope n_p_balanced_number ["row"] (defScope (top 10)):=⟨rfl,rfl,rfl,by decide +kernel,rfl,by decide +kernel,by decide +kernel⟩
theorem m_cell:mSs n_cell_at b_cell_at (defScope (top 12)) c_cell_at (defBody (top 12))=true:=by decide +kernel
theorem sc_cell:FnScope n_cell_at ["_law_script","_law_k"] (defScope (top 12)):=⟨rfl,rfl,rfl,by decide +kernel,rfl,by decide +kernel,by decide +kernel⟩
theorem m_box:mSs n_box b_box (defScope (top 13)) c_box (defBody (top 13))=true:=by decide +kernel
theorem sc_box:FnScope n_box ["_law_script","_law_k"] (defScope (top 13)):=⟨rfl,rfl,rfl,by decide +kernel,rfl,by decide +kernel,by decide +kernel⟩
theorem m_take:mSs n_take b_take (defScope (top 14)) c_take (defBody (top 14))=true:=by decide +kernel
theorem sc_take:FnScope n_take ["_law_box_here","_law_many"] (defScope (top 14)):=⟨rfl,rfl,rfl,by decide +kernel,rfl,by decide +kernel,by decide +kernel⟩
theorem m_same:mSs n_same b_same (defScope (top 15)) c_same (defBody (top 15))=true:=by decide +kernel
theorem sc_same:FnScope n_same ["_law_found","_law_due"] (defScope (top 15)):=⟨rfl,rfl,rfl,by decide +kernel,rfl,by decide +kernel,by decide +kernel⟩
theorem m_due:mSs n_count b_count (defScope (top 16)) c_count (defBody (top 16))=true:=by decide +kernel
theorem sc_due:FnScope n_count ["_law_many"] (defScope (top 16)):=⟨rfl,rfl,rfl,by decide +kernel,rfl,by decide +kernel,by decide +kernel⟩
theorem m_brow:mSs n_balanced_row b_balanced_row (defScope (top 17)) c_balanced_row (defBody (top 17))=true:=by decide +kernel
theorem sc_brow:FnScope n_balanced_row ["_law_box_here","_law_many"] (defScope (top 17)):=⟨rfl,rfl,rfl,by decide +kernel,rfl,by decide +kernel,by decide +kernel⟩
theorem m_short:mSs n_short_right b_short_right (defScope (top 18)) c_short_right (defBody (top 18))=true:=by decide +kernel
theorem sc_short:FnScope n_short_right ["_law_many"] (defScope (top 18)):=⟨rfl,rfl,rfl,by decide +kernel,rfl,by decide +kernel,by decide +kernel⟩
theorem m_law:mSs n_law b_law (defScope (top 19)) c_law (defBody (top 19))=true:=by decide +kernel
theorem sc_law:FnScope n_law ["_law_script"] (defScope (top 19)):=⟨rfl,rfl,rfl,by decide +kernel,rfl,by decide +kernel,by decide +kernel⟩
theorem all_mk {l:W.OpenLaw} {w:World} {K:W.Frag} {h:Heap} {mg:Str->Option Value} {fa:Addr} {f1 f2 f3 f4 f5 f6 f7 f8 f9 f10 f11 f12 f13:Addr} (X:K.In h) (G:h.Ns mainGlobals mg) (hfa:mg "law"=some (.ref fa))
  {od1 an1 od2 an2 od3 an3 od4 an4 od5 an5 od6 an6 od7 an7 od8 an8 od9 an9 od10 an10 od11 an11 od12 an12 od13 an13:Option Addr} {sl1 sl2 sl3 sl4 sl5 sl6 sl7 sl8 sl9 sl10 sl11 sl12 sl13:Array (Option Value)} {oc1 kV1 dc1 pm1 cd1 ct1 oc2 kV2 dc2 pm2 cd2 ct2 oc3 kV3 dc3 pm3 cd3 ct3 oc4 kV4 dc4 pm4 cd4 ct4 oc5 kV5 dc5 pm5 cd5 ct5 oc6 kV6 dc6 pm6 cd6 ct6 oc7 kV7 dc7 pm7 cd7 ct7 oc8 kV8 dc8 pm8 cd8 ct8 oc9 kV9 dc9 pm9 cd9 ct9 oc10 kV10 dc10 pm10 cd10 ct10 oc11 kV11 dc11 pm11 cd11 ct11 oc12 kV12 dc12 pm12 cd12 ct12 oc13 kV13 dc13 pm13 cd13 ct13:Value}
  (a1:W.nsIn K mainGlobals "sum_of"=some (some (.ref f1))) (l1:K.lookup f1=some ⟨oc1,od1,.func (W.fnOf "sum_of" "sum_of" (defArgs (top 5)) (defBody (top 5)) (defScope (top 5)) .none kV1 dc1 pm1 an1 cd1 ct1),sl1⟩) (c1:W.codeIn K cd1 "sum_of"=true) (k1:W.keepIn K (.ref f1)=true)
  (a2:W.nsIn K mainGlobals "balanced_count"=some (some (.ref f2))) (l2:K.lookup f2=some ⟨oc2,od2,.func (W.fnOf "balanced_count" "balanced_count" (defArgs (top 7)) (defBody (top 7)) (defScope (top 7)) .none kV2 dc2 pm2 an2 cd2 ct2),sl2⟩) (c2:W.codeIn K cd2 "balanced_count"=true) (k2:W.keepIn K (.ref f2)=true)
  (a3:W.nsIn K mainGlobals "count_by_nought"=some (some (.ref f3))) (l3:K.lookup f3=some ⟨oc3,od3,.func (W.fnOf "count_by_nought" "count_by_nought" (defArgs (top 8)) (defBody (top 8)) (defScope (top 8)) .none kV3 dc3 pm3 an3 cd3 ct3),sl3⟩) (c3:W.codeIn K cd3 "count_by_nought"=true) (k3:W.keepIn K (.ref f3)=true)
  (a4:W.nsIn K mainGlobals "balanced_at"=some (some (.ref f4))) (l4:K.lookup f4=some ⟨oc4,od4,.func (W.fnOf "balanced_at" "balanced_at" (defArgs (top 9)) (defBody (top 9)) (defScope (top 9)) .none kV4 dc4 pm4 an4 cd4 ct4),sl4⟩) (c4:W.codeIn K cd4 "balanced_at"=true) (k4:W.keepIn K (.ref f4)=true)
  (a5:W.nsIn K mainGlobals "balanced_number"=some (some (.ref f5))) (l5:K.lookup f5=some ⟨oc5,od5,.func (W.fnOf "balanced_number" "balanced_number" (defArgs (top 10)) (defBody (top 10)) (defScope (top 10)) .none kV5 dc5 pm5 an5 cd5 ct5),sl5⟩) (c5:W.codeIn K cd5 "balanced_number"=true) (k5:W.keepIn K (.ref f5)=true)
  (a6:W.nsIn K mainGlobals "_law_cell_at"=some (some (.ref f6))) (l6:K.lookup f6=some ⟨oc6,od6,.func (W.fnOf "_law_cell_at" "_law_cell_at" (defArgs (top 12)) (defBody (top 12)) (defScope (top 12)) .none kV6 dc6 pm6 an6 cd6 ct6),sl6⟩) (c6:W.codeIn K cd6 "_law_cell_at"=true) (k6:W.keepIn K (.ref f6)=true)
  (a7:W.nsIn K mainGlobals "_law_box"=some (some (.ref f7))) (l7:K.lookup f7=some ⟨oc7,od7,.func (W.fnOf "_law_box" "_law_box" (defArgs (top 13)) (defBody (top 13)) (defScope (top 13)) .none kV7 dc7 pm7 an7 cd7 ct7),sl7⟩) (c7:W.codeIn K cd7 "_law_box"=true) (k7:W.keepIn K (.ref f7)=true)
  (a8:W.nsIn K mainGlobals "_law_take"=some (some (.ref f8))) (l8:K.lookup f8=some ⟨oc8,od8,.func (W.fnOf "_law_take" "_law_take" (defArgs (top 14)) (defBody (top 14)) (defScope (top 14)) .none kV8 dc8 pm8 an8 cd8 ct8),sl8⟩) (c8:W.codeIn K cd8 "_law_take"=true) (k8:W.keepIn K (.ref f8)=true)
  (a9:W.nsIn K mainGlobals "_law_same"=some (some (.ref f9))) (l9:K.lookup f9=some ⟨oc9,od9,.func (W.fnOf "_law_same" "_law_same" (defArgs (top 15)) (defBody (top 15)) (defScope (top 15)) .none kV9 dc9 pm9 an9 cd9 ct9),sl9⟩) (c9:W.codeIn K cd9 "_law_same"=true) (k9:W.keepIn K (.ref f9)=true)
  (a10:W.nsIn K mainGlobals "_law_count"=some (some (.ref f10))) (l10:K.lookup f10=some ⟨oc10,od10,.func (W.fnOf "_law_count" "_law_count" (defArgs (top 16)) (defBody (top 16)) (defScope (top 16)) .none kV10 dc10 pm10 an10 cd10 ct10),sl10⟩) (c10:W.codeIn K cd10 "_law_count"=true) (k10:W.keepIn K (.ref f10)=true)
  (a11:W.nsIn K mainGlobals "_law_balanced_row"=some (some (.ref f11))) (l11:K.lookup f11=some ⟨oc11,od11,.func (W.fnOf "_law_balanced_row" "_law_balanced_row" (defArgs (top 17)) (defBody (top 17)) (defScope (top 17)) .none kV11 dc11 pm11 an11 cd11 ct11),sl11⟩) (c11:W.codeIn K cd11 "_law_balanced_row"=true) (k11:W.keepIn K (.ref f11)=true)
  (a12:W.nsIn K mainGlobals "_law_short_right"=some (some (.ref f12))) (l12:K.lookup f12=some ⟨oc12,od12,.func (W.fnOf "_law_short_right" "_law_short_right" (defArgs (top 18)) (defBody (top 18)) (defScope (top 18)) .none kV12 dc12 pm12 an12 cd12 ct12),sl12⟩) (c12:W.codeIn K cd12 "_law_short_right"=true) (k12:W.keepIn K (.ref f12)=true)
  (a13:W.nsIn K mainGlobals "law"=some (some (.ref f13))) (l13:K.lookup f13=some ⟨oc13,od13,.func (W.fnOf "law" "law" (defArgs (top 19)) (defBody (top 19)) (defScope (top 19)) .none kV13 dc13 pm13 an13 cd13 ct13),sl13⟩) (c13:W.codeIn K cd13 "law"=true) (k13:W.keepIn K (.ref f13)=true)
  (z1:W.nsIn K mainGlobals "~"=some none)
  (z2:W.nsIn K mainGlobals "^"=some none)
  (z3:W.nsIn K mainGlobals "%"=some none)
  (z4:W.nsIn K mainGlobals "range"=some none)
  (z5:W.nsIn K mainGlobals "reversed"=some none)
  (z6:W.nsIn K mainGlobals "enumerate"=some none)
  (z7:W.nsIn K mainGlobals "len"=some none)
  (z8:W.nsIn K mainGlobals "abs"=some none)
  (z9:W.nsIn K mainGlobals "int"=some none)
  (z10:W.nsIn K mainGlobals "all"=some none)
  (z11:W.nsIn K mainGlobals "bool"=some none)
  (z12:W.nsIn K mainGlobals "isinstance"=some none)
  (z13:W.nsIn K mainGlobals "list"=some none)
  (z14:W.nsIn K mainGlobals "str"=some none)
  (z15:W.nsIn K mainGlobals "tuple"=some none)
  (z16:W.nsIn K mainGlobals "zip"=some none)
  (z17:W.nsIn K mainGlobals "sorted"=some none)
  (z18:W.nsIn K mainGlobals "min"=some none):
  ∃fd:FuncData,(∀(s:Shared) (v:Value),BindsTo s fd ⟨[v],[]⟩ [("_law_script",v)])/\∀base:Heap,K.In base->base.Ns mainGlobals mg->FnOk l.prog w K mg base CX0 60 fa fd ["_law_script"] (spLaw K):=by
 have e:=hfa.symm.trans (W.mg_of X G a13)
 cases e
 have F1:=fun_mk (st:=top 5) l1 c1 k1
 have b1:=F1.binds (ps:=["row"]) fun _ _ _ _ _ _ us hl=>len1 (P:=fun us=>bindArgs _ ({ pos:=us }:Args)=pure (List.zip _ us)) (fun _=>rfl) us hl
 have m1:=W.mg_of X G a1
 have F2:=fun_mk (st:=top 7) l2 c2 k2
 have b2:=F2.binds (ps:=["many"]) fun _ _ _ _ _ _ us hl=>len1 (P:=fun us=>bindArgs _ ({ pos:=us }:Args)=pure (List.zip _ us)) (fun _=>rfl) us hl
 have m2:=W.mg_of X G a2
 have F3:=fun_mk (st:=top 8) l3 c3 k3
 have b3:=F3.binds (ps:=["count","rest","ones"]) fun _ _ _ _ _ _ us hl=>len3 (P:=fun us=>bindArgs _ ({ pos:=us }:Args)=pure (List.zip _ us)) (fun _ _ _=>rfl) us hl
 have m3:=W.mg_of X G a3
 have F4:=fun_mk (st:=top 9) l4 c4 k4
 have b4:=F4.binds (ps:=["many","number"]) fun _ _ _ _ _ _ us hl=>len2 (P:=fun us=>bindArgs _ ({ pos:=us }:Args)=pure (List.zip _ us)) (fun _ _=>rfl) us hl
 have m4:=W.mg_of X G a4
 have F5:=fun_mk (st:=top 10) l5 c5 k5
 have b5:=F5.binds (ps:=["row"]) fun _ _ _ _ _ _ us hl=>len1 (P:=fun us=>bindArgs _ ({ pos:=us }:Args)=pure (List.zip _ us)) (fun _=>rfl) us hl
 have m5:=W.mg_of X G a5
 have F6:=fun_mk (st:=top 12) l6 c6 k6
 have b6:=F6.binds (ps:=["_law_script","_law_k"]) fun _ _ _ _ _ _ us hl=>len2 (P:=fun us=>bindArgs _ ({ pos:=us }:Args)=pure (List.zip _ us)) (fun _ _=>rfl) us hl
 have m6:=W.mg_of X G a6
 have F7:=fun_mk (st:=top 13) l7 c7 k7
 have b7:=F7.binds (ps:=["_law_script","_law_k"]) fun _ _ _ _ _ _ us hl=>len2 (P:=fun us=>bindArgs _ ({ pos:=us }:Args)=pure (List.zip _ us)) (fun _ _=>rfl) us hl
 have m7:=W.mg_of X G a7
 have F8:=fun_mk (st:=top 14) l8 c8 k8
 have b8:=F8.binds (ps:=["_law_box_here","_law_many"]) fun _ _ _ _ _ _ us hl=>len2 (P:=fun us=>bindArgs _ ({ pos:=us }:Args)=pure (List.zip _ us)) (fun _ _=>rfl) us hl
 have m8:=W.mg_of X G a8
 have F9:=fun_mk (st:=top 15) l9 c9 k9
 have b9:=F9.binds (ps:=["_law_found","_law_due"]) fun _ _ _ _ _ _ us hl=>len2 (P:=fun us=>bindArgs _ ({ pos:=us }:Args)=pure (List.zip _ us)) (fun _ _=>rfl) us hl
 have m9:=W.mg_of X G a9
 have F10:=fun_mk (st:=top 16) l10 c10 k10
 have b10:=F10.binds (ps:=["_law_many"]) fun _ _ _ _ _ _ us hl=>len1 (P:=fun us=>bindArgs _ ({ pos:=us }:Args)=pure (List.zip _ us)) (fun _=>rfl) us hl
 have m10:=W.mg_of X G a10
 have F11:=fun_mk (st:=top 17) l11 c11 k11
 have b11:=F11.binds (ps:=["_law_box_here","_law_many"]) fun _ _ _ _ _ _ us hl=>len2 (P:=fun us=>bindArgs _ ({ pos:=us }:Args)=pure (List.zip _ us)) (fun _ _=>rfl) us hl
 have m11:=W.mg_of X G a11
 have F12:=fun_mk (st:=top 18) l12 c12 k12
 have b12:=F12.binds (ps:=["_law_many"]) fun _ _ _ _ _ _ us hl=>len1 (P:=fun us=>bindArgs _ ({ pos:=us }:Args)=pure (List.zip _ us)) (fun _=>rfl) us hl
 have m12:=W.mg_of X G a12
 have F13:=fun_mk (st:=top 19) l13 c13 k13
 have m13:=W.mg_of X G a13
 have n1:=W.mg_none_of X G z1
 have n2:=W.mg_none_of X G z2
 have n3:=W.mg_none_of X G z3
 have n4:=W.mg_none_of X G z4
 have n5:=W.mg_none_of X G z5
 have n6:=W.mg_none_of X G z6
 have n7:=W.mg_none_of X G z7
 have n8:=W.mg_none_of X G z8
 have n9:=W.mg_none_of X G z9
 have n10:=W.mg_none_of X G z10
 have n11:=W.mg_none_of X G z11
 have n12:=W.mg_none_of X G z12
 have n13:=W.mg_none_of X G z13
 have n14:=W.mg_none_of X G z14
 have n15:=W.mg_none_of X G z15
 have n16:=W.mg_none_of X G z16
 have n17:=W.mg_none_of X G z17
 have n18:=W.mg_none_of X G z18
 refine⟨W.fnOf "law" "law" (defArgs (top 19)) (defBody (top 19)) (defScope (top 19)) .none kV13 dc13 pm13 an13 cd13 ct13,fun s v=>.of_eq rfl,fun base _ _=>?_⟩
 have O1:=code_ok0 (P:=l.prog) (w:=w) (mg:=mg) (base:=base) (k:=0) F1 { N:=n_p_sum_of,B:=b_p_sum_of,K:=K,fs:=fsOf [] } sc_sumOf rfl c_p_sum_of m_sumOf (sp:=spSumOf) (by intro vs H Q E h;repeat (first|(obtain⟨rfl,_⟩:=h;rfl)|(obtain⟨_,h⟩:=h))) (hfs_of mN) mN ⟨n1,n2,n3⟩ (show tld b_p_sum_of=false by decide +kernel) (show hat b_p_sum_of=false by decide +kernel) rfl rfl (body_sum_of rfl  )
 have O2:=code_ok0 (P:=l.prog) (w:=w) (mg:=mg) (base:=base) (k:=0) F2 { N:=n_p_balanced_count,B:=b_p_balanced_count,K:=K,fs:=fsOf [] } sc_bcount rfl c_p_balanced_count m_bcount (sp:=spBCount) (by intro vs H Q E h;repeat (first|(obtain⟨rfl,_⟩:=h;rfl)|(obtain⟨_,h⟩:=h))) (hfs_of mN) (mC ⟨n4,mN⟩) ⟨n1,n2,n3⟩ (show tld b_p_balanced_count=false by decide +kernel) (show hat b_p_balanced_count=false by decide +kernel) rfl rfl (body_bcount rfl  )
 have O3:=code_ok0 (P:=l.prog) (w:=w) (mg:=mg) (base:=base) (k:=0) F3 { N:=n_p_count_by_nought,B:=b_p_count_by_nought,K:=K,fs:=fsOf [] } sc_byn rfl c_p_count_by_nought m_byn (sp:=spByN) (by intro vs H Q E h;repeat (first|(obtain⟨rfl,_⟩:=h;rfl)|(obtain⟨_,h⟩:=h))) (hfs_of mN) mN ⟨n1,n2,n3⟩ (show tld b_p_count_by_nought=false by decide +kernel) (show hat b_p_count_by_nought=false by decide +kernel) rfl rfl (body_byn rfl  )
 have O4:=code_ok0 (P:=l.prog) (w:=w) (mg:=mg) (base:=base) (k:=1) F4 { N:=n_p_balanced_at,B:=b_p_balanced_at,K:=K,fs:=fsOf [("balanced_count",spBCount),("count_by_nought",spByN)] } sc_bat rfl c_p_balanced_at m_bat (sp:=spAtZ) (by intro vs H Q E h;repeat (first|(obtain⟨rfl,_⟩:=h;rfl)|(obtain⟨_,h⟩:=h))) (hfs_of (mC ⟨⟨_,_,_,(O2).mono (by omega),m2,k2,b2⟩,(mC ⟨⟨_,_,_,(O3).mono (by omega),m3,k3,b3⟩,mN⟩)⟩)) (mC ⟨n4,(mC ⟨n5,mN⟩)⟩) ⟨n1,n2,n3⟩ (show tld b_p_balanced_at=false by decide +kernel) (show hat b_p_balanced_at=false by decide +kernel) rfl rfl (body_atZ rfl (show fsOf _ "balanced_count"=some (spBCount) from lookup_here) (show fsOf _ "count_by_nought"=some (spByN) from((lookup_skip (by decide +kernel)).trans lookup_here)) )
 have O5:=code_ok0 (P:=l.prog) (w:=w) (mg:=mg) (base:=base) (k:=1) F5 { N:=n_p_balanced_number,B:=b_p_balanced_number,K:=K,fs:=fsOf [("sum_of",spSumOf),("balanced_count",spBCount),("count_by_nought",spByN)] } sc_bnum rfl c_p_balanced_number m_bnum (sp:=spNumZ) (by intro vs H Q E h;repeat (first|(obtain⟨rfl,_⟩:=h;rfl)|(obtain⟨_,h⟩:=h))) (hfs_of (mC ⟨⟨_,_,_,(O1).mono (by omega),m1,k1,b1⟩,(mC ⟨⟨_,_,_,(O2).mono (by omega),m2,k2,b2⟩,(mC ⟨⟨_,_,_,(O3).mono (by omega),m3,k3,b3⟩,mN⟩)⟩)⟩)) (mC ⟨n6,(mC ⟨n7,mN⟩)⟩) ⟨n1,n2,n3⟩ (show tld b_p_balanced_number=false by decide +kernel) (show hat b_p_balanced_number=false by decide +kernel) rfl rfl (body_numZ rfl (show fsOf _ "sum_of"=some (spSumOf) from lookup_here) (show fsOf _ "balanced_count"=some (spBCount) from((lookup_skip (by decide +kernel)).trans lookup_here)) (show fsOf _ "count_by_nought"=some (spByN) from((lookup_skip (by decide +kernel)).trans ((lookup_skip (by decide +kernel)).trans lookup_here))) )
 have O6:=code_ok0 (P:=l.prog) (w:=w) (mg:=mg) (base:=base) (k:=0) F6 { N:=n_cell_at,B:=b_cell_at,K:=K,fs:=fsOf [] } sc_cell rfl c_cell_at m_cell (sp:=spCell K) (by intro vs H Q E h;repeat (first|(obtain⟨rfl,_⟩:=h;rfl)|(obtain⟨_,h⟩:=h))) (hfs_of mN) (mC ⟨n7,mN⟩) ⟨n1,n2,n3⟩ (show tld b_cell_at=false by decide +kernel) (show hat b_cell_at=false by decide +kernel) rfl rfl (body_cell (C:={ N:=n_cell_at,B:=b_cell_at,K:=K,fs:=fsOf [] }) rfl  )
 have O7:=box_fn (code_ok0 (P:=l.prog) (w:=w) (mg:=mg) (base:=base) (k:=1) F7 { N:=n_box,B:=b_box,K:=K,fs:=fsOf [("_law_cell_at",spCell K)] } sc_box rfl c_box m_box (sp:=spBox0 K) (by intro vs H Q E h;repeat (first|(obtain⟨rfl,_⟩:=h;rfl)|(obtain⟨_,h⟩:=h))) (hfs_of (mC ⟨⟨_,_,_,(O6).mono (by omega),m6,k6,b6⟩,mN⟩)) (mC ⟨n8,(mC ⟨n9,mN⟩)⟩) ⟨n1,n2,n3⟩ (show tld b_box=false by decide +kernel) (show hat b_box=false by decide +kernel) rfl rfl (body_box (C:={ N:=n_box,B:=b_box,K:=K,fs:=fsOf [("_law_cell_at",spCell K)] }) rfl (show fsOf _ "_law_cell_at"=some (spCell K) from lookup_here) ))
 have O8:=take_fn rfl (code_ok0 (P:=l.prog) (w:=w) (mg:=mg) (base:=base) (k:=0) F8 { N:=n_take,B:=b_take,K:=K,fs:=fsOf [] } sc_take rfl c_take m_take (sp:=spTake0) (by intro vs H Q E h;repeat (first|(obtain⟨rfl,_⟩:=h;rfl)|(obtain⟨_,h⟩:=h))) (hfs_of mN) mN ⟨n1,n2,n3⟩ (show tld b_take=false by decide +kernel) (show hat b_take=false by decide +kernel) rfl rfl (body_take rfl  ))
 have O9:∀n,FnOk l.prog w K mg base CX0 (n+0+1) f9 (W.fnOf "_law_same" "_law_same" (defArgs (top 15)) (defBody (top 15)) (defScope (top 15)) .none kV9 dc9 pm9 an9 cd9 ct9) ["_law_found","_law_due"] (spSame n):=by
  intro n
  induction n with
  |zero=>exact code_ok0 (P:=l.prog) (w:=w) (mg:=mg) (base:=base) (k:=0+0) F9 { N:=n_same,B:=b_same,K:=K,fs:=fsOf [] } sc_same rfl c_same m_same (by intro vs H Q E h;repeat (first|(obtain⟨rfl,_⟩:=h;rfl)|(obtain⟨_,h⟩:=h))) (hfs_of mN) (mC ⟨n10,(mC ⟨n11,(mC ⟨n9,(mC ⟨n12,(mC ⟨n7,(mC ⟨n13,(mC ⟨n14,(mC ⟨n15,(mC ⟨n16,mN⟩)⟩)⟩)⟩)⟩)⟩)⟩)⟩)⟩) ⟨n1,n2,n3⟩ (show tld b_same=false by decide +kernel) (show hat b_same=false by decide +kernel) rfl rfl (body_same (C:={ N:=n_same,B:=b_same,K:=K,fs:=fsOf [] }) rfl (fun m h=>absurd h (by omega)) )
  |succ m ih=>exact code_ok0 (P:=l.prog) (w:=w) (mg:=mg) (base:=base) (k:=m+0+1) F9 { N:=n_same,B:=b_same,K:=K,fs:=fsOf [("_law_same",spSame m)] } sc_same rfl c_same m_same (by intro vs H Q E h;repeat (first|(obtain⟨rfl,_⟩:=h;rfl)|(obtain⟨_,h⟩:=h))) (hfs_of (mC ⟨⟨_,_,_,(ih).mono (by omega),m9,k9,b9⟩,mN⟩)) (mC ⟨n10,(mC ⟨n11,(mC ⟨n9,(mC ⟨n12,(mC ⟨n7,(mC ⟨n13,(mC ⟨n14,(mC ⟨n15,(mC ⟨n16,mN⟩)⟩)⟩)⟩)⟩)⟩)⟩)⟩)⟩) ⟨n1,n2,n3⟩ (show tld b_same=false by decide +kernel) (show hat b_same=false by decide +kernel) rfl rfl (body_same (C:={ N:=n_same,B:=b_same,K:=K,fs:=fsOf [("_law_same",spSame m)] }) rfl (fun m h=>by cases h;exact(show fsOf _ "_law_same"=some (spSame m) from lookup_here)) )
 have O10:=code_ok0 (P:=l.prog) (w:=w) (mg:=mg) (base:=base) (k:=0) F10 { N:=n_count,B:=b_count,K:=K,fs:=fsOf [] } sc_due rfl c_count m_due (sp:=spCnt) (by intro vs H Q E h;repeat (first|(obtain⟨rfl,_⟩:=h;rfl)|(obtain⟨_,h⟩:=h))) (hfs_of mN) (mC ⟨n4,mN⟩) ⟨n1,n2,n3⟩ (show tld b_count=false by decide +kernel) (show hat b_count=false by decide +kernel) rfl rfl (body_cnt rfl  )
 have O11:=code_ok0 (P:=l.prog) (w:=w) (mg:=mg) (base:=base) (k:=1) F11 { N:=n_balanced_row,B:=b_balanced_row,K:=K,fs:=fsOf [("_law_take",spTake)] } sc_brow rfl c_balanced_row m_brow (sp:=spBRow) (by intro vs H Q E h;repeat (first|(obtain⟨rfl,_⟩:=h;rfl)|(obtain⟨_,h⟩:=h))) (hfs_of (mC ⟨⟨_,_,_,(O8).mono (by omega),m8,k8,b8⟩,mN⟩)) mN ⟨n1,n2,n3⟩ (show tld b_balanced_row=false by decide +kernel) (show hat b_balanced_row=false by decide +kernel) rfl rfl (body_brow rfl (show fsOf _ "_law_take"=some (spTake) from lookup_here) )
 have O12:=code_ok0 (P:=l.prog) (w:=w) (mg:=mg) (base:=base) (k:=5) F12 { N:=n_short_right,B:=b_short_right,K:=K,fs:=fsOf [("balanced_count",spBCount),("balanced_at",spAtZ),("balanced_number",spNumZ),("_law_same",spSame 1)] } sc_short rfl c_short_right m_short (sp:=spShort) (by intro vs H Q E h;repeat (first|(obtain⟨rfl,_⟩:=h;rfl)|(obtain⟨_,h⟩:=h))) (hfs_of (mC ⟨⟨_,_,_,(O2).mono (by omega),m2,k2,b2⟩,(mC ⟨⟨_,_,_,(O4).mono (by omega),m4,k4,b4⟩,(mC ⟨⟨_,_,_,(O5).mono (by omega),m5,k5,b5⟩,(mC ⟨⟨_,_,_,(O9 1).mono (by omega),m9,k9,b9⟩,mN⟩)⟩)⟩)⟩)) (mC ⟨n7,(mC ⟨n13,(mC ⟨n4,(mC ⟨n17,mN⟩)⟩)⟩)⟩) ⟨n1,n2,n3⟩ (show tld b_short_right=false by decide +kernel) (show hat b_short_right=false by decide +kernel) rfl rfl (body_short rfl (show fsOf _ "balanced_count"=some (spBCount) from lookup_here) (show fsOf _ "balanced_at"=some (spAtZ) from((lookup_skip (by decide +kernel)).trans lookup_here)) (show fsOf _ "balanced_number"=some (spNumZ) from((lookup_skip (by decide +kernel)).trans ((lookup_skip (by decide +kernel)).trans lookup_here))) (show fsOf _ "_law_same"=some (spSame 1) from((lookup_skip (by decide +kernel)).trans ((lookup_skip (by decide +kernel)).trans ((lookup_skip (by decide +kernel)).trans lookup_here)))) )
 exact code_ok0 (P:=l.prog) (w:=w) (mg:=mg) (base:=base) (k:=59) F13 { N:=n_law,B:=b_law,K:=K,fs:=fsOf [("_law_box",spBox K),("_law_take",spTake),("_law_same",spSame 1),("balanced_count",spBCount),("balanced_at",spAtZ),("balanced_number",spNumZ),("_law_count",spCnt),("_law_balanced_row",spBRow),("_law_short_right",spShort)] } sc_law rfl c_law m_law (sp:=spLaw K) (by intro vs H Q E h;repeat (first|(obtain⟨rfl,_⟩:=h;rfl)|(obtain⟨_,h⟩:=h))) (hfs_of (mC ⟨⟨_,_,_,(O7).mono (by omega),m7,k7,b7⟩,(mC ⟨⟨_,_,_,(O8).mono (by omega),m8,k8,b8⟩,(mC ⟨⟨_,_,_,(O9 1).mono (by omega),m9,k9,b9⟩,(mC ⟨⟨_,_,_,(O2).mono (by omega),m2,k2,b2⟩,(mC ⟨⟨_,_,_,(O4).mono (by omega),m4,k4,b4⟩,(mC ⟨⟨_,_,_,(O5).mono (by omega),m5,k5,b5⟩,(mC ⟨⟨_,_,_,(O10).mono (by omega),m10,k10,b10⟩,(mC ⟨⟨_,_,_,(O11).mono (by omega),m11,k11,b11⟩,(mC ⟨⟨_,_,_,(O12).mono (by omega),m12,k12,b12⟩,mN⟩)⟩)⟩)⟩)⟩)⟩)⟩)⟩)⟩)) (mC ⟨n10,(mC ⟨n9,(mC ⟨n7,(mC ⟨n18,(mC ⟨n4,mN⟩)⟩)⟩)⟩)⟩) ⟨n1,n2,n3⟩ (show tld b_law=false by decide +kernel) (show hat b_law=false by decide +kernel) rfl rfl (body_law (C:={ N:=n_law,B:=b_law,K:=K,fs:=fsOf [("_law_box",spBox K),("_law_take",spTake),("_law_same",spSame 1),("balanced_count",spBCount),("balanced_at",spAtZ),("balanced_number",spNumZ),("_law_count",spCnt),("_law_balanced_row",spBRow),("_law_short_right",spShort)] }) rfl ⟨(show fsOf _ "_law_box"=some (spBox K) from lookup_here),(show fsOf _ "_law_take"=some (spTake) from((lookup_skip (by decide +kernel)).trans lookup_here)),(show fsOf _ "_law_same"=some (spSame 1) from((lookup_skip (by decide +kernel)).trans ((lookup_skip (by decide +kernel)).trans lookup_here))),(show fsOf _ "balanced_count"=some (spBCount) from((lookup_skip (by decide +kernel)).trans ((lookup_skip (by decide +kernel)).trans ((lookup_skip (by decide +kernel)).trans lookup_here)))),(show fsOf _ "balanced_at"=some (spAtZ) from((lookup_skip (by decide +kernel)).trans ((lookup_skip (by decide +kernel)).trans ((lookup_skip (by decide +kernel)).trans ((lookup_skip (by decide +kernel)).trans lookup_here))))),(show fsOf _ "balanced_number"=some (spNumZ) from((lookup_skip (by decide +kernel)).trans ((lookup_skip (by decide +kernel)).trans ((lookup_skip (by decide +kernel)).trans ((lookup_skip (by decide +kernel)).trans ((lookup_skip (by decide +kernel)).trans lookup_here)))))),(show fsOf _ "_law_count"=some (spCnt) from((lookup_skip (by decide +kernel)).trans ((lookup_skip (by decide +kernel)).trans ((lookup_skip (by decide +kernel)).trans ((lookup_skip (by decide +kernel)).trans ((lookup_skip (by decide +kernel)).trans ((lookup_skip (by decide +kernel)).trans lookup_here))))))),(show fsOf _ "_law_balanced_row"=some (spBRow) from((lookup_skip (by decide +kernel)).trans ((lookup_skip (by decide +kernel)).trans ((lookup_skip (by decide +kernel)).trans ((lookup_skip (by decide +kernel)).trans ((lookup_skip (by decide +kernel)).trans ((lookup_skip (by decide +kernel)).trans ((lookup_skip (by decide +kernel)).trans lookup_here)))))))),(show fsOf _ "_law_short_right"=some (spShort) from((lookup_skip (by decide +kernel)).trans ((lookup_skip (by decide +kernel)).trans ((lookup_skip (by decide +kernel)).trans ((lookup_skip (by decide +kernel)).trans ((lookup_skip (by decide +kernel)).trans ((lookup_skip (by decide +kernel)).trans ((lookup_skip (by decide +kernel)).trans ((lookup_skip (by decide +kernel)).trans lookup_here)))))))))⟩ )
theorem walk {l:W.OpenLaw} {q:Program} {loose:List Str} {XP:(Str->Option Value)->Heap->Prop} {d:DefRec} {K:Params->W.Frag} {bs:List Addr} {m t:Nat} (hn:l.most=some 63) (hdf:d.params.defaults=[]) (e:∀P,bs=(K P).map (·.1))
  (F:∀(w:World) (mg:Str->Option Value) (fa:Addr) (h:Heap),(K w.params).In h->h.Ns mainGlobals mg->mg d.name=some (.ref fa)->
   ∃fd:FuncData,(∀(s:Shared) (u:Value),BindsTo s fd ⟨[u],[]⟩ [("_law_script",u)])/\∀base:Heap,(K w.params).In base->base.Ns mainGlobals mg->FnOk l.prog w (K w.params) mg base CX0 60 fa fd ["_law_script"] (spLaw (K w.params))):
  W.WalkX q loose XP (W.X.obsZ bs) (W.X.valZ K m t) l.row.toRowW d [] (fun f vs=>PySem.call f vs):=
 fun w s₀ s₁ mg mb G y a o pm cd doc dV kV h1 h2 h3 h4 h5 h6 args vals cs La=>L2.walk_of (YP:=fun w h=>(K w.params).In h) (n:=63) (k:=60) (x:="_law_script") (CX:=fun _=>CX0) (sp:=fun w=>spLaw (K w.params)) hn (by decide) hdf ⟨rfl,by decide,by decide,rfl⟩ (fun _ _ Y=>Y) F (fun _ _ a ns hl _ hS=>⟨a,ns,rfl,hS,hl,fun _=>rfl⟩) (fun _ _ _ _ _ z=>z) w s₀ s₁ mg mb G (W.InK.keeps w _ _ (W.X.z_facts e y).2.1 La.keeps) a o pm cd doc dV kV h1 h2 h3 h4 h5 h6 args vals cs
end K56
end
open PySem PySem.W PyProof.Rows
set_option maxRecDepth 100000 in
set_option maxHeartbeats 0 in
theorem PySem.Challenge.cw_runbound_k56_numbers_of_balanced_rows_holds : PySem.Challenge.rw_runbound_k56_numbers_of_balanced_rows.Holds := by
 w_on; o_law; z_head; (case hw => w_witness2)
 k_fill
 refine K56.walk (l := PySem.Challenge.rw_runbound_k56_numbers_of_balanced_rows) rfl rfl (fun _ => rfl) ?F
 case F =>
  intro w mg fa h KX G hmg
  refine' K56.all_mk KX G hmg ?a1 ?l1 ?c1 ?k1 ?a2 ?l2 ?c2 ?k2 ?a3 ?l3 ?c3 ?k3 ?a4 ?l4 ?c4 ?k4 ?a5 ?l5 ?c5 ?k5 ?a6 ?l6 ?c6 ?k6 ?a7 ?l7 ?c7 ?k7 ?a8 ?l8 ?c8 ?k8 ?a9 ?l9 ?c9 ?k9 ?a10 ?l10 ?c10 ?k10 ?a11 ?l11 ?c11 ?k11 ?a12 ?l12 ?c12 ?k12 ?a13 ?l13 ?c13 ?k13 ?z1 ?z2 ?z3 ?z4 ?z5 ?z6 ?z7 ?z8 ?z9 ?z10 ?z11 ?z12 ?z13 ?z14 ?z15 ?z16 ?z17 ?z18 
  (case a1 => k_is); (case l1 => k_is); (case c1 => k_is); (case k1 => k_is)
  (case a2 => k_is); (case l2 => k_is); (case c2 => k_is); (case k2 => k_is)
  (case a3 => k_is); (case l3 => k_is); (case c3 => k_is); (case k3 => k_is)
  (case a4 => k_is); (case l4 => k_is); (case c4 => k_is); (case k4 => k_is)
  (case a5 => k_is); (case l5 => k_is); (case c5 => k_is); (case k5 => k_is)
  (case a6 => k_is); (case l6 => k_is); (case c6 => k_is); (case k6 => k_is)
  (case a7 => k_is); (case l7 => k_is); (case c7 => k_is); (case k7 => k_is)
  (case a8 => k_is); (case l8 => k_is); (case c8 => k_is); (case k8 => k_is)
  (case a9 => k_is); (case l9 => k_is); (case c9 => k_is); (case k9 => k_is)
  (case a10 => k_is); (case l10 => k_is); (case c10 => k_is); (case k10 => k_is)
  (case a11 => k_is); (case l11 => k_is); (case c11 => k_is); (case k11 => k_is)
  (case a12 => k_is); (case l12 => k_is); (case c12 => k_is); (case k12 => k_is)
  (case a13 => k_is); (case l13 => k_is); (case c13 => k_is); (case k13 => k_is)
  (case z1 => k_is)
  (case z2 => k_is)
  (case z3 => k_is)
  (case z4 => k_is)
  (case z5 => k_is)
  (case z6 => k_is)
  (case z7 => k_is)
  (case z8 => k_is)
  (case z9 => k_is)
  (case z10 => k_is)
  (case z11 => k_is)
  (case z12 => k_is)
  (case z13 => k_is)
  (case z14 => k_is)
  (case z15 => k_is)
  (case z16 => k_is)
  (case z17 => k_is)
  (case z18 => k_is)