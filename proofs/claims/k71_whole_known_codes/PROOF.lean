import PyProof.Rows.All
import Wide.All
import OpenK.AllK
import Wide.FinOn
import Lean
import PyProof.EqAt
import PyProof.EqKinds
import PyProof.TupleCall
import PyProof.Rows.TupAdd
import PyProof.Rows.SortStr
import PyProof.Rows.SortWalk
import PyProof.CollectIter
import PyProof.Rows.Tup
import PyProof.TupleOfSeq
import PyProof.ReprRoads
import PyProof.CallStr
import PyProof.SeqRoads2
import KE.KDictList
import KE.KSortTup
import KE.KUnpack
import PyProof.SetRoads
import PyProof.Rows.SetFrom
import PyProof.Rows.SortShell
import PySem.Challenge.RW_runbound_k71_whole_known_codes
set_option genSizeOf false
set_option Elab.async false
set_option compiler.extract_closed false
set_option linter.all false
set_option maxRecDepth 100000
set_option tactic.hygienic false
namespace L2
open PySem PySem.Spec PyProof.Rows
section
variable {prog:Program} {w:World} {A:Around} {E:Value->Shared->Prop} {s:Shared}
theorem typeIs_none' (s:Shared):s.TypeIs .none "NoneType":=rfl
theorem hash_none {Q:Int->Shared->Prop} (h:Q 0xFCA86420 { s with toks:=s.toks+1 }):wpAny (model prog w) A (pyHash .none) Q E s:=by
 unfold pyHash
 have hv:[Value.none].any Value.onHeap=false:=rfl
 refine wpAny_bind ?_
 rw[cRoomFor,if_neg (by rw[hv];exact Bool.false_ne_true)];refine wpAny_pure ?_
 refine wpAny_bind (wpAny_specialOf (typeIs_none' s) F.slot_NoneType_hash.lookup ?_)
 show wpAny _ _ (if(some (Value.builtin "NoneType.__hash__") == some Value.none)=true then _ else _) Q E s
 rw[if_neg (by rw[beq_builtin_none];exact Bool.false_ne_true)]
 refine wpAny_bind (wpAny_specialOf (typeIs_none' s) F.slot_NoneType_hash.lookup ?_)
 show wpAny _ _ (callSpecialIfBoundUnlessNone? (.none) "__hash__" _ >>= _) Q E s
 refine wpAny_bind (wpAny_callSpecialIfBoundUnlessNone?_slot (typeIs_none' s) F.slot_NoneType_hash
  (wpAny_call_entry F.slot_NoneType_hash (typeIs_none' s) F.entry_NoneType_hash
   (show wpAny _ _ (do ret (<- mkInt 0xFCA86420)) _ _ s from wpAny_ret_mkInt ?_) (F.args_NoneType_hash_1 _)))
 exact wpAny_pure h
end
inductive Key where
 |inl (i:Int)|inr (x:Str)|non
 deriving DecidableEq
noncomputable def keyIs:Key->Value->Bool
 | .inl k,v=>Value.isInt k v
 | .inr x,v=>Value.isStrOf x v
 | .non,.none=>true
 | .non,_=>false
noncomputable def keyH (w:World):Key->Int
 | .inl k=>hashInt k
 | .inr x=>hashStr w x
 | .non=>0xFCA86420
theorem keyIs_shape:∀{k:Key} {v:Value},keyIs k v=true->(∃i t,k=Key.inl i/\v=Value.int i t)\/(∃x t,k=Key.inr x/\v=Value.str x t)\/(k=Key.non/\v=Value.none)
 | .inl i,v,h=>by
  obtain⟨t,e⟩:=Value.isInt_shape (k:=i) (v:=v) h
  exact .inl ⟨i,t,rfl,e⟩
 | .inr x,v,h=>by
  obtain⟨t,e⟩:=Value.isStrOf_shape (x:=x) (v:=v) h
  exact .inr (.inl ⟨x,t,rfl,e⟩)
 | .non,v,h=>by cases v<;>first|exact .inr (.inr ⟨rfl,rfl⟩)|cases h
theorem keyIs_int (i:Int) (t:Tok):keyIs (.inl i) (.int i t)=true:=by simp[keyIs,Value.isInt]
theorem keyIs_str (x:Str) (t:Tok):keyIs (.inr x) (.str x t)=true:=by simp[keyIs,Value.isStrOf]
theorem key_ll (a b:Int):decide ((Key.inl a:Key)=Key.inl b)=(a == b):=by
 by_cases e:a=b
 .rw[e,decide_eq_true rfl,beq_self_eq_true]
 .rw[decide_eq_false (fun q=>e (Key.inl.inj q)),beq_eq_false_iff_ne.mpr e]
theorem key_rr (a b:Str):decide ((Key.inr a:Key)=Key.inr b)=decide (a=b):=by
 by_cases e:a=b
 .rw[e,decide_eq_true rfl,decide_eq_true rfl]
 .rw[decide_eq_false (fun q=>e (Key.inr.inj q)),decide_eq_false e]
theorem key_no {a b:Key} (h:a≠b):decide (a=b)=false:=decide_eq_false h
noncomputable def mixKind (prog:Program) (w:World):PySem.KeyKind prog w Key where
 is:=keyIs
 hash:=keyH w
 inj:=fun v a b ha hb=>by
  rcases keyIs_shape ha with⟨i,t,rfl,rfl⟩|⟨x,t,rfl,rfl⟩|⟨rfl,rfl⟩<;>rcases keyIs_shape hb with⟨j,u,rfl,e⟩|⟨y,u,rfl,e⟩|⟨rfl,e⟩<;>
   first|rfl|(injection e with e1 _;rw[e1])|exact nomatch e
 byValue:=fun k v h=>by
  rcases keyIs_shape h with⟨i,t,rfl,rfl⟩|⟨x,t,rfl,rfl⟩|⟨rfl,rfl⟩<;>rfl
 pyHash:=fun hv h=>by
  rcases keyIs_shape hv with⟨i,t,rfl,rfl⟩|⟨x,t,rfl,rfl⟩|⟨rfl,rfl⟩
  .exact wpAny_pyHash_int h
  .exact wpAny_pyHash_str h
  .exact hash_none h
 eqBool:=fun {A E s a b u v Q} hu hv h=>by
  rcases keyIs_shape hu with⟨i,t,rfl,rfl⟩|⟨x,t,rfl,rfl⟩|⟨rfl,rfl⟩
  .rcases keyIs_shape hv with⟨j,u,rfl,rfl⟩|⟨y,u,rfl,rfl⟩|⟨rfl,rfl⟩
   .rw[key_ll]at h;exact wpAny_eqBool_int h
   .rw[key_no (a:=Key.inl i) (b:=Key.inr y) (fun q=>nomatch q)]at h;exact SeqAt.EqAt.int_str i t y u _ _ _ _ h
   .rw[key_no (a:=Key.inl i) (b:=Key.non) (fun q=>nomatch q)]at h;exact SeqAt.EqAt.int_none i t _ _ _ _ h
  .rcases keyIs_shape hv with⟨j,u,rfl,rfl⟩|⟨y,u,rfl,rfl⟩|⟨rfl,rfl⟩
   .rw[key_no (a:=Key.inr x) (b:=Key.inl j) (fun q=>nomatch q)]at h;exact SeqAt.EqAt.str_int x t j u _ _ _ _ h
   .rw[key_rr]at h;exact wpAny_eqBool_str h
   .rw[key_no (a:=Key.inr x) (b:=Key.non) (fun q=>nomatch q)]at h;exact SeqAt.EqAt.str_none x t _ _ _ _ h
  .rcases keyIs_shape hv with⟨j,u,rfl,rfl⟩|⟨y,u,rfl,rfl⟩|⟨rfl,rfl⟩
   .rw[key_no (a:=Key.non) (b:=Key.inl j) (fun q=>nomatch q)]at h;exact SeqAt.EqAt.none_int j u _ _ _ _ h
   .rw[key_no (a:=Key.non) (b:=Key.inr y) (fun q=>nomatch q)]at h;exact SeqAt.EqAt.none_str y u _ _ _ _ h
   .rw[decide_eq_true rfl]at h;exact SeqAt.EqAt.same .none _ _ _ _ h
 «strs»:=fun k x t v h=>by
  rcases keyIs_shape h with⟨i,u,rfl,e⟩|⟨y,u,rfl,e⟩|⟨rfl,e⟩
  .exact nomatch e
  .injection e with e1 _
   subst e1
   cases v<;>rfl
  .exact nomatch e
theorem mixKind_int (prog:Program) (w:World) (i:Int) (t:Tok):(mixKind prog w).is (.inl i) (.int i t)=true:=keyIs_int i t
theorem mixKind_str (prog:Program) (w:World) (x:Str) (t:Tok):(mixKind prog w).is (.inr x) (.str x t)=true:=keyIs_str x t
inductive V where
 |non|bl (b:Bool)|int (i:Int)|str (x:Str)|byt (b:Array UInt8)|flt (b:UInt64)|ref (a:Addr)|ty (n:String)
 deriving DecidableEq
noncomputable def RelV:V->Value->Prop
 | .non,u=>u=Value.none
 | .bl b,u=>u=Value.bool b
 | .int i,u=>∃t,u=Value.int i t
 | .str x,u=>∃t,u=Value.str x t
 | .byt b,u=>∃t,u=Value.bytes b t
 | .flt b,u=>∃t,u=Value.float b t
 | .ref a,u=>u=Value.ref a
 | .ty n,u=>u=Value.type n
noncomputable abbrev Vals:List V->List Value->Prop:=Paired RelV
theorem Vals.length {xs:List V} {us:List Value} (r:Vals xs us):xs.length=us.length:=Paired.length r
theorem Vals.get:∀{xs:List V} {us:List Value} {i:Nat} {x:V},Vals xs us->xs[i]?=some x->∃u,us[i]?=some u/\RelV x u
 |_,_,_,_,.nil,e=>by simp at e
 |_,_,0,_,.cons r _,e=>by simp at e;subst e;exact⟨_,rfl,r⟩
 |_,_,i+1,x,.cons _ t,e=>by
  obtain⟨u,h1,h2⟩:=Vals.get (i:=i) (x:=x) t (by simpa using e)
  exact⟨u,by simpa using h1,h2⟩
theorem Vals.set {x:V} {u:Value} (r:RelV x u):∀{xs:List V} {us:List Value} (i:Nat),Vals xs us->Vals (xs.set i x) (us.set i u)
 |_,_,_,.nil=>.nil
 |_,_,0,.cons _ t=>.cons r t
 |_,_,i+1,.cons q t=>.cons q (Vals.set r i t)
theorem Vals.append:∀{xs ys:List V} {us ws:List Value},Vals xs us->Vals ys ws->Vals (xs++ys) (us++ws)
 |_,_,_,_,.nil,s=>s
 |_,_,_,_,.cons r t,s=>.cons r (Vals.append t s)
theorem Vals.take:∀{xs:List V} {us:List Value} (n:Nat),Vals xs us->Vals (xs.take n) (us.take n)
 |_,_,0,_=>.nil
 |_,_,_+1,.nil=>.nil
 |_,_,n+1,.cons r t=>.cons r (Vals.take n t)
theorem Vals.drop:∀{xs:List V} {us:List Value} (n:Nat),Vals xs us->Vals (xs.drop n) (us.drop n)
 |_,_,0,r=>r
 |_,_,_+1,.nil=>.nil
 |_,_,n+1,.cons _ t=>Vals.drop n t
noncomputable def RelO:Option V->Option Value->Prop
 |some v,some u=>RelV v u
 |none,none=>True
 |_,_=>False
noncomputable def KV {κ:Type}:List (κ×V)->List (κ×Value)->Prop:=Paired fun(p:κ×V) (q:κ×Value)=>p.1=q.1/\RelV p.2 q.2
noncomputable def kV:Key->V
 | .inl i=>.int i
 | .inr x=>.str x
 | .non=>.non
inductive HO where
 |lst (xs:List V)
 |tup (xs:List V)
 |dK (kvs:List (Key×V))|dT (kvs:List (List Key×V))
 |set (S:Int->Bool) (n:Nat)
 |ins (C dx:Addr) (fs:List (Str×V))
 |own (x:Addr)
 |xd (fs:List (Str×V))
 |met (f x:Addr)
 |rng (lo hi:Int)
 |frz (o:Obj) (u:HO)
 |tbl (ps:Array Value)
 |ext (φ:Heap->Prop)
noncomputable abbrev Hp:=Addr->Option HO
noncomputable def upd (H:Hp) (a:Addr) (o:HO):Hp:=fun b=>if b=a then some o else H b
theorem upd_same {H:Hp} {a:Addr} {o:HO}:upd H a o a=some o:=by unfold upd;rw[if_pos rfl]
theorem upd_ne {H:Hp} {a b:Addr} {o:HO} (h:b≠a):upd H a o b=H b:=by unfold upd;rw[if_neg h]
theorem upd_upd {H:Hp} {a:Addr} {o u:HO}:upd (upd H a o) a u=upd H a u:=by
 funext b;unfold upd;split<;>rfl
theorem ne_of_none {H:Hp} {a b:Addr} {o:HO} (h:H a=some o) (h':H b=none):a≠b:=by
 intro e;subst e;rw[h]at h';cases h'
def TupD (h:Heap) (a:Addr) (items:Array Value):Prop:=∃o,h.get? a=some o/\o.cls=.type "tuple"/\(∃n,o.data=.seq items n)/\o.dict=none
theorem TupD.tup {h:Heap} {a:Addr} {items:Array Value} (x:TupD h a items):IsTup h a items:=let⟨o,e,c,⟨n,d⟩,_⟩:=x;⟨o,e,c,n,d⟩
theorem TupD.new (h:Heap) (items:Array Value):TupD (h.push { cls:=.type "tuple",data:=.seq items }) h.objs.size items:=⟨_,Heap.get?_push_size _ rfl,rfl,⟨_,rfl⟩,rfl⟩
section
variable (P:Program) (w:World)
noncomputable def ObjOk (H:Hp) (h:Heap) (a:Addr):HO->Prop
 | .lst xs=>xs.length<=sizeLine/\∃(its:List Value) (n:Nat),Vals xs its/\h.get? a=some { cls:=.type "list",data:=.seq its.toArray n }
 | .tup xs=>xs.length<=sizeLine/\∃its:List Value,Vals xs its/\TupD h a its.toArray
 | .dK kvs=>kvs.length<=sizeLine/\(a == sysModules)=false/\∃vs,KV kvs vs/\h.DictOf (mixKind P w) a vs
 | .dT kvs=>kvs.length<=sizeLine/\(a == sysModules)=false/\∃xs:List (List Key×Addr×Value),
   Paired (fun(p:List Key×V) (q:List Key×Addr×Value)=>p.1=q.1/\H q.2.1=some (.tup (p.1.map kV))/\RelV p.2 q.2.2) kvs xs/\
   ∃o es ep,h.get? a=some o/\o.ExactDict/\o.data=.dict es ep/\es.toList=xs.map (entryOfKey (tupleKind (mixKind P w)))/\(xs.map (·.1)).Nodup
 | .set S n=>h.SetOf (intKind P w) a S n
 | .ins C dx fs=>H dx=some (.own a)/\fs.length<=1000/\dx≠a/\h.get? a=some (W.instObj C dx)/\
   ∃mA,h.Ns1 dx mA/\(∀f,RelO (fs.lookup f) (mA f))/\PySem.Within mA (fs.map (·.1))
 | .own _=>∃o,h.get? a=some o
 | .xd fs=>∃mA,h.Ns1 a mA/\∀f,RelO (fs.lookup f) (mA f)
 | .rng lo hi=>∃t u v,h.get? a=some { cls:=.type "range",data:=.fields #[.int lo t,.int hi u,.int 1 v] }
 | .frz o u=>h.get? a=some o/\ObjOk H h a u
 | .tbl ps=>h.get? a=some { cls:=.none,data:=.fields ps }
 | .met f x=>h.get? a=some (W.methodObj (.ref f) (.ref x))
 | .ext φ=>φ h/\(∃o,h.get? a=some o)/\∀h1 h2:Heap,φ h1->(∀o,h1.get? a=some o->h2.get? a=some o)->φ h2
def HOk (H:Hp) (h:Heap):Prop:=∀a o,H a=some o->ObjOk P w H h a o
end
section
variable {P:Program} {w:World} {H H':Hp} {h h':Heap} {a:Addr} {o:HO}
theorem ObjOk.lt (x:ObjOk P w H h a o):a<h.objs.size:=by
 cases o with
 |lst xs=>obtain⟨_,_,_,_,e⟩:=x;exact Heap.lt_size e
 |tup xs=>obtain⟨_,_,_,p⟩:=x;exact p.tup.lt
 |dK kvs=>obtain⟨_,_,_,_,o,_,_,e,_⟩:=x;exact Heap.lt_size e
 |dT kvs=>obtain⟨_,_,_,_,o,_,_,e,_⟩:=x;exact Heap.lt_size e
 |set S n=>obtain⟨o,_,_,_,e,_⟩:=x;exact Heap.lt_size e
 |ins C dx fs=>obtain⟨_,_,_,e,_⟩:=x;exact Heap.lt_size e
 |own y=>obtain⟨_,e⟩:=x;exact Heap.lt_size e
 |xd fs=>obtain⟨_,⟨_,_,_,e,_⟩,_⟩:=x;exact Heap.lt_size e
 |rng lo hi=>obtain⟨_,_,_,e⟩:=x;exact Heap.lt_size e
 |frz ob u=>obtain⟨e,_⟩:=x;exact Heap.lt_size e
 |tbl ps=>exact Heap.lt_size (show h.get? a=some _ from x)
 |met f y=>exact Heap.lt_size (show h.get? a=some _ from x)
 |ext φ=>obtain⟨_,⟨_,e⟩,_⟩:=x;exact Heap.lt_size e
theorem Paired.mapP {α β:Type} {F G:α->β->Prop}:∀{l₁:List α} {l₂:List β},Paired F l₁ l₂->(∀a b,F a b->G a b)->Paired G l₁ l₂
 |_,_,.nil,_=>.nil
 |_,_,.cons r t,f=>.cons (f _ _ r) (Paired.mapP t f)
theorem ObjOk.stay (x:ObjOk P w H h a o) (k:∀b u,(b=a\/H b=some (.own a))->h.get? b=some u->h'.get? b=some u)
  (ho:∀b,H b=some (.own a)->H' b=some (.own a)) (ht:∀b xs,H b=some (.tup xs)->H' b=some (.tup xs)):ObjOk P w H' h' a o:=by
 induction o with
 |lst xs=>obtain⟨z,its,n,r,e⟩:=x;exact⟨z,its,n,r,k _ _ (.inl rfl) e⟩
 |tup xs=>obtain⟨z,its,r,ob,e,c⟩:=x;exact⟨z,its,r,ob,k _ _ (.inl rfl) e,c⟩
 |dK kvs=>obtain⟨z,y,vs,r,ob,es,ep,e,c⟩:=x;exact⟨z,y,vs,r,ob,es,ep,k _ _ (.inl rfl) e,c⟩
 |dT kvs=>
  obtain⟨z,y,xs,r,ob,es,ep,e,c⟩:=x
  exact⟨z,y,xs,Paired.mapP r fun p q z=>⟨z.1,ht _ _ z.2.1,z.2.2⟩,ob,es,ep,k _ _ (.inl rfl) e,c⟩
 |set S n=>obtain⟨ob,es,ep,t,e,c⟩:=x;exact⟨ob,es,ep,t,k _ _ (.inl rfl) e,c⟩
 |ins C dx fs=>
  obtain⟨d,z,ne,e,mA,⟨od,es,ep,e2,c⟩,r⟩:=x
  exact⟨ho _ d,z,ne,k _ _ (.inl rfl) e,mA,⟨od,es,ep,k _ _ (.inr d) e2,c⟩,r⟩
 |own y=>obtain⟨ob,e⟩:=x;exact⟨ob,k _ _ (.inl rfl) e⟩
 |xd fs=>obtain⟨mA,⟨od,es,ep,e,c⟩,r⟩:=x;exact⟨mA,⟨od,es,ep,k _ _ (.inl rfl) e,c⟩,r⟩
 |rng lo hi=>obtain⟨t,u,v,e⟩:=x;exact⟨t,u,v,k _ _ (.inl rfl) e⟩
 |frz ob u ih=>obtain⟨e,q⟩:=x;exact⟨k _ _ (.inl rfl) e,ih q⟩
 |tbl ps=>
  have e:h.get? a=some { cls:=.none,data:=.fields ps }:=x
  show h'.get? a=some { cls:=.none,data:=.fields ps }
  exact k a _ (.inl rfl) e
 |met f y=>
  have e:h.get? a=some (W.methodObj (.ref f) (.ref y)):=x
  show h'.get? a=some (W.methodObj (.ref f) (.ref y))
  exact k a _ (.inl rfl) e
 |ext φ=>obtain⟨p,⟨o,e⟩,st⟩:=x;exact⟨st _ _ p fun o q=>k _ _ (.inl rfl) q,⟨o,k _ _ (.inl rfl) e⟩,st⟩
theorem HOk.lt (x:HOk P w H h) (e:H a=some o):a<h.objs.size:=(x a o e).lt
theorem HOk.fresh (x:HOk P w H h) (e:h.objs.size<=a):H a=none:=by
 cases q:H a with
 |none=>rfl
 |some u=>exact absurd (Nat.lt_of_lt_of_le (x.lt q) e) (Nat.lt_irrefl _)
theorem HOk.kept (x:HOk P w H h) (k:∀b u,h.get? b=some u->h'.get? b=some u):HOk P w H h':=fun a o e=>
 (x a o e).stay (fun b u _ q=>k b u q) (fun _ q=>q) fun _ _ q=>q
theorem HOk.laid (x:HOk P w H h) (k:∀b u,h.get? b=some u->h'.get? b=some u) (hp:h.objs.size<=a) (new:ObjOk P w (upd H a o) h' a o):HOk P w (upd H a o) h':=fun b u e=>by
 have hn:=x.fresh hp
 by_cases hb:b=a
 .subst hb;rw[upd_same]at e;cases e;exact new
 .rw[upd_ne hb]at e
  exact(x b u e).stay (fun c v _ q=>k c v q) (fun c q=>by rw[upd_ne (ne_of_none q hn)];exact q) fun c xs q=>by rw[upd_ne (ne_of_none q hn)];exact q
end
def Rd (H:Hp) (a:Addr) (u:HO):Prop:=H a=some u\/∃o,H a=some (.frz o u)
theorem Rd.ok {P:Program} {w:World} {H:Hp} {h:Heap} {a:Addr} {u:HO} (r:Rd H a u) (x:HOk P w H h):ObjOk P w H h a u:=by
 rcases r with r|⟨o,r⟩
 .exact x a u r
 .obtain⟨_,q⟩:=x a _ r
  exact q
noncomputable def Mut:Option HO->Prop
 |some (.lst _)=>True
 |some (.dK _)=>True
 |some (.dT _)=>True
 |some (.set _ _)=>True
 |some (.ins _ _ _)=>True
 |some (.ext _)=>True
 |_=>False
section
variable {P:Program} {w:World} {H:Hp} {h h':Heap} {x e:Addr} {o':HO}
theorem HOk.write (ok:HOk P w H h) (mu:Mut (H x)) (he:e=x\/H e=some (.own x)) (k:∀b u,b≠e->h.get? b=some u->h'.get? b=some u) (heo:∃u,h'.get? e=some u)
  (new:ObjOk P w (upd H x o') h' x o'):HOk P w (upd H x o') h':=fun b u q=>by
 have nown:∀c y,H c=some (.own y)->c≠x:=fun c y r z=>by subst z;rw[r]at mu;exact mu
 have ntup:∀c xs,H c=some (.tup xs)->c≠x:=fun c xs r z=>by subst z;rw[r]at mu;exact mu
 by_cases hb:b=x
 .subst hb;rw[upd_same]at q;cases q;exact new
 .rw[upd_ne hb]at q
  by_cases hbe:b=e
  .have q':H b=some (.own x):=by
    rcases he with z|z
    .exact absurd (hbe.trans z) hb
    .rw[hbe];exact z
   rw[q]at q';cases q'
   obtain⟨v,hv⟩:=heo
   exact⟨v,by rw[hbe];exact hv⟩
  .refine(ok b u q).stay (fun c v hc r=>k c v ?_ r) (fun c r=>by rw[upd_ne (nown c b r)];exact r) fun c xs r=>by rw[upd_ne (ntup c xs r)];exact r
   rcases hc with rfl|hc
   .exact hbe
   .rintro rfl
    rcases he with z|z
    .exact nown c b hc z
    .rw[hc]at z;cases z;exact hb rfl
end
structure Un (fs ex:List Addr) (H H':Hp) (h h':Heap):Prop where
 keep:∀b o,h.get? b=some o->H b=none->b∉fs->b∉ex->h'.get? b=some o
 slot:∀b o,h.get? b=some o->H b=none->b∈fs->b∉ex->∃sl,h'.get? b=some { o with slots:=sl }
 free:∀b o,h.get? b=some o->H b=none->b∉ex->H' b=none
 there:∀b o,h.get? b=some o->b∉ex->∃o',h'.get? b=some o'
 tups:∀b xs,H b=some (.tup xs)->H' b=some (.tup xs)
 frzs:∀b o u,H b=some (.frz o u)->H' b=some (.frz o u)
 tbls:∀b ps,H b=some (.tbl ps)->∃more,H' b=some (.tbl (ps++more))
section
variable {fs fs' ex ex':List Addr} {H H1 H2:Hp} {h h1 h2 h':Heap} {a x e:Addr} {o:HO}
theorem Un.any (u:Un fs ex H H1 h h1) {b:Addr} {ob:Obj} (q:h.get? b=some ob) (n:H b=none) (hx:b∉ex):∃sl,h1.get? b=some { ob with slots:=sl }:=by
 by_cases hb:b∈fs
 .exact u.slot b ob q n hb hx
 .exact⟨ob.slots,u.keep b ob q n hb hx⟩
theorem Un.kept (k:∀b u,h.get? b=some u->h'.get? b=some u):Un fs ex H H h h':=
 ⟨fun b ob q _ _ _=>k b ob q,fun b ob q _ _ _=>⟨ob.slots,k b ob q⟩,fun _ _ _ n _=>n,fun b ob q _=>⟨ob,k b ob q⟩,fun _ _ q=>q,fun _ _ _ q=>q,fun _ ps q=>⟨#[],by rw[q];simp⟩⟩
theorem Un.refl:Un fs ex H H h h:=Un.kept fun _ _ q=>q
theorem Un.laid (k:∀b u,h.get? b=some u->h'.get? b=some u) (hp:h.objs.size<=a) (hn:H a=none):Un fs ex H (upd H a o) h h' where
 keep:=fun b u q _ _ _=>k b u q
 slot:=fun b u q _ _ _=>⟨u.slots,k b u q⟩
 free:=fun b u q n _=>by rw[upd_ne (Nat.ne_of_lt (Nat.lt_of_lt_of_le (Heap.lt_size q) hp))];exact n
 there:=fun b u q _=>⟨u,k b u q⟩
 tups:=fun b xs q=>by rw[upd_ne (ne_of_none q hn)];exact q
 frzs:=fun b u xs q=>by rw[upd_ne (ne_of_none q hn)];exact q
 tbls:=fun b ps q=>⟨#[],by rw[upd_ne (ne_of_none q hn),q];simp⟩
theorem Un.write (mu:Mut (H x)) (he:e=x\/H e=some (.own x)) (k:∀b u,b≠e->h.get? b=some u->h'.get? b=some u) (heo:∃u,h'.get? e=some u):Un fs ex H (upd H x o) h h':=by
 have hx:∀b,H b=none->b≠x:=fun b n z=>by subst z;rw[n]at mu;exact mu
 have hb:∀b,H b=none->b≠e:=fun b n z=>by
  subst z
  rcases he with r|r
  .exact hx b n r
  .rw[n]at r;cases r
 have hm:∀b u,H b=some u->¬Mut (some u)->b≠x:=fun b u q nm z=>by subst z;rw[q]at mu;exact nm mu
 refine⟨fun b u q n _ _=>k b u (hb b n) q,fun b u q n _ _=>⟨u.slots,k b u (hb b n) q⟩,fun b u q n _=>by rw[upd_ne (hx b n)];exact n,fun b u q _=>?_,
  fun b xs q=>by rw[upd_ne (hm b _ q fun z=>z)];exact q,fun b u xs q=>by rw[upd_ne (hm b _ q fun z=>z)];exact q,fun b ps q=>⟨#[],by rw[upd_ne (hm b _ q fun z=>z),q];simp⟩⟩
 by_cases hbe:b=e
 .subst hbe;exact heo
 .exact⟨u,k b u hbe q⟩
end
noncomputable def trk (h:Heap) (H:Hp):List Addr:=(List.range h.objs.size).filter fun a=>(H a).isSome
noncomputable def hidT (h:Heap) (H:Hp):Heap:=W.hideAll h (trk h H)
theorem hidT_size (h:Heap) (H:Hp):(hidT h H).objs.size=h.objs.size:=W.hideAll_size _ _
theorem hidT_get {h:Heap} {H:Hp} {b:Addr} {o:Obj} (e:h.get? b=some o) (n:H b=none):(hidT h H).get? b=some o:=
 W.hideAll_get _ e fun hm=>by
  have q:(H b).isSome=true:=(List.mem_filter.mp hm).2
  rw[n]at q;simp at q
theorem of_hidT {h:Heap} {H:Hp} {b:Addr} {o:Obj} (e:(hidT h H).get? b=some o):h.get? b=some o/\H b=none:=by
 have e':h.get? b=some o:=W.of_hideAll (trk h H) e
 refine⟨e',?_⟩
 cases q:H b with
 |none=>rfl
 |some x=>
  have hm:b∈trk h H:=List.mem_filter.mpr ⟨List.mem_range.mpr (Heap.lt_size e'),by simp[q]⟩
  have z:(hidT h H).get? b=none:=W.hideAll_none (trk h H) hm
  rw[z]at e;cases e
noncomputable def allNews (g h:Heap) (L:Addr):List (Addr×Obj):=(List.range h.objs.size).filterMap fun a=>if a=L\/(g.get? a).isSome=true then none else(h.get? a).map fun o=>(a,o)
noncomputable def rest (g h:Heap) (L d:Addr):List (Addr×Obj):=(allNews g h L).filter fun p=>decide (p.1≠d)
structure Mod (K:W.Frag) (mg:Str->Option Value) (base:Heap):Prop where
 kin:K.In base
 glob:base.Ns mainGlobals mg
 blt:∃mb,base.Ns builtinsNs mb/\∀x:Str,x≠"__name__"->mb x=bootBuiltins x
 nolimit:base.NoLimit
set_option genInjectivity false
structure Cx where
 prog:Program
 w:World
 K:W.Frag
 mg:Str->Option Value
 base:Heap
 A:Around
 N:List Str
 s₀:Shared
 H₀:Hp
 env:Env
 outer:List Env
 stack:List Env
 ex:List Addr
 fn:Str->Bool
 calm:Bool
 pn:List (Addr×Obj)
 xe:Value->Shared->Prop
set_option genInjectivity true
noncomputable def frs (l:List Env):List Addr:=l.filterMap (·.frame)
noncomputable abbrev Cx.fs (X:Cx):List Addr:=frs X.outer
def Vis (sc:Scope) (x:Str):Prop:=sc.names.lookup x=some .local\/sc.names.lookup x=some .cell\/sc.names.lookup x=some .free
def Loc (sc:Scope) (x:Str):Prop:=sc.names.lookup x=some .local\/sc.names.lookup x=some .cell
def Look (env:Env) (h:Heap) (m:Str->Option Value) (x:Str) (u:Value):Prop:=
 (env.kindOf x=some .local/\m x=some u)\/((env.kindOf x=some .cell\/env.kindOf x=some .free)/\∃c,env.cells.lookup x=some c/\h.IsCell c (some u))
structure Cx.Ok (X:Cx):Prop where
 mod:Mod X.K X.mg X.base
 kind:X.env.scope.kind=.function
 glob:X.env.globals=mainGlobals
 blt:X.env.builtins=builtinsNs
 above:X.s₀.heap.objs.size<=X.env.locals
 inj:∀x y c,X.env.cells.lookup x=some c->X.env.cells.lookup y=some c->x=y
 has:∀x,(X.env.kindOf x=some .cell\/X.env.kindOf x=some .free)->∃c,X.env.cells.lookup x=some c
 cab:∀x c,X.fn x=true->X.env.cells.lookup x=some c->X.s₀.heap.objs.size<=c
 hd:X.calm=true->X.A.handled=none
 frames:X.A.frames=some X.stack
 stk:X.stack=X.outer\/(X.stack=X.env :: X.outer/\X.env.frame=some X.env.locals)
 exf:∀b∈X.ex,b≠X.env.locals/\∀x c,X.env.cells.lookup x=some c->c≠b
 bs:∀b o,X.base.get? b=some o->X.s₀.heap.get? b=some o/\X.H₀ b=none
 bsz:X.base.objs.size<=X.s₀.heap.objs.size
 noex:∀b o,X.base.get? b=some o->b∉X.ex
 exfs:∀b∈X.ex,b∉X.fs
 funs:X.s₀.heap.FunFrames X.base X.outer
 frf:∀b∈X.fs,X.H₀ b=none
structure Inv (X:Cx) (pins:List (Addr×Obj)) (σ:List (Option V)) (H:Hp) (s:Shared):Prop where
 ok:X.Ok
 os:s.os=X.s₀.os
 bare:AllBare s.gens
 base:Un X.fs X.ex X.H₀ H X.s₀.heap s.heap
 loc:∃m,s.heap.Ns X.env.locals m/\∀(i:Nat) (x:Str) (v:V),X.N[i]?=some x->σ[i]?=some (some v)->Vis X.env.scope x->∃u,RelV v u/\Look X.env s.heap m x u
 cell:∀x c,X.env.cells.lookup x=some c->∃v,s.heap.IsCell c v
 free:H X.env.locals=none
 freeC:∀x c,X.env.cells.lookup x=some c->H c=none
 pin:∀p∈X.pn++pins,s.heap.get? p.1=some p.2/\H p.1=none/\p.1≠X.env.locals/\p.1∉X.fs/\∀v,p.2.data≠.cell v
 hok:HOk X.prog X.w H s.heap
 len:σ.length=X.N.length
section
variable {X:Cx} {pins:List (Addr×Obj)} {σ:List (Option V)} {H H':Hp} {s:Shared} {h':Heap}
theorem Cx.Ok.nofr (ok:X.Ok) {b:Addr} {o:Obj} (e:X.base.get? b=some o):b∉X.fs:=fun hb=>by
 have:=(ok.funs.mem hb).1
 rw[e]at this;cases this
theorem Inv.bs (I:Inv X pins σ H s):∀b o,X.base.get? b=some o->s.heap.get? b=some o/\H b=none:=fun b o e=>
 ⟨I.base.keep b o (I.ok.bs b o e).1 (I.ok.bs b o e).2 (I.ok.nofr e) (I.ok.noex b o e),I.base.free b o (I.ok.bs b o e).1 (I.ok.bs b o e).2 (I.ok.noex b o e)⟩
theorem Inv.bk (I:Inv X pins σ H s):∀b o,X.base.get? b=some o->s.heap.get? b=some o:=fun b o e=>(I.bs b o e).1
theorem Inv.mod (I:Inv X pins σ H s):Mod X.K X.mg X.base:=I.ok.mod
theorem Inv.kIn (I:Inv X pins σ H s):X.K.In s.heap:=I.ok.mod.kin.keeps I.bk
theorem Inv.fr (I:Inv X pins σ H s):∃m,Fr X.base X.env.locals s.heap m:=
 let⟨m,hn,_⟩:=I.loc
 ⟨m,hn,I.bk,Nat.le_trans I.ok.bsz I.ok.above⟩
theorem Inv.lt (I:Inv X pins σ H s):X.env.locals<s.heap.objs.size:=let⟨_,hn,_⟩:=I.loc;hn.lt
theorem Inv.sz (I:Inv X pins σ H s):X.s₀.heap.objs.size<=s.heap.objs.size:=Nat.le_trans I.ok.above (Nat.le_of_lt I.lt)
theorem Inv.nofs (I:Inv X pins σ H s) {a:Addr} (h:s.heap.objs.size<=a):a∉X.fs:=fun hb=>by
 obtain⟨_,o,ho,_⟩:=I.ok.funs.mem hb
 exact absurd (Nat.lt_of_lt_of_le (Heap.lt_size ho) (Nat.le_trans I.sz h)) (Nat.lt_irrefl _)
theorem Inv.cne (I:Inv X pins σ H s):∀x c,X.env.cells.lookup x=some c->c≠X.env.locals:=fun x c e z=>by
 obtain⟨v,o,ho,hd⟩:=I.cell x c e
 obtain⟨m,⟨o',es,ep,ho',hd',_⟩,_⟩:=I.loc
 rw[z,ho']at ho;cases ho;rw[hd']at hd;cases hd
theorem Inv.funs (I:Inv X pins σ H s):s.heap.FunFrames X.base X.outer:=by
 have all:∀(l:List Env),(∀b∈frs l,b∈X.fs)->X.s₀.heap.FunFrames X.base l->s.heap.FunFrames X.base l:=by
  intro l
  induction l with
  |nil=>intro _ _;trivial
  |cons env r ih=>
   intro hs hl
   obtain⟨hk,⟨L,o,hf,hn,ho,hd⟩,hr⟩:=hl
   have hL:L∈X.fs:=hs L (by unfold frs;rw[List.filterMap_cons,hf];exact List.mem_cons_self)
   obtain⟨sl,e⟩:=I.base.slot L o ho (I.ok.frf L hL) hL fun z=>I.ok.exfs L z hL
   exact⟨hk,⟨L,_,hf,hn,e,hd⟩,ih (fun b hb=>hs b (by unfold frs;rw[List.filterMap_cons,hf];exact List.mem_cons_of_mem _ hb)) hr⟩
 exact all X.outer (fun _ hb=>hb) I.ok.funs
theorem Inv.stack (I:Inv X pins σ H s):s.heap.FunFrames X.base X.stack:=by
 rcases I.ok.stk with e|⟨e,hf⟩
 .rw[e];exact I.funs
 .rw[e]
  obtain⟨m,hn,_⟩:=I.loc
  refine .cons (by rw[I.ok.kind];decide) hf hn ?_ I.funs
  exact Heap.get?_none_of_le (Nat.le_trans I.ok.bsz I.ok.above)
theorem Inv.stkSub (I:Inv X pins σ H s):∀b∈frs X.stack,b∈X.env.locals :: X.fs:=fun b hb=>by
 rcases I.ok.stk with e|⟨e,hf⟩
 .rw[e]at hb;exact List.mem_cons_of_mem _ hb
 .rw[e]at hb
  unfold frs at hb
  rw[List.filterMap_cons,hf]at hb
  exact hb
theorem Inv.stkFree (I:Inv X pins σ H s):∀b∈frs X.stack,H b=none:=fun b hb=>by
 rcases List.mem_cons.mp (I.stkSub b hb)with e|hb
 .rw[e];exact I.free
 .obtain⟨_,o,ho,_⟩:=I.ok.funs.mem hb
  exact I.base.free b o ho (I.ok.frf b hb) fun z=>I.ok.exfs b z hb
theorem Inv.step {g':Array GenState} {t':Nat} {d':Drawn} {ch:List Addr} (I:Inv X pins σ H s)
  (hch:∀b∈ch,(b∈X.ex\/X.s₀.heap.objs.size<=b)/\b≠X.env.locals/\(∀x c,X.env.cells.lookup x=some c->c≠b)/\∀p∈X.pn++pins,p.1≠b)
  (keep:∀b o,b≠X.env.locals->b∉X.fs->b∉ch->s.heap.get? b=some o->H b=none->h'.get? b=some o)
  (slot:∀b o,b≠X.env.locals->b∈X.fs->b∉ch->s.heap.get? b=some o->H b=none->∃sl,h'.get? b=some { o with slots:=sl }) (free:∀b o,b∉ch->s.heap.get? b=some o->H b=none->H' b=none)
  (there:∀b o,b∉ch->s.heap.get? b=some o->∃o',h'.get? b=some o')
  (tups:∀b xs,H b=some (.tup xs)->H' b=some (.tup xs)) (frzs:∀b o u,H b=some (.frz o u)->H' b=some (.frz o u)) (tbls:∀b ps,H b=some (.tbl ps)->∃more,H' b=some (.tbl (ps++more)))
  (ns:∀m,s.heap.Ns X.env.locals m->h'.Ns X.env.locals m) (hok:HOk X.prog X.w H' h') (hg:AllBare g'):
  Inv X pins σ H' { s with heap:=h',gens:=g',drawn:=d',toks:=t' }:=by
 have neL:∀b o,X.s₀.heap.get? b=some o->b≠X.env.locals:=fun b o e=>Nat.ne_of_lt (Nat.lt_of_lt_of_le (Heap.lt_size e) I.ok.above)
 have neC:∀b o,X.s₀.heap.get? b=some o->b∉X.ex->b∉ch:=fun b o e hx hb=>by
  rcases(hch b hb).1 with z|z
  .exact hx z
  .exact absurd (Nat.lt_of_lt_of_le (Heap.lt_size e) z) (Nat.lt_irrefl _)
 have cellK:∀x c,X.env.cells.lookup x=some c->∀v,s.heap.IsCell c v->h'.IsCell c v:=fun x c e v ⟨o,ho,hd⟩=>by
  have nch:c∉ch:=fun z=>(hch c z).2.2.1 x c e rfl
  by_cases hc:c∈X.fs
  .obtain⟨sl,q⟩:=slot c o (I.cne x c e) hc nch ho (I.freeC x c e)
   exact⟨_,q,hd⟩
  .exact⟨o,keep c o (I.cne x c e) hc nch ho (I.freeC x c e),hd⟩
 refine⟨I.ok,I.os,hg,⟨fun b o e n hb hx=>?_,fun b o e n hb hx=>?_,fun b o e n hx=>?_,fun b o e hx=>?_,fun b xs e=>tups b xs (I.base.tups b xs e),fun b o xs e=>frzs b o xs (I.base.frzs b o xs e),fun b ps e=>?_⟩,?_,fun x c e=>?_,?_,fun x c e=>?_,fun p hp=>?_,hok,I.len⟩
 .exact keep b o (neL b o e) hb (neC b o e hx) (I.base.keep b o e n hb hx) (I.base.free b o e n hx)
 .obtain⟨sl,e1⟩:=I.base.slot b o e n hb hx
  obtain⟨sl',e2⟩:=slot b _ (neL b o e) hb (neC b o e hx) e1 (I.base.free b o e n hx)
  exact⟨sl',e2⟩
 .obtain⟨o',e1⟩:=I.base.there b o e hx
  exact free b o' (neC b o e hx) e1 (I.base.free b o e n hx)
 .obtain⟨o',e1⟩:=I.base.there b o e hx
  exact there b o' (neC b o e hx) e1
 .obtain⟨m1,e1⟩:=I.base.tbls b ps e
  obtain⟨m2,e2⟩:=tbls b _ e1
  exact⟨m1++m2,by rw[e2,Array.append_assoc]⟩
 .obtain⟨m,hn,hl⟩:=I.loc
  refine⟨m,ns m hn,fun i x v e1 e2 e3=>?_⟩
  obtain⟨u,r,l⟩:=hl i x v e1 e2 e3
  refine⟨u,r,?_⟩
  rcases l with l|⟨k,c,e,z⟩
  .exact .inl l
  .exact .inr ⟨k,c,e,cellK x c e _ z⟩
 .obtain⟨v,z⟩:=I.cell x c e
  exact⟨v,cellK x c e v z⟩
 .obtain⟨m,⟨o,_,_,ho,_⟩,_⟩:=I.loc
  exact free _ o (fun z=>(hch _ z).2.1 rfl) ho I.free
 .obtain⟨v,o,ho,hd⟩:=I.cell x c e
  exact free c o (fun z=>(hch c z).2.2.1 x c e rfl) ho (I.freeC x c e)
 .obtain⟨e,n,ne,nf,d⟩:=I.pin p hp
  have nch:p.1∉ch:=fun z=>(hch p.1 z).2.2.2 p hp rfl
  exact⟨keep p.1 p.2 ne nf nch e n,free p.1 p.2 nch e n,ne,nf,d⟩
theorem Inv.un {t':Nat} (I:Inv X pins σ H s) (u:Un X.fs [] H H' s.heap h') (hok:HOk X.prog X.w H' h'):Inv X pins σ H' { s with heap:=h',toks:=t' }:=by
 obtain⟨m,⟨o,es,ep,ho,r⟩,_⟩:=id I.loc
 obtain⟨sl,hL⟩:=u.any ho I.free (by simp)
 exact I.step (g':=s.gens) (d':=s.drawn) (ch:=[]) (fun _ z=>nomatch z) (fun b o _ hb _ e n=>u.keep b o e n hb (by simp)) (fun b o _ hb _ e n=>u.slot b o e n hb (by simp)) (fun b o _ e n=>u.free b o e n (by simp)) (fun b o _ e=>u.there b o e (by simp)) u.tups u.frzs u.tbls (fun m' hm=>by
  obtain⟨o',es',ep',ho',r'⟩:=hm
  rw[ho]at ho';cases ho'
  exact⟨_,es',ep',hL,r'⟩) hok I.bare
theorem Inv.call {g':Array GenState} {t':Nat} {d':Drawn} {ch:List Addr} (I:Inv X pins σ H s) (u:Un (frs X.stack) ch H H' s.heap h') (hok:HOk X.prog X.w H' h') (hg:AllBare g')
  (hch:∀b∈ch,(b∈X.ex\/X.s₀.heap.objs.size<=b)/\b≠X.env.locals/\(∀x c,X.env.cells.lookup x=some c->c≠b)/\∀p∈X.pn++pins,p.1≠b):
  Inv X pins σ H' { s with heap:=h',gens:=g',drawn:=d',toks:=t' }:=by
 obtain⟨m,⟨o,es,ep,ho,r⟩,_⟩:=id I.loc
 obtain⟨sl,hL⟩:=u.any ho I.free fun z=>(hch _ z).2.1 rfl
 exact I.step (ch:=ch) hch (fun b o hL hb hc e n=>u.keep b o e n (fun z=>(List.mem_cons.mp (I.stkSub b z)).elim hL hb) hc) (fun b o _ _ hc e n=>u.any e n hc) (fun b o hc e n=>u.free b o e n hc) (fun b o hc e=>u.there b o e hc) u.tups u.frzs u.tbls (fun m' hm=>by
  obtain⟨o',es',ep',ho',r'⟩:=hm
  rw[ho]at ho';cases ho'
  exact⟨_,es',ep',hL,r'⟩) hok hg
theorem Inv.turned {t':Nat} {it:Addr} (I:Inv X pins σ H s) (k:∀b o,b≠it->s.heap.get? b=some o->h'.get? b=some o) (hn:H it=none) (hL:it≠X.env.locals)
  (h1:it∈X.ex\/X.s₀.heap.objs.size<=it) (h2:∀x c,X.env.cells.lookup x=some c->c≠it) (h3:∀p∈X.pn++pins,p.1≠it):Inv X pins σ H { s with heap:=h',toks:=t' }:=by
 have nit:∀b u,H b=some u->b≠it:=fun b u e z=>by rw[z,hn]at e;cases e
 refine I.step (g':=s.gens) (d':=s.drawn) (ch:=[it]) (fun b hb=>?_) (fun b o _ _ hc e _=>k b o (fun z=>hc (by simp[z])) e) (fun b o _ _ hc e _=>⟨o.slots,k b o (fun z=>hc (by simp[z])) e⟩) (fun _ _ _ _ n=>n)
  (fun b o hc e=>⟨o,k b o (fun z=>hc (by simp[z])) e⟩) (fun _ _ e=>e) (fun _ _ _ e=>e) (fun b ps e=>⟨#[],by rw[e];simp⟩) (fun m hm=>?_) (fun b u e=>?_) I.bare
 .have e:b=it:=by simpa using hb
  subst e
  exact⟨h1,hL,h2,h3⟩
 .obtain⟨o,es,ep,ho,r⟩:=hm
  exact⟨o,es,ep,k _ o (Ne.symm hL) ho,r⟩
 .refine(I.hok b u e).stay (fun c v hc q=>k c v ?_ q) (fun _ q=>q) fun _ _ q=>q
  rcases hc with z|z
  .rw[z];exact nit b u e
  .exact nit c _ z
theorem Inv.tok (I:Inv X pins σ H s) (t:Nat):Inv X pins σ H { s with toks:=t }:=I.un (h':=s.heap) (t':=t) Un.refl I.hok
theorem Inv.kept {t':Nat} (I:Inv X pins σ H s) (k:∀b u,s.heap.get? b=some u->h'.get? b=some u):Inv X pins σ H { s with heap:=h',toks:=t' }:=I.un (Un.kept k) (I.hok.kept k)
theorem Inv.laid {a:Addr} {o:HO} {t':Nat} (I:Inv X pins σ H s) (k:∀b u,s.heap.get? b=some u->h'.get? b=some u) (hp:s.heap.objs.size<=a) (new:ObjOk X.prog X.w (upd H a o) h' a o):
  Inv X pins σ (upd H a o) { s with heap:=h',toks:=t' }:=I.un (Un.laid k hp (I.hok.fresh hp)) (I.hok.laid k hp new)
theorem Inv.write {x e:Addr} {o:HO} {t':Nat} (I:Inv X pins σ H s) (mu:Mut (H x)) (he:e=x\/H e=some (.own x)) (k:∀b u,b≠e->s.heap.get? b=some u->h'.get? b=some u) (heo:∃u,h'.get? e=some u)
  (new:ObjOk X.prog X.w (upd H x o) h' x o):Inv X pins σ (upd H x o) { s with heap:=h',toks:=t' }:=I.un (Un.write mu he k heo) (I.hok.write mu he k heo new)
theorem Inv.weak {σ':List (Option V)} (I:Inv X pins σ H s) (hl:σ'.length=σ.length) (w:∀(i:Nat) v,σ'[i]?=some (some v)->σ[i]?=some (some v)):Inv X pins σ' H s:=
 ⟨I.ok,I.os,I.bare,I.base,let⟨m,hn,hl'⟩:=I.loc;⟨m,hn,fun i x v e1 e2 e3=>hl' i x v e1 (w i v e2) e3⟩,I.cell,I.free,I.freeC,I.pin,I.hok,hl.trans I.len⟩
theorem Inv.pins_of {pins':List (Addr×Obj)} (I:Inv X pins σ H s) (h:∀p∈pins',s.heap.get? p.1=some p.2/\H p.1=none/\p.1≠X.env.locals/\p.1∉X.fs/\∀v,p.2.data≠.cell v):Inv X pins' σ H s:=
 ⟨I.ok,I.os,I.bare,I.base,I.loc,I.cell,I.free,I.freeC,fun p hp=>(List.mem_append.mp hp).elim (fun z=>I.pin p (List.mem_append_left _ z)) (h p),I.hok,I.len⟩
theorem nodup_ix {N:List Str} (hN:N.Nodup) {i j:Nat} {x:Str} (a:N[i]?=some x) (b:N[j]?=some x):i=j:=by
 obtain⟨h1,e1⟩:=List.getElem?_eq_some_iff.mp a
 obtain⟨h2,e2⟩:=List.getElem?_eq_some_iff.mp b
 exact(List.getElem_inj hN).mp (e1.trans e2.symm)
theorem store_ok2 {M:Model} {A:Around} {E:Value->Shared->Prop} {i:Nat} {x:Str} {v:V} {u:Value} {Q:Unit->Shared->Prop} (I:Inv X pins σ H s) (hN:X.N.Nodup) (hi:X.N[i]?=some x) (hx:Loc X.env.scope x) (r:RelV v u)
  (h:∀s',Inv X pins (σ.set i (some v)) H s'->(∃a,Heap.SameBut a s.heap s'.heap/\(a=X.env.locals\/X.env.cells.lookup x=some a))->Q () s') (hf:X.fn x=true\/X.env.scope.names.lookup x=some .local:=by first|exact .inl rfl|exact .inr rfl|assumption):wpAny M A (storeName X.env x u) Q E s:=by
 obtain⟨m,hn,hl⟩:=id I.loc
 have hcls:(X.env.scope.kind == .class || (X.env.scope.kind == .module&&X.env.locals != X.env.globals))=false:=by rw[I.ok.kind];rfl
 have hiσ:i<σ.length:=by rw[I.len];exact(List.getElem?_eq_some_iff.mp hi).1
 have cne:=I.cne
 have tracked:∀{a:Addr} {h':Heap},(∃o,s.heap.get? a=some o/\H a=none)->Heap.SameBut a s.heap h'->HOk X.prog X.w H h':=fun {a h'} ha hs b ob e=>by
  obtain⟨_,_,hfree⟩:=ha
  refine(I.hok b ob e).stay (fun c w' hc q=>(hs.2 c ?_).trans q) (fun _ q=>q) fun _ _ q=>q
  rintro rfl
  rcases hc with rfl|hc
  .rw[hfree]at e;cases e
  .rw[hfree]at hc;cases hc
 rcases hx with hk|hk
 .refine wpAny_storeName_local hk hn (fun h' hn' hs=>?_) hcls
  obtain⟨oL,_,_,hoL,_⟩:=id hn
  refine h _ ⟨I.ok,I.os,I.bare,⟨fun b o e n hb hx=>?_,fun b o e n hb hx=>?_,I.base.free,fun b o e hx=>?_,I.base.tups,I.base.frzs,I.base.tbls⟩,⟨_,hn',fun j y v' e1 e2 e3=>?_⟩,fun y c e=>?_,I.free,I.freeC,fun p hp=>?_,tracked ⟨oL,hoL,I.free⟩ hs,by simpa using I.len⟩ ⟨_,hs,.inl rfl⟩
  .exact(hs.2 b (Nat.ne_of_lt (Nat.lt_of_lt_of_le (Heap.lt_size e) I.ok.above))).trans (I.base.keep b o e n hb hx)
  .obtain⟨sl,e1⟩:=I.base.slot b o e n hb hx
   exact⟨sl,(hs.2 b (Nat.ne_of_lt (Nat.lt_of_lt_of_le (Heap.lt_size e) I.ok.above))).trans e1⟩
  .obtain⟨o',e1⟩:=I.base.there b o e hx
   exact⟨o',(hs.2 b (Nat.ne_of_lt (Nat.lt_of_lt_of_le (Heap.lt_size e) I.ok.above))).trans e1⟩
  .by_cases hj:j=i
   .subst hj
    rw[hi]at e1;cases e1
    rw[List.getElem?_set_self hiσ]at e2
    cases e2
    exact⟨u,r,.inl ⟨hk,by simp⟩⟩
   .rw[List.getElem?_set_ne (Ne.symm hj)]at e2
    obtain⟨u',r',q⟩:=hl j y v' e1 e2 e3
    refine⟨u',r',?_⟩
    rcases q with⟨k,e⟩|⟨k,c,e,z⟩
    .refine .inl ⟨k,?_⟩
     have:y≠x:=fun e=>hj (nodup_ix hN e1 (e ▸ hi))
     simp[this,e]
    .exact .inr ⟨k,c,e,z.sameBut hs (cne y c e)⟩
  .obtain⟨w',z⟩:=I.cell y c e
   exact⟨w',z.sameBut hs (cne y c e)⟩
  .obtain⟨e,n,ne,nf,d⟩:=I.pin p hp
   exact⟨(hs.2 p.1 ne).trans e,n,ne,nf,d⟩
 .have hfn:X.fn x=true:=by
   rcases hf with z|z
   .exact z
   .rw[z]at hk;cases hk
  obtain⟨c,hc⟩:=I.ok.has x (.inl hk)
  obtain⟨w',z⟩:=I.cell x c hc
  refine wpAny_storeName_cell I.ok.kind hk hc z (fun h' hc' hs=>?_)
  obtain⟨oc,hoc,hocd⟩:=id z
  refine h { s with heap:=h' } ⟨I.ok,I.os,I.bare,⟨fun b o e n hb hx=>?_,fun b o e n hb hx=>?_,I.base.free,fun b o e hx=>?_,I.base.tups,I.base.frzs,I.base.tbls⟩,⟨m,hn.sameBut hs (Ne.symm (cne x c hc)),fun j y v' e1 e2 e3=>?_⟩,fun y c' e=>?_,I.free,I.freeC,fun p hp=>?_,tracked ⟨oc,hoc,I.freeC x c hc⟩ hs,by simpa using I.len⟩ ⟨c,hs,.inr hc⟩
  .exact(hs.2 b (Nat.ne_of_lt (Nat.lt_of_lt_of_le (Heap.lt_size e) (I.ok.cab x c hfn hc)))).trans (I.base.keep b o e n hb hx)
  .obtain⟨sl,e1⟩:=I.base.slot b o e n hb hx
   exact⟨sl,(hs.2 b (Nat.ne_of_lt (Nat.lt_of_lt_of_le (Heap.lt_size e) (I.ok.cab x c hfn hc)))).trans e1⟩
  .obtain⟨o',e1⟩:=I.base.there b o e hx
   exact⟨o',(hs.2 b (Nat.ne_of_lt (Nat.lt_of_lt_of_le (Heap.lt_size e) (I.ok.cab x c hfn hc)))).trans e1⟩
  .by_cases hj:j=i
   .subst hj
    rw[hi]at e1;cases e1
    rw[List.getElem?_set_self hiσ]at e2
    cases e2
    exact⟨u,r,.inr ⟨.inl hk,c,hc,hc'⟩⟩
   .rw[List.getElem?_set_ne (Ne.symm hj)]at e2
    obtain⟨u',r',q⟩:=hl j y v' e1 e2 e3
    refine⟨u',r',?_⟩
    rcases q with q|⟨k,c',e,z'⟩
    .exact .inl q
    .refine .inr ⟨k,c',e,z'.sameBut hs ?_⟩
     rintro rfl
     exact hj (nodup_ix hN e1 (I.ok.inj _ _ _ e hc ▸ hi))
  .by_cases hcc:c'=c
   .subst hcc;exact⟨_,hc'⟩
   .obtain⟨w2,z2⟩:=I.cell y c' e
    exact⟨w2,z2.sameBut hs hcc⟩
  .obtain⟨e,n,ne,nf,d⟩:=I.pin p hp
   refine⟨(hs.2 p.1 ?_).trans e,n,ne,nf,d⟩
   intro q
   rw[q,hoc]at e
   have q':oc=p.2:=Option.some.inj e
   exact d w' (by rw[<- q'];exact hocd)
theorem store_ok {M:Model} {A:Around} {E:Value->Shared->Prop} {i:Nat} {x:Str} {v:V} {u:Value} {Q:Unit->Shared->Prop} (I:Inv X pins σ H s) (hN:X.N.Nodup) (hi:X.N[i]?=some x) (hx:Loc X.env.scope x) (r:RelV v u)
  (h:∀s',Inv X pins (σ.set i (some v)) H s'->Q () s') (hf:X.fn x=true\/X.env.scope.names.lookup x=some .local:=by first|exact .inl rfl|exact .inr rfl|assumption):wpAny M A (storeName X.env x u) Q E s:=
 store_ok2 I hN hi hx r (fun s' I' _=>h s' I') hf
theorem Inv.call' {s':Shared} {ch:List Addr} (I:Inv X pins σ H s) (ho:s'.os=s.os) (u:Un (frs X.stack) ch H H' s.heap s'.heap) (hok:HOk X.prog X.w H' s'.heap) (hg:AllBare s'.gens)
  (hch:∀b∈ch,(b∈X.ex\/X.s₀.heap.objs.size<=b)/\b≠X.env.locals/\(∀x c,X.env.cells.lookup x=some c->c≠b)/\∀p∈X.pn++pins,p.1≠b):Inv X pins σ H' s':=by
 obtain⟨h',g',d',t',o'⟩:=s'
 have e:o'=s.os:=ho
 subst e
 exact I.call (g':=g') (t':=t') (d':=d') u hok hg hch
end
noncomputable abbrev XK:=Value->Option Addr->Hp->Prop
noncomputable abbrev St:=List (Option V)
noncomputable abbrev VK:=V->Hp->Prop
noncomputable abbrev TE:=St->Hp->VK->Prop
noncomputable abbrev TT:=St->Hp->(Bool->Hp->Prop)->Prop
noncomputable abbrev TA:=St->Hp->(List V->Hp->Prop)->Prop
structure Ends where
 nx:St->Hp->Prop
 rt:VK
 bk:St->Hp->Prop:=fun _ _=>False
 ct:St->Hp->Prop:=fun _ _=>False
noncomputable abbrev TS:=Ends->St->Hp->Prop
def EP (X:Cx) (pins:List (Addr×Obj)) (σ:St) (Q:VK) (u:Value) (s':Shared):Prop:=∃v H',Inv X pins σ H' s'/\RelV v u/\Q v H'
def TP (X:Cx) (pins:List (Addr×Obj)) (σ:St) (Q:Bool->Hp->Prop) (b:Bool) (s':Shared):Prop:=∃H',Inv X pins σ H' s'/\Q b H'
def AP (X:Cx) (pins:List (Addr×Obj)) (σ:St) (Q:List V->Hp->Prop) (us:List Value) (s':Shared):Prop:=∃vs H',Inv X pins σ H' s'/\Vals vs us/\Q vs H'
def SP (X:Cx) (pins:List (Addr×Obj)) (D:Ends) (f:Flow) (s':Shared):Prop:=
 match f with
 | .next=>∃σ' H',Inv X pins σ' H' s'/\D.nx σ' H'
 | .brk=>∃σ' H',Inv X pins σ' H' s'/\D.bk σ' H'
 | .cont=>∃σ' H',Inv X pins σ' H' s'/\D.ct σ' H'
 | .ret u=>∃v σ' H',Inv X pins σ' H' s'/\RelV v u/\D.rt v H'
def PE (X:Cx) (e:Expr) (t:TE):Prop:=
 ∀(pins:List (Addr×Obj)) (s:Shared) (σ:St) (H:Hp) (Q:VK),Inv X pins σ H s->t σ H Q->wpAny (model X.prog X.w) X.A (eval e X.env) (EP X pins σ Q) X.xe s
def PT (X:Cx) (e:Expr) (t:TT):Prop:=
 ∀(pins:List (Addr×Obj)) (s:Shared) (σ:St) (H:Hp) (Q:Bool->Hp->Prop),Inv X pins σ H s->t σ H Q->wpAny (model X.prog X.w) X.A (isTrue e X.env (eval e X.env)) (TP X pins σ Q) X.xe s
def PW (X:Cx) (e:Expr) (t:TT):Prop:=
 ∀(whole:Sem Value) (pins:List (Addr×Obj)) (s:Shared) (σ:St) (H:Hp) (Q:Bool->Hp->Prop),Inv X pins σ H s->t σ H Q->wpAny (model X.prog X.w) X.A (isTrue e X.env whole) (TP X pins σ Q) X.xe s
theorem PW.pt {X:Cx} {e:Expr} {t:TT} (h:PW X e t):PT X e t:=h _
def PA (X:Cx) (es:List Expr) (t:TA):Prop:=
 ∀(pos:Pos) (pins:List (Addr×Obj)) (s:Shared) (σ:St) (H:Hp) (Q:List V->Hp->Prop),Inv X pins σ H s->t σ H Q->wpAny (model X.prog X.w) X.A (spliced (backTo pos (starEach es X.env))) (AP X pins σ Q) X.xe s
def PS (X:Cx) (st:Stmt) (t:TS):Prop:=
 ∀(pins:List (Addr×Obj)) (s:Shared) (σ:St) (H:Hp) (D:Ends),Inv X pins σ H s->t D σ H->wpAny (model X.prog X.w) X.A (exec st X.env) (SP X pins D) X.xe s
def PSs (X:Cx) (st:List Stmt) (t:TS):Prop:=
 ∀(pins:List (Addr×Obj)) (s:Shared) (σ:St) (H:Hp) (D:Ends),Inv X pins σ H s->t D σ H->wpAny (model X.prog X.w) X.A (execs st X.env) (SP X pins D) X.xe s
theorem thn {α:Type} {t:Sem α} {Q Q':α->Shared->Prop} {M:Model} {A:Around} {E:Value->Shared->Prop} {s:Shared} (h:wpAny M A t Q E s) (hQ:∀a s,Q a s->Q' a s):wpAny M A t Q' E s:=wpAny_mono h hQ fun _ _ x=>x
section
variable {X:Cx}
theorem bin {a b:Expr} {ta tb:TE} (ha:PE X a ta) (hb:PE X b tb) {pins:List (Addr×Obj)} {s:Shared} {σ:St} {H:Hp} {R:V->V->Hp->Prop} (I:Inv X pins σ H s) (h:ta σ H fun x H1=>tb σ H1 fun y H2=>R x y H2)
  {α:Type} {Q:α->Shared->Prop} {f:Value->Value->Sem α}
  (hf:∀v u s2 x y H2,Inv X pins σ H2 s2->RelV x v->RelV y u->R x y H2->wpAny (model X.prog X.w) X.A (f v u) Q X.xe s2):
  wpAny (model X.prog X.w) X.A (eval a X.env) (fun v s₁=>wpAny (model X.prog X.w) X.A (eval b X.env) (fun u s₂=>wpAny (model X.prog X.w) X.A (f v u) Q X.xe s₂) X.xe s₁) X.xe s:=by
 refine thn (ha pins s σ H _ I h) fun v s1 ⟨x,H1,I1,r1,q1⟩=>?_
 refine thn (hb pins s1 σ H1 _ I1 q1) fun u s2 ⟨y,H2,I2,r2,q2⟩=>?_
 exact hf v u s2 x y H2 I2 r1 r2 q2
noncomputable def tVar (i:Nat):TE:=fun σ H Q=>∃v,σ[i]?=some (some v)/\Q v H
noncomputable def tC (v:V):TE:=fun _ H Q=>Q v H
theorem pe_var {i:Nat} {x:Str} {pos:Pos} (hN:X.N[i]?=some x) (hv:Vis X.env.scope x) (hd:(x == ("__debug__":Str))=false:=by decide) (hcd:(x == ("__classdict__":Str))=false:=by decide):PE X (.Name x pos) (tVar i):=by
 intro pins s σ H Q I h
 obtain⟨v,e,h⟩:=h
 obtain⟨m,hn,hl⟩:=I.loc
 obtain⟨u,r,l⟩:=hl i x v hN e hv
 have fin:EP X pins σ Q u s:=⟨v,H,I,r,h⟩
 rcases l with⟨hk,hm⟩|⟨hk,c,hc,hcell⟩
 .exact wpAny_Name (wpAny_loadName_local I.ok.kind hk hn hm fin) hd
 .rcases hk with hk|hk
  .exact wpAny_Name (wpAny_loadName_cell I.ok.kind hk hc hcell fin) hd
  .exact wpAny_Name (wpAny_loadName_free I.ok.kind hk hc hcell fin hcd) hd
theorem pe_int {i j pos}:PE X (.Constant (.int i) j pos) (tC (.int i)):=fun _ _ _ H _ I h=>wpAny_Constant_int ⟨.int i,H,I.tok _,⟨_,rfl⟩,h⟩
theorem pe_bl {b j pos}:PE X (.Constant (.bool b) j pos) (tC (.bl b)):=fun _ _ _ H _ I h=>Constant_bool ⟨.bl b,H,I,rfl,h⟩
theorem pe_non {j pos}:PE X (.Constant .none j pos) (tC .non):=fun _ _ _ H _ I h=>Constant_none ⟨.non,H,I,rfl,h⟩
theorem pe_str {x j pos}:PE X (.Constant (.str x) j pos) (tC (.str x)):=fun _ _ _ H _ I h=>Calls.Constant_str ⟨.str x,H,I.tok _,⟨_,rfl⟩,h⟩
def Gl (X:Cx) (x:Str):Prop:=X.env.kindOf x=some .globalImplicit
theorem ld_glob {E:Value->Shared->Prop} {pins:List (Addr×Obj)} {s:Shared} {σ:St} {H:Hp} {x:Str} {u:Value} {pos:Pos} {Q:Value->Shared->Prop} (I:Inv X pins σ H s) (hg:Gl X x) (hm:X.mg x=some u) (h:Q u s)
  (hd:(x == ("__debug__":Str))=false:=by decide):wpAny (model X.prog X.w) X.A (eval (.Name x pos) X.env) Q E s:=
 Calls.Name_function_global I.ok.kind hg (Calls.loadGlobal_global (by rw[I.ok.glob];exact I.mod.glob.keeps I.bk) hm h) hd
theorem ld_blt {E:Value->Shared->Prop} {pins:List (Addr×Obj)} {s:Shared} {σ:St} {H:Hp} {x:Str} {u:Value} {pos:Pos} {Q:Value->Shared->Prop} (I:Inv X pins σ H s) (hg:Gl X x) (hm:X.mg x=none) (hv:bootBuiltins x=some u) (h:Q u s)
  (hn:x≠"__name__":=by decide) (hd:(x == ("__debug__":Str))=false:=by decide):wpAny (model X.prog X.w) X.A (eval (.Name x pos) X.env) Q E s:=by
 obtain⟨mb,h1,h2⟩:=I.mod.blt
 exact Calls.Name_function_global I.ok.kind hg (Calls.loadGlobal_builtin (by rw[I.ok.glob];exact I.mod.glob.keeps I.bk) hm (by rw[I.ok.blt];exact h1.keeps I.bk) ((h2 x hn).trans hv) h) hd
theorem pe_bltn {x:Str} {v:V} {u:Value} {pos:Pos} (hg:Gl X x) (hm:X.mg x=none) (hv:bootBuiltins x=some u) (r:RelV v u) (hn:x≠"__name__":=by decide) (hd:(x == ("__debug__":Str))=false:=by decide):PE X (.Name x pos) (tC v):=
 fun _ _ _ H _ I h=>ld_blt I hg hm hv ⟨v,H,I,r,h⟩ hn hd
variable {a b:Expr} {ta tb:TE} {pos:Pos}
def PC (X:Cx) (op:CmpOp) (a b:Expr) (t:TE):Prop:=
 ∀(pins:List (Addr×Obj)) (s:Shared) (σ:St) (H:Hp) (Q:VK),Inv X pins σ H s->t σ H Q->
  wpAny (model X.prog X.w) X.A (eval a X.env) (fun v s₁=>wpAny (model X.prog X.w) X.A (eval b X.env) (fun u s₂=>wpAny (model X.prog X.w) X.A (compareOp op v u) (EP X pins σ Q) X.xe s₂) X.xe s₁) X.xe s
noncomputable def tB (t:TE):TT:=fun σ H Q=>t σ H fun x H1=>∃c,x=.bl c/\Q c H1
theorem pe_cmp {op:CmpOp} {t:TE} (h:PC X op a b t) (h1:behindInMarks op b=false:=by rfl):PE X (.Compare a [op] [b] pos) t:=fun pins s σ H Q I hw=>wpAny_Compare1 (h pins s σ H Q I hw) h1
theorem pt_cmp {op:CmpOp} {t:TE} (h:PC X op a b t) (h1:behindInMarks op b=false:=by rfl):PT X (.Compare a [op] [b] pos) (tB t):=by
 intro pins s σ H Q I hw
 refine wpAny_isTrue_Compare1 (thn (h pins s σ H _ I hw) fun v s1 h1=>thn h1 fun u s2 h2=>thn h2 fun c s3 ⟨x,H1,I1,r1,q1⟩=>?_) h1
 obtain⟨d,rfl,q⟩:=q1
 cases r1
 exact wpAny_truthy_bool ⟨H1,I1,q⟩
variable {tA tB':TT} {rest:List Expr}
noncomputable def tAnd (t u:TT):TT:=fun σ H Q=>t σ H fun c H1=>if c=true then u σ H1 Q else Q false H1
noncomputable def tOr (t u:TT):TT:=fun σ H Q=>t σ H fun c H1=>if c=true then Q true H1 else u σ H1 Q
noncomputable def tNot (t:TT):TT:=fun σ H Q=>t σ H fun c H1=>Q (!c) H1
theorem pw_and1 (ha:PT X a tA):PW X (.BoolOp .And [a] pos) tA:=by
 intro wh pins s σ H Q I h
 refine isTrue_and (thn (ha pins s σ H Q I h) fun c s1 e=>?_)
 cases c with
 |true=>exact isTrue_and_nil e
 |false=>exact e
theorem pw_or1 (ha:PT X a tA):PW X (.BoolOp .Or [a] pos) tA:=by
 intro wh pins s σ H Q I h
 refine isTrue_or (thn (ha pins s σ H Q I h) fun c s1 e=>?_)
 cases c with
 |false=>exact isTrue_or_nil e
 |true=>exact e
theorem pw_and (ha:PT X a tA) (hb:PW X (.BoolOp .And (b :: rest) pos) tB'):PW X (.BoolOp .And (a :: b :: rest) pos) (tAnd tA tB'):=by
 intro wh pins s σ H Q I h
 refine isTrue_and (thn (ha pins s σ H _ I h) fun c s1 ⟨H1,I1,q1⟩=>?_)
 cases c with
 |true=>exact hb wh pins s1 σ H1 Q I1 q1
 |false=>exact⟨H1,I1,q1⟩
theorem pw_or (ha:PT X a tA) (hb:PW X (.BoolOp .Or (b :: rest) pos) tB'):PW X (.BoolOp .Or (a :: b :: rest) pos) (tOr tA tB'):=by
 intro wh pins s σ H Q I h
 refine isTrue_or (thn (ha pins s σ H _ I h) fun c s1 ⟨H1,I1,q1⟩=>?_)
 cases c with
 |true=>exact⟨H1,I1,q1⟩
 |false=>exact hb wh pins s1 σ H1 Q I1 q1
theorem pt_not (ha:PT X a tA):PT X (.UnaryOp .Not a pos) (tNot tA):=by
 intro pins s σ H Q I h
 exact isTrue_not (ha pins s σ H (fun c H1=>Q (!c) H1) I h)
noncomputable def tAndV (ta tb:TE):TE:=fun σ H Q=>ta σ H fun x H1=>∃c,x=.bl c/\if c=true then tb σ H1 Q else Q (.bl false) H1
noncomputable def tOrV (ta tb:TE):TE:=fun σ H Q=>ta σ H fun x H1=>∃c,x=.bl c/\if c=true then Q (.bl true) H1 else tb σ H1 Q
noncomputable def tNotV (ta:TE):TE:=fun σ H Q=>ta σ H fun x H1=>∃c,x=.bl c/\Q (.bl (!c)) H1
theorem pe_one {op} {t:TE} (h:PE X a t):PE X (.BoolOp op [a] pos) t:=fun pins s σ H Q I hw=>BoolOp_one (h pins s σ H Q I hw)
theorem pe_and (ha:PE X a ta) (hb:PE X (.BoolOp .And (b :: rest) pos) tb):PE X (.BoolOp .And (a :: b :: rest) pos) (tAndV ta tb):=by
 intro pins s σ H Q I h
 refine BoolOp_and (thn (ha pins s σ H _ I h) fun v s1 ⟨x,H1,I1,r1,q1⟩=>?_)
 obtain⟨c,rfl,q1⟩:=q1
 cases r1
 refine wpAny_truthy_bool ?_
 cases c with
 |true=>exact hb pins s1 σ H1 Q I1 q1
 |false=>exact⟨.bl false,H1,I1,rfl,q1⟩
theorem pe_or (ha:PE X a ta) (hb:PE X (.BoolOp .Or (b :: rest) pos) tb):PE X (.BoolOp .Or (a :: b :: rest) pos) (tOrV ta tb):=by
 intro pins s σ H Q I h
 refine BoolOp_or (thn (ha pins s σ H _ I h) fun v s1 ⟨x,H1,I1,r1,q1⟩=>?_)
 obtain⟨c,rfl,q1⟩:=q1
 cases r1
 refine wpAny_truthy_bool ?_
 cases c with
 |false=>exact hb pins s1 σ H1 Q I1 q1
 |true=>exact⟨.bl true,H1,I1,rfl,q1⟩
theorem pe_not (ha:PE X a ta):PE X (.UnaryOp .Not a pos) (tNotV ta):=by
 intro pins s σ H Q I h
 refine UnaryOp_ (thn (ha pins s σ H _ I h) fun v s1 ⟨x,H1,I1,r1,q1⟩=>?_)
 obtain⟨c,rfl,q1⟩:=q1
 cases r1
 exact not_of (wpAny_truthy_bool ⟨.bl (!c),H1,I1,rfl,q1⟩)
noncomputable def tIf (t:TT) (ta tb:TE):TE:=fun σ H Q=>t σ H fun c H1=>if c=true then ta σ H1 Q else tb σ H1 Q
theorem pe_ifExp {c:Expr} (hc:PT X c tA) (ha:PE X a ta) (hb:PE X b tb):PE X (.IfExp c a b pos) (tIf tA ta tb):=by
 intro pins s σ H Q I h
 refine wpAny_IfExp (thn (hc pins s σ H _ I h) fun d s1 ⟨H1,I1,q1⟩=>?_)
 cases d with
 |true=>exact ha pins s1 σ H1 Q I1 q1
 |false=>exact hb pins s1 σ H1 Q I1 q1
end
def SqL (K:W.Frag) (H:Hp) (a:Addr) (xs:List V):Prop:=
 Rd H a (.lst xs)\/
  ∃(o:Obj) (its:Array Value) (n:Nat),K.lookup a=some o/\o.cls=.type "list"/\o.dict=none/\o.data=.seq its n/\its.size<=sizeLine/\Vals xs its.toList
def SqT (K:W.Frag) (H:Hp) (a:Addr) (xs:List V):Prop:=
 Rd H a (.tup xs)\/
  ∃(o:Obj) (its:Array Value) (n:Nat),K.lookup a=some o/\o.cls=.type "tuple"/\o.data=.seq its n/\its.size<=sizeLine/\Vals xs its.toList
noncomputable def absV:Value->Option V
 | .none=>some .non
 | .bool b=>some (.bl b)
 | .int i _=>some (.int i)
 | .str x _=>some (.str x)
 | .bytes b _=>some (.byt b)
 | .float b _=>some (.flt b)
 | .ref a=>some (.ref a)
 | .type n=>some (.ty n)
 |_=>none
theorem RelV.abs {x:V} {u:Value} (r:RelV x u):absV u=some x:=by
 cases x with
 |non=>cases r;rfl
 |bl _=>cases r;rfl
 |int _=>obtain⟨t,rfl⟩:=r;rfl
 |str _=>obtain⟨t,rfl⟩:=r;rfl
 |byt _=>obtain⟨t,rfl⟩:=r;rfl
 |flt _=>obtain⟨t,rfl⟩:=r;rfl
 |ref _=>cases r;rfl
 |ty _=>cases r;rfl
theorem RelV.inj {x y:V} {u:Value} (r:RelV x u) (q:RelV y u):x=y:=Option.some.inj (r.abs.symm.trans q.abs)
theorem Vals.inj:∀{xs ys:List V} {us:List Value},Vals xs us->Vals ys us->xs=ys
 |_,_,_,.nil,.nil=>rfl
 |_,_,_,.cons r t,.cons r' t'=>by rw[r.inj r',Vals.inj t t']
section
variable {X:Cx} {pins:List (Addr×Obj)} {σ:St} {H:Hp} {s:Shared} {a:Addr} {xs ys:List V}
theorem SqL.of {K:W.Frag} (h:H a=some (.lst xs)):SqL K H a xs:=.inl (.inl h)
theorem SqT.of {K:W.Frag} (h:H a=some (.tup xs)):SqT K H a xs:=.inl (.inl h)
theorem Inv.list (I:Inv X pins σ H s) (h:SqL X.K H a xs):∃its:List Value,Vals xs its/\PlainL s.heap a its.toArray/\xs.length<=sizeLine:=by
 rcases h with h|⟨o,its,n,hk,hc,hd,hs,hz,r⟩
 .obtain⟨z,its,n,r,e⟩:=h.ok I.hok
  exact⟨its,r,⟨_,n,e,rfl,rfl,rfl⟩,z⟩
 .refine⟨its.toList,r,⟨o,n,I.kIn a o hk,hc,hd,by simpa using hs⟩,?_⟩
  have e:=r.length
  simp only[Array.length_toList]at e
  omega
theorem Inv.tuple (I:Inv X pins σ H s) (h:SqT X.K H a xs):∃its:List Value,Vals xs its/\IsTup s.heap a its.toArray/\xs.length<=sizeLine:=by
 rcases h with h|⟨o,its,n,hk,hc,hs,hz,r⟩
 .obtain⟨z,its,r,p⟩:=h.ok I.hok
  exact⟨its,r,p.tup,z⟩
 .refine⟨its.toList,r,⟨o,I.kIn a o hk,hc,n,by simpa using hs⟩,?_⟩
  have e:=r.length
  simp only[Array.length_toList]at e
  omega
theorem Inv.list_inj (I:Inv X pins σ H s) (h:SqL X.K H a xs) (h':SqL X.K H a ys):xs=ys:=by
 obtain⟨its,r,⟨o,n,e,_,_,d⟩,_⟩:=I.list h
 obtain⟨its',r',⟨o',n',e',_,_,d'⟩,_⟩:=I.list h'
 rw[e]at e';cases e'
 rw[d]at d'
 injection d' with d1 _
 have:its=its':=by simpa using congrArg Array.toList d1
 subst this
 exact r.inj r'
theorem Inv.tuple_inj (I:Inv X pins σ H s) (h:SqT X.K H a xs) (h':SqT X.K H a ys):xs=ys:=by
 obtain⟨its,r,⟨o,e,_,n,d⟩,_⟩:=I.tuple h
 obtain⟨its',r',⟨o',e',_,n',d'⟩,_⟩:=I.tuple h'
 rw[e]at e';cases e'
 rw[d]at d'
 injection d' with d1 _
 have:its=its':=by simpa using congrArg Array.toList d1
 subst this
 exact r.inj r'
end
noncomputable abbrev Cx.wish (X:Cx) (E:Value->Shared->Prop):Cx:={ X with xe:=E }
noncomputable abbrev Cx.nox (X:Cx):Cx:=X.wish fun _ _=>False
theorem Cx.Ok.wish {X:Cx} (ok:X.Ok) (E:Value->Shared->Prop):(X.wish E).Ok:=
 ⟨ok.mod,ok.kind,ok.glob,ok.blt,ok.above,ok.inj,ok.has,ok.cab,ok.hd,ok.frames,ok.stk,ok.exf,ok.bs,ok.bsz,ok.noex,ok.exfs,ok.funs,ok.frf⟩
theorem Cx.Ok.unwish {X:Cx} {E:Value->Shared->Prop} (ok:(X.wish E).Ok):X.Ok:=
 ⟨ok.mod,ok.kind,ok.glob,ok.blt,ok.above,ok.inj,ok.has,ok.cab,ok.hd,ok.frames,ok.stk,ok.exf,ok.bs,ok.bsz,ok.noex,ok.exfs,ok.funs,ok.frf⟩
section
variable {X:Cx} {pins:List (Addr×Obj)} {σ:St} {H:Hp} {s:Shared} {E:Value->Shared->Prop}
theorem Inv.wish (I:Inv X pins σ H s) (E:Value->Shared->Prop):Inv (X.wish E) pins σ H s:=⟨I.ok.wish E,I.os,I.bare,I.base,I.loc,I.cell,I.free,I.freeC,I.pin,I.hok,I.len⟩
theorem Inv.unwish (I:Inv (X.wish E) pins σ H s):Inv X pins σ H s:=⟨I.ok.unwish,I.os,I.bare,I.base,I.loc,I.cell,I.free,I.freeC,I.pin,I.hok,I.len⟩
theorem SP.unwish {D:Ends} {f:Flow} {s':Shared} (h:SP (X.wish E) pins D f s'):SP X pins D f s':=by
 cases f with
 |next=>obtain⟨σ',H',I,q⟩:=h;exact⟨σ',H',I.unwish,q⟩
 |brk=>obtain⟨σ',H',I,q⟩:=h;exact⟨σ',H',I.unwish,q⟩
 |cont=>obtain⟨σ',H',I,q⟩:=h;exact⟨σ',H',I.unwish,q⟩
 |ret u=>obtain⟨v,σ',H',I,r,q⟩:=h;exact⟨v,σ',H',I.unwish,r,q⟩
theorem PSs.nox {st:List Stmt} {t:TS} (h:PSs X.nox st t):PSs X st t:=fun pins s σ H D I hw=>
 wpAny_mono (h pins s σ H D (I.wish _) hw) (fun _ _ q=>q.unwish) fun _ _ z=>False.elim z
end
section
variable {X:Cx} {st:Stmt} {rest:List Stmt} {t u:TS} {e:Expr} {te:TE} {pos:Pos}
noncomputable def tNext:TS:=fun D σ H=>D.nx σ H
noncomputable def tSeq (t u:TS):TS:=fun D σ H=>t { D with nx:=u D } σ H
theorem pss_nil:PSs X [] tNext:=fun _ _ σ H _ I h=>wpAny_execs_nil ⟨σ,H,I,h⟩
theorem pss_cons (h1:PS X st t) (h2:PSs X rest u):PSs X (st :: rest) (tSeq t u):=by
 intro pins s σ H D I h
 refine wpAny_execs_cons (thn (h1 pins s σ H { D with nx:=u D } I h) fun f s1 q=>?_)
 cases f with
 |next=>
  obtain⟨σ',H',I',q⟩:=q
  exact h2 pins s1 σ' H' D I' q
 |ret v=>exact q
 |brk=>exact q
 |cont=>exact q
theorem Inv.quiet {pins:List (Addr×Obj)} {σ:St} {H:Hp} {s:Shared} (I:Inv X pins σ H s):interactive X.env=false:=by simp[interactive,I.ok.kind]
noncomputable def tDrop (te:TE):TS:=fun D σ H=>te σ H fun _ H1=>D.nx σ H1
theorem ps_expr (he:PE X e te) (hs:swapsWith e none pos.line X.env=pure false:=by rfl):PS X (.Expr e pos) (tDrop te):=by
 intro pins s σ H D I h
 exact wpAny_Expr_any (thn (he pins s σ H _ I h) fun v s1 ⟨x,H1,I1,r1,q1⟩=>⟨σ,H1,I1,q1⟩) I.quiet hs
noncomputable def tRet (te:TE):TS:=fun D σ H=>te σ H D.rt
theorem ps_ret (he:PE X e te):PS X (.Return (some e) pos) (tRet te):=by
 intro pins s σ H D I h
 exact wpAny_Return_some (thn (he pins s σ H _ I h) fun v s1 ⟨x,H1,I1,r1,q1⟩=>⟨x,σ,H1,I1,r1,q1⟩)
noncomputable def tIfS (c:TT) (t u:TS):TS:=fun D σ H=>c σ H fun b H1=>if b=true then t D σ H1 else u D σ H1
theorem ps_if {c:Expr} {a b:List Stmt} {tc:TT} (hc:PT X c tc) (ha:PSs X a t) (hb:PSs X b u):PS X (.If c a b pos) (tIfS tc t u):=by
 intro pins s σ H D I h
 refine wpAny_If (thn (hc pins s σ H _ I h) fun d s1 ⟨H1,I1,q1⟩=>?_)
 cases d with
 |true=>exact ha pins s1 σ H1 D I1 q1
 |false=>exact hb pins s1 σ H1 D I1 q1
end
noncomputable abbrev TG:=V->St->Hp->(St->Hp->Prop)->Prop
noncomputable abbrev TGs:=List V->St->Hp->(St->Hp->Prop)->Prop
def PG (X:Cx) (target:Expr) (t:TG):Prop:=
 ∀(pins:List (Addr×Obj)) (s:Shared) (σ:St) (H:Hp) (v:V) (u:Value) (Q:St->Hp->Prop),Inv X pins σ H s->RelV v u->t v σ H Q->
  wpAny (model X.prog X.w) X.A (assign target X.env u) (fun _ s'=>∃σ' H',Inv X pins σ' H' s'/\Q σ' H') X.xe s
def PGs (X:Cx) (ts:List Expr) (t:TGs):Prop:=
 ∀(pins:List (Addr×Obj)) (s:Shared) (σ:St) (H:Hp) (vs:List V) (us:List Value) (Q:St->Hp->Prop),Inv X pins σ H s->Vals vs us->t vs σ H Q->
  wpAny (model X.prog X.w) X.A (assignInOrder ((assignEach ts X.env).map (·.2)) us) (fun _ s'=>∃σ' H',Inv X pins σ' H' s'/\Q σ' H') X.xe s
noncomputable abbrev TSet:=V->V->V->Hp->(Hp->Prop)->Prop
def PSet (X:Cx) (t:TSet):Prop:=
 ∀(pins:List (Addr×Obj)) (s:Shared) (σ:St) (H:Hp) (o i v:V) (ov iv u:Value) (Q:Hp->Prop),Inv X pins σ H s->RelV o ov->RelV i iv->RelV v u->t o i v H Q->
  wpAny (model X.prog X.w) X.A (setItem ov iv u) (fun _ s'=>∃H',Inv X pins σ H' s'/\Q H') X.xe s
noncomputable abbrev TIp:=V->V->Hp->VK->Prop
def PIp (X:Cx) (op:Operator) (t:TIp):Prop:=
 ∀(pins:List (Addr×Obj)) (s:Shared) (σ:St) (H:Hp) (x y:V) (v u:Value) (Q:VK),Inv X pins σ H s->RelV x v->RelV y u->t x y H Q->
  wpAny (model X.prog X.w) X.A (inplaceOp op v u) (EP X pins σ Q) X.xe s
section
variable {X:Cx} {pos:Pos}
noncomputable def gName (i:Nat):TG:=fun v σ H Q=>Q (σ.set i (some v)) H
theorem pg_name {i:Nat} {x:Str} (hN:X.N.Nodup) (hi:X.N[i]?=some x) (hx:Loc X.env.scope x) (hf:X.fn x=true\/X.env.scope.names.lookup x=some .local:=by first|exact .inl rfl|exact .inr rfl|assumption):PG X (.Name x pos) (gName i):=by
 intro pins s σ H v u Q I r h
 exact wpAny_assign_Name (store_ok I hN hi hx r (fun s' I'=>⟨_,H,I',h⟩) hf)
noncomputable def gNil:TGs:=fun vs σ H Q=>vs=[]/\Q σ H
noncomputable def gCons (t:TG) (u:TGs):TGs:=fun vs σ H Q=>∃v r,vs=v :: r/\t v σ H fun σ' H'=>u r σ' H' Q
theorem pgs_nil:PGs X [] gNil:=by
 intro pins s σ H vs us Q I r h
 obtain⟨e,h⟩:=h
 subst e
 cases r
 exact assignInOrder_nil ⟨σ,H,I,h⟩
theorem pgs_cons {e:Expr} {es:List Expr} {t:TG} {u:TGs} (h1:PG X e t) (h2:PGs X es u)
  (hs:(assignEach (e :: es) X.env).map (·.2)=assign e X.env :: (assignEach es X.env).map (·.2):=by rfl):PGs X (e :: es) (gCons t u):=by
 intro pins s σ H vs us Q I r h
 obtain⟨v,vr,e1,h⟩:=h
 subst e1
 cases r with
 |cons r rr=>
  rw[hs]
  refine assignInOrder_cons (thn (h1 pins s σ H _ _ _ I r h) fun _ s1 ⟨σ1,H1,I1,q1⟩=>?_)
  exact h2 pins s1 σ1 H1 _ _ Q I1 rr q1
noncomputable def gTup (K:W.Frag) (n:Nat) (t:TGs):TG:=fun v σ H Q=>∃a xs,v=.ref a/\SqT K H a xs/\xs.length=n/\t xs σ H Q
theorem pg_tup {es:List Expr} {k:Nat} {t:TGs} {n:Nat} (hc:X.calm=true) (h:PGs X es t)
  (hn:(assignEach es X.env).length=n:=by rfl) (hst:(assignEach es X.env).findIdx? (·.1)=none:=by rfl):PG X (.Tuple es k pos) (gTup X.K n t):=by
 intro pins s σ H v u Q I r hw
 obtain⟨a,xs,e1,hq,hl,hw⟩:=hw
 subst e1
 cases r
 obtain⟨its,rv,ht,hz⟩:=I.tuple hq
 refine assign_Tuple_tuple (I.ok.hd hc) ht (by simp[hn,<- hl,rv.length]) hst fun h' hx=>?_
 have I1:Inv X pins σ H { s with heap:=h' }:=I.kept (t':=s.toks) fun b o e=>hx b o (Nat.ne_of_lt (Heap.lt_size e)) e
 exact h pins _ σ H xs _ Q I1 (by simpa using rv) hw
noncomputable def gSub (to ti:TE) (t:TSet):TG:=fun v σ H Q=>to σ H fun o H1=>ti σ H1 fun i H2=>t o i v H2 fun H3=>Q σ H3
theorem pg_sub {o i:Expr} {to ti:TE} {t:TSet} (ho:PE X o to) (hi:PE X i ti) (hs:PSet X t)
  (ha:∀v,assign (.Subscript o i pos) X.env v=(do
   let ov <- holding [v] (eval o X.env)
   let iv <- holding [v,ov] (eval i X.env)
   standAt pos
   holding [v,ov,iv] (setItem ov iv v)
   release [v,ov,iv] []):=by intro _;rfl):PG X (.Subscript o i pos) (gSub to ti t):=by
 intro pins s σ H v u Q I r h
 rw[ha]
 refine wpAny_bind (wpAny_holding (thn (ho pins s σ H _ I h) fun ov s1 ⟨x,H1,I1,r1,q1⟩=>?_))
 refine wpAny_bind (wpAny_holding (thn (hi pins s1 σ H1 _ I1 q1) fun iv s2 ⟨y,H2,I2,r2,q2⟩=>?_))
 refine wpAny_bind (wpAny_standAt (wpAny_bind (wpAny_holding (thn (hs pins s2 σ H2 x y v ov iv u _ I2 r1 r2 r q2) fun _ s3 ⟨H3,I3,q3⟩=>?_))))
 exact wpAny_release ⟨σ,H3,I3,q3⟩
noncomputable def tAsg (te:TE) (g:TG):TS:=fun D σ H=>te σ H fun x H1=>g x σ H1 D.nx
theorem ps_asg {tg e:Expr} {te:TE} {g:TG} (he:PE X e te) (hg:PG X tg g) (hs:swapsWithSole [tg] e pos.line X.env=pure false:=by rfl) (hw:swappedStores [tg] e X.env=pure none:=by rfl)
  (h1:(assignEach [tg] X.env).map (·.2)=[assign tg X.env]:=by rfl):PS X (.Assign [tg] e pos) (tAsg te g):=by
 intro pins s σ H D I h
 refine wpAny_Assign_stores (thn (he pins s σ H _ I h) fun v s1 ⟨x,H1,I1,r1,q1⟩=>?_) hs hw
 rw[h1]
 exact thn (hg pins s1 σ H1 x v _ I1 r1 q1) fun _ s2 q=>q
noncomputable def tAug (i:Nat) (te:TE) (ti:TIp):TS:=fun D σ H=>∃x,σ[i]?=some (some x)/\te σ H fun y H1=>ti x y H1 fun z H2=>D.nx (σ.set i (some z)) H2
theorem ps_aug {i:Nat} {x:Str} {e:Expr} {te:TE} {op:Operator} {ti:TIp} {pos':Pos} (hN:X.N.Nodup) (hi:X.N[i]?=some x) (hx:Loc X.env.scope x) (he:PE X e te) (ho:PIp X op ti) (hf:X.fn x=true\/X.env.scope.names.lookup x=some .local:=by first|exact .inl rfl|exact .inr rfl|assumption):
  PS X (.AugAssign (.Name x pos') op e pos) (tAug i te ti):=by
 intro pins s σ H D I h
 obtain⟨v,e1,h⟩:=h
 obtain⟨m,hn,hl⟩:=I.loc
 have vis:Vis X.env.scope x:=by rcases hx with k|k;exact .inl k;exact .inr (.inl k)
 obtain⟨u,r,l⟩:=hl i x v hi e1 vis
 refine wpAny_AugAssign_Name ?_
 have go:wpAny (model X.prog X.w) X.A (eval e X.env) (fun w s₂=>wpAny (model X.prog X.w) X.A (inplaceOp op u w) (fun r s₃=>wpAny (model X.prog X.w) X.A (storeName X.env x r) (fun _=>SP X pins D .next) X.xe s₃) X.xe s₂) X.xe s:=by
  refine thn (he pins s σ H _ I h) fun w s1 ⟨y,H1,I1,r1,q1⟩=>?_
  refine thn (ho pins s1 σ H1 v y u w _ I1 r r1 q1) fun z s2 ⟨zv,H2,I2,r2,q2⟩=>?_
  exact store_ok I2 hN hi hx r2 (fun s3 I3=>⟨_,H2,I3,q2⟩) hf
 rcases l with⟨hk,hm⟩|⟨hk,c,hc,hcell⟩
 .exact wpAny_loadName_local I.ok.kind hk hn hm go
 .rcases hk with hk|hk
  .exact wpAny_loadName_cell I.ok.kind hk hc hcell go
  .rcases hx with k|k
   .have:X.env.scope.names.lookup x=some .free:=hk
    rw[k]at this;cases this
   .have:X.env.scope.names.lookup x=some .free:=hk
    rw[k]at this;cases this
noncomputable def tAugS (to ti te:TE) (tget:V->V->Hp->VK->Prop) (tip:TIp) (tset:TSet):TS:=fun D σ H=>to σ H fun o H1=>ti σ H1 fun i H2=>tget o i H2 fun x H3=>te σ H3 fun y H4=>tip x y H4 fun z H5=>tset o i z H5 fun H6=>D.nx σ H6
def PGet (X:Cx) (t:V->V->Hp->VK->Prop):Prop:=
 ∀(pins:List (Addr×Obj)) (s:Shared) (σ:St) (H:Hp) (o i:V) (ov iv:Value) (Q:VK),Inv X pins σ H s->RelV o ov->RelV i iv->t o i H Q->
  wpAny (model X.prog X.w) X.A (getItem ov iv) (EP X pins σ Q) X.xe s
theorem ps_augS {o i e:Expr} {to ti te:TE} {tget:V->V->Hp->VK->Prop} {tip:TIp} {tset:TSet} {op:Operator} {tpos:Pos} (ho:PE X o to) (hi:PE X i ti) (hg:PGet X tget) (he:PE X e te) (hp:PIp X op tip) (hs:PSet X tset)
  (ha:∀ov iv new,augStore i ov iv new=(do holding [new,ov,iv] (setItem ov iv new);release [new,ov,iv] [];pure .next):=by intros;rfl):PS X (.AugAssign (.Subscript o i tpos) op e pos) (tAugS to ti te tget tip tset):=by
 intro pins s σ H D I h
 refine wpAny_AugAssign_SubscriptAny (thn (ho pins s σ H _ I h) fun ov s1 ⟨x1,H1,I1,r1,q1⟩=>?_) ha
 refine thn (hi pins s1 σ H1 _ I1 q1) fun iv s2 ⟨x2,H2,I2,r2,q2⟩=>?_
 refine thn (hg pins s2 σ H2 x1 x2 ov iv _ I2 r1 r2 q2) fun old s3 ⟨x3,H3,I3,r3,q3⟩=>?_
 refine thn (he pins s3 σ H3 _ I3 q3) fun v s4 ⟨x4,H4,I4,r4,q4⟩=>?_
 refine thn (hp pins s4 σ H4 x3 x4 old v _ I4 r3 r4 q4) fun new s5 ⟨x5,H5,I5,r5,q5⟩=>?_
 exact thn (hs pins s5 σ H5 x1 x2 x5 ov iv new _ I5 r1 r2 r5 q5) fun _ s6 ⟨H6,I6,q6⟩=>⟨σ,H6,I6,q6⟩
noncomputable def ipI (f:Int->Int->Int):TIp:=fun x y H Q=>∃i j,x=.int i/\y=.int j/\Q (.int (f i j)) H
theorem ip_add:PIp X .Add (ipI fun i j=>i+j):=by
 intro pins s σ H x y v u Q I r1 r2 h
 obtain⟨i,j,e1,e2,q⟩:=h
 subst e1;subst e2
 obtain⟨t,rfl⟩:=r1
 obtain⟨t',rfl⟩:=r2
 exact iadd_int ⟨.int _,H,I.tok _,⟨_,rfl⟩,q⟩
theorem ip_sub:PIp X .Sub (ipI fun i j=>i-j):=by
 intro pins s σ H x y v u Q I r1 r2 h
 obtain⟨i,j,e1,e2,q⟩:=h
 subst e1;subst e2
 obtain⟨t,rfl⟩:=r1
 obtain⟨t',rfl⟩:=r2
 exact isub_int ⟨.int _,H,I.tok _,⟨_,rfl⟩,q⟩
end
section
variable {X:Cx} {pos:Pos}
noncomputable def tWhile (c:TT) (tb:TS):TS:=fun D σ H=>∃W:Nat->St->Hp->Prop,(∃m,W m σ H)/\∀m σ H,W m σ H->
 c σ H fun b H1=>if b=true then ∃N:St->Hp->Prop,(∀σ' H',N σ' H'->∃m',m'<m/\W m' σ' H')/\tb { D with nx:=N,ct:=N,bk:=D.nx } σ H1 else D.nx σ H1
theorem ps_while {c:Expr} {body:List Stmt} {tc:TT} {tb:TS} (hp:PassesOwn (model X.prog X.w) X.A X.env X.xe) (hc:PT X c tc) (hb:PSs X body tb):PS X (.While c body [] pos) (tWhile tc tb):=by
 intro pins s σ H D I h
 obtain⟨W,⟨m0,w0⟩,turn⟩:=h
 refine wpAny_While (codeAny_whileLoop (fun n s'=>∃σ' H',Inv X pins σ' H' s'/\W n σ' H') ?_ m0 ⟨σ,H,I,w0⟩)
 rintro n s1 ⟨σ1,H1,I1,w1⟩
 refine wpAny_passesOwn hp (thn (hc pins s1 σ1 H1 _ I1 (turn n σ1 H1 w1)) fun b s2 ⟨H2,I2,q2⟩=>?_)
 cases b with
 |true=>
  obtain⟨N,hN,q2⟩:=q2
  rw[if_pos rfl]
  refine wpAny_passesOwn hp (thn (hb pins s2 σ1 H2 _ I2 q2) fun f s3 q3=>?_)
  cases f with
  |next=>
   obtain⟨σ3,H3,I3,n3⟩:=q3
   obtain⟨m',hm,w3⟩:=hN σ3 H3 n3
   exact⟨m',hm,σ3,H3,I3,w3⟩
  |cont=>
   obtain⟨σ3,H3,I3,n3⟩:=q3
   obtain⟨m',hm,w3⟩:=hN σ3 H3 n3
   exact⟨m',hm,σ3,H3,I3,w3⟩
  |brk=>exact q3
  |ret v=>exact q3
 |false=>
  rw[if_neg Bool.false_ne_true]
  exact wpAny_execs_nil ⟨σ1,H2,I2,q2⟩
end
structure It where
 go:Nat->Hp->Prop
 yld:Nat->Hp->V->Hp->Prop
 stop:Nat->Hp->Prop
def FpOk (X:Cx) (pins:List (Addr×Obj)) (H:Hp) (b:Addr):Prop:=
 H b=none/\b≠X.env.locals/\b∉X.fs/\(b∈X.ex\/X.s₀.heap.objs.size<=b)/\(∀x c,X.env.cells.lookup x=some c->c≠b)/\∀p∈X.pn++pins,p.1≠b
theorem Inv.fpOk {X:Cx} {pins:List (Addr×Obj)} {σ:St} {H H':Hp} {s:Shared} {b:Addr} (I:Inv X pins σ H s) (hb:s.heap.objs.size<=b) (hn:H' b=none):FpOk X pins H' b:=by
 refine⟨hn,Nat.ne_of_gt (Nat.lt_of_lt_of_le I.lt hb),I.nofs hb,.inr (Nat.le_trans I.sz hb),fun x c e z=>?_,fun p hp z=>?_⟩
 .obtain⟨v,q⟩:=I.cell x c e
  exact absurd (Nat.lt_of_lt_of_le q.lt (by rw[z];exact hb)) (Nat.lt_irrefl _)
 .exact absurd (Nat.lt_of_lt_of_le (Heap.lt_size (I.pin p hp).1) (by rw[z];exact hb)) (Nat.lt_irrefl _)
structure Turn (P:Program) (w:World) (K:W.Frag) (tg:Expr) (J:It) (fp:List Addr) (it:Addr) (tn:Nat->Heap->Prop):Prop where
 mem:it∈fp
 obj:∀i h,tn i h->∀b∈fp,∃o,h.get? b=some o/\∀v,o.data≠.cell v
 keep:∀i h h',tn i h->(∀b∈fp,∀o,h.get? b=some o->h'.get? b=some o)->tn i h'
 item:∀(X:Cx),X.prog=P->X.w=w->X.K=K->X.calm=true->∀(i:Nat) (pins:List (Addr×Obj)) (s:Shared) (σ:St) (H:Hp) (E:Value->Shared->Prop),Inv X pins σ H s->(∀b∈fp,FpOk X pins H b)->tn i s.heap->J.go i H->
  wpAny (model P w) X.A (pyNext (.ref it)) (fun r s1=>∃u,r=some u/\
   wpAny (model P w) X.A (letOwnedTupleGo tg (.ref it) u) (fun _ s2=>∃x H',Inv X pins σ H' s2/\RelV x u/\J.yld i H x H'/\tn (i+1) s2.heap/\∀b∈fp,H' b=none) E s1) E s
 done:∀(X:Cx),X.prog=P->X.w=w->X.K=K->X.calm=true->∀(i:Nat) (pins:List (Addr×Obj)) (s:Shared) (σ:St) (H:Hp) (E:Value->Shared->Prop),Inv X pins σ H s->(∀b∈fp,FpOk X pins H b)->tn i s.heap->J.stop i H->
  wpAny (model P w) X.A (pyNext (.ref it)) (fun r s1=>r=none/\Inv X pins σ H s1) E s
 self:∀(A:Around) (i:Nat) (s:Shared) (Q:Value->Shared->Prop) (E:Value->Shared->Prop),tn i s.heap->Q (.ref it) s->wpAny (model P w) A (pyIter (.ref it)) Q E s
noncomputable abbrev TI:=St->Hp->(It->Hp->Prop)->Prop
def PIE (X:Cx) (pins:List (Addr×Obj)) (σ:St) (tg:Expr) (R:It->Hp->Prop) (itv:Value) (s2:Shared):Prop:=
 ∃(it:Addr) (fp:List Addr) (tn:Nat->Heap->Prop) (J:It) (H':Hp),itv=.ref it/\Inv X pins σ H' s2/\Turn X.prog X.w X.K tg J fp it tn/\tn 0 s2.heap/\(∀b∈fp,FpOk X pins H' b)/\R J H'
def PI (X:Cx) (tg iter:Expr) (wi:TI):Prop:=
 ∀(pins:List (Addr×Obj)) (s:Shared) (σ:St) (H:Hp) (R:It->Hp->Prop),Inv X pins σ H s->wi σ H R->
  wpAny (model X.prog X.w) X.A (eval iter X.env) (fun v s1=>wpAny (model X.prog X.w) X.A (pyIter v) (PIE X pins σ tg R) X.xe s1) X.xe s
theorem go_of {M:Model} {A:Around} {E:Value->Shared->Prop} {s:Shared} {tg:Expr} {it:Addr} {u:Value} {o:Obj} {n:String} {vs:Array Value} {Q:Unit->Shared->Prop} (ho:s.heap.get? it=some o) (hc:o.cls=.type n) (hd:o.data=.fields vs)
  (hn:["enumerate","zip","dict_itemiterator","dict_reverseitemiterator","odict_iterator","itertools.zip_longest","itertools.pairwise"].contains n=false) (hQ:Q () s):wpAny M A (letOwnedTupleGo tg (.ref it) u) Q E s:=by
 unfold letOwnedTupleGo
 cases tg<;>first
  |exact wpAny_pure hQ
  |(cases u<;>first
    |exact wpAny_pure hQ
    |(refine wpAny_bind (wpAny_load ho ?_)
      rw[hc,hd]
      show wpAny M A (if(["enumerate","zip","dict_itemiterator","dict_reverseitemiterator","odict_iterator","itertools.zip_longest","itertools.pairwise"].contains n&&vs[0]? == some (rawInt _))=true then _ else _) Q E s
      rw[if_neg (by intro h;rw[hn,Bool.false_and]at h;cases h)]
      exact wpAny_pure hQ))
noncomputable def Itl (K:W.Frag) (a:Addr):It:=
 ⟨fun i H=>∃xs x,SqL K H a xs/\xs[i]?=some x,fun i H x H'=>H'=H/\∀xs,SqL K H a xs->xs[i]?=some x,fun i H=>∃xs,SqL K H a xs/\xs.length<=i⟩
noncomputable def Itt (K:W.Frag) (a:Addr):It:=
 ⟨fun i H=>∃xs x,SqT K H a xs/\xs[i]?=some x,fun i H x H'=>H'=H/\∀xs,SqT K H a xs->xs[i]?=some x,fun i H=>∃xs,SqT K H a xs/\xs.length<=i⟩
noncomputable def Itr (lo:Int) (n:Nat):It:=⟨fun i _=>i<n,fun i H x H'=>H'=H/\x=.int (lo+i),fun i _=>n<=i⟩
theorem turn_list {P:Program} {w:World} {K:W.Frag} {tg:Expr} (a it:Addr):Turn P w K tg (Itl K a) [it] it (fun i h=>h.IsListIter it a i) where
 mem:=by simp
 obj:=fun i h st b hb=>by
  have e:b=it:=by simpa using hb
  subst e
  obtain⟨o,e,c,d⟩:=st
  exact⟨o,e,fun v z=>by rw[d]at z;cases z⟩
 keep:=fun i h h' st k=>st.at fun o e=>k it (by simp) o e
 item:=by
  intro X hP hw hK hc i pins s σ H E I hf st hg
  subst hP hw hK
  obtain⟨xs,x,hq,hx⟩:=hg
  obtain⟨its,rv,p,hz⟩:=I.list hq
  obtain⟨u,hu,ru⟩:=rv.get hx
  obtain⟨f0,f1,f2,f3,f4,f5⟩:=hf it (by simp)
  refine wpAny_pyNext_list_item st p.isList (x:=u) (by simpa using hu) fun h' st' sb=>?_
  have I1:Inv X pins σ H { s with heap:=h' }:=I.turned (t':=s.toks) (fun b o hb e=>(sb.2 b hb).trans e) f0 f1 f3 f4 f5
  obtain⟨o,e,c,d⟩:=id st'
  exact⟨u,rfl,go_of (s:={ s with heap:=h' }) e c d (by decide) ⟨x,H,I1,ru,⟨rfl,fun ys hy=>by rw[I.list_inj hy hq];exact hx⟩,st',fun b hb=>(hf b hb).1⟩⟩
 done:=by
  intro X hP hw hK hc i pins s σ H E I hf st hg
  subst hP hw hK
  obtain⟨xs,hq,hx⟩:=hg
  obtain⟨its,rv,p,hz⟩:=I.list hq
  obtain⟨f0,f1,f2,f3,f4,f5⟩:=hf it (by simp)
  have hl:=rv.length
  exact wpAny_pyNext_list_end (I.ok.hd hc) st p.isList (by simp;omega) fun h' eb=>⟨rfl,I.turned (t':=s.toks) (fun b o hb e=>eb b o hb e) f0 f1 f3 f4 f5⟩
 self:=fun _ _ _ _ _ st h=>wpAny_pyIter_listiter st h
theorem turn_tuple {P:Program} {w:World} {K:W.Frag} {tg:Expr} (a it:Addr):Turn P w K tg (Itt K a) [it] it (fun i h=>h.IsTupleIter it a i) where
 mem:=by simp
 obj:=fun i h st b hb=>by
  have e:b=it:=by simpa using hb
  subst e
  obtain⟨o,e,c,d⟩:=st
  exact⟨o,e,fun v z=>by rw[d]at z;cases z⟩
 keep:=fun i h h' st k=>st.at fun o e=>k it (by simp) o e
 item:=by
  intro X hP hw hK hc i pins s σ H E I hf st hg
  subst hP hw hK
  obtain⟨xs,x,hq,hx⟩:=hg
  obtain⟨its,rv,p,hz⟩:=I.tuple hq
  obtain⟨u,hu,ru⟩:=rv.get hx
  obtain⟨f0,f1,f2,f3,f4,f5⟩:=hf it (by simp)
  refine wpAny_pyNext_tuple_item st (show s.heap.IsTuple a its.toArray from p) (x:=u) (by simpa using hu) fun h' st' sb=>?_
  have I1:Inv X pins σ H { s with heap:=h' }:=I.turned (t':=s.toks) (fun b o hb e=>(sb.2 b hb).trans e) f0 f1 f3 f4 f5
  obtain⟨o,e,c,d⟩:=id st'
  exact⟨u,rfl,go_of (s:={ s with heap:=h' }) e c d (by decide) ⟨x,H,I1,ru,⟨rfl,fun ys hy=>by rw[I.tuple_inj hy hq];exact hx⟩,st',fun b hb=>(hf b hb).1⟩⟩
 done:=by
  intro X hP hw hK hc i pins s σ H E I hf st hg
  subst hP hw hK
  obtain⟨xs,hq,hx⟩:=hg
  obtain⟨its,rv,p,hz⟩:=I.tuple hq
  obtain⟨f0,f1,f2,f3,f4,f5⟩:=hf it (by simp)
  have hl:=rv.length
  exact wpAny_pyNext_tuple_end (I.ok.hd hc) st (show s.heap.IsTuple a its.toArray from p) (by simp;omega) fun h' eb=>⟨rfl,I.turned (t':=s.toks) (fun b o hb e=>eb b o hb e) f0 f1 f3 f4 f5⟩
 self:=fun _ _ _ _ _ st h=>wpAny_pyIter_tupleiter st h
theorem turn_range {P:Program} {w:World} {K:W.Frag} {tg:Expr} (it:Addr) (lo:Int) (n:Nat):Turn P w K tg (Itr lo n) [it] it (fun i h=>IsRangeIter h it (lo+(i:Nat)*1) ((n:Int)-(i:Nat)) 1) where
 mem:=by simp
 obj:=fun i h st b hb=>by
  have e:b=it:=by simpa using hb
  subst e
  exact⟨_,st,fun v z=>by
   have z':Data.fields _=Data.cell v:=z
   cases z'⟩
 keep:=fun i h h' st k=>k it (by simp) _ st
 item:=by
  intro X hP hw hK hc i pins s σ H E I hf st hg
  subst hP hw hK
  obtain⟨f0,f1,f2,f3,f4,f5⟩:=hf it (by simp)
  have W:=Walks.range (prog:=X.prog) (w:=X.w) (I.ok.hd hc) it lo 1 n
  refine W.item i s _ _ hg st fun v h' tk hv st' kk=>?_
  obtain⟨t,rfl⟩:=hv
  have I1:Inv X pins σ H { s with heap:=h',toks:=tk }:=I.turned (fun b o hb e=>kk b o (by simpa using hb) e) f0 f1 f3 f4 f5
  refine⟨_,rfl,go_of (s:={ s with heap:=h',toks:=tk }) (n:="range_iterator") st' rfl rfl (by decide) ⟨.int (lo+i),H,I1,⟨t,?_⟩,⟨rfl,rfl⟩,st',fun b hb=>(hf b hb).1⟩⟩
  rw[Int.mul_one]
 done:=by
  intro X hP hw hK hc i pins s σ H E I hf st hg
  subst hP hw hK
  obtain⟨f0,f1,f2,f3,f4,f5⟩:=hf it (by simp)
  exact wpAny_pyNext_range_end (I.ok.hd hc) st (by have:n<=i:=hg;omega) fun h' eb=>⟨rfl,I.turned (t':=s.toks) (fun b o hb e=>eb b o hb e) f0 f1 f3 f4 f5⟩
 self:=fun _ _ _ _ _ st h=>wpAny_pyIter_rangeiter st h
section
variable {X:Cx} {tg:Expr}
theorem range_it {pins:List (Addr×Obj)} {σ:St} {H:Hp} {s:Shared} {R:It->Hp->Prop} {E:Value->Shared->Prop} {lo hi:Int} {t u v:Tok} {tk:Nat} (I:Inv X pins σ H s) (h1:-(2 ^ 62)<=lo) (h2:lo<2 ^ 62) (h3:-(2 ^ 62)<=hi) (h4:hi<2 ^ 62)
  (q:R (Itr lo (hi-lo).toNat) H):wpAny (model X.prog X.w) X.A (pyIter (.ref s.heap.objs.size)) (PIE X pins σ tg R) E { s with heap:=s.heap.push { cls:=.type "range",data:=.fields #[.int lo t,.int hi u,.int 1 v] },toks:=tk }:=by
 refine wpAny_pyIter_range (IsRange.new ..) (small_one h1 h2 h3 h4) ?_
 have I1:Inv X pins σ H { s with heap:=s.heap.push { cls:=.type "range",data:=.fields #[.int lo t,.int hi u,.int 1 v] },toks:=tk }:=I.kept fun b o e=>Heap.get?_push_of_some _ e
 refine⟨(s.heap.push { cls:=.type "range",data:=.fields #[.int lo t,.int hi u,.int 1 v] }).objs.size,[(s.heap.push { cls:=.type "range",data:=.fields #[.int lo t,.int hi u,.int 1 v] }).objs.size],_,_,H,rfl,
  I1.kept (t':=tk) fun b o e=>Heap.get?_push_of_some _ e,turn_range _ lo (hi-lo).toNat,?_,fun b hb=>?_,q⟩
 .have e1:lo+((0:Nat):Int)*1=lo:=by simp
  have e2:(((hi-lo).toNat:Nat):Int)-((0:Nat):Int)=Builtin.Range.rangeSize lo hi 1:=by rw[rangeSize_one];split<;>omega
  show IsRangeIter _ _ (lo+((0:Nat):Int)*1) ((((hi-lo).toNat:Nat):Int)-((0:Nat):Int)) 1
  rw[e1,e2]
  exact Heap.get?_push_size _ rfl
 .have e:b=(s.heap.push { cls:=.type "range",data:=.fields #[.int lo t,.int hi u,.int 1 v] }).objs.size:=by simpa using hb
  subst e
  exact I1.fpOk (Nat.le_refl _) (I1.hok.fresh (Nat.le_refl _))
noncomputable def iRng1 (ta:TA):TI:=fun σ H R=>ta σ H fun vs H1=>∃j:Int,vs=[.int j]/\-(2 ^ 62)<=j/\j<2 ^ 62/\R (Itr 0 j.toNat) H1
noncomputable def iRng2 (ta:TA):TI:=fun σ H R=>ta σ H fun vs H1=>∃i j:Int,vs=[.int i,.int j]/\(-(2 ^ 62)<=i/\i<2 ^ 62/\-(2 ^ 62)<=j/\j<2 ^ 62)/\R (Itr i (j-i).toNat) H1
theorem pi_range1 {a:Expr} {ta:TA} {p pos:Pos} (hg:Gl X "range") (hm:X.mg "range"=none) (ha:PA X [a] ta) (hs:starEach [a] X.env=[(false,eval a X.env)]:=by rfl):PI X tg (.Call (.Name "range" p) [a] [] pos) (iRng1 ta):=by
 intro pins s σ H R I h
 refine Call_ (ld_blt I hg hm boot_range (PyProof.Rows.callWith_type1 (thn (ha pos pins s σ H _ I h) fun us s1 ⟨vs,H1,I1,r1,q1⟩=>?_) hs rfl))
 obtain⟨j,e,q1,q2,q⟩:=q1
 subst e
 cases r1 with
 |cons r rr=>
  cases rr
  obtain⟨t,rfl⟩:=r
  exact call_range_1 (range_it I1 (by omega) (by omega) q1 q2 (by simpa using q))
theorem pi_range2 {a b:Expr} {ta:TA} {p pos:Pos} (hg:Gl X "range") (hm:X.mg "range"=none) (ha:PA X [a,b] ta) (hs:starEach [a,b] X.env=[(false,eval a X.env),(false,eval b X.env)]:=by rfl) (hs2:starEach [b] X.env=[(false,eval b X.env)]:=by rfl):
  PI X tg (.Call (.Name "range" p) [a,b] [] pos) (iRng2 ta):=by
 intro pins s σ H R I h
 refine Call_ (ld_blt I hg hm boot_range (PyProof.Rows.callWith_type1 (thn (ha pos pins s σ H _ I h) fun us s1 ⟨vs,H1,I1,r1,q1⟩=>?_) (by rw[hs,hs2]) (by rw[hs2];rfl)))
 obtain⟨i,j,e,⟨q1,q2,q3,q4⟩,q⟩:=q1
 subst e
 cases r1 with
 |cons r rr=>
  cases rr with
  |cons r' rr=>
   cases rr
   obtain⟨t,rfl⟩:=r
   obtain⟨t',rfl⟩:=r'
   exact call_range_2 (range_it I1 q1 q2 q3 q4 q)
noncomputable def tFor (wi:TI) (g:TG) (tb:TS):TS:=fun D σ H=>wi σ H fun J H1=>∃W:Nat->Nat->St->Hp->Prop,(∃m,W 0 m σ H1)/\∀i m σ H,W i m σ H->
 (J.stop i H/\D.nx σ H)\/(J.go i H/\∃N:St->Hp->Prop,(∀σ' H',N σ' H'->∃m',m'<m/\W (i+1) m' σ' H')/\∀x H',J.yld i H x H'->g x σ H' fun σ2 H2=>tb { D with nx:=N,ct:=N,bk:=D.nx } σ2 H2)
noncomputable def pinsAt (fp:List Addr) (h:Heap):List (Addr×Obj):=fp.filterMap fun b=>(h.get? b).map fun o=>(b,o)
theorem mem_pinsAt {fp:List Addr} {h:Heap} {b:Addr} {o:Obj} (hb:b∈fp) (e:h.get? b=some o):(b,o)∈pinsAt fp h:=List.mem_filterMap.mpr ⟨b,hb,by rw[e];rfl⟩
theorem of_pinsAt {fp:List Addr} {h:Heap} {p:Addr×Obj} (hp:p∈pinsAt fp h):p.1∈fp/\h.get? p.1=some p.2:=by
 obtain⟨b,hb,e⟩:=List.mem_filterMap.mp hp
 cases q:h.get? b with
 |none=>rw[q]at e;cases e
 |some o=>
  rw[q]at e
  have e':(b,o)=p:=Option.some.inj e
  subst e'
  exact⟨hb,q⟩
theorem Inv.pinned {pins:List (Addr×Obj)} {σ:St} {H:Hp} {s:Shared} {fp:List Addr} (I:Inv X pins σ H s) (hf:∀b∈fp,FpOk X pins H b) (ho:∀b∈fp,∃o,s.heap.get? b=some o/\∀v,o.data≠.cell v):Inv X (pins++pinsAt fp s.heap) σ H s:=
 I.pins_of fun p hp=>(List.mem_append.mp hp).elim (fun z=>I.pin p (List.mem_append_right _ z)) fun z=>by
  obtain⟨hb,e⟩:=of_pinsAt z
  obtain⟨f0,f1,f2,_⟩:=hf p.1 hb
  obtain⟨o,e',d⟩:=ho p.1 hb
  rw[e]at e';cases e'
  exact⟨e,f0,f1,f2,d⟩
theorem Inv.unpinned {pins pl:List (Addr×Obj)} {σ:St} {H:Hp} {s:Shared} (I:Inv X (pins++pl) σ H s):Inv X pins σ H s:=I.pins_of fun p hp=>I.pin p (List.mem_append_right _ (List.mem_append_left _ hp))
theorem ps_for {iter:Expr} {body:List Stmt} {wi:TI} {g:TG} {tb:TS} {pos:Pos} (hp:PassesOwn (model X.prog X.w) X.A X.env X.xe) (hc:X.calm=true) (hi:PI X tg iter wi) (hg:PG X tg g) (hb:PSs X body tb)
  (hs:∀x,foldedSetIterable iter X.env x=pure x:=by intro _;rfl):PS X (.For tg iter body [] pos) (tFor wi g tb):=by
 intro pins s σ H D I h
 refine wpAny_For (thn (hi pins s σ H _ I h) fun v s1 h1=>thn h1 fun itv s2 h2=>?_) hs
 obtain⟨it,fp,tn,J,H2,e,I2,T,st2,f2,W,⟨m0,w0⟩,turn⟩:=h2
 subst e
 have stat:∀{H':Hp},(∀b∈fp,H' b=none)->∀b∈fp,FpOk X pins H' b:=fun hn b hb=>⟨hn b hb,(f2 b hb).2⟩
 refine codeAny_forLoop_any (fun n s'=>∃i σ' H',Inv X pins σ' H' s'/\tn i s'.heap/\(∀b∈fp,H' b=none)/\W i n σ' H') ?_ m0 ⟨0,σ,H2,I2,st2,fun b hb=>(f2 b hb).1,w0⟩
 rintro n s3 ⟨i,σ3,H3,I3,st3,fr3,w3⟩
 rcases turn i n σ3 H3 w3 with⟨stop,qn⟩|⟨go,N,hN,step⟩
 .refine wpAny_passesOwn hp (thn (T.done X rfl rfl rfl hc i pins s3 σ3 H3 X.xe I3 (stat fr3) st3 stop) fun r s4 ⟨hr,I4⟩=>?_)
  subst hr
  exact wpAny_execs_nil ⟨σ3,H3,I4,qn⟩
 .refine wpAny_passesOwn hp (thn (T.item X rfl rfl rfl hc i pins s3 σ3 H3 X.xe I3 (stat fr3) st3 go) fun r s4 ⟨u,hr,h4⟩=>?_)
  subst hr
  refine wpAny_passesOwn hp (thn h4 fun _ s5 ⟨x,H5,I5,r5,y5,st5,fr5⟩=>?_)
  have I5':=I5.pinned (stat fr5) (T.obj _ _ st5)
  refine wpAny_passesOwn hp (thn (hg _ s5 σ3 H5 x u _ I5' r5 (step x H5 y5)) fun _ s6 ⟨σ6,H6,I6,q6⟩=>?_)
  refine wpAny_passesOwn hp (thn (hb _ s6 σ6 H6 _ I6 q6) fun f s7 q7=>?_)
  have again:∀{σ7:St} {H7:Hp},Inv X (pins++pinsAt fp s5.heap) σ7 H7 s7->N σ7 H7->∃m,m<n/\∃i σ' H',Inv X pins σ' H' s7/\tn i s7.heap/\(∀b∈fp,H' b=none)/\W i m σ' H':=fun {σ7 H7} I7 n7=>by
   obtain⟨m',hm,w7⟩:=hN σ7 H7 n7
   refine⟨m',hm,i+1,σ7,H7,I7.unpinned,T.keep _ _ _ st5 fun b hb o e=>(I7.pin (b,o) (List.mem_append_right _ (List.mem_append_right _ (mem_pinsAt hb e)))).1,fun b hb=>?_,w7⟩
   obtain⟨o,e,d⟩:=T.obj _ _ st5 b hb
   exact(I7.pin (b,o) (List.mem_append_right _ (List.mem_append_right _ (mem_pinsAt hb e)))).2.1
  cases f with
  |next=>obtain⟨σ7,H7,I7,n7⟩:=q7;exact again I7 n7
  |cont=>obtain⟨σ7,H7,I7,n7⟩:=q7;exact again I7 n7
  |brk=>obtain⟨σ7,H7,I7,q7⟩:=q7;exact⟨σ7,H7,I7.unpinned,q7⟩
  |ret v=>obtain⟨x7,σ7,H7,I7,r7,q7⟩:=q7;exact⟨x7,σ7,H7,I7.unpinned,r7,q7⟩
end
theorem for_list {K:W.Frag} {a:Addr} {xs:List V} {g:TG} {tb:TS} {D:Ends} {σ:St} {H:Hp} (Pv:Nat->St->Hp->Prop) (h0:Pv 0 σ H) (hl:∀i σ H,i<=xs.length->Pv i σ H->SqL K H a xs)
  (hs:∀i x σ H,xs[i]?=some x->Pv i σ H->g x σ H fun σ2 H2=>tb { D with nx:=Pv (i+1),ct:=Pv (i+1),bk:=D.nx } σ2 H2) (hd:∀σ H,Pv xs.length σ H->D.nx σ H):
  ∃W:Nat->Nat->St->Hp->Prop,(∃m,W 0 m σ H)/\∀i m σ H,W i m σ H->
   ((Itl K a).stop i H/\D.nx σ H)\/((Itl K a).go i H/\∃N:St->Hp->Prop,(∀σ' H',N σ' H'->∃m',m'<m/\W (i+1) m' σ' H')/\∀x H',(Itl K a).yld i H x H'->g x σ H' fun σ2 H2=>tb { D with nx:=N,ct:=N,bk:=D.nx } σ2 H2):=by
 refine⟨fun i m σ H=>m=xs.length-i/\i<=xs.length/\Pv i σ H,⟨xs.length,by simp,Nat.zero_le _,h0⟩,?_⟩
 rintro i m σ H ⟨rfl,hi,p⟩
 have q:=hl i σ H hi p
 by_cases hlt:i<xs.length
 .refine .inr ⟨⟨xs,xs[i],q,by simp[hlt]⟩,Pv (i+1),fun σ' H' p'=>⟨xs.length-(i+1),by omega,rfl,hlt,p'⟩,fun x H' y=>?_⟩
  obtain⟨e,y⟩:=y
  subst e
  exact hs i x σ _ (y xs q) p
 .have e:i=xs.length:=by omega
  subst e
  exact .inl ⟨⟨xs,q,Nat.le_refl _⟩,hd σ H p⟩
theorem for_range {lo:Int} {n:Nat} {g:TG} {tb:TS} {D:Ends} {σ:St} {H:Hp} (Pv:Nat->St->Hp->Prop) (h0:Pv 0 σ H)
  (hs:∀i σ H,i<n->Pv i σ H->g (.int (lo+i)) σ H fun σ2 H2=>tb { D with nx:=Pv (i+1),ct:=Pv (i+1),bk:=D.nx } σ2 H2) (hd:∀σ H,Pv n σ H->D.nx σ H):
  ∃W:Nat->Nat->St->Hp->Prop,(∃m,W 0 m σ H)/\∀i m σ H,W i m σ H->
   ((Itr lo n).stop i H/\D.nx σ H)\/((Itr lo n).go i H/\∃N:St->Hp->Prop,(∀σ' H',N σ' H'->∃m',m'<m/\W (i+1) m' σ' H')/\∀x H',(Itr lo n).yld i H x H'->g x σ H' fun σ2 H2=>tb { D with nx:=N,ct:=N,bk:=D.nx } σ2 H2):=by
 refine⟨fun i m σ H=>m=n-i/\i<=n/\Pv i σ H,⟨n,by simp,Nat.zero_le _,h0⟩,?_⟩
 rintro i m σ H ⟨rfl,hi,p⟩
 by_cases hlt:i<n
 .refine .inr ⟨hlt,Pv (i+1),fun σ' H' p'=>⟨n-(i+1),by omega,rfl,hlt,p'⟩,fun x H' y=>?_⟩
  obtain⟨e,y⟩:=y
  subst e y
  exact hs i σ _ hlt p
 .have e:i=n:=by omega
  subst e
  exact .inl ⟨Nat.le_refl _,hd σ H p⟩
noncomputable abbrev R2:=V->V->Hp->VK->Prop
def OpR (X:Cx) (f:Value->Value->Sem Value) (r:R2):Prop:=
 ∀(pins:List (Addr×Obj)) (s:Shared) (σ:St) (H:Hp) (x y:V) (v u:Value) (Q:VK),Inv X pins σ H s->RelV x v->RelV y u->r x y H Q->
  wpAny (model X.prog X.w) X.A (f v u) (EP X pins σ Q) X.xe s
def UnR (X:Cx) (f:Value->Sem Value) (r:V->Hp->VK->Prop):Prop:=
 ∀(pins:List (Addr×Obj)) (s:Shared) (σ:St) (H:Hp) (x:V) (v:Value) (Q:VK),Inv X pins σ H s->RelV x v->r x H Q->
  wpAny (model X.prog X.w) X.A (f v) (EP X pins σ Q) X.xe s
def CallR (X:Cx) (f:Value) (r:List V->Hp->VK->Prop):Prop:=
 ∀(pins:List (Addr×Obj)) (s:Shared) (σ:St) (H:Hp) (xs:List V) (us:List Value) (Q:VK),Inv X pins σ H s->Vals xs us->r xs H Q->
  wpAny (model X.prog X.w) X.A (call f us) (EP X pins σ Q) X.xe s
def TruR (X:Cx) (r:V->Hp->(Bool->Hp->Prop)->Prop):Prop:=
 ∀(pins:List (Addr×Obj)) (s:Shared) (σ:St) (H:Hp) (x:V) (v:Value) (Q:Bool->Hp->Prop),Inv X pins σ H s->RelV x v->r x H Q->
  wpAny (model X.prog X.w) X.A (truthy v) (TP X pins σ Q) X.xe s
noncomputable def tOp (r:R2) (ta tb:TE):TE:=fun σ H Q=>ta σ H fun x H1=>tb σ H1 fun y H2=>r x y H2 Q
noncomputable def tUn (r:V->Hp->VK->Prop) (ta:TE):TE:=fun σ H Q=>ta σ H fun x H1=>r x H1 Q
noncomputable def rI (C:Int->Int->Prop) (g:Int->Int->V):R2:=fun x y H Q=>∃i j,x=.int i/\y=.int j/\C i j/\Q (g i j) H
noncomputable def rI0 (g:Int->Int->V):R2:=fun x y H Q=>∃i j,x=.int i/\y=.int j/\Q (g i j) H
noncomputable def rU (g:Int->V):V->Hp->VK->Prop:=fun x H Q=>∃i,x=.int i/\Q (g i) H
section
variable {X:Cx} {a b c:Expr} {ta tb tc:TE} {pos:Pos}
theorem binT (ha:PE X a ta) (hb:PE X b tb) {pins:List (Addr×Obj)} {s:Shared} {σ:St} {H:Hp} {R:V->V->Hp->Prop} (I:Inv X pins σ H s)
  (h:ta σ H fun x H1=>tb σ H1 fun y H2=>R x y H2) {Q:Value->Shared->Prop} {f:Value->Value->Sem Value}
  (hf:∀v u s2 x y H2,Inv X pins σ H2 s2->RelV x v->RelV y u->R x y H2->wpAny (model X.prog X.w) X.A (f v u) Q X.xe s2):
  wpAny (model X.prog X.w) X.A (eval a X.env) (fun v s₁=>wpAny (model X.prog X.w) X.A (eval b X.env) (fun u s₂=>wpAny (model X.prog X.w) X.A (f v u) Q X.xe s₂) X.xe s₁) X.xe s:=by
 refine thn (ha pins s σ H _ I h) fun v s1 ⟨x,H1,I1,r1,q1⟩=>?_
 refine thn (hb pins s1 σ H1 _ I1 q1) fun u s2 ⟨y,H2,I2,r2,q2⟩=>?_
 exact hf v u s2 x y H2 I2 r1 r2 q2
theorem pe_op {op:Operator} {r:R2} (ho:OpR X (binaryOp op) r) (ha:PE X a ta) (hb:PE X b tb):PE X (.BinOp a op b pos) (tOp r ta tb):=by
 intro pins s σ H Q I h
 exact wpAny_BinOp (binT ha hb I h fun v u s2 x y H2 I2 rx ry q=>ho pins s2 σ H2 x y v u Q I2 rx ry q)
theorem pe_un {op:UnaryOp} {r:V->Hp->VK->Prop} (ho:UnR X (unaryOp op) r) (ha:PE X a ta):PE X (.UnaryOp op a pos) (tUn r ta):=by
 intro pins s σ H Q I h
 exact UnaryOp_ (thn (ha pins s σ H _ I h) fun v s1 ⟨x,H1,I1,r1,q1⟩=>ho pins s1 σ H1 x v Q I1 r1 q1)
theorem opI {f:Value->Value->Sem Value} {C:Int->Int->Prop} {g:Int->Int->Int}
  (rule:∀(i j:Int) (t u:Tok) (s:Shared) (Q:Value->Shared->Prop) (E:Value->Shared->Prop),C i j->Q (.int (g i j) s.toks) { s with toks:=s.toks+1 }->wpAny (model X.prog X.w) X.A (f (.int i t) (.int j u)) Q E s):
  OpR X f (rI C fun i j=>.int (g i j)):=by
 intro pins s σ H x y v u Q I rx ry h
 obtain⟨i,j,rfl,rfl,hc,q⟩:=h
 obtain⟨t,rfl⟩:=rx
 obtain⟨t',rfl⟩:=ry
 exact rule i j t t' s _ _ hc ⟨.int (g i j),H,I.tok _,⟨_,rfl⟩,q⟩
theorem opI0 {f:Value->Value->Sem Value} {g:Int->Int->Int}
  (rule:∀(i j:Int) (t u:Tok) (s:Shared) (Q:Value->Shared->Prop) (E:Value->Shared->Prop),Q (.int (g i j) s.toks) { s with toks:=s.toks+1 }->wpAny (model X.prog X.w) X.A (f (.int i t) (.int j u)) Q E s):
  OpR X f (rI0 fun i j=>.int (g i j)):=by
 intro pins s σ H x y v u Q I rx ry h
 obtain⟨i,j,rfl,rfl,q⟩:=h
 obtain⟨t,rfl⟩:=rx
 obtain⟨t',rfl⟩:=ry
 exact rule i j t t' s _ _ ⟨.int (g i j),H,I.tok _,⟨_,rfl⟩,q⟩
theorem opB0 {f:Value->Value->Sem Value} {g:Int->Int->Bool}
  (rule:∀(i j:Int) (t u:Tok) (s:Shared) (Q:Value->Shared->Prop) (E:Value->Shared->Prop),Q (.bool (g i j)) s->wpAny (model X.prog X.w) X.A (f (.int i t) (.int j u)) Q E s):
  OpR X f (rI0 fun i j=>.bl (g i j)):=by
 intro pins s σ H x y v u Q I rx ry h
 obtain⟨i,j,rfl,rfl,q⟩:=h
 obtain⟨t,rfl⟩:=rx
 obtain⟨t',rfl⟩:=ry
 exact rule i j t t' s _ _ ⟨.bl (g i j),H,I,rfl,q⟩
def CDiv (i j:Int):Prop:=0<j/\j<1073741824
def CPow (i j:Int):Prop:=0<=j/\j<=1000000/\i.natAbs<2 ^ 64
def CMul (i j:Int):Prop:=(-(2 ^ 64)<i/\i<2 ^ 64)\/(-(2 ^ 64)<j/\j<2 ^ 64)
theorem CMul.ok {i j:Int} (h:CMul i j):IntMulOk i j:=by
 rcases h with⟨h1,h2⟩|⟨h1,h2⟩
 .exact .of_left (intBits_le_64 h1 h2)
 .exact .of_right (intBits_le_64 h1 h2)
theorem two_pow_nn (k:Nat):(0:Int)<=2 ^ k:=by
 rw[two_pow_cast]
 exact Int.natCast_nonneg _
theorem op_add:OpR X (binaryOp .Add) (rI0 fun i j=>.int (i+j)):=opI0 fun _ _ _ _ _ _ _ q=>add_int q
theorem op_sub:OpR X (binaryOp .Sub) (rI0 fun i j=>.int (i-j)):=opI0 fun _ _ _ _ _ _ _ q=>sub_int q
theorem op_fdiv:OpR X (binaryOp .FloorDiv) (rI CDiv fun i j=>.int (i / j)):=opI fun i j _ _ _ _ _ hc q=>by
 have h1:(0:Int)<j:=hc.1
 have h2:j<1073741824:=hc.2
 exact floordiv_int (by omega) (by rw[Int.fdiv_eq_ediv_of_nonneg i (by omega)];exact q) (.inl (PyProof.noPylong_small (by omega)))
theorem op_mod:OpR X (binaryOp .Mod) (rI (fun _ j=>0<j) fun i j=>.int (i % j)):=opI fun i j _ _ _ _ _ hc q=>by
 have h1:(0:Int)<j:=hc
 exact mod_int' (by omega) (by rw[Int.fmod_eq_emod_of_nonneg i (by omega)];exact q)
theorem op_pow:OpR X (binaryOp .Pow) (rI CPow fun i j=>.int (i ^ j.toNat)):=opI fun _ _ _ _ _ _ _ hc q=>pow_int_small hc.1 hc.2.1 hc.2.2 q
theorem op_shr:OpR X (binaryOp .RShift) (rI (fun _ j=>0<=j) fun i j=>.int (i / 2 ^ j.toNat)):=opI fun i j _ _ _ _ _ hc q=>
 rshift_int hc (by rw[Int.fdiv_eq_ediv_of_nonneg i (two_pow_nn _)];exact q)
theorem op_and:OpR X (binaryOp .BitAnd) (rI0 fun i j=>.int (Builtin.bitAnd i j)):=opI0 fun _ _ _ _ _ _ _ q=>and_int q
theorem unI {f:Value->Sem Value} {g:Int->Int}
  (rule:∀(i:Int) (t:Tok) (s:Shared) (Q:Value->Shared->Prop) (E:Value->Shared->Prop),Q (.int (g i) s.toks) { s with toks:=s.toks+1 }->wpAny (model X.prog X.w) X.A (f (.int i t)) Q E s):
  UnR X f (rU fun i=>.int (g i)):=by
 intro pins s σ H x v Q I rx h
 obtain⟨i,rfl,q⟩:=h
 obtain⟨t,rfl⟩:=rx
 exact rule i t s _ _ ⟨.int (g i),H,I.tok _,⟨_,rfl⟩,q⟩
theorem un_neg:UnR X (unaryOp .USub) (rU fun i=>.int (-i)):=unI fun _ _ _ _ _ q=>neg_int q
end
noncomputable def scal:V->V->Bool
 | .non,.non=>true | .non,.int _=>true | .int _,.non=>true | .non,.bl _=>true | .bl _,.non=>true | .non,.str _=>true | .str _,.non=>true
 | .int _,.int _=>true | .bl _,.bl _=>true | .str _,.str _=>true | .byt _,.byt _=>true
 | .int _,.str _=>true | .str _,.int _=>true | .bl _,.str _=>true | .str _,.bl _=>true
 |_,_=>false
noncomputable def rEq:R2:=fun x y H Q=>scal x y=true/\Q (.bl (decide (x=y))) H
noncomputable def rNe:R2:=fun x y H Q=>scal x y=true/\Q (.bl (!decide (x=y))) H
theorem dec_int {i j:Int}:decide (V.int i=V.int j)=(i == j):=by
 rw[Bool.eq_iff_iff]
 simp
theorem dec_bl {i j:Bool}:decide (V.bl i=V.bl j)=(i == j):=by
 rw[Bool.eq_iff_iff]
 simp
theorem dec_str {i j:Str}:decide (V.str i=V.str j)=(i == j):=by
 rw[Bool.eq_iff_iff]
 simp
theorem dec_byt {i j:Array UInt8}:decide (V.byt i=V.byt j)=(i.toList == j.toList):=by
 rw[Bool.eq_iff_iff]
 cases i
 cases j
 simp
section
variable {X:Cx} {a b c:Expr} {ta tb tc:TE} {pos:Pos}
theorem fin_bl {pins:List (Addr×Obj)} {σ:St} {H:Hp} {s:Shared} {Q:VK} {k k':Bool} (I:Inv X pins σ H s) (q:Q (.bl k) H) (e:k=k'):EP X pins σ Q (.bool k') s:=by
 subst e
 exact⟨.bl k,H,I,rfl,q⟩
theorem op_eq:OpR X (compareOp .Eq) rEq:=by
 intro pins s σ H x y v u Q I rx ry h
 obtain⟨hs,q⟩:=h
 cases x with
 |non=>
  cases rx
  cases y with
  |non=>cases ry;exact PySem.EqNone.eq_none_none (fin_bl I q (by simp))
  |bl j=>cases ry;exact PySem.EqNone.eq_none_bool (fin_bl I q (by simp))
  |int j=>obtain⟨t',rfl⟩:=ry;exact PySem.EqNone.eq_none_int (fin_bl I q (by simp))
  |str j=>obtain⟨t',rfl⟩:=ry;exact PySem.EqNone.eq_none_str (fin_bl I q (by simp))
  |_=>exact absurd (show false=true from hs) Bool.false_ne_true
 |bl i=>
  cases rx
  cases y with
  |non=>cases ry;exact PySem.EqNone.eq_bool_none (fin_bl I q (by simp))
  |bl j=>cases ry;exact eq_bool (fin_bl I q dec_bl)
  |str j=>obtain⟨t',rfl⟩:=ry;exact PySem.EqMixed.eq_bool_str (fin_bl I q (by simp))
  |_=>exact absurd (show false=true from hs) Bool.false_ne_true
 |int i=>
  obtain⟨t,rfl⟩:=rx
  cases y with
  |non=>cases ry;exact PySem.EqNone.eq_int_none (fin_bl I q (by simp))
  |int j=>obtain⟨t',rfl⟩:=ry;exact eq_int (fin_bl I q dec_int)
  |str j=>obtain⟨t',rfl⟩:=ry;exact PySem.EqMixed.eq_int_str (fin_bl I q (by simp))
  |_=>exact absurd (show false=true from hs) Bool.false_ne_true
 |str i=>
  obtain⟨t,rfl⟩:=rx
  cases y with
  |non=>cases ry;exact PySem.EqNone.eq_str_none (fin_bl I q (by simp))
  |bl j=>cases ry;exact PySem.EqMixed.eq_str_bool (fin_bl I q (by simp))
  |int j=>obtain⟨t',rfl⟩:=ry;exact PySem.EqMixed.eq_str_int (fin_bl I q (by simp))
  |str j=>obtain⟨t',rfl⟩:=ry;exact eq_str (fin_bl I q dec_str)
  |_=>exact absurd (show false=true from hs) Bool.false_ne_true
 |byt i=>
  obtain⟨t,rfl⟩:=rx
  cases y with
  |byt j=>obtain⟨t',rfl⟩:=ry;exact W.eq_bytes (fin_bl I q dec_byt)
  |_=>exact absurd (show false=true from hs) Bool.false_ne_true
 |_=>cases y<;>exact absurd (show false=true from hs) Bool.false_ne_true
theorem op_ne:OpR X (compareOp .NotEq) rNe:=by
 intro pins s σ H x y v u Q I rx ry h
 obtain⟨hs,q⟩:=h
 cases x with
 |non=>
  cases rx
  cases y with
  |non=>cases ry;exact PySem.EqNone.ne_none_none (fin_bl I q (by simp))
  |bl j=>cases ry;exact PySem.EqNone.ne_none_bool (fin_bl I q (by simp))
  |int j=>obtain⟨t',rfl⟩:=ry;exact PySem.EqNone.ne_none_int (fin_bl I q (by simp))
  |str j=>obtain⟨t',rfl⟩:=ry;exact PySem.EqNone.ne_none_str (fin_bl I q (by simp))
  |_=>exact absurd (show false=true from hs) Bool.false_ne_true
 |bl i=>
  cases rx
  cases y with
  |non=>cases ry;exact PySem.EqNone.ne_bool_none (fin_bl I q (by simp))
  |bl j=>cases ry;exact ne_bool (fin_bl I q (congrArg not dec_bl))
  |str j=>obtain⟨t',rfl⟩:=ry;exact PySem.EqMixed.ne_bool_str (fin_bl I q (by simp))
  |_=>exact absurd (show false=true from hs) Bool.false_ne_true
 |int i=>
  obtain⟨t,rfl⟩:=rx
  cases y with
  |non=>cases ry;exact PySem.EqNone.ne_int_none (fin_bl I q (by simp))
  |int j=>obtain⟨t',rfl⟩:=ry;exact ne_int (fin_bl I q (congrArg not dec_int))
  |str j=>obtain⟨t',rfl⟩:=ry;exact PySem.EqMixed.ne_int_str (fin_bl I q (by simp))
  |_=>exact absurd (show false=true from hs) Bool.false_ne_true
 |str i=>
  obtain⟨t,rfl⟩:=rx
  cases y with
  |non=>cases ry;exact PySem.EqNone.ne_str_none (fin_bl I q (by simp))
  |bl j=>cases ry;exact PySem.EqMixed.ne_str_bool (fin_bl I q (by simp))
  |int j=>obtain⟨t',rfl⟩:=ry;exact PySem.EqMixed.ne_str_int (fin_bl I q (by simp))
  |str j=>obtain⟨t',rfl⟩:=ry;exact ne_str (fin_bl I q (congrArg not dec_str))
  |_=>exact absurd (show false=true from hs) Bool.false_ne_true
 |byt i=>
  obtain⟨t,rfl⟩:=rx
  cases y with
  |byt j=>obtain⟨t',rfl⟩:=ry;exact W.ne_bytes (fin_bl I q (congrArg not dec_byt))
  |_=>exact absurd (show false=true from hs) Bool.false_ne_true
 |_=>cases y<;>exact absurd (show false=true from hs) Bool.false_ne_true
theorem op_lt:OpR X (compareOp .Lt) (rI0 fun i j=>.bl (decide (i<j))):=opB0 fun _ _ _ _ _ _ _ q=>lt_int q
theorem op_le:OpR X (compareOp .LtE) (rI0 fun i j=>.bl (decide (i<=j))):=opB0 fun _ _ _ _ _ _ _ q=>le_int q
theorem op_gt:OpR X (compareOp .Gt) (rI0 fun i j=>.bl (decide (j<i))):=opB0 fun _ _ _ _ _ _ _ q=>gt_int q
theorem op_ge:OpR X (compareOp .GtE) (rI0 fun i j=>.bl (decide (j<=i))):=opB0 fun _ _ _ _ _ _ _ q=>ge_int q
theorem op_isN:OpR X (compareOp .Is) (fun x y H Q=>y=.non/\Q (.bl (decide (x=.non))) H):=by
 intro pins s σ H x y v u Q I rx ry h
 obtain⟨rfl,q⟩:=h
 cases ry
 refine is_none_gen (fin_bl I q ?_)
 cases x<;>first
  |(cases rx;rfl)
  |(obtain⟨t,rfl⟩:=rx;rfl)
theorem op_notN:OpR X (compareOp .IsNot) (fun x y H Q=>y=.non/\Q (.bl (!decide (x=.non))) H):=by
 intro pins s σ H x y v u Q I rx ry h
 obtain⟨rfl,q⟩:=h
 cases ry
 refine isnot_none_gen (fin_bl I q ?_)
 cases x<;>first
  |(cases rx;rfl)
  |(obtain⟨t,rfl⟩:=rx;rfl)
theorem OpR.or {f:Value->Value->Sem Value} {r r':R2} (h:OpR X f r) (h':OpR X f r'):OpR X f (fun x y H Q=>r x y H Q\/r' x y H Q):=by
 intro pins s σ H x y v u Q I rx ry q
 rcases q with q|q
 .exact h pins s σ H x y v u Q I rx ry q
 .exact h' pins s σ H x y v u Q I rx ry q
theorem pe_cmpR {op:CmpOp} {r:R2} (ho:OpR X (compareOp op) r) (ha:PE X a ta) (hb:PE X b tb) (hm:behindInMarks op b=false):PE X (.Compare a [op] [b] pos) (tOp r ta tb):=by
 intro pins s σ H Q I h
 exact wpAny_Compare1 (binT ha hb I h fun v u s2 x y H2 I2 rx ry q=>ho pins s2 σ H2 x y v u Q I2 rx ry q) hm
noncomputable def tTest (t:TE):TT:=fun σ H Q=>t σ H fun x H'=>∃k,x=.bl k/\Q k H'
theorem pt_cmpR {op:CmpOp} {r:R2} (ho:OpR X (compareOp op) r) (ha:PE X a ta) (hb:PE X b tb) (hm:behindInMarks op b=false):PT X (.Compare a [op] [b] pos) (tTest (tOp r ta tb)):=by
 intro pins s σ H Q I h
 refine wpAny_isTrue_Compare1 (thn (ha pins s σ H _ I h) fun v s1 ⟨x,H1,I1,r1,q1⟩=>thn (hb pins s1 σ H1 _ I1 q1) fun u s2 ⟨y,H2,I2,r2,q2⟩=>
  thn (ho pins s2 σ H2 x y v u _ I2 r1 r2 q2) fun c s3 ⟨z,H3,I3,r3,k,e,q3⟩=>?_) hm
 subst e
 cases r3
 exact wpAny_truthy_bool ⟨H3,I3,q3⟩
noncomputable def tChain (r r':R2) (ta tb tc:TE):TE:=fun σ H Q=>ta σ H fun x H1=>tb σ H1 fun y H2=>r x y H2 fun z H3=>∃k,z=.bl k/\
 (if k=true then tc σ H3 fun w' H4=>r' y w' H4 Q else Q (.bl false) H3)
theorem pe_chain {op op':CmpOp} {r r':R2} (ho:OpR X (compareOp op) r) (ho':OpR X (compareOp op') r') (ha:PE X a ta) (hb:PE X b tb) (hc:PE X c tc)
  (hm:lastMarks [op,op'] [b,c]=false:=by with_unfolding_all rfl):PE X (.Compare a [op,op'] [b,c] pos) (tChain r r' ta tb tc):=by
 intro pins s σ H Q I h
 refine Compare_chain (thn (ha pins s σ H _ I h) fun v s1 ⟨x,H1,I1,r1,q1⟩=>chain_link (thn (hb pins s1 σ H1 _ I1 q1) fun u s2 ⟨y,H2,I2,r2,q2⟩=>
  thn (ho pins s2 σ H2 x y v u _ I2 r1 r2 q2) fun d s3 ⟨z,H3,I3,r3,k,e,q3⟩=>?_)) hm
 subst e
 cases r3
 refine wpAny_truthy_bool ?_
 cases k with
 |false=>exact ite_ff ⟨.bl false,H3,I3,rfl,q3⟩
 |true=>exact ite_tt (chain_last (thn (hc pins s3 σ H3 _ I3 q3) fun w' s4 ⟨z',H4,I4,r4,q4⟩=>ho' pins s4 σ H4 y z' u w' Q I4 r2 r4 q4))
theorem pt_chain {op op':CmpOp} {r r':R2} (ho:OpR X (compareOp op) r) (ho':OpR X (compareOp op') r') (ha:PE X a ta) (hb:PE X b tb) (hc:PE X c tc)
  (hm:lastMarks [op,op'] [b,c]=false:=by with_unfolding_all rfl):PT X (.Compare a [op,op'] [b,c] pos) (tTest (tChain r r' ta tb tc)):=by
 intro pins s σ H Q I h
 refine isTrue_chain (thn (ha pins s σ H _ I h) fun v s1 ⟨x,H1,I1,r1,q1⟩=>test_link (thn (hb pins s1 σ H1 _ I1 q1) fun u s2 ⟨y,H2,I2,r2,q2⟩=>
  thn (ho pins s2 σ H2 x y v u _ I2 r1 r2 q2) fun d s3 ⟨z,H3,I3,r3,k,e,q3⟩=>?_)) hm
 subst e
 cases r3
 refine wpAny_truthy_bool ?_
 cases k with
 |false=>
  obtain⟨k',e',q'⟩:=q3
  cases e'
  exact ite_ff ⟨H3,I3,q'⟩
 |true=>
  refine ite_tt (test_last (thn (hc pins s3 σ H3 _ I3 q3) fun w' s4 ⟨z',H4,I4,r4,q4⟩=>thn (ho' pins s4 σ H4 y z' u w' _ I4 r2 r4 q4) fun d' s5 ⟨z2,H5,I5,r5,k2,e2,q5⟩=>?_))
  subst e2
  cases r5
  exact wpAny_truthy_bool ⟨H5,I5,q5⟩
def TruV (K:W.Frag) (x:V) (H:Hp) (k:Bool):Prop:=
 match x with
 | .non=>k=false
 | .bl b=>k=b
 | .int i=>k=(i != 0)
 | .str y=>y.length<=sizeLine/\k=((y.length:Int) != 0)
 | .byt y=>y.size<=sizeLine/\k=((y.size:Int) != 0)
 | .ref p=>(∃xs,SqL K H p xs/\k=!xs.isEmpty)\/(∃xs,SqT K H p xs/\k=!xs.isEmpty)\/∃kvs,H p=some (.dK kvs)/\k=!kvs.isEmpty
 |_=>False
theorem isEmpty_kv {κ:Type} {kvs:List (κ×V)} {vs:List (κ×Value)} (r:KV kvs vs):(!vs.isEmpty)=!kvs.isEmpty:=by
 cases r<;>rfl
theorem isEmpty_of {xs:List V} {its:List Value} (r:Vals xs its):(!its.toArray.isEmpty)=!xs.isEmpty:=by
 cases r<;>simp
theorem line63:(sizeLine:Nat)<2 ^ 63:=by rw[sizeLine_eq];decide
theorem tru_ok:TruR X (fun x H Q=>∃k,TruV X.K x H k/\Q k H):=by
 intro pins s σ H x v Q I rx h
 obtain⟨k,e,q⟩:=h
 have hl:=line63
 have hs:sizeLine=16777216:=sizeLine_eq
 cases x with
 |non=>
  cases rx
  have e':k=false:=e
  subst e'
  exact truthy_none ⟨H,I,q⟩
 |bl b=>
  cases rx
  have e':k=b:=e
  subst e'
  exact wpAny_truthy_bool ⟨H,I,q⟩
 |int i=>
  obtain⟨t,rfl⟩:=rx
  have e':k=(i != 0):=e
  subst e'
  exact PySem.P.truthy_int ⟨H,I,q⟩
 |str y=>
  obtain⟨t,rfl⟩:=rx
  obtain⟨hy,e'⟩:y.length<=sizeLine/\k=((y.length:Int) != 0):=e
  subst e'
  exact PySem.P.truthy_str (by omega) ⟨H,I.tok _,q⟩
 |byt y=>
  obtain⟨t,rfl⟩:=rx
  obtain⟨hy,e'⟩:y.size<=sizeLine/\k=((y.size:Int) != 0):=e
  subst e'
  exact W.truthy_bytes (by omega) ⟨H,I.tok _,q⟩
 |ref p=>
  cases rx
  have e':(∃xs,SqL X.K H p xs/\k=!xs.isEmpty)\/(∃xs,SqT X.K H p xs/\k=!xs.isEmpty)\/∃kvs,H p=some (.dK kvs)/\k=!kvs.isEmpty:=e
  rcases e' with⟨xs,hx,e'⟩|⟨xs,hx,e'⟩|⟨kvs,hx,e'⟩
  .subst e'
   obtain⟨its,r,pl,hz⟩:=I.list hx
   have hlen:=r.length
   exact wpAny_truthy_list pl.isList (by simp only[List.size_toArray];omega) ⟨H,I.tok _,by rw[isEmpty_of r];exact q⟩
  .subst e'
   obtain⟨its,r,pl,hz⟩:=I.tuple hx
   have hlen:=r.length
   exact truthy_tuple pl (by simp only[List.size_toArray];omega) ⟨H,I.tok _,by rw[isEmpty_of r];exact q⟩
  .subst e'
   obtain⟨hz,hS,vs,r,m⟩:kvs.length<=sizeLine/\(p == sysModules)=false/\∃vs,KV kvs vs/\s.heap.DictOf (mixKind X.prog X.w) p vs:=I.hok p _ hx
   have hlen:kvs.length=vs.length:=Paired.length r
   exact wpAny_truthy_dict hS m (by omega) ⟨H,I.tok _,by rw[isEmpty_kv r];exact q⟩
 |_=>exact(show False from e).elim
theorem pt_truth (ha:PE X a ta) (he:∀whole,isTrue a X.env whole=(do let v <- whole;standAt a.pos;holding [v] (truthy v))):
  PT X a (fun σ H Q=>ta σ H fun x H'=>∃k,TruV X.K x H' k/\Q k H'):=by
 intro pins s σ H Q I h
 exact isTrue_plain (thn (ha pins s σ H _ I h) fun v s1 ⟨x,H1,I1,r1,q1⟩=>tru_ok pins s1 σ H1 x v Q I1 r1 q1) (he _)
theorem op_add_str:OpR X (binaryOp .Add) (fun x y H Q=>∃i j,x=.str i/\y=.str j/\i.length+j.length<=sizeLine/\Q (.str (i++j)) H):=by
 intro pins s σ H x y v u Q I rx ry h
 obtain⟨i,j,rfl,rfl,hz,q⟩:=h
 obtain⟨t,rfl⟩:=rx
 obtain⟨t',rfl⟩:=ry
 exact add_str (fun t' tk=>⟨.str (i++j),H,I.tok _,⟨_,rfl⟩,q⟩) hz
theorem vals1 {x:V} {us:List Value} (r:Vals [x] us):∃u,us=[u]/\RelV x u:=by
 cases r with
 |cons r1 r2=>cases r2;exact⟨_,rfl,r1⟩
theorem vals2 {x y:V} {us:List Value} (r:Vals [x,y] us):∃u w',us=[u,w']/\RelV x u/\RelV y w':=by
 cases r with
 |cons r1 r2=>
  cases r2 with
  |cons r3 r4=>cases r4;exact⟨_,_,rfl,r1,r3⟩
theorem call_abs:CallR X (.builtin "abs") (fun xs H Q=>∃i,xs=[.int i]/\Q (.int (if i<0 then -i else i)) H):=by
 intro pins s σ H xs us Q I r h
 obtain⟨i,rfl,q⟩:=h
 obtain⟨u,rfl,t,rfl⟩:=vals1 r
 exact call_abs_int fun u tk=>⟨.int (if i<0 then -i else i),H,I.tok _,⟨_,rfl⟩,q⟩
theorem call_max2 (hc:X.calm=true):CallR X (.builtin "max") (fun xs H Q=>∃i j,xs=[.int i,.int j]/\Q (.int (if j > i then j else i)) H):=by
 intro pins s σ H xs us Q I r h
 obtain⟨i,j,rfl,q⟩:=h
 obtain⟨u,w',rfl,⟨t,rfl⟩,⟨t',rfl⟩⟩:=vals2 r
 refine max_two_ints (I.ok.hd hc) fun h' tk k=>⟨_,H,I.kept k,?_,q⟩
 by_cases hj:j > i
 .rw[if_pos hj,if_pos hj];exact⟨_,rfl⟩
 .rw[if_neg hj,if_neg hj];exact⟨_,rfl⟩
theorem call_min2 (hc:X.calm=true):CallR X (.builtin "min") (fun xs H Q=>∃i j,xs=[.int i,.int j]/\Q (.int (if j<i then j else i)) H):=by
 intro pins s σ H xs us Q I r h
 obtain⟨i,j,rfl,q⟩:=h
 obtain⟨u,w',rfl,⟨t,rfl⟩,⟨t',rfl⟩⟩:=vals2 r
 refine min_two_ints (I.ok.hd hc) fun h' tk k=>⟨_,H,I.kept k,?_,q⟩
 by_cases hj:j<i
 .rw[if_pos hj,if_pos hj];exact⟨_,rfl⟩
 .rw[if_neg hj,if_neg hj];exact⟨_,rfl⟩
theorem call_int1:CallR X (.type "int") (fun xs H Q=>(∃i,xs=[.int i]/\Q (.int i) H)\/∃k,xs=[.bl k]/\Q (.int (if k then 1 else 0)) H):=by
 intro pins s σ H xs us Q I r h
 rcases h with⟨i,rfl,q⟩|⟨k,rfl,q⟩
 .obtain⟨u,rfl,t,rfl⟩:=vals1 r
  exact call_int_int ⟨.int i,H,I,⟨_,rfl⟩,q⟩
 .obtain⟨u,rfl,r1⟩:=vals1 r
  cases r1
  exact call_int_bool ⟨.int (if k then 1 else 0),H,I.tok _,⟨_,rfl⟩,q⟩
def LenV (K:W.Frag) (x:V) (H:Hp) (n:Nat):Prop:=
 match x with
 | .str y=>y.length<=sizeLine/\n=y.length
 | .byt y=>y.size<=sizeLine/\n=y.size
 | .ref p=>(∃xs,SqL K H p xs/\n=xs.length)\/∃xs,SqT K H p xs/\n=xs.length
 |_=>False
theorem call_len:CallR X (.builtin "len") (fun xs H Q=>∃x n,xs=[x]/\LenV X.K x H n/\Q (.int n) H):=by
 intro pins s σ H xs us Q I r h
 obtain⟨x,n,rfl,e,q⟩:=h
 obtain⟨u,rfl,rx⟩:=vals1 r
 have hl:=line63
 have hs:sizeLine=16777216:=sizeLine_eq
 cases x with
 |str y=>
  obtain⟨t,rfl⟩:=rx
  obtain⟨hy,e'⟩:y.length<=sizeLine/\n=y.length:=e
  subst e'
  exact len_str (by omega) ⟨.int _,H,I.tok _,⟨_,rfl⟩,q⟩
 |byt y=>
  obtain⟨t,rfl⟩:=rx
  obtain⟨hy,e'⟩:y.size<=sizeLine/\n=y.size:=e
  subst e'
  exact W.len_bytes (by omega) ⟨.int _,H,I.tok _,⟨_,rfl⟩,q⟩
 |ref p=>
  cases rx
  have e':(∃xs,SqL X.K H p xs/\n=xs.length)\/∃xs,SqT X.K H p xs/\n=xs.length:=e
  rcases e' with⟨xs,hx,e'⟩|⟨xs,hx,e'⟩
  .subst e'
   obtain⟨its,r',pl,hz⟩:=I.list hx
   have hlen:=r'.length
   exact Calls.call_len_list pl.isList (by simp only[List.size_toArray];omega) ⟨.int xs.length,H,I.tok _,⟨_,by simp only[List.size_toArray];rw[hlen]⟩,q⟩
  .subst e'
   obtain⟨its,r',pl,hz⟩:=I.tuple hx
   have hlen:=r'.length
   exact len_tuple pl (by simp only[List.size_toArray];omega) ⟨.int xs.length,H,I.tok _,⟨_,by simp only[List.size_toArray];rw[hlen]⟩,q⟩
 |_=>exact(show False from e).elim
end
structure ObjM (h:Heap) (x dx C:Addr) (mA:Str->Option Value):Prop where
 obj:h.get? x=some (W.instObj C dx)
 ns:h.Ns1 dx mA
 ne:dx≠x
set_option tactic.hygienic true in
theorem lookIn_ns {h:Heap} {dx:Addr} {mA:Str->Option Value} (n:h.Ns1 dx mA):∃od,h.get? dx=some od/\∀name,W.lookIn name od=some (mA name):=by
 obtain⟨o,es,ep,ho,hd,hk,_,hm⟩:=n
 refine⟨o,ho,fun name=>?_⟩
 have e:=hm name
 unfold nsFind findBy at e
 rw[<- Array.find?_toList]at e
 unfold W.lookIn
 rw[hd]
 dsimp only
 split
 .rename_i y q
  rw[q]at e
  exact congrArg some e
 .rename_i q
  rw[q]at e
  have a:es.toList.any (·.refKey)=false:=by
   rw[List.any_eq_false]
   intro y hy
   obtain⟨z,t,hkey⟩:=hk y (Array.mem_toList_iff.mp hy)
   simp[DictEntry.refKey,hkey]
  have a':¬es.toList.any (·.refKey)=true:=by rw[a];exact Bool.false_ne_true
  rw[if_neg a']
  exact congrArg some e
theorem ObjM.look {h:Heap} {x dx C:Addr} {mA:Str->Option Value} (I:ObjM h x dx C mA):∃od,W.InstAt h x (W.instObj C dx) C (some od)/\∀name,W.lookIn name od=some (mA name):=
 let⟨od,ho,hl⟩:=lookIn_ns I.ns
 ⟨od,⟨I.obj,rfl,rfl,ho⟩,hl⟩
section
variable {prog:Program} {w:World} {A:Around} {E:Value->Shared->Prop} {s:Shared} {K:W.Frag} {x dx C f:Addr} {mA:Str->Option Value} {name:Str} {v:Value}
end
section
variable {P:Program} {w:World} {H H':Hp} {h h':Heap} {a C dx:Addr} {fs fs':List (Str×V)}
theorem ins_get (hok:HOk P w H h) (e:H a=some (.ins C dx fs)):∃mA,ObjM h a dx C mA/\(∀f,RelO (fs.lookup f) (mA f))/\PySem.Within mA (fs.map (·.1))/\fs.length<=1000/\H dx=some (.own a):=by
 obtain⟨d,z,ne,ob,mA,n,r,q⟩:=(show ObjOk P w H h a (.ins C dx fs) from hok a _ e)
 exact⟨mA,⟨ob,n,ne⟩,r,q,z,d⟩
end
structure Cls (K:W.Frag) (C:Addr):Prop where
 pg:W.plainGet K C Str.empty=true
 hd:W.hasDictIn K C=true
 po:W.plainOver K C=true
 sa:W.findIn K (.ref C) "__setattr__"=some (some (.builtin "object.__setattr__"))
theorem Cls.get {K:W.Frag} {C:Addr} (c:Cls K C) (f:Str):W.plainGet K C f=true:=c.pg
structure Con (K:W.Frag) (C:Addr) (f:Str) (v:V) (u:Value):Prop where
 at_:W.findIn K (.ref C) f=some (some u)
 rel:RelV v u
 get:W.specialIn K u "__get__"=some none
 cp:W.copiedNames.contains f=false
structure Meth (K:W.Frag) (C:Addr) (m:Str) (f:Addr):Prop where
 at_:W.findIn K (.ref C) m=some (some (.ref f))
 fn:W.isFn K (.ref f)=true
 kp:W.keepIn K (.ref f)=true
section
variable {X:Cx} {pins:List (Addr×Obj)} {σ:St} {H:Hp} {s:Shared} {a C dx:Addr} {fs:List (Str×V)} {f:Str} {v:V} {A:Around} {E:Value->Shared->Prop}
end
section
variable {X:Cx} {o e value:Expr} {f:Str} {pos pos' tpos:Pos} {ta tv:TE}
end
section
variable {X:Cx} {pins:List (Addr×Obj)} {σ:St} {H:Hp} {s:Shared} {A:Around} {E:Value->Shared->Prop} {Q:Value->Shared->Prop} {c:Value} {b:Bool}
inductive TyOf (K:W.Frag) (H:Hp):V->Value->Prop where
 |non:TyOf K H .non (.type "NoneType")
 |bl (x:Bool):TyOf K H (.bl x) (.type "bool")
 |int (i:Int):TyOf K H (.int i) (.type "int")
 |str (x:Str):TyOf K H (.str x) (.type "str")
 |flt (x:UInt64):TyOf K H (.flt x) (.type "float")
 |lst {a:Addr} {xs:List V} (e:H a=some (.lst xs)):TyOf K H (.ref a) (.type "list")
 |frz {a:Addr} {o:Obj} {xs:List V} (e:H a=some (.frz o (.lst xs))):TyOf K H (.ref a) (.type "list")
 |tup {a:Addr} {xs:List V} (e:H a=some (.tup xs)):TyOf K H (.ref a) (.type "tuple")
 |dK {a:Addr} {kvs:List (Key×V)} (e:H a=some (.dK kvs)):TyOf K H (.ref a) (.type "dict")
 |dT {a:Addr} {kvs:List (List Key×V)} (e:H a=some (.dT kvs)):TyOf K H (.ref a) (.type "dict")
 |ins {a C dx:Addr} {fs:List (Str×V)} (e:H a=some (.ins C dx fs)) (cl:Cls K C) (ha:W.findIn K (.ref C) "__class__"=some (some (.builtin "object.__class__")))
   (hn:W.specialIn K (.builtin "object.__class__") "__get__"=some (some (.builtin "getset_descriptor.__get__"))) (htk:W.takesIn K (.builtin "object.__class__")=some true)
   (hm:W.mroIn K C (.type "object")=some true):TyOf K H (.ref a) (.ref C)
theorem isinst_ok {x:V} {u t:Value} (I:Inv X pins σ H s) (rx:RelV x u) (ty:TyOf X.K H x t) (e:W.kitOne X.K t c=some b) (h:∀tk,Q (.bool b) { s with toks:=tk }):
  wpAny (model X.prog X.w) A (call (.builtin "isinstance") [u,c]) Q E s:=by
 cases ty with
 |non=>cases(show u=Value.none from rx);exact W.kia_one W.kitx_none I.kIn True.intro e (fun z=>nomatch z) h
 |bl y=>cases(show u=Value.bool y from rx);exact W.kia_one W.kitx_bool I.kIn True.intro e (fun z=>nomatch z) h
 |int i=>obtain⟨t,q⟩:=(show ∃t,u=Value.int i t from rx);cases q;exact W.kia_one W.kitx_int I.kIn True.intro e (fun z=>nomatch z) h
 |str y=>obtain⟨t,q⟩:=(show ∃t,u=Value.str y t from rx);cases q;exact W.kia_one W.kitx_str I.kIn True.intro e (fun z=>nomatch z) h
 |flt y=>obtain⟨t,q⟩:=(show ∃t,u=Value.float y t from rx);cases q;exact W.kia_one W.kitx_float I.kIn True.intro e (fun z=>nomatch z) h
 | @lst a xs ea=>
  cases(show u=Value.ref a from rx)
  obtain⟨_,_,n,_,h1⟩:=(show ObjOk X.prog X.w H s.heap a (.lst xs) from I.hok a _ ea)
  exact W.kia_one W.kitx_list I.kIn ⟨_,h1,rfl⟩ e (fun z=>nomatch z) h
 | @frz a ob xs ea=>
  cases(show u=Value.ref a from rx)
  obtain⟨_,_,_,n,_,h1⟩:=(show ObjOk X.prog X.w H s.heap a (.frz ob (.lst xs)) from I.hok a _ ea)
  exact W.kia_one W.kitx_list I.kIn ⟨_,h1,rfl⟩ e (fun z=>nomatch z) h
 | @tup a xs ea=>
  cases(show u=Value.ref a from rx)
  obtain⟨_,_,_,p⟩:=(show ObjOk X.prog X.w H s.heap a (.tup xs) from I.hok a _ ea)
  obtain⟨o,h1,h2,_⟩:=p
  exact W.kia_one W.kitx_tuple I.kIn ⟨o,h1,h2⟩ e (fun z=>nomatch z) h
 | @dK a kvs ea=>
  cases(show u=Value.ref a from rx)
  obtain⟨_,_,vs,_,p⟩:=(show ObjOk X.prog X.w H s.heap a (.dK kvs) from I.hok a _ ea)
  obtain⟨o,es,ep,h1,h2,_⟩:=p
  exact W.kia_one W.kitx_dict I.kIn ⟨o,h1,h2.1⟩ e (fun z=>nomatch z) h
 | @dT a kvs ea=>
  cases(show u=Value.ref a from rx)
  obtain⟨_,_,xs,_,o,es,ep,h1,h2,_⟩:=(show ObjOk X.prog X.w H s.heap a (.dT kvs) from I.hok a _ ea)
  exact W.kia_one W.kitx_dict I.kIn ⟨o,h1,h2.1⟩ e (fun z=>nomatch z) h
 | @ins a C dx fs ea cl ha hn htk hm=>
  cases(show u=Value.ref a from rx)
  obtain⟨mA,O,_⟩:=ins_get I.hok ea
  obtain⟨od,J,_⟩:=O.look
  exact W.kia_one (W.kitx_own (cl.get _) cl.hd ha hn htk hm) I.kIn J e (fun z=>nomatch z) h
end
structure Room (k:Nat) (A:Around):Prop where
 hd:A.handled=none
 dp:A.depth+3*k+5<recursionLimit
 un:A.units+16*k+200<cLine
 gd:A.guards=some []
theorem Room.mono {j k:Nat} {A:Around} (r:Room k A) (h:j<=k):Room j A:=⟨r.hd,by have:=r.dp;omega,by have:=r.un;omega,r.gd⟩
theorem Room.deeper {k:Nat} {A:Around} (r:Room (k+1) A) (env:Env):Room k (A.deeper env):=
 ⟨r.hd,by have:=r.dp;show A.depth+1+3*k+5<_;omega,by have:=r.un;show A.units+3+16*k+200<_;omega,r.gd⟩
theorem Room.depth {k:Nat} {A:Around} (r:Room k A):A.depth<recursionLimit:=by have:=r.dp;omega
theorem Room.units {k:Nat} {A:Around} (r:Room k A):A.units+64<cLine:=by have:=r.un;omega
noncomputable def tNil:TA:=fun _ H Q=>Q [] H
noncomputable def tCons (ta:TE) (tr:TA):TA:=fun σ H Q=>ta σ H fun x H1=>tr σ H1 fun xs H2=>Q (x :: xs) H2
section
variable {X:Cx} {e:Expr} {es:List Expr} {te:TE} {t:TA} {pos:Pos}
theorem pa_nil:PA X [] tNil:=fun _ _ _ _ H Q I h=>Calls.spliced_nil ⟨[],H,I,.nil,h⟩
theorem pa_cons (ha:PE X e te) (hr:PA X es t) (hs:starEach (e :: es) X.env=(false,eval e X.env) :: starEach es X.env:=by rfl):PA X (e :: es) (tCons te t):=by
 intro pos pins s σ H Q I h
 rw[hs]
 show wpAny _ _ (spliced ((false,eval e X.env) :: backTo pos (starEach es X.env))) _ _ s
 refine Calls.spliced_cons (thn (ha pins s σ H _ I h) fun u s1 ⟨x,H1,I1,r1,q1⟩=>?_)
 exact thn (hr pos pins s1 σ H1 _ I1 q1) fun us s2 ⟨xs,H2,I2,r2,q2⟩=>⟨x :: xs,H2,I2,.cons r1 r2,q2⟩
noncomputable def tTup (t:TA):TE:=fun σ H Q=>t σ H fun xs H1=>xs.length<=sizeLine/\∀p,H1 p=none->Q (.ref p) (upd H1 p (.tup xs))
noncomputable def tLst (t:TA):TE:=fun σ H Q=>t σ H fun xs H1=>xs.length<=sizeLine/\∀p,H1 p=none->Q (.ref p) (upd H1 p (.lst xs))
theorem pe_tup {x1} (h:PA X es t):PE X (.Tuple es x1 pos) (tTup t):=by
 intro pins s σ H Q I hq
 refine wpAny_Tuple_spliced (thn (h pos pins s σ H _ I hq) fun us s1 ⟨xs,H1,I1,r,z,q⟩=>⟨by rw[<- r.length];exact z,?_⟩)
 have hf:H1 s1.heap.objs.size=none:=I1.hok.fresh (Nat.le_refl _)
 refine⟨.ref s1.heap.objs.size,upd H1 s1.heap.objs.size (.tup xs),I1.laid (t':=s1.toks) (fun b u e=>Heap.get?_push_of_some _ e) (Nat.le_refl _) ?_,rfl,q _ hf⟩
 exact⟨z,us,r,⟨_,Heap.get?_push_size _ rfl,rfl,⟨_,rfl⟩,rfl⟩⟩
theorem pe_lst (h:PA X es t):PE X (.List es pos) (tLst t):=by
 intro pins s σ H Q I hq
 refine wpAny_List_spliced (thn (h pos pins s σ H _ I hq) fun us s1 ⟨xs,H1,I1,r,z,q⟩=>⟨by rw[<- r.length];exact z,?_⟩)
 have hf:H1 s1.heap.objs.size=none:=I1.hok.fresh (Nat.le_refl _)
 refine⟨.ref s1.heap.objs.size,upd H1 s1.heap.objs.size (.lst xs),I1.laid (t':=s1.toks) (fun b u e=>Heap.get?_push_of_some _ e) (Nat.le_refl _) ?_,rfl,q _ hf⟩
 exact⟨z,us,0,r,Heap.get?_push_size _ rfl⟩
end
noncomputable abbrev Sp:=List V->Hp->VK->XK->Prop
noncomputable abbrev CXT:=List Env->Hp->Shared->XK->Value->Shared->Prop
structure Env0 (P:Program) (w:World) (K:W.Frag) (mg:Str->Option Value) (base:Heap) (A:Around) (outer:List Env) (s:Shared) (H:Hp):Prop where
 frames:A.frames=some outer
 mod:Mod K mg base
 bs:∀b o,base.get? b=some o->s.heap.get? b=some o/\H b=none
 bsz:base.objs.size<=s.heap.objs.size
 funs:s.heap.FunFrames base outer
 frf:∀b∈frs outer,H b=none
 hok:HOk P w H s.heap
 bare:AllBare s.gens
def CE (outer:List Env) (P:Program) (w:World) (H:Hp) (s:Shared) (Q:VK) (u:Value) (s':Shared):Prop:=
 ∃v H',s'.os=s.os/\AllBare s'.gens/\Un (frs outer) [] H H' s.heap s'.heap/\HOk P w H' s'.heap/\RelV v u/\Q v H'
def CR (CX:CXT) (outer:List Env) (P:Program) (w:World) (H:Hp) (s:Shared) (Q:VK) (E:XK) (r:Result) (s':Shared):Prop:=
 match r with
 | .ok (.ret u)=>CE outer P w H s Q u s'
 | .ok _=>False
 | .error e=>CX outer H s E e s'
structure FnOk (P:Program) (w:World) (K:W.Frag) (mg:Str->Option Value) (base:Heap) (CX:CXT) (k:Nat) (f:Addr) (fd:FuncData) (ps:List Str) (sp:Sp):Prop where
 len:∀vs H Q E,sp vs H Q E->vs.length=ps.length
 run:∀(A:Around) (outer:List Env) (s:Shared) (H:Hp) (args:Args) (us:List Value) (vs:List V) (Q:VK) (E:XK),Room k A->Env0 P w K mg base A outer s H->BindsTo s fd args (ps.zip us)->Vals vs us->sp vs H Q E->
  codeAny (model P w) A (.call (.ref f) args) (CR CX outer P w H s Q E) s
theorem FnOk.mono {P:Program} {w:World} {K:W.Frag} {mg:Str->Option Value} {base:Heap} {CX:CXT} {j k:Nat} {f:Addr} {fd:FuncData} {ps:List Str} {sp:Sp} (F:FnOk P w K mg base CX j f fd ps sp) (h:j<=k):
  FnOk P w K mg base CX k f fd ps sp:=⟨F.len,fun A outer s H args us vs Q E hr=>F.run A outer s H args us vs Q E (hr.mono h)⟩
section
variable {X:Cx} {pins:List (Addr×Obj)} {σ:St} {H:Hp} {s s':Shared}
theorem Inv.env0 (I:Inv X pins σ H s):Env0 X.prog X.w X.K X.mg X.base X.A X.stack s H:=
 ⟨I.ok.frames,I.ok.mod,I.bs,Nat.le_trans I.ok.bsz I.sz,I.stack,I.stkFree,I.hok,I.bare⟩
theorem Inv.after {Q:VK} {u:Value} (I:Inv X pins σ H s) (h:CE X.stack X.prog X.w H s Q u s'):EP X pins σ Q u s':=by
 obtain⟨v,H',os,bare,un,hok,r,q⟩:=h
 obtain⟨hh,g,d,t,os'⟩:=s'
 obtain rfl:os'=s.os:=os
 exact⟨v,H',I.call (h':=hh) (g':=g) (d':=d) (t':=t) (ch:=[]) un hok bare (fun b z=>absurd z (by simp)),r,q⟩
end
noncomputable def tCall (sp:Sp) (dvs:List V) (E:XK) (t:TA):TE:=fun σ H Q=>t σ H fun vs H1=>sp (vs++dvs) H1 Q E
def Binds (K:W.Frag) (fd:FuncData) (ps:List Str) (ds:List Value):Prop:=
 ∀(s:Shared) (us:List Value),K.In s.heap->(us++ds).length=ps.length->BindsTo s fd ⟨us,[]⟩ (ps.zip (us++ds))
theorem Binds.all {K:W.Frag} {fd:FuncData} {ps:List Str} (h:∀us:List Value,us.length=ps.length->bindArgs fd ⟨us,[]⟩=pure (ps.zip us)):Binds K fd ps []:=fun s us _ hl=>by
 rw[List.append_nil]at hl ⊢
 exact .of_eq (h us hl)
section
variable {X:Cx} {CX:CXT} {k:Nat} {f C:Addr} {fd:FuncData} {ps:List Str} {sp:Sp} {dvs:List V} {ds:List Value} {E:XK} {x m:Str} {p pos apos:Pos} {e o:Expr} {es:List Expr} {ta:TE} {t:TA}
structure Mk (K:W.Frag) (C f:Addr):Prop where
 makes:W.makesIn K C=true
 init:W.findIn K (.ref C) "__init__"=some (some (.ref f))
 fn:W.isFn K (.ref f)=true
 kp:W.keepIn K (.ref C)=true
end
section
variable {X:Cx} {CX:CXT} {k:Nat} {f C:Addr} {fd:FuncData} {ps ks:List Str} {sp:Sp} {E:XK} {x m:Str} {p pos apos kpos:Pos} {e o:Expr} {es:List Expr} {kws:List Keyword} {te ta:TE} {t tk:TA} {nm:Option Str}
structure KBinds (K:W.Frag) (fd:FuncData) (ps ks:List Str) (g:List Value->List Value->List Value) (gV:List V->List V->List V):Prop where
 to:∀(s:Shared) (us ws:List Value),K.In s.heap->(g us ws).length=ps.length->BindsTo s fd ⟨us,ks.zip ws⟩ (ps.zip (g us ws))
 rel:∀{vs:List V} {us:List Value} {zs:List V} {ws:List Value},Vals vs us->Vals zs ws->Vals (gV vs zs) (g us ws)
variable {g:List Value->List Value->List Value} {gV:List V->List V->List V}
end
structure FnScope (N P:List Str) (sc:Scope):Prop where
 kind:sc.kind=.function
 co:sc.isCoroutine=false
 gen:sc.isGenerator=false
 nd:N.Nodup
 pre:N.take P.length=P
 par:∀x∈P,sc.names.lookup x=some .local\/sc.names.lookup x=some .cell
 nofree:∀y∈sc.names,y.2≠.free
theorem bindL_out {kindOf:Str->Option NameKind} {x:Str}:∀{binds:List (Str×Value)} {m:Str->Option Value},(∀v,(x,v)∉binds)->bindL kindOf binds m x=m x
 | [],_,_=>rfl
 |(n,v) :: r,m,h=>by
  unfold bindL
  rw[bindL_out fun w hw=>h w (List.mem_cons_of_mem _ hw)]
  split
  .have:x≠n:=by rintro rfl;exact h v List.mem_cons_self
   simp[this]
  .rfl
theorem bindC_out {kindOf:Str->Option NameKind} {x:Str}:∀{binds:List (Str×Value)} {m:Str->Option Value},(∀v,(x,v)∉binds)->bindC kindOf binds m x=m x
 | [],_,_=>rfl
 |(n,v) :: r,m,h=>by
  unfold bindC
  rw[bindC_out fun w hw=>h w (List.mem_cons_of_mem _ hw)]
  split
  .rfl
  .have:x≠n:=by rintro rfl;exact h v List.mem_cons_self
   simp[this]
theorem bindL_get {kindOf:Str->Option NameKind} {x:Str} {v:Value}:∀{P:List Str} {vs:List Value} {i:Nat} {m:Str->Option Value},P.Nodup->P[i]?=some x->vs[i]?=some v->kindOf x=some .local->
  bindL kindOf (P.zip vs) m x=some v
 | [],_,_,_,_,h,_,_=>by simp at h
 |_ :: _,[],_,_,_,_,h,_=>by simp at h
 |p :: P,w :: vs,0,m,nd,h1,h2,hk=>by
  simp at h1 h2;subst h1;subst h2
  show bindL kindOf ((p,w) :: P.zip vs) m p=_
  unfold bindL
  rw[bindL_out fun v hv=>(List.nodup_cons.mp nd).1 (List.of_mem_zip hv).1,if_pos hk]
  simp
 |p :: P,w :: vs,i+1,m,nd,h1,h2,hk=>by
  show bindL kindOf ((p,w) :: P.zip vs) m x=_
  unfold bindL
  exact bindL_get (i:=i) (List.nodup_cons.mp nd).2 (by simpa using h1) (by simpa using h2) hk
theorem bindC_get {kindOf:Str->Option NameKind} {x:Str} {v:Value}:∀{P:List Str} {vs:List Value} {i:Nat} {m:Str->Option Value},P.Nodup->P[i]?=some x->vs[i]?=some v->kindOf x≠some .local->
  bindC kindOf (P.zip vs) m x=some v
 | [],_,_,_,_,h,_,_=>by simp at h
 |_ :: _,[],_,_,_,_,h,_=>by simp at h
 |p :: P,w :: vs,0,m,nd,h1,h2,hk=>by
  simp at h1 h2;subst h1;subst h2
  show bindC kindOf ((p,w) :: P.zip vs) m p=_
  unfold bindC
  rw[bindC_out fun v hv=>(List.nodup_cons.mp nd).1 (List.of_mem_zip hv).1,if_neg hk]
  simp
 |p :: P,w :: vs,i+1,m,nd,h1,h2,hk=>by
  show bindC kindOf ((p,w) :: P.zip vs) m x=_
  unfold bindC
  exact bindC_get (i:=i) (List.nodup_cons.mp nd).2 (by simpa using h1) (by simpa using h2) hk
noncomputable def start (N:List Str) (vs:List V):St:=vs.map some++List.replicate (N.length-vs.length) none
noncomputable def cxOf (CX:CXT) (P:Program) (w:World) (K:W.Frag) (mg:Str->Option Value) (base:Heap) (N:List Str) (qual:Str) (scope:Scope) (f:Addr) (cd:Value) (A:Around) (outer:List Env) (s:Shared) (H:Hp) (E:XK):Cx where
 prog:=P
 w:=w
 K:=K
 mg:=mg
 base:=base
 A:=A.deeper (envOfC qual scope s.heap.objs.size f cd)
 N:=N
 s₀:=s
 H₀:=H
 env:=envOfC qual scope s.heap.objs.size f cd
 outer:=outer
 stack:=envOfC qual scope s.heap.objs.size f cd :: outer
 ex:=[]
 calm:=true
 fn:=fun _=>true
 pn:=[]
 xe:=fun e s'=>wpAny (model P w) (A.deeper (envOfC qual scope s.heap.objs.size f cd)) (leaving (envOfC qual scope s.heap.objs.size f cd) e) (fun _ s''=>CX outer H s E e s'') (fun e' s''=>CX outer H s E e' s'') s'
theorem cell_has {sc:Scope} {n:Nat} {x:Str} (h:sc.names.lookup x=some .cell):∃c,(cellsFrom n sc.names []).lookup x=some c:=by
 have q:=W.cellsFrom_some sc.names n [] (.inl h)
 exact Option.isSome_iff_exists.mp q
theorem inv_start {CX:CXT} {P:Program} {w:World} {K:W.Frag} {mg:Str->Option Value} {base:Heap} {N ps:List Str} {qual:Str} {scope:Scope} {f:Addr} {cd:Value} {A:Around} {outer:List Env} {s s1:Shared} {H:Hp} {E:XK} {us:List Value} {vs:List V}
  (S:FnScope N ps scope) (hd:A.handled=none) (e0:Env0 P w K mg base A outer s H) (hl:vs.length=ps.length) (r:Vals vs us)
  (x:InCallC s s.heap.objs.size (bindL (envOfC qual scope s.heap.objs.size f cd).kindOf (ps.zip us) fun _=>none) (cellsFrom (s.heap.objs.size+1) scope.names []) (bindC (envOfC qual scope s.heap.objs.size f cd).kindOf (ps.zip us) fun _=>none) s1):
  Inv (cxOf CX P w K mg base N qual scope f cd A outer s H E) [] (start N vs) H s1:=by
 have hpl:ps.length<=N.length:=by have:=congrArg List.length S.pre;rw[List.length_take]at this;omega
 obtain⟨h1,tk,rfl,hk⟩:=x.done
 have noA:∀b:Addr,b∉(cxOf CX P w K mg base N qual scope f cd A outer s H E).ex:=fun b z=>absurd (show b∈([]:List Addr) from z) (by simp)
 refine⟨⟨e0.mod,S.kind,rfl,rfl,Nat.le_refl _,fun y z c h1 h2=>?_,fun y hy=>?_,fun y c _ h=>?_,fun _=>hd,Around.frames_deeper e0.frames,.inr ⟨rfl,rfl⟩,fun b z=>absurd z (noA b),e0.bs,e0.bsz,fun b _ _=>noA b,fun b z=>absurd z (noA b),e0.funs,e0.frf⟩,
  rfl,e0.bare,Un.kept hk,⟨_,x.toInCall.ns,fun i y v h1 h2 h3=>?_⟩,fun y c h=>⟨_,x.cell y c h⟩,e0.hok.fresh (Nat.le_refl _),fun y c h=>?_,fun p hp=>absurd (show p∈([]:List (Addr×Obj)) from hp) (by simp),e0.hok.kept hk,?_⟩
 .exact name_of_addr x.apart (PySem.mem_of_lookup h1) (PySem.mem_of_lookup h2)
 .have hy:scope.names.lookup y=some .cell\/scope.names.lookup y=some .free:=hy
  rcases hy with hy|hy
  .exact cell_has hy
  .exact absurd rfl (S.nofree _ (PySem.mem_of_lookup hy))
 .exact Nat.le_of_lt (x.above y c (PySem.mem_of_lookup h))
 .have hi:i<vs.length:=by
   unfold start at h2
   by_cases hi:i<vs.length
   .exact hi
   .rw[List.getElem?_append_right (by simpa using hi)]at h2
    rw[List.getElem?_replicate]at h2
    split at h2<;>cases h2
  have ha:vs[i]?=some v:=by
   unfold start at h2
   rw[List.getElem?_append_left (by simpa using hi),List.getElem?_map]at h2
   cases e:vs[i]? with
   |none=>rw[e]at h2;cases h2
   |some a=>rw[e]at h2;cases h2;rfl
  obtain⟨u,hu,rv⟩:=r.get ha
  have hp:ps[i]?=some y:=by
   rw[<- S.pre,List.getElem?_take_of_lt (by omega)];exact h1
  have ndP:ps.Nodup:=by rw[<- S.pre];exact S.nd.sublist (List.take_sublist _ _)
  refine⟨u,rv,?_⟩
  rcases S.par y (List.mem_of_getElem? hp)with k|k
  .exact .inl ⟨k,bindL_get ndP hp hu k⟩
  .obtain⟨c,e⟩:=cell_has (n:=s.heap.objs.size+1) k
   refine .inr ⟨.inl k,c,e,?_⟩
   have q:=x.cell y c e
   rw[bindC_get ndP hp hu (by show scope.names.lookup y≠_;rw[k];decide)]at q
   exact q
 .exact e0.hok.fresh (Nat.le_of_lt (x.above y c (PySem.mem_of_lookup h)))
 .unfold start
  show _=N.length
  rw[List.length_append,List.length_map,List.length_replicate]
  omega
theorem fn_of {CX:CXT} {P:Program} {w:World} {K:W.Frag} {mg:Str->Option Value} {base:Heap} {k:Nat} {f:Addr} {name qual:Str} {params:Arguments} {body:List Stmt} {scope:Scope} {dV kV doc pm cdv ct oc:Value} {an od:Option Addr}
  {osl:Array (Option Value)} {N ps:List Str} {sp:Sp} (lk:K.lookup f=some ⟨oc,od,.func (W.fnOf name qual params body scope dV kV doc pm an cdv ct),osl⟩) (hcd:W.codeIn K cdv qual=true) (S:FnScope N ps scope)
  (len:∀vs H Q E,sp vs H Q E->vs.length=ps.length)
  (hbody:∀(A:Around) (outer:List Env) (s:Shared) (H:Hp) (vs:List V) (Q:VK) (E:XK),Room k (A.deeper (envOfC qual scope s.heap.objs.size f cdv))->sp vs H Q E->
   ∃t,PSs (cxOf CX P w K mg base N qual scope f cdv A outer s H E) body t/\t { nx:=fun _ H'=>Q .non H',rt:=Q } (start N vs) H):
  FnOk P w K mg base CX (k+1) f (W.fnOf name qual params body scope dV kV doc pm an cdv ct) ps sp:=by
 refine⟨len,fun A outer s H args us vs Q E hr e0 hb r hsp=>?_⟩
 have hl:=len _ _ _ _ hsp
 have KX:K.In s.heap:=e0.mod.kin.keeps fun b o e=>(e0.bs b o e).1
 have lim:s.heap.NoLimit:=e0.mod.nolimit.keeps fun b o e=>(e0.bs b o e).1
 have hkind:∀y∈ps.zip us,scope.names.lookup y.1=some .local\/(scope.names.lookup y.1=some .cell/\((cellsFrom (s.heap.objs.size+1) scope.names []).lookup y.1).isSome=true):=fun⟨n,v⟩ hy=>by
  rcases S.par n (List.of_mem_zip hy).1 with q|q
  .exact .inl q
  .exact .inr ⟨q,W.cellsFrom_some _ _ _ (.inl q)⟩
 refine codeAny_call_function hr.depth (KX _ _ lk) rfl S.co S.gen rfl (W.codeRec_of KX hcd) (hb _ _ _ _ ?_)
 refine wpAny_newFunctionEnv_cells S.kind hkind fun env he s1 x=>?_
 subst he
 refine⟨lim.keeps x.toInCall.keep,codeAny_func ?_⟩
 obtain⟨t,ht,hq⟩:=hbody A outer s H vs Q E (hr.deeper _) hsp
 have I:Inv (cxOf CX P w K mg base N qual scope f cdv A outer s H E) [] (start N vs) H s1:=inv_start S hr.hd e0 hl r x
 refine wpAny_mono (ht [] s1 (start N vs) H _ I hq) (fun fl s' hs=>?_) fun e s' hs=>hs
 have fin:∀{σ':St} {H':Hp} {v:V} {u:Value},Inv (cxOf CX P w K mg base N qual scope f cdv A outer s H E) [] σ' H' s'->RelV v u->Q v H'->CE outer P w H s Q u s':=
  fun {σ' H' v u} J rv q=>⟨v,H',J.os,J.bare,J.base,J.hok,rv,q⟩
 cases fl with
 |ret u=>
  obtain⟨v,σ',H',J,rv,q⟩:=hs
  exact fin J rv q
 |next=>
  obtain⟨σ',H',J,q⟩:=hs
  exact fin (v:=V.non) (u:=Value.none) J rfl q
 |brk=>
  obtain⟨_,_,_,q⟩:=hs
  exact False.elim q
 |cont=>
  obtain⟨_,_,_,q⟩:=hs
  exact False.elim q
section
variable {X:Cx} {x:Str} {p pos:Pos} {e:Expr} {es:List Expr} {t:TA} {id T:String} {r:List V->Hp->VK->Prop}
noncomputable def tCB (r:List V->Hp->VK->Prop) (t:TA):TE:=fun σ H Q=>t σ H fun vs H1=>r vs H1 Q
theorem pe_callB (hc:CallR X (.builtin id) r) (hg:Gl X x) (hm:X.mg x=none) (hv:bootBuiltins x=some (.builtin id)) (ha:PA X (e :: es) t) (hn:x≠"__name__":=by decide) (hdb:(x == ("__debug__":Str))=false:=by decide)
  (he:starEach (e :: es) X.env=(false,eval e X.env) :: starEach es X.env:=by rfl) (hpl:(backTo pos (starEach es X.env)).any (·.1)=false:=by rfl):PE X (.Call (.Name x p) (e :: es) [] pos) (tCB r t):=by
 intro pins s σ H Q I h
 refine wpAny_Call_Name_kw (ld_blt I hg hm hv ?_ hn hdb)
 exact PyProof.Rows.callWith_builtin1 (thn (ha pos pins s σ H _ I h) fun us s1 ⟨vs,H1,I1,r1,q1⟩=>hc pins s1 σ H1 vs us Q I1 r1 q1) he hpl
theorem pe_callTy (hc:CallR X (.type T) r) (hg:Gl X x) (hm:X.mg x=none) (hv:bootBuiltins x=some (.type T)) (ha:PA X (e :: es) t) (hn:x≠"__name__":=by decide) (hdb:(x == ("__debug__":Str))=false:=by decide)
  (he:starEach (e :: es) X.env=(false,eval e X.env) :: starEach es X.env:=by rfl) (hpl:(backTo pos (starEach es X.env)).any (·.1)=false:=by rfl):PE X (.Call (.Name x p) (e :: es) [] pos) (tCB r t):=by
 intro pins s σ H Q I h
 refine wpAny_Call_Name_kw (ld_blt I hg hm hv ?_ hn hdb)
 exact PyProof.Rows.callWith_type1 (thn (ha pos pins s σ H _ I h) fun us s1 ⟨vs,H1,I1,r1,q1⟩=>hc pins s1 σ H1 vs us Q I1 r1 q1) he hpl
end
end L2
namespace HT
open PySem PyProof.Rows
section
open PySem.SeqAt
open PySem.AutoSeq1 (wpAny_loadPart')
open PySem.MeetsSeq PySem.MeetsSeq2 PySem.MeetsSeq3
end
section
variable {prog:Program} {w:World} {A:Around} {E:Value->Shared->Prop} {s:Shared}
theorem cat_tup {t b:Addr} {vs ws:List Value} {Q:Value->Shared->Prop} (ht:IsTup s.heap t vs.toArray) (hb:IsTup s.heap b ws.toArray) (hv:vs≠[])
  (h1:ws=[]->Q (.ref t) s) (h2:ws≠[]->Q (.ref s.heap.objs.size) { s with heap:=s.heap.push { cls:=.type "tuple",data:=.seq (vs++ws).toArray } })
  (hsz:vs.length+ws.length<=sizeLine):wpAny (model prog w) A (binaryOp .Add (.ref t) (.ref b)) Q E s:=by
 obtain⟨⟨cls,dd,data,sl⟩,ho,hc,n,hd⟩:=id ht
 obtain⟨⟨cls2,dd2,data2,sl2⟩,ho2,hc2,n2,hd2⟩:=id hb
 simp only at hc hd hc2 hd2
 subst hc hd hc2 hd2
 have e:vs.toArray++ws.toArray=(vs++ws).toArray:=by simp
 by_cases hw:ws=[]
 .exact concat_meets ⟨_,ho,rfl⟩ ⟨_,ho2,rfl⟩ noFill_tuple_add seq_tuple_add PySem.F.slot_tuple_add PySem.F.entry_tuple_add (PySem.F.args_tuple_add_2 _ _)
   (tuple_addW1 t b vs.toArray ws.toArray n n2 dd dd2 sl sl2 (by simpa using hv) (by simp[hw])) ⟨ho,ho2,h1 hw⟩
 .refine concat_meets ⟨_,ho,rfl⟩ ⟨_,ho2,rfl⟩ noFill_tuple_add seq_tuple_add PySem.F.slot_tuple_add PySem.F.entry_tuple_add (PySem.F.args_tuple_add_2 _ _)
   (tuple_addW2 t b vs.toArray ws.toArray n n2 dd dd2 sl sl2 (by simpa using hv) (by simpa using hw) (by rw[List.size_toArray,List.size_toArray];exact hsz)) ⟨ho,ho2,?_⟩
  rw[e]
  exact h2 hw
noncomputable def sIx (n d:Nat):Option Int->Nat
 |none=>d
 |some v=>if v<0 then(v+(n:Int)).toNat else min v.toNat n
end
end HT
namespace L2
open PySem PySem.Spec PyProof.Rows
noncomputable abbrev TO:=St->Hp->(Option Int->Hp->Prop)->Prop
def PO (X:Cx) (e:Option Expr) (t:TO):Prop:=
 ∀(pins:List (Addr×Obj)) (s:Shared) (σ:St) (H:Hp) (Q:Option Int->Hp->Prop),Inv X pins σ H s->t σ H Q->
  wpAny (model X.prog X.w) X.A (evalPart e X.env) (fun u s'=>∃o H',Inv X pins σ H' s'/\IsPart u o/\Q o H') X.xe s
noncomputable def tNoPart:TO:=fun _ H Q=>Q none H
noncomputable def tPart (t:TE):TO:=fun σ H Q=>t σ H fun x H1=>∃i,x=.int i/\Q (some i) H1
theorem intsAre_of {ns:List Int}:∀{us:List Value},Vals (ns.map V.int) us->IntsAre us ns:=by
 induction ns with
 |nil=>intro us r;rw[List.map_nil]at r;cases r;exact .nil
 |cons n ns ih=>
  intro us r
  rw[List.map_cons]at r
  cases r with
  |cons r1 r2=>
   obtain⟨t,e⟩:=r1
   subst e
   exact .cons n t (ih r2)
section
variable {X:Cx} {e:Expr} {te:TE} {lo hi:Option Expr} {tl th:TO} {pos p2:Pos}
theorem po_none:PO X none tNoPart:=by
 intro pins s σ H Q I h
 rw[evalPart_none]
 exact wpAny_pure ⟨none,H,I,.none,h⟩
theorem po_some (h:PE X e te):PO X (some e) (tPart te):=by
 intro pins s σ H Q I hw
 rw[evalPart_some]
 refine thn (h pins s σ H _ I hw) fun u s1 ⟨x,H1,I1,r1,q1⟩=>?_
 obtain⟨i,rfl,q⟩:=q1
 obtain⟨t,rfl⟩:=r1
 exact⟨some i,H1,I1,.int i t,q⟩
def SlR (X:Cx) (r:V->Option Int->Option Int->Hp->VK->Prop):Prop:=
 ∀(pins:List (Addr×Obj)) (s:Shared) (σ:St) (H:Hp) (x:V) (v vl vu:Value) (lo hi:Option Int) (sl:Addr) (Q:VK),Inv X pins σ H s->RelV x v->s.heap.IsSliceOf sl vl vu .none->IsPart vl lo->IsPart vu hi->r x lo hi H Q->
  ∃T id,typeLookup (.type T) "__getitem__"=pure (some (.builtin id))/\s.TypeIs v T/\wpAny (model X.prog X.w) X.A (getItem v (.ref sl)) (EP X pins σ Q) X.xe s
theorem SlR.or {r r':V->Option Int->Option Int->Hp->VK->Prop} (h:SlR X r) (h':SlR X r'):SlR X (fun x lo hi H Q=>r x lo hi H Q\/r' x lo hi H Q):=by
 intro pins s σ H x v vl vu lo hi sl Q I rx hs pl pu q
 rcases q with q|q
 .exact h pins s σ H x v vl vu lo hi sl Q I rx hs pl pu q
 .exact h' pins s σ H x v vl vu lo hi sl Q I rx hs pl pu q
noncomputable def cutV (xs:List V) (lo hi:Option Int):List V:=(xs.drop (HT.sIx xs.length 0 lo)).take (HT.sIx xs.length xs.length hi-HT.sIx xs.length 0 lo)
noncomputable def rSlT (K:W.Frag):V->Option Int->Option Int->Hp->VK->Prop:=fun x lo hi H Q=>∃a xs,x=.ref a/\SqT K H a xs/\
 ¬(HT.sIx xs.length 0 lo=0/\HT.sIx xs.length xs.length hi=xs.length)/\∀p,H p=none->Q (.ref p) (upd H p (.tup (cutV xs lo hi)))
noncomputable def rCatT (K:W.Frag):R2:=fun x y H Q=>∃a b xs ys,x=.ref a/\y=.ref b/\SqT K H a xs/\SqT K H b ys/\xs≠[]/\xs.length+ys.length<=sizeLine/\
 (ys=[]->Q (.ref a) H)/\(ys≠[]->∀p,H p=none->Q (.ref p) (upd H p (.tup (xs++ys))))
theorem Vals.nil_iff {xs:List V} {us:List Value} (r:Vals xs us):us=[]↔xs=[]:=by
 cases r with
 |nil=>simp
 |cons _ _=>simp
theorem op_catT:OpR X (binaryOp .Add) (rCatT X.K):=by
 intro pins s σ H x y v u Q I rx ry h
 obtain⟨a,b,xs,ys,rfl,rfl,ha,hb,hx,hz,q1,q2⟩:=h
 cases rx
 cases ry
 obtain⟨its,r1,p1,_⟩:=I.tuple ha
 obtain⟨its2,r2,p2,_⟩:=I.tuple hb
 refine HT.cat_tup p1 p2 (fun z=>hx (r1.nil_iff.mp z)) (fun z=>⟨.ref a,H,I,rfl,q1 (r2.nil_iff.mp z)⟩) (fun z=>?_) (by rw[<- r1.length,<- r2.length];exact hz)
 refine⟨.ref s.heap.objs.size,_,I.laid (t':=s.toks) (o:=.tup (xs++ys)) (fun b ob q=>Heap.get?_push_of_some _ q) (Nat.le_refl _) ?_,rfl,q2 (fun w=>z (r2.nil_iff.mpr w)) _ (I.hok.fresh (Nat.le_refl _))⟩
 exact⟨by rw[List.length_append];exact hz,_,r1.append r2,TupD.new _ _⟩
end
noncomputable def ixN (n:Nat) (i:Int):Option Nat:=if 0<=i then(if i<n then some i.toNat else none)else if -(n:Int)<=i then some (i+n).toNat else none
noncomputable def atI {α:Type} (xs:List α) (i:Int):Option α:=(ixN xs.length i).bind fun j=>xs[j]?
theorem ixN_seq {n:Nat} {i:Int} {j:Nat} (h:ixN n i=some j):seqIndex? i n=some j/\j<n/\-(n:Int)<=i/\i<n:=by
 unfold ixN at h
 by_cases h0:0<=i
 .rw[if_pos h0]at h
  by_cases h1:i<n
  .rw[if_pos h1]at h
   have e:i.toNat=j:=Option.some.inj h
   exact⟨by rw[seqIndex_of h0 h1,e],by omega,by omega,h1⟩
  .rw[if_neg h1]at h;cases h
 .rw[if_neg h0]at h
  by_cases h1:-(n:Int)<=i
  .rw[if_pos h1]at h
   have e:(i+n).toNat=j:=Option.some.inj h
   exact⟨by rw[seqIndex_neg (by omega) h1,e],by omega,h1,by omega⟩
  .rw[if_neg h1]at h;cases h
theorem atI_get {α:Type} {xs:List α} {i:Int} {v:α} (h:atI xs i=some v):∃j,seqIndex? i xs.length=some j/\xs[j]?=some v/\j<xs.length/\-(xs.length:Int)<=i/\i<xs.length:=by
 unfold atI at h
 cases e:ixN xs.length i with
 |none=>rw[e]at h;cases h
 |some j=>
  rw[e]at h
  obtain⟨h1,h2,h3,h4⟩:=ixN_seq e
  exact⟨j,h1,h,h2,h3,h4⟩
theorem atI_nat {α:Type} {xs:List α} {j:Nat} {v:α} (h:xs[j]?=some v):atI xs (j:Int)=some v:=by
 have hj:j<xs.length:=(List.getElem?_eq_some_iff.mp h).1
 have e:ixN xs.length (j:Int)=some j:=by
  unfold ixN
  rw[if_pos (by omega),if_pos (by omega)];simp
 unfold atI;rw[e];exact h
def PlainIx (b:Expr):Prop:=∀o i,subscripted b false o i=operate [o,i] (getItem o i)
def IxR (X:Cx) (r:R2):Prop:=
 ∀(value slice:Expr) (pins:List (Addr×Obj)) (s:Shared) (σ:St) (H:Hp) (x y:V) (v u:Value) (Q:VK),Inv X pins σ H s->RelV x v->RelV y u->r x y H Q->
  subscripted slice false v u=operate [v,u] (getItem v u)->wpAny (model X.prog X.w) X.A (subscriptTail value slice v u) (EP X pins σ Q) X.xe s
def MtR (X:Cx) (id:String) (r:V->List V->Hp->VK->Prop):Prop:=
 ∀(pins:List (Addr×Obj)) (s:Shared) (σ:St) (H:Hp) (x:V) (xs:List V) (v:Value) (us:List Value) (Q:VK),Inv X pins σ H s->RelV x v->Vals xs us->r x xs H Q->
  wpAny (model X.prog X.w) X.A (call (.builtin id) (v :: us)) (EP X pins σ Q) X.xe s
section
variable {X:Cx} {a b:Expr} {ta tb:TE} {pos:Pos}
theorem IxR.or {r r':R2} (h:IxR X r) (h':IxR X r'):IxR X (fun x y H Q=>r x y H Q\/r' x y H Q):=by
 intro value slice pins s σ H x y v u Q I rx ry q hs
 rcases q with q|q
 .exact h value slice pins s σ H x y v u Q I rx ry q hs
 .exact h' value slice pins s σ H x y v u Q I rx ry q hs
theorem pe_ix {r:R2} (hr:IxR X r) (ha:PE X a ta) (hb:PE X b tb) (hs:PlainIx b):PE X (.Subscript a b pos) (tOp r ta tb):=by
 intro pins s σ H Q I h
 exact Subscript_ (binT ha hb I h fun v u s2 x y H2 I2 rx ry q=>hr a b pins s2 σ H2 x y v u Q I2 rx ry q (hs _ _))
noncomputable def rIxL (K:W.Frag):R2:=fun x y H Q=>∃p xs i v,x=.ref p/\y=.int i/\SqL K H p xs/\atI xs i=some v/\Q v H
noncomputable def rIxT (K:W.Frag):R2:=fun x y H Q=>∃p xs i v,x=.ref p/\y=.int i/\SqT K H p xs/\atI xs i=some v/\Q v H
noncomputable def rIxS:R2:=fun x y H Q=>∃z i c,x=.str z/\y=.int i/\z.length<=sizeLine/\atI z.cps.toList i=some c/\Q (.str ⟨#[c]⟩) H
theorem ix_list:IxR X (rIxL X.K):=by
 intro value slice pins s σ H x y v u Q I rx ry h hs
 obtain⟨p,xs,i,z,rfl,rfl,hq,he,q⟩:=h
 cases rx
 obtain⟨t,rfl⟩:=ry
 obtain⟨its,r,pl,hz⟩:=I.list hq
 obtain⟨j,h1,h2,h3,h4,h5⟩:=atI_get he
 obtain⟨w,ew,rw'⟩:=r.get h2
 have hl:=r.length
 have hn:=line63
 have fin:EP X pins σ Q w s:=⟨z,H,I,rw',q⟩
 by_cases h0:0<=i
 .have hj:i.toNat=j:=by
   rw[seqIndex_of h0 h5]at h1
   exact Option.some.inj h1
  exact item_listR pl.isList h0 (by omega) (by rw[hj];simpa using ew) fin hs
 .have hj:(i+(its.toArray.size:Int)).toNat=j:=by
   rw[seqIndex_neg (by omega) h4]at h1
   rw[List.size_toArray,<- hl]
   exact Option.some.inj h1
  exact subscriptTail_builtinR (x:=w) pl.isList.typeIs slot_list_getitem.lookup
   (wpAny_getItem_list_neg (Q:=fun r s'=>r=w/\EP X pins σ Q r s') pl.isList (by omega) (by rw[List.size_toArray]<;>omega) (by omega) (by rw[hj];simpa using ew) ⟨rfl,fin⟩) hs
theorem ix_tup:IxR X (rIxT X.K):=by
 intro value slice pins s σ H x y v u Q I rx ry h hs
 obtain⟨p,xs,i,z,rfl,rfl,hq,he,q⟩:=h
 cases rx
 obtain⟨t,rfl⟩:=ry
 obtain⟨its,r,pl,hz⟩:=I.tuple hq
 obtain⟨j,h1,h2,h3,h4,h5⟩:=atI_get he
 obtain⟨w,ew,rw'⟩:=r.get h2
 have hl:=r.length
 have hn:=line63
 have fin:EP X pins σ Q w s:=⟨z,H,I,rw',q⟩
 exact subscriptTail_builtinR (x:=w) pl.typeIs slot_tuple_getitem.lookup
  (getItem_tuple (j:=j) (Q:=fun r s'=>r=w/\EP X pins σ Q r s') pl (by omega) (by omega) (by rw[List.size_toArray,<- hl];exact h1) (by simpa using ew) ⟨rfl,fin⟩) hs
theorem ix_str:IxR X rIxS:=by
 intro value slice pins s σ H x y v u Q I rx ry h hs
 obtain⟨z,i,c,rfl,rfl,hz,he,q⟩:=h
 obtain⟨t,rfl⟩:=rx
 obtain⟨t',rfl⟩:=ry
 obtain⟨j,h1,h2,h3,h4,h5⟩:=atI_get he
 have hl:z.cps.toList.length=z.length:=by simp[Str.length]
 rw[hl]at h1 h4 h5
 have hn:=line63
 exact tail_any (typeIs_str s z t) slot_str_getitem.lookup (getItem_str (c:=c) (by
  have e1:decide (i < -(2 ^ 63:Int))=false:=decide_eq_false (by omega)
  have e2:decide (i ≥ 2 ^ 63)=false:=decide_eq_false (by omega)
  rw[e1,e2,Bool.or_false]) (by rw[h1];simpa using h2) ⟨.str ⟨#[c]⟩,H,I.tok _,⟨_,rfl⟩,q⟩) hs
noncomputable def rIx (K:W.Frag):R2:=fun x y H Q=>rIxL K x y H Q\/rIxT K x y H Q\/rIxS x y H Q
theorem ix_seq:IxR X (rIx X.K):=ix_list.or (ix_tup.or ix_str)
theorem mapSeq_set (its:List Value) (n j:Nat) (u:Value):Obj.mapSeq (·.setIfInBounds j u) { cls:=.type "list",data:=.seq its.toArray n }={ cls:=.type "list",data:=.seq (its.set j u).toArray n }:=by
 simp[Obj.mapSeq]
theorem Inv.lst {pins:List (Addr×Obj)} {σ:St} {H:Hp} {s:Shared} {p:Addr} {xs:List V} (I:Inv X pins σ H s) (h:H p=some (.lst xs)):
  ∃(its:List Value) (n:Nat),Vals xs its/\s.heap.get? p=some { cls:=.type "list",data:=.seq its.toArray n }/\xs.length<=sizeLine:=by
 obtain⟨z,its,n,r,e⟩:=I.hok p _ h
 exact⟨its,n,r,e,z⟩
theorem Inv.lstUpd {pins:List (Addr×Obj)} {σ:St} {H:Hp} {s:Shared} {p:Addr} {xs ys:List V} {its its':List Value} {n n':Nat} {f:Obj->Obj} (I:Inv X pins σ H s) (h:H p=some (.lst xs))
  (ho:s.heap.get? p=some { cls:=.type "list",data:=.seq its.toArray n }) (hf:f { cls:=.type "list",data:=.seq its.toArray n }={ cls:=.type "list",data:=.seq its'.toArray n' }) (r:Vals ys its') (hz:ys.length<=sizeLine) (t:Nat):
  Inv X pins σ (upd H p (.lst ys)) { s with heap:=s.heap.update p f,toks:=t }:=by
 have e:(s.heap.update p f).get? p=some { cls:=.type "list",data:=.seq its'.toArray n' }:=by
  rw[Heap.get?_update_self f ho (by rw[hf]<;>rfl),hf]
 refine I.write (x:=p) (e:=p) (by rw[h];trivial) (.inl rfl) (fun b u hb q=>(Heap.get?_update_other _ _ (Ne.symm hb)).trans q) ⟨_,e⟩ ?_
 exact⟨hz,its',n',r,e⟩
noncomputable def rSetL:V->V->V->Hp->(Hp->Prop)->Prop:=fun o i v H Q=>∃p xs k j,o=.ref p/\i=.int k/\H p=some (.lst xs)/\ixN xs.length k=some j/\Q (upd H p (.lst (xs.set j v)))
theorem set_list:PSet X rSetL:=by
 intro pins s σ H o i v ov iv u Q I ro ri rv h
 obtain⟨p,xs,k,j,rfl,rfl,hp,hj,q⟩:=h
 cases ro
 obtain⟨t,rfl⟩:=ri
 obtain⟨its,n,r,ho,hz⟩:=I.lst hp
 obtain⟨h1,h2,h3,h4⟩:=ixN_seq hj
 have hl:=r.length
 have hn:=line63
 have I':Inv X pins σ (upd H p (.lst (xs.set j v))) { s with heap:=s.heap.update p (Obj.mapSeq (·.setIfInBounds j u)) }:=
  I.lstUpd hp ho (mapSeq_set its n j u) (r.set rv j) (by rw[List.length_set];exact hz) s.toks
 by_cases h0:0<=k
 .have hk:k.toNat=j:=by
   rw[seqIndex_of h0 h4]at h1
   exact Option.some.inj h1
  exact W.ki_setAt ho h0 (by omega) (by rw[List.size_toArray,<- hl];exact h4) (by rw[hk];exact⟨_,I',q⟩)
 .have hk:(k+(its.toArray.size:Int)).toNat=j:=by
   rw[seqIndex_neg (by omega) h3]at h1
   rw[List.size_toArray,<- hl]
   exact Option.some.inj h1
  exact W.ki_setBack ho (by omega) (by rw[List.size_toArray,<- hl];exact h3) (by omega) (by rw[hk];exact⟨_,I',q⟩)
noncomputable def rSlL (K:W.Frag):V->Option Int->Option Int->Hp->VK->Prop:=fun x lo hi H Q=>∃a xs,x=.ref a/\SqL K H a xs/\∀p,H p=none->Q (.ref p) (upd H p (.lst (cutV xs lo hi)))
noncomputable def flatV:V->Bool
 | .non=>true
 | .bl _=>true
 | .int _=>true
 | .str _=>true
 |_=>false
noncomputable def eqV:V->V->Bool
 | .non,.non=>true
 | .bl a,.bl b=>a == b
 | .bl a,.int b=>(if a then 1 else 0) == b
 | .int a,.bl b=>a == (if b then 1 else 0)
 | .int a,.int b=>a == b
 | .str a,.str b=>a == b
 |_,_=>false
theorem eqAt_V {A:Around} {s:Shared} {y x:V} {u v:Value} (ry:RelV y u) (rx:RelV x v) (fy:flatV y=true) (fx:flatV x=true):SeqAt.EqAt A s u v (eqV y x):=by
 cases y with
 |non=>
  cases ry
  cases x with
  |non=>cases rx;exact SeqAt.EqAt.same _
  |bl b=>cases rx;exact SeqAt.EqAt.none_bool b
  |int b=>obtain⟨t,rfl⟩:=rx;exact SeqAt.EqAt.none_int b t
  |str b=>obtain⟨t,rfl⟩:=rx;exact SeqAt.EqAt.none_str b t
  |_=>exact absurd (show false=true from fx) Bool.false_ne_true
 |bl a=>
  cases ry
  cases x with
  |non=>cases rx;exact SeqAt.EqAt.bool_none a
  |bl b=>cases rx;exact SeqAt.EqAt.bool_bool a b
  |int b=>obtain⟨t,rfl⟩:=rx;exact SeqAt.EqAt.bool_int a b t
  |str b=>obtain⟨t,rfl⟩:=rx;exact SeqAt.EqAt.bool_str a b t
  |_=>exact absurd (show false=true from fx) Bool.false_ne_true
 |int a=>
  obtain⟨t',rfl⟩:=ry
  cases x with
  |non=>cases rx;exact SeqAt.EqAt.int_none a t'
  |bl b=>cases rx;exact SeqAt.EqAt.int_bool a t' b
  |int b=>obtain⟨t,rfl⟩:=rx;exact SeqAt.EqAt.int_int a t' b t
  |str b=>obtain⟨t,rfl⟩:=rx;exact SeqAt.EqAt.int_str a t' b t
  |_=>exact absurd (show false=true from fx) Bool.false_ne_true
 |str a=>
  obtain⟨t',rfl⟩:=ry
  cases x with
  |non=>cases rx;exact SeqAt.EqAt.str_none a t'
  |bl b=>cases rx;exact SeqAt.EqAt.str_bool a t' b
  |int b=>obtain⟨t,rfl⟩:=rx;exact SeqAt.EqAt.str_int a t' b t
  |str b=>obtain⟨t,rfl⟩:=rx;exact SeqAt.EqAt.str_str a t' b t
  |_=>exact absurd (show false=true from fx) Bool.false_ne_true
 |_=>exact absurd (show false=true from fy) Bool.false_ne_true
noncomputable def eqU (x:V) (u:Value):Bool:=match u with
 | .none=>eqV .non x
 | .bool b=>eqV (.bl b) x
 | .int i _=>eqV (.int i) x
 | .str z _=>eqV (.str z) x
 |_=>false
theorem eqU_of {x y:V} {u:Value} (r:RelV y u) (f:flatV y=true):eqU x u=eqV y x:=by
 cases y with
 |non=>cases r;rfl
 |bl b=>cases r;rfl
 |int i=>obtain⟨t,rfl⟩:=r;rfl
 |str z=>obtain⟨t,rfl⟩:=r;rfl
 |_=>exact absurd (show false=true from f) Bool.false_ne_true
theorem any_eqU {x:V}:∀{xs:List V} {us:List Value},Vals xs us->xs.all flatV=true->us.any (eqU x)=xs.any fun y=>eqV y x
 |_,_,.nil,_=>rfl
 |y :: xs,u :: us,.cons r t,f=>by
  rw[List.all_cons,Bool.and_eq_true]at f
  rw[List.any_cons,List.any_cons,eqU_of r f.1,any_eqU t f.2]
theorem mem_eqAt {A:Around} {s:Shared} {x:V} {v:Value} (rx:RelV x v) (fx:flatV x=true):∀{xs:List V} {us:List Value},Vals xs us->xs.all flatV=true->∀u∈us,SeqAt.EqAt A s u v (eqU x u)
 |_,_,.nil,_=>fun u hu=>by cases hu
 |y :: xs,u :: us,.cons r t,f=>fun u' hu=>by
  rw[List.all_cons,Bool.and_eq_true]at f
  rcases List.mem_cons.mp hu with rfl|hu
  .rw[eqU_of r f.1];exact eqAt_V r rx f.1 fx
  .exact mem_eqAt rx fx t f.2 u' hu
noncomputable def inV (x:V) (xs:List V):Bool:=xs.any fun y=>eqV y x
noncomputable def rIn (K:W.Frag) (neg:Bool):R2:=fun x y H Q=>∃p xs,y=.ref p/\(SqL K H p xs\/SqT K H p xs)/\flatV x=true/\xs.all flatV=true/\Q (.bl (if neg then !inV x xs else inV x xs)) H
theorem op_in_seq:OpR X (compareOp .In) (rIn X.K false):=by
 intro pins s σ H x y v u Q I rx ry h
 obtain⟨p,xs,rfl,hq,fx,fs,q⟩:=h
 cases ry
 rcases hq with hq|hq
 .obtain⟨its,r,pl,hz⟩:=I.list hq
  refine SeqAt.in_listAt (eqU x) pl.isList (fun w hw=>mem_eqAt rx fx r fs w (by simpa using hw)) ⟨.bl _,H,I,rfl,?_⟩
  rw[show its.toArray.any (eqU x)=its.any (eqU x) by simp,any_eqU r fs]
  exact q
 .obtain⟨its,r,pl,hz⟩:=I.tuple hq
  refine SeqAt.in_tupleAt (eqU x) pl (fun w hw=>mem_eqAt rx fx r fs w (by simpa using hw)) ⟨.bl _,H,I,rfl,?_⟩
  rw[show its.toArray.any (eqU x)=its.any (eqU x) by simp,any_eqU r fs]
  exact q
theorem op_notIn_seq:OpR X (compareOp .NotIn) (rIn X.K true):=by
 intro pins s σ H x y v u Q I rx ry h
 obtain⟨p,xs,rfl,hq,fx,fs,q⟩:=h
 cases ry
 rcases hq with hq|hq
 .obtain⟨its,r,pl,hz⟩:=I.list hq
  refine SeqAt.notIn_listAt (eqU x) pl.isList (fun w hw=>mem_eqAt rx fx r fs w (by simpa using hw)) ⟨.bl _,H,I,rfl,?_⟩
  rw[show its.toArray.any (eqU x)=its.any (eqU x) by simp,any_eqU r fs]
  exact q
 .obtain⟨its,r,pl,hz⟩:=I.tuple hq
  refine SeqAt.notIn_tupleAt (eqU x) pl (fun w hw=>mem_eqAt rx fx r fs w (by simpa using hw)) ⟨.bl _,H,I,rfl,?_⟩
  rw[show its.toArray.any (eqU x)=its.any (eqU x) by simp,any_eqU r fs]
  exact q
theorem CallR.or {f:Value} {r r':List V->Hp->VK->Prop} (h:CallR X f r) (h':CallR X f r'):CallR X f (fun xs H Q=>r xs H Q\/r' xs H Q):=by
 intro pins s σ H xs us Q I rs q
 rcases q with q|q
 .exact h pins s σ H xs us Q I rs q
 .exact h' pins s σ H xs us Q I rs q
theorem call_list_of:CallR X (.type "list") (fun xs H Q=>∃p ys,xs=[.ref p]/\(SqL X.K H p ys\/SqT X.K H p ys)/\∀l,H l=none->Q (.ref l) (upd H l (.lst ys))):=by
 intro pins s σ H xs us Q I r h
 obtain⟨p,ys,rfl,hq,q⟩:=h
 obtain⟨u,rfl,rx⟩:=vals1 r
 cases rx
 have fin:∀(its:List Value),Vals ys its->ys.length<=sizeLine->∀(h':Heap) (c':Nat),(∀b o',s.heap.get? b=some o'->h'.get? b=some o')->
   h'.get? s.heap.objs.size=some { cls:=.type "list",dict:=none,data:=.seq its.toArray c',slots:=#[] }->EP X pins σ Q (.ref s.heap.objs.size) { s with heap:=h' }:=fun its r' hz h' c' kp e=>
  ⟨.ref s.heap.objs.size,_,I.laid (t':=s.toks) kp (Nat.le_refl _) (show ObjOk X.prog X.w _ h' _ (.lst ys) from⟨hz,its,c',r',e⟩),rfl,q _ (I.hok.fresh (Nat.le_refl _))⟩
 rcases hq with hq|hq
 .obtain⟨its,r',pl,hz⟩:=I.list hq
  have hlen:=r'.length
  obtain⟨o,ho,hc,n,hd⟩:=pl.isList
  exact call_list_seq p (.inl rfl) ho hc hd (fun h' c' kp e=>fin its r' hz h' c' kp e) (by simp only[List.size_toArray]<;>omega)
 .obtain⟨its,r',pl,hz⟩:=I.tuple hq
  have hlen:=r'.length
  obtain⟨o,ho,hc,n,hd⟩:=pl
  exact call_list_seq p (.inr rfl) ho hc hd (fun h' c' kp e=>fin its r' hz h' c' kp e) (by simp only[List.size_toArray]<;>omega)
theorem call_tuple_of:CallR X (.type "tuple") (fun xs H Q=>∃p ys,xs=[.ref p]/\((SqL X.K H p ys/\∀l,H l=none->Q (.ref l) (upd H l (.tup ys)))\/(SqT X.K H p ys/\Q (.ref p) H))):=by
 intro pins s σ H xs us Q I r h
 obtain⟨p,ys,rfl,h⟩:=h
 obtain⟨u,rfl,rx⟩:=vals1 r
 cases rx
 rcases h with⟨hq,q⟩|⟨hq,q⟩
 .obtain⟨its,r',pl,hz⟩:=I.list hq
  have hlen:=r'.length
  refine call_tuple_list pl.isList (fun h' kp=>?_) (by simp only[List.size_toArray]<;>omega)
  have I1:Inv X pins σ H { s with heap:=h' }:=I.kept (t':=s.toks) kp
  have I2:Inv X pins σ (upd H h'.objs.size (.tup ys)) { s with heap:=h'.push { cls:=.type "tuple",data:=.seq its.toArray } }:=
   I1.laid (t':=s.toks) (fun b o e=>Heap.get?_push_of_some _ e) (Nat.le_refl _) (show ObjOk X.prog X.w _ _ _ (.tup ys) from⟨hz,its,r',TupD.new _ _⟩)
  exact⟨.ref h'.objs.size,_,I2,rfl,q _ (I1.hok.fresh (Nat.le_refl _))⟩
 .obtain⟨its,r',pl,hz⟩:=I.tuple hq
  exact call_tuple_same pl ⟨.ref p,H,I,rfl,q⟩
def tyV (K:W.Frag) (T:String) (x:V) (H:Hp):Prop:=match x with
 | .str _=>T="str"
 | .int _=>T="int"
 | .ref p=>(T="list"/\∃xs,SqL K H p xs)\/(T="tuple"/\((∃o,K.lookup p=some o/\o.cls=.type "tuple"/\o.dict=none)\/∃xs,H p=some (.tup xs)))\/
   (T="dict"/\((∃kvs,H p=some (.dK kvs))\/∃kvs,H p=some (.dT kvs)))\/(T="set"/\∃S n,H p=some (.set S n))
 |_=>False
theorem tyV_is {pins:List (Addr×Obj)} {σ:St} {H:Hp} {s:Shared} {T:String} {x:V} {v:Value} (I:Inv X pins σ H s) (r:RelV x v) (ty:tyV X.K T x H):
  s.TypeIs v T/\∀a,v=.ref a->∃ob,s.heap.get? a=some ob/\ob.dict=none:=by
 cases x with
 |str z=>
  obtain⟨t,rfl⟩:=r
  cases(show T="str" from ty)
  exact⟨typeIs_str s z t,fun _ e=>nomatch e⟩
 |int i=>
  obtain⟨t,rfl⟩:=r
  cases(show T="int" from ty)
  exact⟨typeIs_int s i t,fun _ e=>nomatch e⟩
 |ref p=>
  cases r
  rcases ty with⟨rfl,xs,hq⟩|⟨rfl,⟨o,hk,hc,hd⟩|⟨xs,hk⟩⟩|⟨rfl,hk⟩|⟨rfl,S,n,hk⟩
  .obtain⟨its,_,pl,_⟩:=I.list hq
   refine⟨pl.isList.typeIs,fun a e=>?_⟩
   cases e
   obtain⟨o,n,e,c,hd,_⟩:=pl
   exact⟨o,e,hd⟩
  .refine⟨⟨o,I.kIn p o hk,hc⟩,fun a e=>?_⟩
   cases e
   exact⟨o,I.kIn _ o hk,hd⟩
  .obtain⟨_,_,_,o,e,c,_,hd⟩:=I.hok p _ hk
   refine⟨⟨o,e,c⟩,fun a e2=>?_⟩
   cases e2
   exact⟨o,e,hd⟩
  .have z:∃o,s.heap.get? p=some o/\o.ExactDict:=by
    rcases hk with⟨kvs,hk⟩|⟨kvs,hk⟩
    .obtain⟨_,_,_,_,o,_,_,e,ex,_⟩:=I.hok p _ hk
     exact⟨o,e,ex⟩
    .obtain⟨_,_,_,_,o,_,_,e,ex,_⟩:=I.hok p _ hk
     exact⟨o,e,ex⟩
   obtain⟨o,e,ex⟩:=z
   refine⟨⟨o,e,ex.1⟩,fun a e2=>?_⟩
   cases e2
   exact⟨o,e,ex.2.1⟩
  .obtain⟨o,_,_,_,e,ex,_⟩:=I.hok p _ hk
   refine⟨⟨o,e,ex.1⟩,fun a e2=>?_⟩
   cases e2
   exact⟨o,e,ex.2.1⟩
 |_=>exact False.elim ty
noncomputable def tBM0 (K:W.Frag) (T:String) (r:V->List V->Hp->VK->Prop) (to:TE):TE:=fun σ H Q=>to σ H fun x H1=>tyV K T x H1/\r x [] H1 Q
noncomputable def tBM (K:W.Frag) (T:String) (r:V->List V->Hp->VK->Prop) (to:TE) (t:TA):TE:=fun σ H Q=>to σ H fun x H1=>tyV K T x H1/\t σ H1 fun xs H2=>r x xs H2 Q
variable {o e:Expr} {es:List Expr} {to:TE} {t:TA} {name:Str} {apos cpos:Pos} {T id:String} {r:V->List V->Hp->VK->Prop}
theorem pe_bm0 (pa:PlainAttrs T) (slot:Slot T name id) (hty:typeOf (.builtin id)=pure (.type "method_descriptor")) (hm:MtR X id r) (ho:PE X o to)
  (hbase:attributeBase o name X.env (eval o X.env)=eval o X.env:=by rfl) (hline:(apos.endLine == cpos.line)=true:=by rfl):PE X (.Call (.Attribute o name apos) [] [] cpos) (tBM0 X.K T r to):=by
 intro pins s σ H Q I h
 refine wpAny_Call_method0_late hbase hline (thn (ho pins s σ H _ I h) fun v s1 ⟨x,H1,I1,r1,ty,q1⟩=>?_)
 obtain⟨h1,h2⟩:=tyV_is I1 r1 ty
 exact⟨T,id,pa,slot,hty,h1,h2,Calls.callWith_builtin rfl (PySem.evalArgs_none (hm pins s1 σ H1 x [] v [] Q I1 r1 .nil q1))⟩
theorem pe_bm (pa:PlainAttrs T) (slot:Slot T name id) (hty:typeOf (.builtin id)=pure (.type "method_descriptor")) (hm:MtR X id r) (ho:PE X o to) (ha:PA X (e :: es) t)
  (hbase:attributeBase o name X.env (eval o X.env)=eval o X.env:=by rfl)
  (hfew:((backTo cpos (starEach (e :: es) X.env)).all (fun x=>!x.1)&&(backToKw cpos (keywordEach [] X.env)).all (fun x=>x.1.isSome)
   && decide ((e :: es).length+([]:List Keyword).length+(if([]:List Keyword).isEmpty then 0 else 1)<30))=true:=by rfl)
  (hline:(apos.endLine == cpos.line)=true:=by rfl) (hs:starEach (e :: es) X.env=(false,eval e X.env) :: starEach es X.env:=by rfl) (hplain:(backTo cpos (starEach es X.env)).any (·.1)=false:=by rfl):
  PE X (.Call (.Attribute o name apos) (e :: es) [] cpos) (tBM X.K T r to t):=by
 intro pins s σ H Q I h
 refine wpAny_Call_method_late hbase hfew hline rfl (thn (ho pins s σ H _ I h) fun v s1 ⟨x,H1,I1,r1,ty,q1⟩=>?_)
 obtain⟨h1,h2⟩:=tyV_is I1 r1 ty
 refine⟨T,id,pa,slot,hty,h1,h2,?_⟩
 have hA:=ha cpos pins s1 σ H1 _ I1 q1
 rw[hs]at hA ⊢
 refine Calls.callWith_builtin (by show(false || (backTo cpos (starEach es X.env)).any (·.1))=false;rw[hplain]<;>rfl) (Calls.evalArgs_plain ?_)
 exact thn hA fun us s2 ⟨vs,H2,I2,r2,q2⟩=>hm pins s2 σ H2 x vs v us Q I2 r1 r2 q2
end
def MtM (X:Cx) (id:String) (r:V->List V->Hp->VK->Prop):Prop:=
 ∀(pins:List (Addr×Obj)) (s:Shared) (σ:St) (H:Hp) (x:V) (xs:List V) (v:Value) (us:List Value) (Q:VK),Inv X pins σ H s->RelV x v->Vals xs us->r x xs H Q->
  wpAny (model X.prog X.w) X.A (call (.builtin id) (v :: us)) (EP X pins σ Q) X.xe s
theorem Vals.one:∀{x:V} {us:List Value},Vals [x] us->∃u,us=[u]/\RelV x u
 |_,_,.cons r .nil=>⟨_,rfl,r⟩
theorem Vals.zero:∀{us:List Value},Vals [] us->us=[]
 |_,.nil=>rfl
theorem Vals.dropLast {xs:List V} {us:List Value} (h:Vals xs us):Vals xs.dropLast us.dropLast:=by
 induction h with
 |nil=>exact .nil
 |cons r t ih=>
  cases t with
  |nil=>exact .nil
  |cons q t'=>exact .cons r ih
theorem Vals.reverse {xs:List V} {us:List Value} (h:Vals xs us):Vals xs.reverse us.reverse:=by
 induction h with
 |nil=>exact .nil
 |cons r t ih=>rw[List.reverse_cons,List.reverse_cons];exact Vals.append ih (.cons r .nil)
theorem Vals.rep {xs:List V} {us:List Value} (h:Vals xs us):∀k:Nat,Vals (List.replicate k xs).flatten (List.replicate k us).flatten
 |0=>.nil
 |k+1=>by
  rw[List.replicate_succ,List.replicate_succ,List.flatten_cons,List.flatten_cons]
  exact Vals.append h (Vals.rep h k)
theorem erase_last {α:Type} (l:List α):l.eraseIdx (l.length-1)=l.dropLast:=by
 induction l with
 |nil=>rfl
 |cons a r ih=>
  cases r with
  |nil=>rfl
  |cons b r=>
   have e:(a :: b :: r).length-1=((b :: r).length-1)+1:=by
    have h1:(a :: b :: r).length=r.length+2:=rfl
    have h2:(b :: r).length=r.length+1:=rfl
    omega
   rw[e,List.eraseIdx_cons_succ,ih]
   all_goals rfl
theorem foldl_rep (its:List Value):∀(k:Nat) (acc:List Value),
  List.foldl (fun x1 x2=>x1++x2) acc.toArray (List.replicate k its.toArray)=(acc++(List.replicate k its).flatten).toArray
 |0,acc=>by simp
 |k+1,acc=>by
  have e:acc.toArray++its.toArray=(acc++its).toArray:=by simp
  have e2:(acc++its)++(List.replicate k its).flatten=acc++(List.replicate (k+1) its).flatten:=by
   rw[List.replicate_succ,List.flatten_cons,List.append_assoc]
  rw[<- e2,<- foldl_rep its k (acc++its),<- e,List.replicate_succ,List.foldl_cons]
section
variable {X:Cx} {pins:List (Addr×Obj)} {σ:St} {H:Hp} {s:Shared} {l b:Addr} {xs ys zs:List V}
theorem Inv.lset {its its':List Value} {n:Nat} {f:Array Value->Array Value} {t':Nat} (I:Inv X pins σ H s) (hH:H l=some (.lst xs))
  (e:s.heap.get? l=some { cls:=.type "list",data:=.seq its.toArray n }) (hf:f its.toArray=its'.toArray) (hv:Vals ys its') (hz:ys.length<=sizeLine):
  Inv X pins σ (upd H l (.lst ys)) { s with heap:=s.heap.update l (Obj.mapSeq f),toks:=t' }:=by
 have q:=PySem.IsL.update e f
 rw[hf]at q
 refine I.write (x:=l) (e:=l) (by rw[hH];exact trivial) (.inl rfl) (fun b' u hb hu=>(Heap.get?_update_other s.heap (Obj.mapSeq f) (Ne.symm hb)).trans hu) ⟨_,q⟩ ?_
 exact⟨hz,its',_,hv,q⟩
theorem Inv.lnew {its:List Value} {t':Nat} (I:Inv X pins σ H s) (hv:Vals ys its) (hz:ys.length<=sizeLine):
  Inv X pins σ (upd H s.heap.objs.size (.lst ys)) { s with heap:=s.heap.push { cls:=.type "list",data:=.seq its.toArray },toks:=t' }:=
 I.laid (fun _ _ q=>Heap.get?_push_of_some _ q) (Nat.le_refl _) ⟨hz,its,0,hv,Heap.get?_push_size _ rfl⟩
theorem Inv.fresh (I:Inv X pins σ H s):H s.heap.objs.size=none:=I.hok.fresh (Nat.le_refl _)
theorem Inv.lstM (I:Inv X pins σ H s) (hH:H l=some (.lst xs)):xs.length<=sizeLine/\∃(its:List Value) (n:Nat),Vals xs its/\xs.length=its.length/\s.heap.get? l=some { cls:=.type "list",data:=.seq its.toArray n }:=by
 obtain⟨z,its,n,r,e⟩:=I.hok l _ hH
 exact⟨z,its,n,r,r.length,e⟩
theorem notLongL {n:Nat} (h:n<=sizeLine):Builtin.List.listTooLong n=false:=by
 unfold Builtin.List.listTooLong
 exact decide_eq_false (by omega)
end
section
variable {X:Cx}
noncomputable def rAppend:V->List V->Hp->VK->Prop:=fun x vs H Q=>∃l xs y,x=.ref l/\vs=[y]/\H l=some (.lst xs)/\xs.length<sizeLine/\Q .non (upd H l (.lst (xs++[y])))
theorem mt_append:MtM X "list.append" rAppend:=by
 intro pins s σ H x vs v us Q I rx rv h
 obtain⟨l,xs,y,rfl,rfl,hH,hz,q⟩:=h
 cases rx
 obtain⟨u,rfl,ru⟩:=rv.one
 obtain⟨z,its,n,r,hl,e⟩:=I.lstM hH
 refine call_meets F.slot_list_append ⟨_,e,rfl⟩ F.entry_list_append (F.args_list_append_2 _ _) (PySem.list_append l its.toArray n u (by rw[List.size_toArray];omega)) ⟨e,?_⟩
 refine⟨.non,_,I.lset (its':=its++[u]) hH e (by simp) (r.append (.cons ru .nil)) ?_,rfl,q⟩
 rw[List.length_append,List.length_singleton]
 omega
noncomputable def rExtend:V->List V->Hp->VK->Prop:=fun x vs H Q=>∃l b xs zs,x=.ref l/\vs=[.ref b]/\H l=some (.lst xs)/\H b=some (.lst zs)/\xs.length+zs.length<=sizeLine/\Q .non (upd H l (.lst (xs++zs)))
theorem mt_extend:MtM X "list.extend" rExtend:=by
 intro pins s σ H x vs v us Q I rx rv h
 obtain⟨l,b,xs,zs,rfl,rfl,hH,hB,hz,q⟩:=h
 cases rx
 obtain⟨u,rfl,ru⟩:=rv.one
 cases ru
 obtain⟨z,its,n,r,hl,e⟩:=I.lstM hH
 obtain⟨z2,its2,n2,r2,hl2,e2⟩:=I.lstM hB
 have hsz:its.toArray.size+its2.toArray.size<=sizeLine:=by rw[List.size_toArray,List.size_toArray];omega
 have hlong:¬(!its.toArray.isEmpty&&Builtin.List.listTooLong (its.toArray.size+its2.toArray.size))=true:=by
  rw[notLongL hsz,Bool.and_false]
  exact Bool.false_ne_true
 refine call_meets F.slot_list_extend ⟨_,e,rfl⟩ F.entry_list_extend (F.args_list_extend_2 _ _)
  (AutoSeq1.list_extend_list_list_0 l its.toArray n b its2.toArray n2 hlong (by rw[List.size_toArray];omega) (by omega)) ⟨e,e2,?_⟩
 refine⟨.non,_,I.lset (its':=its++its2) hH e (by simp) (r.append r2) ?_,rfl,q⟩
 rw[List.length_append]
 omega
noncomputable def rPop:V->List V->Hp->VK->Prop:=fun x vs H Q=>∃l xs y,x=.ref l/\vs=[]/\H l=some (.lst xs)/\xs[xs.length-1]?=some y/\Q y (upd H l (.lst xs.dropLast))
theorem mt_pop:MtM X "list.pop" rPop:=by
 intro pins s σ H x vs v us Q I rx rv h
 obtain⟨l,xs,y,rfl,rfl,hH,hy,q⟩:=h
 cases rx
 have hus:=rv.zero
 subst hus
 obtain⟨z,its,n,r,hl,e⟩:=I.lstM hH
 obtain⟨u,hu,ru⟩:=r.get hy
 have hy':its.toArray[its.toArray.size-1]?=some u:=by
  show its.toArray[its.length-1]?=some u
  rw[<- Array.getElem?_toList,<- hl]
  exact hu
 refine call_meets F.slot_list_pop ⟨_,e,rfl⟩ F.entry_list_pop (F.args_list_pop_1 _) (MeetsSeq.list_pop_last l its.toArray n u hy' (by rw[List.size_toArray];omega)) ⟨e,?_⟩
 refine⟨y,_,I.lset (its':=its.dropLast) hH e ?_ r.dropLast ?_,ru,q⟩
 .show its.toArray.eraseIdxIfInBounds (its.toArray.size-1)=its.dropLast.toArray
  rw[List.size_toArray,List.eraseIdxIfInBounds_toArray,erase_last]
 .rw[List.length_dropLast]
  omega
noncomputable def rCat:R2:=fun x y H Q=>∃l b xs zs,x=.ref l/\y=.ref b/\H l=some (.lst xs)/\H b=some (.lst zs)/\xs.length+zs.length<=sizeLine/\∀p,H p=none->Q (.ref p) (upd H p (.lst (xs++zs)))
theorem op_cat:OpR X (binaryOp .Add) rCat:=by
 intro pins s σ H x y v u Q I rx ry h
 obtain⟨l,b,xs,zs,rfl,rfl,hH,hB,hz,q⟩:=h
 cases rx
 cases ry
 obtain⟨z,its,n,r,hl,e⟩:=I.lstM hH
 obtain⟨z2,its2,n2,r2,hl2,e2⟩:=I.lstM hB
 refine PySem.P.add_list e e2 ?_ (by rw[List.size_toArray,List.size_toArray];omega)
 have ea:its.toArray++its2.toArray=(its++its2).toArray:=by simp
 rw[ea]
 exact⟨.ref _,_,I.lnew (t':=s.toks) (r.append r2) (by rw[List.length_append];omega),rfl,q _ I.fresh⟩
noncomputable def rRep:R2:=fun x y H Q=>∃l k xs,x=.ref l/\y=.int k/\H l=some (.lst xs)/\-(2 ^ 63)<=k/\k<2 ^ 63/\xs.length*k.toNat<=sizeLine/\
 ∀p,H p=none->Q (.ref p) (upd H p (.lst (List.replicate k.toNat xs).flatten))
theorem len_rep {α:Type} (xs:List α) (k:Nat):(List.replicate k xs).flatten.length=k*xs.length:=by
 induction k with
 |zero=>simp
 |succ k ih=>rw[List.replicate_succ,List.flatten_cons,List.length_append,ih,Nat.succ_mul,Nat.add_comm]
theorem op_rep:OpR X (binaryOp .Mult) rRep:=by
 intro pins s σ H x y v u Q I rx ry h
 obtain⟨l,k,xs,rfl,rfl,hH,h1,h2,hz,q⟩:=h
 cases rx
 obtain⟨t,rfl⟩:=ry
 obtain⟨z,its,n,r,hl,e⟩:=I.lstM hH
 have hlen:its.toArray.size*k.toNat<=sizeLine:=by rw[List.size_toArray,<- hl];exact hz
 have hcap:¬its.toArray.size*k.toNat > (2 ^ 63-1) / 8:=by
  have:(sizeLine:Nat)<=(2 ^ 63-1) / 8:=by decide
  omega
 have hfit:¬(!Builtin.List.listFitsIndex k)=true:=by
  rw[fitsIndex_both h1 h2]
  exact Bool.false_ne_true
 have hlong:¬Builtin.List.listTooLong (its.toArray.size*k.toNat)=true:=by
  rw[notLongL hlen]
  exact Bool.false_ne_true
 have hnew:List.foldl (fun x1 x2=>x1++x2) #[] (List.replicate (if its.toArray.isEmpty=true then 0 else k.toNat) its.toArray)=(List.replicate k.toNat its).flatten.toArray:=by
  have f0:∀m:Nat,List.foldl (fun x1 x2=>x1++x2) #[] (List.replicate m its.toArray)=(List.replicate m its).flatten.toArray:=fun m=>by
   have:=foldl_rep its m []
   rw[List.nil_append]at this
   exact this
  rw[f0]
  cases its with
  |nil=>simp
  |cons a r'=>rw[if_neg (by simp)]
 refine wpAny_binaryOp_repeat_ref (T:="list") (U:="int") (by decide) ⟨_,e,rfl⟩ (fun s'=>typeIs_int s' k t) noFill_list_mul F.fills_int_mul F.slot_int_rmul repeat_list F.slot_int_index.lookup
  (call_meets F.slot_int_rmul (typeIs_int s k t) F.entry_int_rmul (F.args_int_rmul_2 _ _) (int___rmul___int_list k t l its.toArray n)
   ⟨e,rfl,⟨_,e,rfl⟩,call_meets F.slot_list_mul ⟨_,e,rfl⟩ F.entry_list_mul (F.args_list_mul_2 _ _) (AutoListH.list___mul___list_int_3 l its.toArray n k t hfit hcap hlong) ⟨e,?_⟩⟩)
 rw[hnew]
 exact⟨.ref _,_,I.lnew (t':=s.toks) (r.rep k.toNat) (by rw[len_rep,Nat.mul_comm];exact hz),rfl,q _ I.fresh⟩
end
section
variable {prog:Program} {w:World} {A:Around} {E:Value->Shared->Prop} {s:Shared}
end
section
variable {X:Cx}
end
end L2
namespace Att
open PySem PySem.W PySem.Calls PyProof.Rows
theorem ints_of_wellAll {P:Params} {h:Heap}:∀(ns:List Int) (vs:List Value),WellAll P h vs (ns.map WData.int)->IntsAre vs ns:=by
 intro ns
 induction ns with
 |nil=>
  intro vs w
  rw[List.map_nil]at w
  cases w
  exact .nil
 |cons n ns ih=>
  intro vs w
  rw[List.map_cons]at w
  cases w with
  |cons a b=>
   cases a
   exact .cons _ _ (ih _ b)
theorem script_of {l:OpenLaw} {n:Nat} (hn:l.most=some n) {P:Params} {h:Heap} {args:List WData} {vals:List Value}
  (hpre:l.row.toRowW.claim.pre args=true) (hwl:WellAll P h vals args):
  ∃a vs ns,vals=[Value.ref a]/\args=[WData.list (ns.map WData.int)]/\h.get? a=some { cls:=.type "list",data:=.seq vs.toArray }/\IntsAre vs ns/\ns.length<=n:=by
 have hsh:WShape.hasAll [] args [.list .int]=true:=(pre_splitW hpre).1
 have hc:l.pre.holds [] { args:=args }=true:=(pre_splitW hpre).2
 obtain⟨d,r,rfl,h1,h2⟩:=hasAllW_cons hsh
 obtain rfl:=hasAllW_nil h2
 obtain⟨xs,rfl,h3⟩:=hasW_list h1
 obtain⟨ns,rfl⟩:=items_int h3
 have hlen:ns.length<=n:=by
  unfold OpenLaw.pre at hc
  have h4:(WTm.not (.lt (.lit (.int (n:Int))) (.len (.arg 0)))).holds [] { args:=[.list (ns.map .int)] }=true:=by
   have h4:=(holds_andW hc).1
   rw[hn]at h4
   exact h4
  have h5:=condW_of h4 (w_not (w_lt w_lit (w_len_list (w_arg rfl))))
  rw[List.length_map]at h5
  refine Nat.le_of_not_lt fun q=>?_
  have q':(n:Int)<((ns.length:Nat):Int):=by omega
  first
   |(rw[decide_eq_true q']at h5;exact absurd h5 (by decide))
   |(simp at h5;omega)
 cases hwl with
 |cons w1 w2=>
  cases w2
  cases w1 with
  |list ho hall=>exact⟨_,_,ns,rfl,rfl,ho,ints_of_wellAll ns _ hall,hlen⟩
theorem post_true (l:OpenLaw) (args:List WData):l.row.toRowW.claim.post args (.bool true) args=true:=
 postW_of (r:=l.row.toRowW) (X:=(true == true))
  (show WShape.has [] (.bool true) .bool=true by first|rfl|decide|simp[WShape.has,WShape.arms,WShape.armsAll])
  (show(WTm.eq .res (.lit (.bool true))).value [] { args:=args,res:=some (.bool true),after:=args }=some (.bool (true == true)) from w_eq_bool (w_res rfl) w_lit) rfl
theorem attach_call {l:OpenLaw} {n:Nat} {q:Program} {loose:List Str} {XP:(Str->Option Value)->Heap->Prop} {YP:World->Heap->Prop} {d:DefRec}
  (hn:l.most=some n) (hdf:d.params.defaults=[])
  (call:∀(w:World) (s₀ s₁:Shared) (mg mb:Str->Option Value) (fa:Addr) (o:Obj) (pm cd doc:Value) (a:Addr) (vs:List Value) (ns:List Int),
   Ground q loose [] XP w s₀ mg mb s₁.heap->YP w s₁.heap->
   s₁.heap.get? fa=some o->o.data=.func (docDef d.name d.params d.body d.scope pm cd doc)->s₁.heap.CodeRec cd d.name->mg d.name=some (.ref fa)->
   s₁.heap.get? a=some { cls:=.type "list",data:=.seq vs.toArray }->IntsAre vs ns->ns.length<=n->s₁.gens=#[]->
   codeAny (model l.prog w) callerA (.call (.ref fa) ⟨[.ref a],[]⟩) (fun r s'=>r=.ok (.ret (.bool true))/\OldK s₁.heap s'.heap/\s'.os=s₁.os/\AllBare s'.gens) s₁):
  WalkO q loose XP YP l.row.toRowW d [] (fun f vs=>PySem.call f vs):=by
 intro w s₀ s₁ mg mb G Y fa o pm cd doc dV kV ho hd hcd hD hmg hg args vals as hpre hlay hrd hwl hlo
 obtain rfl:dV=.none:=Dflts.none hD hdf
 obtain rfl:kV=.none:=Dflts.noKw hD
 obtain⟨a,vs,ns,rfl,rfl,hobj,hints,hlen⟩:=script_of hn hpre hwl
 refine enter_call (codeAny_mono (call w s₀ s₁ mg mb fa o pm cd doc a vs ns G Y ho (fd_plain hd) hcd hmg hobj hints hlen hg) fun r s' hq=>?_)
 obtain⟨rfl,h2,h3,h4⟩:=hq
 exact⟨.inl ⟨.bool true,.bool true,[],rfl,fun _=>rfl,.bool true,post_true l _,fun _=>⟨List.Pairwise.nil,fun _ hm=>(nomatch hm)⟩⟩,h2,h3,h4⟩
section
variable {prog:Program} {w:World} {A:Around} {E:Value->Shared->Prop} {s:Shared} {K:Frag}
end
end Att
namespace L2
open PySem PySem.Spec PyProof.Rows
theorem vals_ints:∀{vs:List Value} {ns:List Int},IntsAre vs ns->Vals (ns.map V.int) vs
 |_,_,.nil=>.nil
 |_,_,.cons n t h=>.cons ⟨t,rfl⟩ (vals_ints h)
def Only (H:Hp):Prop:=∀b,H b=none\/∃o xs,H b=some (.frz o (.lst xs))
theorem law_call {P:Program} {w:World} {K:W.Frag} {mg mb:Str->Option Value} {CX:CXT} {k:Nat} {fa a:Addr} {fd:FuncData} {x:Str} {sp:Sp} {s₁:Shared} {vs:List Value} {ns:List Int}
  (KX:K.In s₁.heap) (hns:s₁.heap.Ns mainGlobals mg) (hb:s₁.heap.Ns builtinsNs mb) (hbb:∀x:Str,x≠"__name__"->mb x=bootBuiltins x) (hlim:s₁.heap.NoLimit) (hg:s₁.gens=#[])
  (ha:s₁.heap.get? a=some { cls:=.type "list",data:=.seq vs.toArray }) (hi:IntsAre vs ns) (hl:ns.length<=sizeLine) (hr:Room k callerA)
  (F:∀base:Heap,K.In base->base.Ns mainGlobals mg->FnOk P w K mg base CX k fa fd [x] sp) (hbind:∀(s:Shared) (u:Value),BindsTo s fd ⟨[u],[]⟩ [(x,u)])
  (hsp:∀H:Hp,Only H->SqL K H a (ns.map V.int)->sp [.ref a] H (fun v _=>v=.bl true) fun _ _ _=>False)
  (hCX:∀H e s',CX [] H s₁ (fun _ _ _=>False) e s'->False):
  codeAny (model P w) callerA (.call (.ref fa) ⟨[.ref a],[]⟩) (fun r s'=>r=.ok (.ret (.bool true))/\OldK s₁.heap s'.heap/\s'.os=s₁.os/\AllBare s'.gens) s₁:=by
 have rv:=vals_ints hi
 have lenV:=hi.length
 have core:∀H:Hp,Only H->SqL K H a (ns.map V.int)->HOk P w H s₁.heap->(∀b,H b≠none->b=a)->(H a≠none->K.lookup a=none)->
   codeAny (model P w) callerA (.call (.ref fa) ⟨[.ref a],[]⟩) (fun r s'=>r=.ok (.ret (.bool true))/\OldK s₁.heap s'.heap/\s'.os=s₁.os/\AllBare s'.gens) s₁:=by
  intro H hO hS hok hA hK
  have base_of:∀{b:Addr} {o:Obj},s₁.heap.get? b=some o->H b=none->(hidT s₁.heap H).get? b=some o:=fun e n=>hidT_get e n
  have noA:∀{b:Addr} {o:Obj} {es:Array DictEntry} {ep:Nat},s₁.heap.get? b=some o->o.data=.dict es ep->H b=none:=fun {b o es ep} e d=>by
   cases q:H b with
   |none=>rfl
   |some u=>
    have e':b=a:=hA b (by rw[q];simp)
    subst e'
    rw[ha]at e;cases e
    have d':Data.seq vs.toArray _=Data.dict es ep:=d
    cases d'
  have nsK:∀{b:Addr} {m:Str->Option Value},s₁.heap.Ns b m->(hidT s₁.heap H).Ns b m:=fun {b m} ⟨o,es,ep,e,d,r⟩=>⟨o,es,ep,base_of e (noA e d),d,r⟩
  have hKb:K.In (hidT s₁.heap H):=fun b o e=>base_of (KX b o e) (by
   cases q:H b with
   |none=>rfl
   |some u=>
    have e':b=a:=hA b (by rw[q];simp)
    subst e'
    rw[hK (by rw[q];simp)]at e;cases e)
  have hM:Mod K mg (hidT s₁.heap H):=⟨hKb,nsK hns,⟨mb,nsK hb,hbb⟩,let⟨mc,h1,h2⟩:=hlim;⟨mc,nsK h1,h2⟩⟩
  have e0:Env0 P w K mg (hidT s₁.heap H) callerA [] s₁ H:=⟨rfl,hM,fun b o e=>of_hidT e,Nat.le_of_eq (hidT_size _ _),trivial,fun b hb=>absurd (show b∈([]:List Addr) from hb) (by simp),hok,.of_eq hg⟩
  refine codeAny_mono ((F _ hKb (nsK hns)).run callerA [] s₁ H ⟨[.ref a],[]⟩ [.ref a] [.ref a] _ _ hr e0 (hbind s₁ (.ref a)) (.cons rfl .nil) (hsp H hO hS)) fun r s' h=>?_
  cases r with
  |error e=>exact(hCX H e s' h).elim
  |ok fl=>
   cases fl with
   |next=>exact False.elim h
   |brk=>exact False.elim h
   |cont=>exact False.elim h
   |ret u=>
    obtain⟨v,H',os,bare,un,hok',r',q⟩:=h
    have q':v=.bl true:=q
    subst q'
    obtain rfl:u=Value.bool true:=r'
    refine⟨rfl,OldK.of_keep fun b o e=>?_,os,bare⟩
    cases q:H b with
    |none=>exact un.keep b o e q (by intro z;exact absurd (show b∈([]:List Addr) from z) (by simp)) (by simp)
    |some u=>
     rcases hO b with z|⟨ob,xs,z⟩
     .rw[q]at z;cases z
     .have z2:=un.frzs b ob _ z
      obtain⟨e1,_⟩:=hok b _ z
      obtain⟨e2,_⟩:=hok' b _ z2
      rw[e]at e1;cases e1
      exact e2
 cases hk:K.lookup a with
 |some o=>
  have e:=KX a o hk
  rw[ha]at e
  cases e
  refine core (fun _=>none) (fun _=>.inl rfl) (.inr ⟨_,vs.toArray,_,hk,rfl,rfl,rfl,by rw[List.size_toArray,lenV];exact hl,by simpa using rv⟩) (fun b u z=>by have z':(none:Option HO)=some u:=z;cases z') (fun b z=>absurd rfl z) fun z=>absurd rfl z
 |none=>
  refine core (fun b=>if b=a then some (.frz { cls:=.type "list",data:=.seq vs.toArray } (.lst (ns.map V.int)))else none) (fun b=>?_) (.inl (.inr ⟨{ cls:=.type "list",data:=.seq vs.toArray },if_pos rfl⟩)) (fun b u z=>?_) (fun b z=>?_) fun _=>hk
  .by_cases hb:b=a
   .exact .inr ⟨_,_,if_pos hb⟩
   .exact .inl (if_neg hb)
  .by_cases hb:b=a
   .have z':=(if_pos hb).symm.trans z
    cases z'
    subst hb
    exact⟨ha,by rw[List.length_map];exact hl,vs,_,rv,ha⟩
   .have z':=(if_neg hb).symm.trans z
    cases z'
  .by_cases hb:b=a
   .exact hb
   .exact absurd (if_neg hb) z
theorem walk_of {l:W.OpenLaw} {n k:Nat} {q:Program} {loose:List Str} {XP:(Str->Option Value)->Heap->Prop} {YP:World->Heap->Prop} {d:DefRec} {K:Params->W.Frag} {CX:World->CXT} {sp:World->Sp} {x:Str}
  (hn:l.most=some n) (hn2:n<=sizeLine) (hdf:d.params.defaults=[]) (hr:Room k callerA)
  (hY:∀(w:World) (h:Heap),YP w h->(K w.params).In h)
  (F:∀(w:World) (mg:Str->Option Value) (fa:Addr) (h:Heap),(K w.params).In h->h.Ns mainGlobals mg->mg d.name=some (.ref fa)->
   ∃fd:FuncData,(∀(s:Shared) (u:Value),BindsTo s fd ⟨[u],[]⟩ [(x,u)])/\
    ∀base:Heap,(K w.params).In base->base.Ns mainGlobals mg->FnOk l.prog w (K w.params) mg base (CX w) k fa fd [x] (sp w))
  (hsp:∀(w:World) (H:Hp) (a:Addr) (ns:List Int),ns.length<=n->Only H->SqL (K w.params) H a (ns.map V.int)->sp w [.ref a] H (fun v _=>v=.bl true) fun _ _ _=>False)
  (hCX:∀(w:World) (H:Hp) (s:Shared) (e:Value) (s':Shared),CX w [] H s (fun _ _ _=>False) e s'->False):
  W.WalkO q loose XP YP l.row.toRowW d [] (fun f vs=>PySem.call f vs):=by
 refine Att.attach_call hn hdf fun w s₀ s₁ mg mb fa o pm cd doc a vs ns G Y ho hd hcd hmg hobj hints hlen hg=>?_
 have KX:=hY w _ Y
 obtain⟨fd,hb,hF⟩:=F w mg fa _ KX G.T.g hmg
 exact law_call KX G.T.g G.T.b G.T.builtins G.T.nolimit hg hobj hints (Nat.le_trans hlen hn2) hr hF hb (fun H hO hS=>hsp w H a ns hlen hO hS) fun H e s'=>hCX w H s₁ e s'
noncomputable def defArgs (s:Stmt):Arguments:=match s with
 | .FunctionDef _ a _ _ _ _ _ _ _ _=>a
 |_=>{ posonlyargs:=[],args:=[],vararg:=none,kwonlyargs:=[],kw_defaults:=[],kwarg:=none,defaults:=[] }
noncomputable def defBody (s:Stmt):List Stmt:=match s with
 | .FunctionDef _ _ b _ _ _ _ _ _ _=>b
 |_=>[]
noncomputable def defScope (s:Stmt):Scope:=match s with
 | .FunctionDef _ _ _ _ _ _ sc _ _ _=>sc
 |_=>{ kind:=.function,names:=[],isGenerator:=false,isCoroutine:=false }
noncomputable abbrev CX0:CXT:=fun _ _ _ _ _ _=>False
noncomputable abbrev E0:XK:=fun _ _ _=>False
structure Fun (K:W.Frag) (x qual:Str) (st:Stmt) (f:Addr) (fd:FuncData):Prop where
 ex:∃(oc:Value) (od:Option Addr) (kV doc pm:Value) (an:Option Addr) (cdv ct:Value) (osl:Array (Option Value)),
  fd=W.fnOf x qual (defArgs st) (defBody st) (defScope st) .none kV doc pm an cdv ct/\K.lookup f=some ⟨oc,od,.func fd,osl⟩/\W.codeIn K cdv qual=true
 kp:W.keepIn K (.ref f)=true
section
variable {P:Program} {w:World} {K:W.Frag} {mg:Str->Option Value} {base:Heap}
theorem Fun.ok {x qual:Str} {st:Stmt} {f:Addr} {fd:FuncData} {N ps:List Str} {k:Nat} {sp:Sp} (F:Fun K x qual st f fd) (S:FnScope N ps (defScope st)) (len:∀vs H Q E,sp vs H Q E->vs.length=ps.length)
  (hbody:∀(cdv:Value) (A:Around) (outer:List Env) (s:Shared) (H:Hp) (vs:List V) (Q:VK) (E:XK),Room k (A.deeper (envOfC qual (defScope st) s.heap.objs.size f cdv))->sp vs H Q E->
   ∃t,PSs (cxOf CX0 P w K mg base N qual (defScope st) f cdv A outer s H E).nox (defBody st) t/\t { nx:=fun _ H'=>Q .non H',rt:=Q } (start N vs) H):FnOk P w K mg base CX0 (k+1) f fd ps sp:=by
 obtain⟨oc,od,kV,doc,pm,an,cdv,ct,osl,rfl,lk,hcd⟩:=F.ex
 refine fn_of lk hcd S len fun A outer s H vs Q E hr hsp=>?_
 obtain⟨t,h,q⟩:=hbody cdv A outer s H vs Q E hr hsp
 exact⟨t,h.nox,q⟩
theorem Fun.binds {x qual:Str} {st:Stmt} {f:Addr} {fd:FuncData} {ps:List Str} (F:Fun K x qual st f fd)
  (h:∀(kV doc pm:Value) (an:Option Addr) (cdv ct:Value) (us:List Value),us.length=ps.length->bindArgs (W.fnOf x qual (defArgs st) (defBody st) (defScope st) .none kV doc pm an cdv ct) ⟨us,[]⟩=pure (ps.zip us)):Binds K fd ps []:=by
 obtain⟨oc,od,kV,doc,pm,an,cdv,ct,osl,rfl,lk,hcd⟩:=F.ex
 exact .all (h kV doc pm an cdv ct)
theorem fun_mk {x qual:Str} {st:Stmt} {f:Addr} {oc:Value} {od an:Option Addr} {osl:Array (Option Value)} {kV doc pm cdv ct:Value} (l:K.lookup f=some ⟨oc,od,.func (W.fnOf x qual (defArgs st) (defBody st) (defScope st) .none kV doc pm an cdv ct),osl⟩)
  (c:W.codeIn K cdv qual=true) (k:W.keepIn K (.ref f)=true):Fun K x qual st f (W.fnOf x qual (defArgs st) (defBody st) (defScope st) .none kV doc pm an cdv ct):=⟨⟨oc,od,kV,doc,pm,an,cdv,ct,osl,rfl,l,c⟩,k⟩
end
theorem small1000 {n:Nat} (h:n<=1000):n<sizeLine:=Nat.lt_of_le_of_lt h (by decide)
section
variable {X:Cx}
theorem pv (i:Nat) {x:Str} {pos:Pos} (hN:X.N[i]?=some x:=by rfl) (hv:Vis X.env.scope x:=by first|exact Or.inl rfl|exact Or.inr (Or.inl rfl)|exact Or.inr (Or.inr rfl)) (hd:(x == ("__debug__":Str))=false:=by decide)
  (hcd:(x == ("__classdict__":Str))=false:=by decide):PE X (.Name x pos) (tVar i):=pe_var hN hv hd hcd
end
def Same (H H':Hp):Prop:=∀b o,H b=some o->H' b=some o
theorem Same.refl (H:Hp):Same H H:=fun _ _ h=>h
theorem Same.trans {H H1 H2:Hp} (a:Same H H1) (b:Same H1 H2):Same H H2:=fun c o h=>b c o (a c o h)
theorem Same.free {H H':Hp} (e:Same H H') {l:Addr} (h:H' l=Option.none):H l=Option.none:=by
 cases q:H l with
 |none=>rfl
 |some o=>
  rw[e l o q]at h
  cases h
theorem Same.seq {K:W.Frag} {H H':Hp} {a:Addr} {xs:List V} (e:Same H H') (h:SqL K H a xs):SqL K H' a xs:=by
 rcases h with(h|⟨o,h⟩)|h
 .exact .inl (.inl (e _ _ h))
 .exact .inl (.inr ⟨o,e _ _ h⟩)
 .exact .inr h
noncomputable def closL (cells:List (Str×Addr)):List (Str×NameKind)->List (Str×Addr)->List (Str×Addr)
 | [],acc=>acc
 |(n,k) :: r,acc=>if k == .free then closL cells r ((n,(cells.lookup n).getD 0) :: acc)else closL cells r acc
noncomputable def closF (env:Env) (x:Str×NameKind) (r:List (Str×Addr)):Sem (ForInStep (List (Str×Addr))):=
 match x with|(name,kind)=>if(kind == .free)=true then(do let a <- cellOf env name;pure (ForInStep.yield ((name,a) :: r)))else pure (ForInStep.yield r)
theorem closGo {env:Env}:∀(names:List (Str×NameKind)) (acc:List (Str×Addr)),(∀n,(n,NameKind.free)∈names->∃c,env.cells.lookup n=some c)->
   forIn names acc (closF env)=(pure (closL env.cells names acc):Sem _):=by
  intro names
  induction names with
  |nil=>intro acc _;rfl
  |cons x r ih=>
   intro acc hh
   obtain⟨n,k⟩:=x
   rw[List.forIn_cons]
   have hr:=fun m hm=>hh m (List.mem_cons_of_mem _ hm)
   by_cases hk:k=.free
   .subst hk
    obtain⟨c,hc⟩:=hh n List.mem_cons_self
    have e1:cellOf env n=(pure c:Sem Addr):=by unfold cellOf;rw[hc]
    have e2:closF env (n,NameKind.free) acc=pure (ForInStep.yield ((n,c) :: acc)):=by
     unfold closF
     dsimp only
     rw[if_pos (by rfl),e1]
     rfl
    rw[e2]
    have e3:=ih ((n,c) :: acc) hr
    have e4:closL env.cells ((n,NameKind.free) :: r) acc=closL env.cells r ((n,c) :: acc):=by
     show(if(NameKind.free == NameKind.free)=true then _ else _)=_
     rw[if_pos (by rfl),hc]
     rfl
    rw[e4,<- e3]
    rfl
   .have hb:(k == NameKind.free)=false:=by simpa using hk
    have e2:closF env (n,k) acc=pure (ForInStep.yield acc):=by
     unfold closF
     dsimp only
     rw[if_neg (by rw[hb];exact Bool.false_ne_true)]
    rw[e2]
    have e4:closL env.cells ((n,k) :: r) acc=closL env.cells r acc:=by
     show(if(k == NameKind.free)=true then _ else _)=_
     rw[if_neg (by rw[hb];exact Bool.false_ne_true)]
    rw[e4,<- ih acc hr]
    rfl
theorem closFor {env:Env} {scope:Scope} (h:∀n,(n,NameKind.free)∈scope.names->∃c,env.cells.lookup n=some c):closureFor scope env=pure (closL env.cells scope.names []):=by
 have e:=closGo (env:=env) scope.names [] h
 unfold closureFor
 have q:∀f:Str×NameKind->List (Str×Addr)->Sem (ForInStep (List (Str×Addr))),(∀x r,f x r=closF env x r)->(forIn scope.names ([]:List (Str×Addr)) f >>= fun r=>pure r)=(pure (closL env.cells scope.names []):Sem _):=by
  intro f hf
  have:f=closF env:=funext fun x=>funext fun r=>hf x r
  rw[this,e]
  rfl
 refine q _ fun x r=>?_
 obtain⟨n,k⟩:=x
 unfold closF
 first|done|(dsimp only;done)|(dsimp only;cases hk:k == NameKind.free<;>simp[hk])
set_option tactic.hygienic true in
theorem closL_mem {cells:List (Str×Addr)}:∀{names:List (Str×NameKind)} {acc:List (Str×Addr)} {n:Str} {c:Addr},(n,c)∈closL cells names acc->(n,c)∈acc\/((n,NameKind.free)∈names/\c=(cells.lookup n).getD 0)
 | [],_,_,_,h=>.inl h
 |(m,k) :: r,acc,n,c,h=>by
  unfold closL at h
  split at h
  .rename_i hk
   have hk':k=.free:=by simpa using hk
   subst hk'
   rcases closL_mem h with q|⟨q,e⟩
   .rcases List.mem_cons.mp q with q|q
    .cases q;exact .inr ⟨List.mem_cons_self,rfl⟩
    .exact .inl q
   .exact .inr ⟨List.mem_cons_of_mem _ q,e⟩
  .rcases closL_mem h with q|⟨q,e⟩
   .exact .inl q
   .exact .inr ⟨List.mem_cons_of_mem _ q,e⟩
set_option tactic.hygienic true in
theorem closL_has {cells:List (Str×Addr)}:∀{names:List (Str×NameKind)} {acc:List (Str×Addr)} {n:Str},((n,NameKind.free)∈names\/∃c,(n,c)∈acc)->∃c,(n,c)∈closL cells names acc
 | [],_,_,h=>by
  rcases h with h|h
  .simp at h
  .exact h
 |(m,k) :: r,acc,n,h=>by
  unfold closL
  split
  .rename_i hk
   refine closL_has ?_
   rcases h with h|⟨c,h⟩
   .rcases List.mem_cons.mp h with h|h
    .cases h;exact .inr ⟨_,List.mem_cons_self⟩
    .exact .inl h
   .exact .inr ⟨c,List.mem_cons_of_mem _ h⟩
  .rename_i hk
   refine closL_has ?_
   rcases h with h|h
   .rcases List.mem_cons.mp h with h|h
    .cases h;exact absurd rfl hk
    .exact .inl h
   .exact .inr h
theorem cellsFrom_app:∀(names:List (Str×NameKind)) (n:Nat) (acc:List (Str×Addr)),cellsFrom n names acc=cellsFrom n names []++acc
 | [],_,_=>rfl
 |(x,k) :: r,n,acc=>by
  unfold cellsFrom
  split
  .rw[cellsFrom_app r (n+1) ((x,n) :: acc),cellsFrom_app r (n+1) [(x,n)],List.append_assoc]
   rfl
  .exact cellsFrom_app r n acc
theorem lookup_some_of_mem {α:Type}:∀{l:List (Str×α)} {n:Str} {c:α},(n,c)∈l->∃c',l.lookup n=some c'
 |(k,v) :: r,n,c,h=>by
  rw[List.lookup_cons]
  cases hb:n == k with
  |true=>exact⟨v,rfl⟩
  |false=>
   rcases List.mem_cons.mp h with e|h
   .cases e;simp at hb
   .exact lookup_some_of_mem h
theorem relabel_lookup {env:Env}:∀{names:List (Str×NameKind)} {x:Str} {k':NameKind},
  (names.map fun(n,k)=>if(k == NameKind.free&&env.scope.kind == .function&&env.kindOf n == some .cell)then(n,NameKind.cell)else(n,k)).lookup x=some k'->∃k,names.lookup x=some k/\(k'=k\/(k=.free/\k'=.cell))
 | [],_,_,h=>by simp at h
 |(n,k) :: r,x,k',h=>by
  have ih:=@relabel_lookup env r x k'
  rw[List.map_cons]at h
  by_cases hc:(k == NameKind.free&&env.scope.kind == .function&&env.kindOf n == some .cell)=true
  .have e1:(match ((n,k):Str×NameKind)with|(n,k)=>if(k == NameKind.free&&env.scope.kind == .function&&env.kindOf n == some .cell)=true then(n,NameKind.cell)else(n,k))=(n,NameKind.cell):=if_pos hc
   rw[e1,List.lookup_cons]at h
   rw[List.lookup_cons]
   cases hx:x == n with
   |true=>
    rw[hx]at h
    cases h
    refine⟨k,rfl,.inr ⟨?_,rfl⟩⟩
    simp only[Bool.and_eq_true]at hc
    exact beq_iff_eq.mp hc.1.1
   |false=>rw[hx]at h;exact ih h
  .have e1:(match ((n,k):Str×NameKind)with|(n,k)=>if(k == NameKind.free&&env.scope.kind == .function&&env.kindOf n == some .cell)=true then(n,NameKind.cell)else(n,k))=(n,k):=if_neg hc
   rw[e1,List.lookup_cons]at h
   rw[List.lookup_cons]
   cases hx:x == n with
   |true=>rw[hx]at h;cases h;exact⟨k,rfl,.inl rfl⟩
   |false=>rw[hx]at h;exact ih h
theorem relabel_lookup' {env:Env}:∀{names:List (Str×NameKind)} {x:Str} {k:NameKind},names.lookup x=some k ->
  ∃k',(names.map fun(n,k)=>if(k == NameKind.free&&env.scope.kind == .function&&env.kindOf n == some .cell)then(n,NameKind.cell)else(n,k)).lookup x=some k'/\(k'=k\/(k=.free/\k'=.cell))
 | [],_,_,h=>by simp at h
 |(n,k0) :: r,x,k,h=>by
  have ih:=@relabel_lookup' env r x k
  rw[List.map_cons]
  by_cases hc:(k0 == NameKind.free&&env.scope.kind == .function&&env.kindOf n == some .cell)=true
  .have e1:(match ((n,k0):Str×NameKind)with|(n,k)=>if(k == NameKind.free&&env.scope.kind == .function&&env.kindOf n == some .cell)=true then(n,NameKind.cell)else(n,k))=(n,NameKind.cell):=if_pos hc
   rw[e1,List.lookup_cons]
   rw[List.lookup_cons]at h
   cases hx:x == n with
   |true=>
    rw[hx]at h
    cases h
    refine⟨_,rfl,.inr ⟨?_,rfl⟩⟩
    simp only[Bool.and_eq_true]at hc
    exact beq_iff_eq.mp hc.1.1
   |false=>rw[hx]at h;exact ih h
  .have e1:(match ((n,k0):Str×NameKind)with|(n,k)=>if(k == NameKind.free&&env.scope.kind == .function&&env.kindOf n == some .cell)=true then(n,NameKind.cell)else(n,k))=(n,k0):=if_neg hc
   rw[e1,List.lookup_cons]
   rw[List.lookup_cons]at h
   cases hx:x == n with
   |true=>rw[hx]at h;cases h;exact⟨_,rfl,.inl rfl⟩
   |false=>rw[hx]at h;exact ih h
section
variable {M:Model} {A:Around} {E:Value->Shared->Prop} {s:Shared}
noncomputable abbrev compHeap (h:Heap) (names:List (Str×NameKind)):Heap:=pushCells (h.push { cls:=.type "dict",data:=.dict #[] }) names
theorem wpAny_compEnv {scope:Scope} {globals:Addr} {cl:List (Str×Addr)} {qual:Str} {env:Env} {Q:Env->Shared->Prop}
  (h:Q (newEnv scope s.heap.objs.size globals (cellsFrom (s.heap.objs.size+1) scope.names cl) qual none .none (some env) builtinsNs) { s with heap:=compHeap s.heap scope.names }):
  wpAny M A (newFunctionEnv scope globals cl [] qual none .none (some env)) Q E s:=by
 simp only[newFunctionEnv,Option.isSome_some,if_true]
 refine wpAny_bind (wpAny_alloc ?_)
 refine wpAny_bind (wpAny_layCells _ (fun name kind cells=>by cases hkc:kind == NameKind.cell<;>simp[hkc]) _ _ _ _ ?_)
 rw[show({ s with heap:=s.heap.push { cls:=.type "dict",data:=.dict #[] } }:Shared).heap.objs.size=s.heap.objs.size+1 from Heap.size_push ..]
 exact wpAny_bind (wpAny_pure (wpAny_pure h))
end
noncomputable def Cx.comp (X:Cx) (scope:Scope) (s₀:Shared) (H₀:Hp) (ex:List Addr):Cx:=
 { X with
  s₀:=s₀,H₀:=H₀
  env:={ newEnv scope s₀.heap.objs.size X.env.globals (cellsFrom (s₀.heap.objs.size+1) scope.names (closL X.env.cells scope.names [])) X.env.qual none .none (some X.env) builtinsNs with scope:=relabel scope X.env }
  outer:=X.stack,ex:=ex,fn:=fun x=>((cellsFrom (s₀.heap.objs.size+1) scope.names []).lookup x).isSome,pn:=[],xe:=fun _ _=>False }
structure CompSc (X:Cx) (scope:Scope):Prop where
 kind:scope.kind=.function
 names:∀x∈scope.names,x.2=.local->scope.names.lookup x.1=some .local
 one:∀n,(n,NameKind.cell)∈scope.names->scope.names.lookup n=some .cell
 free:∀n,(n,NameKind.free)∈scope.names->X.env.kindOf n=some .cell\/X.env.kindOf n=some .free
set_option tactic.hygienic true in
theorem cellsFrom_mem:∀{names:List (Str×NameKind)} {n:Nat} {x:Str} {c:Addr},(x,c)∈cellsFrom n names []->(x,NameKind.cell)∈names
 | [],_,_,_,h=>by simp[cellsFrom]at h
 |(y,k) :: r,n,x,c,h=>by
  unfold cellsFrom at h
  split at h
  .rename_i hk
   have hk':k=.cell:=by simpa using hk
   subst hk'
   rw[cellsFrom_app]at h
   rcases List.mem_append.mp h with h|h
   .exact List.mem_cons_of_mem _ (cellsFrom_mem h)
   .have h':(x,c)=(y,n):=by simpa using h
    cases h'
    exact List.mem_cons_self
  .exact List.mem_cons_of_mem _ (cellsFrom_mem h)
noncomputable def clr (own:List Nat) (σ:St):St:=own.foldl (fun σ i=>σ.set i none) σ
theorem clr_len:∀(own:List Nat) (σ:St),(clr own σ).length=σ.length
 | [],_=>rfl
 |i :: r,σ=>by
  show(clr r (σ.set i none)).length=_
  rw[clr_len r,List.length_set]
theorem clr_get:∀{own:List Nat} {σ:St} {i:Nat} {v:V},(clr own σ)[i]?=some (some v)->σ[i]?=some (some v)/\i∉own
 | [],_,_,_,h=>⟨h,by simp⟩
 |j :: r,σ,i,v,h=>by
  obtain⟨h1,h2⟩:=clr_get (own:=r) (σ:=σ.set j none) h
  by_cases e:j=i
  .subst e
   rw[List.getElem?_set]at h1
   simp at h1
  .rw[List.getElem?_set_ne e]at h1
   exact⟨h1,by simp;exact⟨fun z=>e z.symm,h2⟩⟩
theorem clr_out:∀{own:List Nat} {σ:St} {i:Nat},i∉own->(clr own σ)[i]?=σ[i]?
 | [],_,_,_=>rfl
 |j :: r,σ,i,h=>by
  have h1:i≠j:=fun z=>h (by simp[z])
  have h2:i∉r:=fun z=>h (by simp[z])
  show(clr r (σ.set j none))[i]?=_
  rw[clr_out h2,List.getElem?_set_ne (Ne.symm h1)]
section
variable {X:Cx} {pins:List (Addr×Obj)} {σ:St} {H H':Hp} {s s':Shared} {scope:Scope} {ex:List Addr} {own:List Nat}
theorem comp_cells (I:Inv X pins σ H s) (S:CompSc X scope):
  (∀x c,(closL X.env.cells scope.names []).lookup x=some c->X.env.cells.lookup x=some c)/\
  (∀x,(x,NameKind.free)∈scope.names->∃c,(closL X.env.cells scope.names []).lookup x=some c)/\
  CellsOk (compHeap s.heap scope.names) (s.heap.objs.size+1) (cellsFrom (s.heap.objs.size+1) scope.names []):=by
 have hc:∀x c,(x,c)∈closL X.env.cells scope.names []->X.env.cells.lookup x=some c:=fun x c h=>by
  rcases closL_mem h with z|⟨z,e⟩
  .simp at z
  .obtain⟨c',e'⟩:=I.ok.has x (S.free x z)
   rw[e',Option.getD_some]at e
   rw[e',e]
 refine⟨fun x c h=>hc x c (PySem.mem_of_lookup h),fun x h=>?_,?_⟩
 .obtain⟨c,q⟩:=closL_has (cells:=X.env.cells) (acc:=[]) (.inl h)
  exact lookup_some_of_mem q
 .have q:=cellsFrom_ok scope.names (s.heap.push { cls:=.type "dict",data:=.dict #[] }) (s.heap.objs.size+1) [] ⟨fun _ _ hm=>(nomatch hm),List.Pairwise.nil⟩ (by rw[Heap.size_push];exact Nat.le_refl _)
  rw[Heap.size_push]at q
  exact q
theorem comp_start (I:Inv X pins σ H s) (hex:∀b∈ex,FpOk X pins H b) (hlt:∀b∈ex,b<s.heap.objs.size) (S:CompSc X scope)
  (hown:∀i x,X.N[i]?=some x->(scope.names.lookup x=some .local\/scope.names.lookup x=some .cell)->i∈own):
  Inv (X.comp scope s H ex) [] (clr own σ) H { s with heap:=compHeap s.heap scope.names }:=by
 obtain⟨hcl,hcf,ok⟩:=comp_cells I S
 have lk:∀x c,(X.comp scope s H ex).env.cells.lookup x=some c->(cellsFrom (s.heap.objs.size+1) scope.names []).lookup x=some c\/((cellsFrom (s.heap.objs.size+1) scope.names []).lookup x=none/\X.env.cells.lookup x=some c):=fun x c h=>by
  have h':(cellsFrom (s.heap.objs.size+1) scope.names (closL X.env.cells scope.names [])).lookup x=some c:=h
  rw[cellsFrom_app,List.lookup_append]at h'
  cases q:(cellsFrom (s.heap.objs.size+1) scope.names []).lookup x with
  |some d=>rw[q]at h';exact .inl h'
  |none=>rw[q]at h';exact .inr ⟨rfl,hcl x c h'⟩
 have newC:∀x c,(cellsFrom (s.heap.objs.size+1) scope.names []).lookup x=some c->(compHeap s.heap scope.names).IsCell c none/\s.heap.objs.size+1<=c:=fun x c h=>ok.empty x c (PySem.mem_of_lookup h)
 have oldC:∀x c,X.env.cells.lookup x=some c->c<s.heap.objs.size:=fun x c h=>let⟨_,q⟩:=I.cell x c h;q.lt
 have keep:∀b o,s.heap.get? b=some o->(compHeap s.heap scope.names).get? b=some o:=fun b o e=>pushCells_keeps _ _ b o (Heap.get?_push_of_some _ e)
 have fresh:∀b,s.heap.objs.size<=b->H b=none:=fun b hb=>I.hok.fresh hb
 have loc0:(X.comp scope s H ex).env.locals=s.heap.objs.size:=rfl
 refine⟨⟨I.ok.mod,S.kind,I.ok.glob,?_,Nat.le_refl _,fun x y c h1 h2=>?_,fun x hx=>?_,fun x c hf h=>?_,I.ok.hd,I.ok.frames,.inl rfl,fun b hb=>?_,I.bs,Nat.le_trans I.ok.bsz I.sz,fun b o e hb=>?_,fun b hb=>?_,I.stack,I.stkFree⟩,
  rfl,I.bare,Un.kept keep,⟨fun _=>none,?_,fun i x v h1 h2 h3=>?_⟩,fun x c h=>?_,fresh _ (Nat.le_refl _),fun x c h=>?_,fun p hp=>absurd (show p∈([]:List (Addr×Obj)) from hp) (by simp),I.hok.kept keep,?_⟩
 .show X.env.builtins=_
  exact I.ok.blt
 .rcases lk x c h1 with q1|⟨_,q1⟩<;>rcases lk y c h2 with q2|⟨_,q2⟩
  .exact name_of_addr ok.apart (PySem.mem_of_lookup q1) (PySem.mem_of_lookup q2)
  .exact absurd (Nat.lt_of_lt_of_le (oldC y c q2) (Nat.le_trans (Nat.le_succ _) (newC x c q1).2)) (Nat.lt_irrefl _)
  .exact absurd (Nat.lt_of_lt_of_le (oldC x c q1) (Nat.le_trans (Nat.le_succ _) (newC y c q2).2)) (Nat.lt_irrefl _)
  .exact I.ok.inj x y c q1 q2
 .have hx':(relabel scope X.env).names.lookup x=some .cell\/(relabel scope X.env).names.lookup x=some .free:=hx
  have fin:∀k,scope.names.lookup x=some k->(k=.cell\/k=.free)->∃c,(cellsFrom (s.heap.objs.size+1) scope.names (closL X.env.cells scope.names [])).lookup x=some c:=fun k hk hkk=>by
   rw[cellsFrom_app,List.lookup_append]
   rcases hkk with rfl|rfl
   .obtain⟨c,q⟩:=cell_has (n:=s.heap.objs.size+1) hk
    exact⟨c,by rw[q];rfl⟩
   .obtain⟨c,q⟩:=hcf x (PySem.mem_of_lookup hk)
    cases z:(cellsFrom (s.heap.objs.size+1) scope.names []).lookup x with
    |some d=>exact⟨d,rfl⟩
    |none=>exact⟨c,by rw[q];rfl⟩
  rcases hx' with hx'|hx'<;>obtain⟨k,hk,e⟩:=relabel_lookup hx'
  .rcases e with e|⟨e,_⟩
   .exact fin k hk (.inl e.symm)
   .exact fin k hk (.inr e)
  .rcases e with e|⟨e,_⟩
   .exact fin k hk (.inr e.symm)
   .exact fin k hk (.inr e)
 .rcases lk x c h with q|⟨q,_⟩
  .have:=(newC x c q).2
   show s.heap.objs.size<=c
   omega
  .have hf':((cellsFrom (s.heap.objs.size+1) scope.names []).lookup x).isSome=true:=hf
   rw[q]at hf'
   cases hf'
 .refine⟨?_,fun x c h=>?_⟩
  .show b≠s.heap.objs.size
   exact Nat.ne_of_lt (hlt b hb)
  .rcases lk x c h with q|⟨_,q⟩
   .intro e
    rw[e]at q
    exact absurd (Nat.lt_of_lt_of_le (hlt b hb) (Nat.le_trans (Nat.le_succ _) (newC x b q).2)) (Nat.lt_irrefl _)
   .exact(hex b hb).2.2.2.2.1 x c q
 .rcases(hex b hb).2.2.2.1 with z|z
  .exact I.ok.noex b o e z
  .exact absurd (Nat.lt_of_lt_of_le (Heap.lt_size e) (Nat.le_trans I.ok.bsz z)) (Nat.lt_irrefl _)
 .intro z
  rcases List.mem_cons.mp (I.stkSub b z)with e|e
  .exact(hex b hb).2.1 e
  .exact(hex b hb).2.2.1 e
 .show(compHeap s.heap scope.names).Ns s.heap.objs.size _
  exact(Heap.Ns.new s.heap (.type "dict")).keeps (pushCells_keeps _ _)
 .obtain⟨h2,hno⟩:=clr_get h2
  have h3':(relabel scope X.env).names.lookup x=some .local\/(relabel scope X.env).names.lookup x=some .cell\/(relabel scope X.env).names.lookup x=some .free:=h3
  have h3k:∃k',(relabel scope X.env).names.lookup x=some k'/\(k'=.local\/k'=.cell\/k'=.free):=by
   rcases h3' with z|z|z
   .exact⟨_,z,.inl rfl⟩
   .exact⟨_,z,.inr (.inl rfl)⟩
   .exact⟨_,z,.inr (.inr rfl)⟩
  obtain⟨k',hk',hkk⟩:=h3k
  obtain⟨k,hk,e⟩:=relabel_lookup hk'
  have hfree:k=.free:=by
   rcases e with e|⟨e,_⟩
   .subst e
    rcases hkk with z|z|z
    .subst z;exact absurd (hown i x h1 (.inl hk)) hno
    .subst z;exact absurd (hown i x h1 (.inr hk)) hno
    .exact z
   .exact e
  subst hfree
  have hm:=PySem.mem_of_lookup hk
  have hv:Vis X.env.scope x:=by
   rcases S.free x hm with z|z
   .exact .inr (.inl z)
   .exact .inr (.inr z)
  obtain⟨m,hn,hl⟩:=I.loc
  obtain⟨u,r,l⟩:=hl i x v h1 h2 hv
  refine⟨u,r,?_⟩
  have hkind:(X.comp scope s H ex).env.kindOf x=some .cell\/(X.comp scope s H ex).env.kindOf x=some .free:=by
   show(relabel scope X.env).names.lookup x=some .cell\/(relabel scope X.env).names.lookup x=some .free
   rcases e with e|⟨_,e⟩
   .subst e;exact .inr hk'
   .subst e;exact .inl hk'
  have hcc:∃c,X.env.cells.lookup x=some c/\s.heap.IsCell c (some u):=by
   rcases l with⟨kk,_⟩|⟨_,c,e1,e2⟩
   .rcases S.free x hm with z|z
    .rw[z]at kk;cases kk
    .rw[z]at kk;cases kk
   .exact⟨c,e1,e2⟩
  obtain⟨c,e1,e2⟩:=hcc
  refine .inr ⟨hkind,c,?_,e2.keeps keep⟩
  show(cellsFrom (s.heap.objs.size+1) scope.names (closL X.env.cells scope.names [])).lookup x=some c
  rw[cellsFrom_app,List.lookup_append]
  have hnone:(cellsFrom (s.heap.objs.size+1) scope.names []).lookup x=none:=by
   cases z:(cellsFrom (s.heap.objs.size+1) scope.names []).lookup x with
   |none=>rfl
   |some d=>
    exfalso
    have q1:=S.one x (cellsFrom_mem (PySem.mem_of_lookup z))
    rw[hk]at q1
    cases q1
  obtain⟨c',q⟩:=hcf x hm
  have q':=hcl x c' q
  rw[e1]at q'
  cases q'
  rw[hnone,q]
  rfl
 .rcases lk x c h with q|⟨_,q⟩
  .exact⟨_,(newC x c q).1⟩
  .obtain⟨v,z⟩:=I.cell x c q
   exact⟨v,z.keeps keep⟩
 .rcases lk x c h with q|⟨_,q⟩
  .have:=(newC x c q).2
   exact fresh c (by omega)
  .exact I.freeC x c q
 .rw[clr_len]
  exact I.len
end
section
variable {X:Cx} {pins:List (Addr×Obj)} {σ:St} {H H':Hp} {s s':Shared} {scope:Scope} {ex:List Addr} {own:List Nat}
theorem hok_but {P:Program} {w:World} {h h':Heap} {a:Addr} (x:HOk P w H h) (hn:H a=none) (hs:∀b o,b≠a->h.get? b=some o->h'.get? b=some o):HOk P w H h':=fun b ob e=>
 (x b ob e).stay (fun c w' hc q=>hs c w' (by
  rintro rfl
  rcases hc with rfl|hc
  .rw[hn]at e;cases e
  .rw[hn]at hc;cases hc) q) (fun _ q=>q) fun _ _ q=>q
theorem comp_end {σ':St} {pins':List (Addr×Obj)} {h':Heap} (I:Inv X pins σ H s) (hex:∀b∈ex,FpOk X pins H b) (J:Inv (X.comp scope s H ex) pins' σ' H' s') (hs:Heap.SameBut s.heap.objs.size s'.heap h'):
  Inv X pins σ H' { s' with heap:=h' }:=by
 have ne:∀b o,s.heap.get? b=some o->b≠s.heap.objs.size:=fun b o e=>Nat.ne_of_lt (Heap.lt_size e)
 have u:Un (frs X.stack) ex H H' s.heap s'.heap:=J.base
 have hf:H' s.heap.objs.size=none:=J.free
 refine I.call' (s':={ s' with heap:=h' }) (ch:=ex) J.os ⟨fun b o e n hb hx=>?_,fun b o e n hb hx=>?_,u.free,fun b o e hx=>?_,u.tups,u.frzs,u.tbls⟩ (hok_but J.hok hf fun b o hb e=>(hs.2 b hb).trans e) J.bare fun b hb=>?_
 .exact(hs.2 b (ne b o e)).trans (u.keep b o e n hb hx)
 .obtain⟨sl,q⟩:=u.slot b o e n hb hx
  exact⟨sl,(hs.2 b (ne b o e)).trans q⟩
 .obtain⟨o',q⟩:=u.there b o e hx
  exact⟨o',(hs.2 b (ne b o e)).trans q⟩
 .obtain⟨f0,f1,f2,f3,f4,f5⟩:=hex b hb
  exact⟨f3,f1,f4,f5⟩
end
def PTs (X:Cx) (ifs:List Expr) (t:TT):Prop:=∀(pins:List (Addr×Obj)) (s:Shared) (σ:St) (H:Hp) (Q:Bool->Hp->Prop),Inv X pins σ H s->t σ H Q->
 wpAny (model X.prog X.w) X.A (forIn ifs true fun c r=>if r=true then do let ok <- isTrue c X.env (eval c X.env);pure (ForInStep.yield ok)else pure (ForInStep.yield r)) (TP X pins σ Q) X.xe s
theorem pts_nil {X:Cx}:PTs X [] (fun _ H Q=>Q true H):=fun pins s σ H Q I h=>wpAny_tests_nil ⟨H,I,h⟩
theorem pts_one {X:Cx} {c:Expr} {t:TT} (hc:PT X c t):PTs X [c] t:=fun pins s σ H Q I h=>wpAny_tests_one (hc pins s σ H Q I h)
def Ext (ws:List Nat) (σ σ':St):Prop:=σ'.length=σ.length/\∀j,j∉ws->σ'[j]?=σ[j]?
theorem Ext.refl {ws:List Nat} {σ:St}:Ext ws σ σ:=⟨rfl,fun _ _=>rfl⟩
theorem Ext.trans {ws:List Nat} {σ σ1 σ2:St} (a:Ext ws σ σ1) (b:Ext ws σ1 σ2):Ext ws σ σ2:=⟨b.1.trans a.1,fun j hj=>(b.2 j hj).trans (a.2 j hj)⟩
theorem Ext.mono {ws ws':List Nat} {σ σ1:St} (a:Ext ws σ σ1) (h:∀j∈ws,j∈ws'):Ext ws' σ σ1:=⟨a.1,fun j hj=>a.2 j fun z=>hj (h j z)⟩
theorem Ext.clr {ws:List Nat} {σ:St}:Ext ws σ (clr ws σ):=⟨clr_len _ _,fun j hj=>clr_out hj⟩
theorem Ext.back {ws:List Nat} {σ σ':St} (a:Ext ws (L2.clr ws σ) σ') (i:Nat) (v:V) (h:(L2.clr ws σ)[i]?=some (some v)):σ'[i]?=some (some v):=by
 obtain⟨_,q⟩:=clr_get h
 rw[a.2 i q]
 exact h
def GExt (ws:List Nat) (g:TG):Prop:=∀(x:V) (σ:St) (H:Hp) (Q:St->Hp->Prop),g x σ H Q->g x σ H fun σ2 H2=>Q σ2 H2/\Ext ws σ σ2
theorem gext_name {i:Nat} {ws:List Nat} (h:i∈ws):GExt ws (gName i):=fun x σ H Q q=>⟨q,by simp,fun j hj=>by
 have:i≠j:=fun z=>hj (z ▸ h)
 rw[List.getElem?_set_ne this]⟩
noncomputable def turnCode (e:Expr) (d:Nat) (tg iter:Expr) (ifs:List Expr) (nx:Sem Unit) (it acc:Value) (env:Env):Sem Fin:=do
 standAt iter.pos
 match <- pyNext it with
 |none=>pure (.done .next)
 |some v=>
  letOwnedTupleGo tg it v
  assign tg env v
  let mut ok:=true
  for c in ifs do
   if ok then ok <- isTrue c env (eval c env)
  if ok then nx
  again (.compLoop e d it acc env)
noncomputable abbrev TL (α:Type):=St->α->Hp->(α->Hp->Prop)->Prop
def CompRun {α:Type} (X:Cx) (D:Addr) (Is:α->Obj->Prop) (ws:List Nat) (code:Sem Unit) (t:TL α):Prop:=
 ∀(pins:List (Addr×Obj)) (s:Shared) (σ:St) (H:Hp) (a:α) (o:Obj) (N:α->Hp->Prop),Inv X pins σ H s->FpOk X pins H D->s.heap.get? D=some o->Is a o->t σ a H N->
  wpAny (model X.prog X.w) X.A code (fun _ s'=>∃σ' a' o' H',Inv X pins σ' H' s'/\Ext ws σ σ'/\s'.heap.get? D=some o'/\Is a' o'/\H' D=none/\N a' H') (fun _ _=>False) s
noncomputable def tClause {α:Type} (ws:List Nat) (g:TG) (tc:TT) (rest:TL α) (J:It):TL α:=fun σ a H1 N=>
 ∃W:Nat->Nat->α->Hp->Prop,(∃m,W 0 m a H1)/\∀i m b H,W i m b H->
  (J.stop i H/\N b H)\/(J.go i H/\∀x H',J.yld i H x H'->g x (clr ws σ) H' fun σ2 H2=>tc σ2 H2 fun ok H3=>
   if ok=true then rest σ2 b H3 (fun c H4=>∃m',m'<m/\W (i+1) m' c H4)else ∃m',m'<m/\W (i+1) m' b H3)
theorem comp_loop {α:Type} {Is:α->Obj->Prop} {X:Cx} {e:Expr} {d:Nat} {tg iter:Expr} {ifs:List Expr} {nx:Sem Unit} {it D:Addr} {fp:List Addr} {tn:Nat->Heap->Prop} {J:It} {g:TG} {tc:TT} {rest:TL α} {ws ws':List Nat}
  (hxe:X.xe=fun _ _=>False) (hcalm:X.calm=true)
  (hq:(Code.compLoop e d (.ref it) (.ref D) X.env).quiet=true) (hu:X.A.under (Code.compLoop e d (.ref it) (.ref D) X.env)=X.A)
  (hT:(model X.prog X.w).den (.compLoop e d (.ref it) (.ref D) X.env)=(turnCode e d tg iter ifs nx (.ref it) (.ref D) X.env).onRaise (fun x=>do noteFrame x X.env;theTreesLotGoes x))
  (T:Turn X.prog X.w X.K tg J fp it tn) (hg:PG X tg g) (hge:GExt ws g) (ht:PTs X ifs tc) (hn:CompRun X D Is ws' nx rest) (hws:∀j∈ws',j∈ws) (hIs:∀a o,Is a o->∀v,o.data≠.cell v) (hDf:D∉fp)
  {pins:List (Addr×Obj)} {s:Shared} {σ:St} {H:Hp} {a:α} {o:Obj} {N:α->Hp->Prop} (I:Inv X pins σ H s) (hf:∀b∈fp,FpOk X pins H b) (hD:FpOk X pins H D) (ho:s.heap.get? D=some o) (ha:Is a o) (h0:tn 0 s.heap)
  (hw:tClause ws g tc rest J σ a H N):
  codeAny (model X.prog X.w) X.A (.compLoop e d (.ref it) (.ref D) X.env) (fun r s'=>r=.ok .next/\∃a' o' H',Inv X pins (clr ws σ) H' s'/\s'.heap.get? D=some o'/\Is a' o'/\H' D=none/\N a' H') s:=by
 obtain⟨W,⟨m0,w0⟩,turn⟩:=hw
 have stat:∀{H':Hp} {pl:List (Addr×Obj)},(∀b∈D :: fp,H' b=none)->(∀b∈D :: fp,FpOk X pins H' b):=fun {H' pl} hn b hb=>by
  rcases List.mem_cons.mp hb with rfl|hb'
  .exact⟨hn _ List.mem_cons_self,hD.2⟩
  .exact⟨hn b hb,(hf b hb').2⟩
 refine codeAny_loop hq (fun n s'=>∃i b ob H',Inv X pins (clr ws σ) H' s'/\tn i s'.heap/\(∀b∈D :: fp,H' b=none)/\s'.heap.get? D=some ob/\Is b ob/\W i n b H') ?_ m0
  ⟨0,a,o,H,I.weak (clr_len _ _) (fun i v q=>(clr_get q).1),h0,fun b hb=>by
   rcases List.mem_cons.mp hb with rfl|hb'
   .exact hD.1
   .exact(hf b hb').1,ho,ha,w0⟩
 rintro n s3 ⟨i,b,ob,H3,I3,st3,fr3,o3,is3,w3⟩
 rw[hu,hT]
 refine wpAny_noted ?_
 have hE:∀{β:Type} {c:Sem β} {Q:β->Shared->Prop} {s:Shared} {E:Value->Shared->Prop},wpAny (model X.prog X.w) X.A c Q (fun _ _=>False) s->wpAny (model X.prog X.w) X.A c Q E s:=fun h=>wpAny_mono h (fun _ _ q=>q) fun _ _ q=>q.elim
 refine hE ?_
 unfold turnCode
 refine wpAny_bind (wpAny_standAt (wpAny_bind ?_))
 have hxeE:∀{β:Type} {c:Sem β} {Q:β->Shared->Prop} {s:Shared},wpAny (model X.prog X.w) X.A c Q X.xe s->wpAny (model X.prog X.w) X.A c Q (fun _ _=>False) s:=fun h=>by rw[hxe]at h;exact h
 have pD:Inv X (pins++pinsAt [D] s3.heap) (clr ws σ) H3 s3:=I3.pinned (fun b hb=>by
  have e:b=D:=by simpa using hb
  subst e
  exact stat (pl:=[]) fr3 b List.mem_cons_self) (fun b hb=>by
  have e:b=D:=by simpa using hb
  subst e
  exact⟨ob,o3,hIs _ _ is3⟩)
 have mD:(D,ob)∈pinsAt [D] s3.heap:=mem_pinsAt (by simp) o3
 have fpD:∀{H':Hp},(∀b∈fp,H' b=none)->∀b∈fp,FpOk X (pins++pinsAt [D] s3.heap) H' b:=fun {H'} hn b hb=>by
  obtain⟨_,f1,f2,f3,f4,f5⟩:=hf b hb
  refine⟨hn b hb,f1,f2,f3,f4,fun p hp=>?_⟩
  rcases List.mem_append.mp hp with q|q
  .exact f5 p (List.mem_append_left _ q)
  .rcases List.mem_append.mp q with q|q
   .exact f5 p (List.mem_append_right _ q)
   .have e:p.1=D:=by simpa using(of_pinsAt q).1
    rw[e]
    rintro rfl
    exact hDf hb
 have fr3':∀b∈fp,H3 b=none:=fun b hb=>fr3 b (List.mem_cons_of_mem _ hb)
 rcases turn i n b H3 w3 with⟨stop,qn⟩|⟨go,step⟩
 .refine thn (T.done X rfl rfl rfl hcalm i _ s3 _ H3 _ pD (fpD fr3') st3 stop) fun r s4 ⟨hr,I4⟩=>?_
  subst hr
  have q4:=I4.pin (D,ob) (List.mem_append_right _ (List.mem_append_right _ mD))
  exact wpAny_pure ⟨rfl,b,ob,H3,I4.unpinned,q4.1,is3,q4.2.1,qn⟩
 .refine thn (T.item X rfl rfl rfl hcalm i _ s3 _ H3 _ pD (fpD fr3') st3 go) fun r s4 ⟨u,hr,h4⟩=>?_
  subst hr
  refine wpAny_bind (thn h4 fun _ s5 ⟨x,H5,I5,r5,y5,st5,fr5⟩=>?_)
  have I5':=I5.pinned (fpD fr5) (T.obj _ _ st5)
  refine wpAny_bind (thn (hxeE (hg _ s5 _ H5 x u _ I5' r5 (hge x _ H5 _ (step x H5 y5)))) fun _ s6 ⟨σ6,H6,I6,q6,x6⟩=>?_)
  refine wpAny_bind (thn (hxeE (ht _ s6 σ6 H6 _ I6 q6)) fun ok s7 ⟨H7,I7,q7⟩=>?_)
  have q7D:=I7.pin (D,ob) (List.mem_append_right _ (List.mem_append_left _ (List.mem_append_right _ mD)))
  have q7f:∀b∈fp,∀o,s5.heap.get? b=some o->s7.heap.get? b=some o/\H7 b=none:=fun b hb o e =>
   let q:=I7.pin (b,o) (List.mem_append_right _ (List.mem_append_right _ (mem_pinsAt hb e)))
   ⟨q.1,q.2.1⟩
  have st7:tn (i+1) s7.heap:=T.keep _ _ _ st5 fun b hb o e=>(q7f b hb o e).1
  have fr7:∀b∈fp,H7 b=none:=fun b hb=>by
   obtain⟨o,e,_⟩:=T.obj _ _ st5 b hb
   exact(q7f b hb o e).2
  have I7':Inv X pins σ6 H7 s7:=I7.unpinned.unpinned
  cases ok with
  |false=>
   have q7':∃m',m'<n/\W (i+1) m' b H7:=q7
   obtain⟨m',hm,w7⟩:=q7'
   refine wpAny_pure ⟨rfl,m',hm,i+1,b,ob,H7,I7'.weak ?_ x6.back,st7,fun c hc=>?_,q7D.1,is3,w7⟩
   .rw[x6.1]
   .rcases List.mem_cons.mp hc with rfl|hc'
    .exact q7D.2.1
    .exact fr7 c hc'
  |true=>
   have I7p:=I7'.pinned (fun b hb=>stat (pl:=[]) (fun c hc=>by
    rcases List.mem_cons.mp hc with rfl|hc'
    .exact q7D.2.1
    .exact fr7 c hc') b (List.mem_cons_of_mem _ hb)) (T.obj _ _ st7)
   have fD:FpOk X (pins++pinsAt fp s7.heap) H7 D:=by
    obtain⟨_,f1,f2,f3,f4,f5⟩:=hD
    refine⟨q7D.2.1,f1,f2,f3,f4,fun p hp=>?_⟩
    rcases List.mem_append.mp hp with q|q
    .exact f5 p (List.mem_append_left _ q)
    .rcases List.mem_append.mp q with q|q
     .exact f5 p (List.mem_append_right _ q)
     .intro z
      exact hDf (z ▸ (of_pinsAt q).1)
   refine wpAny_bind (thn (hn _ s7 σ6 H7 b ob _ I7p fD q7D.1 is3 q7) fun _ s8 ⟨σ8,b8,o8,H8,I8,x8,e8,is8,n8,m',hm,w8⟩=>?_)
   have q8f:∀b∈fp,∀o,s7.heap.get? b=some o->s8.heap.get? b=some o/\H8 b=none:=fun b hb o e =>
    let q:=I8.pin (b,o) (List.mem_append_right _ (List.mem_append_right _ (mem_pinsAt hb e)))
    ⟨q.1,q.2.1⟩
   have x8':Ext ws (clr ws σ) σ8:=x6.trans (x8.mono hws)
   refine wpAny_pure ⟨rfl,m',hm,i+1,b8,o8,H8,I8.unpinned.weak (by rw[x8'.1]) x8'.back,T.keep _ _ _ st7 fun b hb o e=>(q8f b hb o e).1,fun c hc=>?_,e8,is8,w8⟩
   rcases List.mem_cons.mp hc with rfl|hc'
   .exact n8
   .obtain⟨o,e,_⟩:=T.obj _ _ st7 c hc'
    exact(q8f c hc' o e).2
def IsL (xs:List V) (o:Obj):Prop:=xs.length<=sizeLine/\∃(its:List Value) (n:Nat),Vals xs its/\o={ cls:=.type "list",data:=.seq its.toArray n }
theorem isL_data (xs:List V) (o:Obj) (h:IsL xs o) (v:Option Value):o.data≠.cell v:=by
 obtain⟨_,its,n,_,rfl⟩:=h
 intro z
 cases z
noncomputable def tEmit (te:TE):TL (List V):=fun σ xs H N=>te σ H fun v H'=>xs.length<sizeLine/\N (xs++[v]) H'
theorem run_emit {X:Cx} {D:Addr} {elt:Expr} {te:TE} (hxe:X.xe=fun _ _=>False) (he:PE X elt te):CompRun X D IsL [] (do let _ <- call (.builtin "list.append") [.ref D,<- eval elt X.env]) (tEmit te):=by
 intro pins s σ H xs o N I hD ho hi hq
 have I1:Inv X (pins++pinsAt [D] s.heap) σ H s:=I.pinned (fun b hb=>by
  have e:b=D:=by simpa using hb
  subst e
  exact hD) (fun b hb=>by
  have e:b=D:=by simpa using hb
  subst e
  exact⟨o,ho,isL_data _ _ hi⟩)
 have h1:=he _ s σ H _ I1 hq
 rw[hxe]at h1
 refine wpAny_bind (thn h1 fun u s1 ⟨v,H1,J1,r1,z1,n1⟩=>?_)
 have q1:=J1.pin (D,o) (List.mem_append_right _ (List.mem_append_right _ (mem_pinsAt (by simp) ho)))
 obtain⟨zx,its,n,rv,rfl⟩:=hi
 have hl:=rv.length
 refine wpAny_bind (wpAny_list_append_plain (items:=its.toArray) ⟨n,q1.1⟩ (fun h' hp hs=>?_) (by rw[List.size_toArray,<- hl];exact zx))
 obtain⟨_,f1,f2,f3,f4,f5⟩:=hD
 have J2:Inv X pins σ H1 { s1 with heap:=h' }:=J1.unpinned.turned (it:=D) (t':=s1.toks) (fun b o hb e=>(hs.2 b hb).trans e) q1.2.1 f1 f3 f4 f5
 obtain⟨n',hp⟩:=hp
 refine wpAny_pure ⟨σ,xs++[v],_,H1,J2,Ext.refl,hp,⟨?_,its++[u],n',rv.append (.cons r1 .nil),?_⟩,q1.2.1,n1⟩
 .rw[List.length_append];exact z1
 .simp
noncomputable def nestCode (e:Expr) (d:Nat) (iter:Expr) (acc:Value) (env:Env):Sem Unit:=do
 let x <- eval iter env
 standAt iter.pos
 let x <- foldedSetIterable iter env x
 let _ <- runOwn (.compStart e (d+1) (<- holding [x] (pyIter x)) acc env) env
theorem start_ok {M:Model} {A:Around} {e:Expr} {d:Nat} {it acc:Value} {env:Env} {R:Result->Shared->Prop} {s:Shared}
  (hq:(Code.compStart e d it acc env).quiet=true) (hu:A.under (Code.compStart e d it acc env)=A) (hql:∀it',(Code.compLoop e d it' acc env).quiet=true)
  (hden:M.den (.compStart e d it acc env)=(compStart e d it acc env).onRaise (fun x=>do noteFrame x env;standAt theWindowsPlace)) (hg:∃g,(clausesOf e)[d]?=some g/\g.is_async=0)
  (h0:codeAny M A (.compLoop e d it acc env) R s) (h1:∀E,wpAny M A (pyIter it) (fun it' s'=>it'=it/\s'=s) E s):codeAny M A (.compStart e d it acc env) R s:=by
 refine codeAny_of_tree ?_
 rw[hu,hden]
 refine wpAny_notedAt ?_
 obtain⟨g,eg,ea⟩:=hg
 unfold compStart
 rw[eg]
 have e1:((some g:Option Comprehension).elim false (fun x=>x.is_async != 0))=false:=by
  show(g.is_async != 0)=false
  rw[ea];rfl
 rw[e1]
 show wpAny _ _ (ask >>= _) _ _ s
 refine wpAny_bind (wpAny_askSetting (wpAny_ite ?_))
 have fin:wpAny M A (again (.compLoop e d it acc env)) (fun fin s'=>match fin with | .done f=>R (.ok f) s' | .again c=>c.quiet=true/\codeAny M A c R s') (notedBy M A env fun x s'=>R (.error x) s') s:=wpAny_pure ⟨hql it,h0⟩
 split
 .first
   |exact fin
   |exact wpAny_bind fin
   |exact wpAny_bind (wpAny_pure fin)
 .refine wpAny_bind (wpAny_rule ?_)
  refine wpAny_bind (wpAny_standAt ?_)
  refine wpAny_bind (wpAny_mono (h1 _) (fun it' s' q=>?_) fun _ _ q=>q)
  obtain⟨rfl,rfl⟩:=q
  exact fin
theorem clr_idem (own:List Nat) (σ:St):clr own (clr own σ)=clr own σ:=by
 apply List.ext_getElem?
 intro i
 by_cases h:i∈own
 .have z:∀τ:St,(clr own τ)[i]?=none\/(clr own τ)[i]?=some none:=fun τ=>by
   cases q:(clr own τ)[i]? with
   |none=>exact .inl rfl
   |some o=>
    cases o with
    |none=>exact .inr rfl
    |some v=>exact absurd h (clr_get q).2
  have hl:(clr own (clr own σ)).length=(clr own σ).length:=clr_len _ _
  rcases z (clr own σ)with a|a<;>rcases z σ with b|b<;>rw[a,b]
  .have q1:=List.getElem?_eq_none_iff.mp a
   have q2:=(List.getElem?_eq_some_iff.mp b).1
   omega
  .have q1:=List.getElem?_eq_none_iff.mp b
   have q2:=(List.getElem?_eq_some_iff.mp a).1
   omega
 .rw[clr_out h]
noncomputable def tNest {α:Type} (wi:TI) (c:It->TL α):TL α:=fun σ a H N=>wi σ H fun J H1=>c J σ a H1 N
theorem run_nest {α:Type} {Is:α->Obj->Prop} {X:Cx} {e:Expr} {d:Nat} {tg iter:Expr} {ifs:List Expr} {nx:Sem Unit} {D:Addr} {wi:TI} {g:TG} {tc:TT} {rest:TL α} {ws ws':List Nat}
  (hxe:X.xe=fun _ _=>False) (hcalm:X.calm=true)
  (hq:∀it,(Code.compLoop e (d+1) it (.ref D) X.env).quiet=true) (hu:∀it,X.A.under (Code.compLoop e (d+1) it (.ref D) X.env)=X.A)
  (hq':∀it,(Code.compStart e (d+1) it (.ref D) X.env).quiet=true) (hu':∀it,X.A.under (Code.compStart e (d+1) it (.ref D) X.env)=X.A)
  (hT:∀it,(model X.prog X.w).den (.compLoop e (d+1) it (.ref D) X.env)=(turnCode e (d+1) tg iter ifs nx it (.ref D) X.env).onRaise (fun x=>do noteFrame x X.env;theTreesLotGoes x))
  (hS:∀it,(model X.prog X.w).den (.compStart e (d+1) it (.ref D) X.env)=(compStart e (d+1) it (.ref D) X.env).onRaise (fun x=>do noteFrame x X.env;standAt theWindowsPlace))
  (hcl:∃g,(clausesOf e)[d+1]?=some g/\g.is_async=0) (hfs:∀x,foldedSetIterable iter X.env x=pure x)
  (hi:PI X tg iter wi) (hg:PG X tg g) (hge:GExt ws g) (ht:PTs X ifs tc) (hn:CompRun X D Is ws' nx rest) (hws:∀j∈ws',j∈ws) (hIs:∀a o,Is a o->∀v,o.data≠.cell v):
  CompRun X D Is ws (nestCode e d iter (.ref D) X.env) (tNest wi (tClause ws g tc rest)):=by
 intro pins s σ H a o N I hD ho ha hw
 have I1:Inv X (pins++pinsAt [D] s.heap) σ H s:=I.pinned (fun b hb=>by
  have e:b=D:=by simpa using hb
  subst e
  exact hD) (fun b hb=>by
  have e:b=D:=by simpa using hb
  subst e
  exact⟨o,ho,hIs _ _ ha⟩)
 have h1:=hi _ s σ H _ I1 hw
 rw[hxe]at h1
 unfold nestCode
 refine wpAny_bind (thn h1 fun v s1 h2=>?_)
 refine wpAny_bind (wpAny_standAt (wpAny_bind (wpAny_of_eq (hfs v) ?_)))
 refine wpAny_bind (wpAny_holding (thn h2 fun itv s2 h3=>?_))
 obtain⟨it,fp,tn,J,H2,rfl,I2,T,st2,f2,hc⟩:=h3
 have mD:(D,o)∈pinsAt [D] s.heap:=mem_pinsAt (by simp) ho
 have q2:=I2.pin (D,o) (List.mem_append_right _ (List.mem_append_right _ mD))
 have hDf:D∉fp:=fun z=>(f2 D z).2.2.2.2.2 (D,o) (List.mem_append_right _ (List.mem_append_right _ mD)) rfl
 have f2':∀b∈fp,FpOk X pins H2 b:=fun b hb=>by
  obtain⟨f0,f1,f2,f3,f4,f5⟩:=f2 b hb
  exact⟨f0,f1,f2,f3,f4,fun p hp=>f5 p (by
   rcases List.mem_append.mp hp with z|z
   .exact List.mem_append_left _ z
   .exact List.mem_append_right _ (List.mem_append_left _ z))⟩
 have L:=comp_loop (Is:=Is) (D:=D) hxe hcalm (hq _) (hu _) (hT _) T hg hge ht hn hws hIs hDf I2.unpinned f2' ⟨q2.2.1,hD.2⟩ q2.1 ha st2 hc
 have L2:=start_ok (hq' _) (hu' _) hq (hS _) hcl L (fun E=>T.self X.A 0 s2 _ E st2 ⟨rfl,rfl⟩)
 refine wpAny_bind (wpAny_runOwn (codeAny_mono L2 fun r s3 h3=>?_))
 obtain⟨rfl,a',o',H',J',e',is',n',hN⟩:=h3
 exact wpAny_pure ⟨_,a',o',H',J',Ext.clr,e',is',n',hN⟩
noncomputable def tComp (own:List Nat) (wi:TI) (g:TG) (tc:TT) (rest:TL (List V)):TE:=fun σ H Q=>wi σ H fun J H1=>tClause own g tc rest J σ [] H1 fun xs H2=>∀p,H2 p=none->Q (.ref p) (upd H2 p (.lst xs))
structure CompIn (X:Cx) (e:Expr) (scope:Scope) (tg:Expr) (iter:Expr) (ifs:List Expr) (nx:Addr->Env->Sem Unit) (g:TG) (tc:TT) (rest:TL (List V)) (own:List Nat):Prop where
 sc:CompSc X scope
 ow:∀i x,X.N[i]?=some x->(scope.names.lookup x=some .local\/scope.names.lookup x=some .cell)->i∈own
 cl:∃gs,clausesOf e=⟨tg,iter,ifs,0⟩ :: gs
 fs:∀x,foldedSetIterable iter X.env x=pure x
 calm:X.calm=true
 q:∀it D env,(Code.compLoop e 0 it (.ref D) env).quiet=true/\(Code.compStart e 0 it (.ref D) env).quiet=true
 u:∀A it D env,Around.under A (Code.compLoop e 0 it (.ref D) env)=A/\Around.under A (Code.compStart e 0 it (.ref D) env)=A
 T:∀P w it D env,(model P w).den (.compLoop e 0 it (.ref D) env)=(turnCode e 0 tg iter ifs (nx D env) it (.ref D) env).onRaise (fun x=>do noteFrame x env;theTreesLotGoes x)
 S:∀P w it D env,(model P w).den (.compStart e 0 it (.ref D) env)=(compStart e 0 it (.ref D) env).onRaise (fun x=>do noteFrame x env;standAt theWindowsPlace)
 ge:GExt own g
 inn:∀s0 H0 ex D,PG (X.comp scope s0 H0 ex) tg g/\PTs (X.comp scope s0 H0 ex) ifs tc/\∃ws',(∀j∈ws',j∈own)/\CompRun (X.comp scope s0 H0 ex) D IsL ws' (nx D (X.comp scope s0 H0 ex).env) rest
section
variable {X:Cx} {e:Expr} {scope:Scope} {tg iter:Expr} {ifs:List Expr} {nx:Addr->Env->Sem Unit} {g:TG} {tc:TT} {rest:TL (List V)} {own:List Nat} {wi:TI}
theorem comp_all (C:CompIn X e scope tg iter ifs nx g tc rest own) (hi:PI X tg iter wi) {pins:List (Addr×Obj)} {s:Shared} {σ:St} {H:Hp} {R:V->Hp->Prop} (I:Inv X pins σ H s) (hw:tComp own wi g tc rest σ H R)
  {use:Option (Value->Sem Unit)} {Q:Value->Shared->Prop} {pos:Pos}
  (fin:∀(s3 s':Shared) (H0 H':Hp) (ex:List Addr) (D:Addr) (xs:List V) (o:Obj) (σ':St),Inv X pins σ H0 s3->(∀b∈ex,FpOk X pins H0 b)->Inv (X.comp scope s3 H0 ex) [] σ' H' s'->s'.heap.get? D=some o->D<s3.heap.objs.size->X.s₀.heap.objs.size<=D->FpOk X pins H0 D->IsL xs o->H' D=none->R (.ref D) (upd H' D (.lst xs))->
   compPost (model X.prog X.w) X.A X.xe use Q (.ref D) s3.heap.objs.size (.ok .next) s'):
  wpAny (model X.prog X.w) X.A (comprehension e scope X.env pos (newList []) false (eval iter X.env) use) Q X.xe s:=by
 obtain⟨gs,hcl⟩:=C.cl
 refine wpAny_comprehension_free hcl C.fs (closFor fun n hn=>I.ok.has n (C.sc.free n hn)) C.sc.kind C.sc.names ?_
 refine thn (hi pins s σ H _ I hw) fun v s1 h1=>thn h1 fun itv s2 h2=>?_
 obtain⟨it,fp,tn,J,H2,rfl,I2,T,st2,f2,hc⟩:=h2
 refine wpAny_newObj_type (wpAny_compEnv ?_)
 have keep:∀b o,s2.heap.get? b=some o->(s2.heap.push { cls:=.type "list",dict:=none,data:=.seq ([]:List Value).toArray }).get? b=some o:=fun b o e=>Heap.get?_push_of_some _ e
 have I3:Inv X pins σ H2 { s2 with heap:=s2.heap.push { cls:=.type "list",dict:=none,data:=.seq ([]:List Value).toArray } }:=I2.kept (t':=s2.toks) keep
 have hsz:(s2.heap.push { cls:=.type "list",dict:=none,data:=.seq ([]:List Value).toArray }).objs.size=s2.heap.objs.size+1:=Heap.size_push ..
 have fD:FpOk X pins H2 s2.heap.objs.size:=I2.fpOk (Nat.le_refl _) (I2.hok.fresh (Nat.le_refl _))
 have hlt:∀b∈fp,b<s2.heap.objs.size:=fun b hb=>by
  obtain⟨o,e,_⟩:=T.obj _ _ st2 b hb
  exact Heap.lt_size e
 have hDf:s2.heap.objs.size∉fp:=fun z=>Nat.lt_irrefl _ (hlt _ z)
 have hex:∀b∈s2.heap.objs.size :: fp,FpOk X pins H2 b:=fun b hb=>by
  rcases List.mem_cons.mp hb with rfl|hb
  .exact fD
  .exact f2 b hb
 generalize hs3:({ s2 with heap:=s2.heap.push { cls:=.type "list",dict:=none,data:=.seq ([]:List Value).toArray } }:Shared)=s3 at *
 have hs3s:s3.heap.objs.size=s2.heap.objs.size+1:=by rw[<- hs3];exact hsz
 have hlt3:∀b∈s2.heap.objs.size :: fp,b<s3.heap.objs.size:=fun b hb=>by
  rw[hs3s]
  rcases List.mem_cons.mp hb with rfl|hb
  .exact Nat.lt_succ_self _
  .exact Nat.lt_succ_of_lt (hlt b hb)
 have J0:=comp_start (own:=own) I3 hex hlt3 C.sc C.ow
 obtain⟨c1,c2,ws',c4,c5⟩:=C.inn s3 H2 (s2.heap.objs.size :: fp) s2.heap.objs.size
 have kp:∀b o,s2.heap.get? b=some o->(compHeap s3.heap scope.names).get? b=some o:=fun b o e=>pushCells_keeps _ _ b o (Heap.get?_push_of_some _ (by rw[<- hs3];exact keep b o e))
 have oD:(compHeap s3.heap scope.names).get? s2.heap.objs.size=some { cls:=.type "list",dict:=none,data:=.seq ([]:List Value).toArray }:=pushCells_keeps _ _ _ _ (Heap.get?_push_of_some _ (by rw[<- hs3];exact Heap.get?_push_size _ rfl))
 have stat:∀b∈s2.heap.objs.size :: fp,FpOk (X.comp scope s3 H2 (s2.heap.objs.size :: fp)) [] H2 b:=fun b hb=>
  ⟨(hex b hb).1,(J0.ok.exf b hb).1,J0.ok.exfs b hb,.inl hb,(J0.ok.exf b hb).2,fun p hp=>absurd (show p∈([]:List (Addr×Obj)) from hp) (by simp)⟩
 have T':Turn (X.comp scope s3 H2 (s2.heap.objs.size :: fp)).prog (X.comp scope s3 H2 (s2.heap.objs.size :: fp)).w (X.comp scope s3 H2 (s2.heap.objs.size :: fp)).K tg J fp it tn:=T
 have hc':tClause own g tc rest J (clr own σ) [] H2 (fun xs H2=>∀p,H2 p=none->R (.ref p) (upd H2 p (.lst xs))):=by
  obtain⟨W,w0,turn⟩:=hc
  refine⟨W,w0,?_⟩
  rw[clr_idem]
  exact turn
 have st3:tn 0 ({ s3 with heap:=compHeap s3.heap scope.names }:Shared).heap:=T.keep _ _ _ st2 fun b hb o e=>kp b o e
 have L:=comp_loop (X:=X.comp scope s3 H2 (s2.heap.objs.size :: fp)) (Is:=IsL) (D:=s2.heap.objs.size) rfl C.calm (C.q _ _ _).1 (C.u _ _ _ _).1 (C.T _ _ _ _ _) T' c1 C.ge c2 c5 c4 isL_data hDf J0
  (fun b hb=>stat b (List.mem_cons_of_mem _ hb)) (stat _ List.mem_cons_self) oD ⟨Nat.zero_le _,[],0,.nil,rfl⟩ st3 hc'
 have L2:=start_ok (C.q _ _ _).2 (C.u _ _ _ _).2 (fun it'=>(C.q it' _ _).1) (C.S _ _ _ _ _) ⟨_,by rw[hcl];rfl,rfl⟩ L (fun E=>T.self _ 0 _ _ E st3 ⟨rfl,rfl⟩)
 refine codeAny_mono L2 fun r s' h=>?_
 obtain⟨rfl,xs,o',H',J',e',is',n',hN⟩:=h
 exact fin s3 s' H2 H' _ _ xs o' _ I3 hex J' e' (hlt3 _ List.mem_cons_self) I2.sz fD is' n' (hN _ n')
end
section
variable {X:Cx} {pins:List (Addr×Obj)} {σ:St} {H H':Hp} {s s':Shared} {D:Addr} {o:HO}
theorem Inv.track (I:Inv X pins σ H s) (f:FpOk X pins H D) (h0:X.s₀.heap.objs.size<=D) (new:ObjOk X.prog X.w (upd H D o) s.heap D o):Inv X pins σ (upd H D o) s:=by
 obtain⟨f0,f1,f2,f3,f4,f5⟩:=f
 have ne:∀b ob,X.s₀.heap.get? b=some ob->b≠D:=fun b ob e=>Nat.ne_of_lt (Nat.lt_of_lt_of_le (Heap.lt_size e) h0)
 have neT:∀b u,H b=some u->b≠D:=fun b u e z=>by rw[z,f0]at e;cases e
 refine⟨I.ok,I.os,I.bare,⟨I.base.keep,I.base.slot,fun b ob e n hx=>by rw[upd_ne (ne b ob e)];exact I.base.free b ob e n hx,I.base.there,fun b xs e=>?_,fun b ob u e=>?_,fun b ps e=>?_⟩,I.loc,I.cell,?_,fun x c e=>?_,fun p hp=>?_,fun b u e=>?_,I.len⟩
 .have q:=I.base.tups b xs e
  rw[upd_ne (neT b _ q)];exact q
 .have q:=I.base.frzs b ob u e
  rw[upd_ne (neT b _ q)];exact q
 .obtain⟨m,q⟩:=I.base.tbls b ps e
  exact⟨m,by rw[upd_ne (neT b _ q)];exact q⟩
 .rw[upd_ne (Ne.symm f1)];exact I.free
 .rw[upd_ne (f4 x c e)];exact I.freeC x c e
 .obtain⟨e,n,r⟩:=I.pin p hp
  refine⟨e,?_,r⟩
  rw[upd_ne (f5 p hp)];exact n
 .by_cases hb:b=D
  .subst hb
   rw[upd_same]at e;cases e
   exact new
  .rw[upd_ne hb]at e
   exact(I.hok b u e).stay (fun _ _ _ q=>q) (fun c q=>by rw[upd_ne (neT c _ q)];exact q) fun c xs q=>by rw[upd_ne (neT c _ q)];exact q
end
section
variable {X:Cx} {e:Expr} {scope:Scope} {tg iter:Expr} {ifs:List Expr} {nx:Addr->Env->Sem Unit} {g:TG} {tc:TT} {rest:TL (List V)} {own:List Nat} {wi:TI}
theorem pe_comp (C:CompIn X e scope tg iter ifs nx g tc rest own) (hi:PI X tg iter wi) {pos:Pos} (he:eval e X.env=comprehension e scope X.env pos (newList []) false (eval iter X.env)):PE X e (tComp own wi g tc rest):=by
 intro pins s σ H Q I hw
 rw[he]
 refine comp_all C hi I hw fun s3 s' H0 H' ex D xs o σ' I3 hex J e' hlt h0 fD is' n' hR=>?_
 obtain⟨m,hn,_⟩:=J.loc
 refine⟨m,hn,fun h' hs=>?_⟩
 have J2:=comp_end I3 hex J hs
 obtain⟨z,its,n,rv,rfl⟩:=is'
 have neC:D≠s3.heap.objs.size:=Nat.ne_of_lt hlt
 refine⟨.ref D,upd H' D (.lst xs),J2.track (o:=.lst xs) ⟨n',fD.2⟩ h0 ⟨z,its,n,rv,(hs.2 D neC).trans e'⟩,rfl,hR⟩
theorem ps_setcomp (C:CompIn X e scope tg iter ifs nx g tc rest own) (hi:PI X tg iter wi) {i:Nat} {y:Str} {py pos pos2:Pos} (hN:X.N.Nodup) (hy:X.N[i]?=some y) (hx:Loc X.env.scope y) (hf:X.fn y=true\/X.env.scope.names.lookup y=some .local)
  (he:evalThenUse e X.env (assign (.Name y py) X.env)=(do let _ <- comprehension e scope X.env pos2 (newList []) false (eval iter X.env) (some (assign (.Name y py) X.env))))
  (hsw:swapsWith e (some (.Name y py)) pos.line X.env=pure true):PS X (.Assign [.Name y py] e pos) (tAsg (tComp own wi g tc rest) (gName i)):=by
 intro pins s σ H D I hw
 rw[exec_Assign_Name_used _ _ _ _ hsw]
 refine wpAny_bind (wpAny_standAt (wpAny_bind ?_))
 rw[he]
 refine wpAny_bind (thn (Q:=fun _ s'=>SP X pins D .next s') (comp_all C hi I hw fun s3 s' H0 H' ex D' xs o σ' I3 hex J e' hlt h0 fD is' n' hR=>?_) fun _ s' q=>wpAny_pure (wpAny_pure q))
 obtain⟨m,hn,_⟩:=J.loc
 have J2:Inv X pins σ H' s':=comp_end I3 hex J (Heap.SameBut.refl ..)
 obtain⟨z,its,n,rv,rfl⟩:=is'
 have neC:D'≠s3.heap.objs.size:=Nat.ne_of_lt hlt
 have J3:Inv X pins σ (upd H' D' (.lst xs)) s':=J2.track ⟨n',fD.2⟩ h0 ⟨z,its,n,rv,e'⟩
 have fC:FpOk X pins H0 s3.heap.objs.size:=I3.fpOk (Nat.le_refl _) (I3.hok.fresh (Nat.le_refl _))
 refine wpAny_assign_Name (store_ok2 J3 hN hy hx (v:=.ref D') rfl (fun s'' J4 hs=>?_) hf)
 obtain⟨a,hsa,ha⟩:=hs
 have haC:s3.heap.objs.size≠a:=by
  rcases ha with rfl|ha
  .exact fC.2.1
  .exact fun q=>fC.2.2.2.2.1 _ _ ha q.symm
 have hn':s'.heap.Ns s3.heap.objs.size m:=hn
 refine⟨m,hn'.sameBut hsa haC,fun h' hs'=>?_⟩
 have J5:Inv X pins (σ.set i (some (.ref D'))) (upd H' D' (.lst xs)) { s'' with heap:=h' }:=J4.turned (it:=s3.heap.objs.size) (t':=s''.toks) (fun b ob hb q=>(hs'.2 b hb).trans q) (by rw[upd_ne (Ne.symm neC)];exact J.free) fC.2.1 fC.2.2.2.1 fC.2.2.2.2.1 fC.2.2.2.2.2
 exact⟨_,_,J5,hR⟩
end
noncomputable def SItr:Bool->Heap->Addr->Addr->Nat->Prop
 |true,h,it,a,i=>h.IsTupleIter it a i
 |false,h,it,a,i=>h.IsListIter it a i
noncomputable def SObj:Bool->Heap->Addr->Array Value->Prop
 |true,h,a,xs=>h.IsTuple a xs
 |false,h,a,xs=>h.IsList a xs
noncomputable def itCls:Bool->String
 |true=>"tuple_iterator"
 |false=>"list_iterator"
theorem SItr.obj {k:Bool} {h:Heap} {it a:Addr} {i:Nat} (x:SItr k h it a i):∃o,h.get? it=some o/\o.data=.fields #[.ref a,.int i 0]:=by
 cases k
 .obtain⟨o,e,_,d⟩:=x;exact⟨o,e,d⟩
 .obtain⟨o,e,_,d⟩:=x;exact⟨o,e,d⟩
theorem SItr.at {k:Bool} {h h':Heap} {it a:Addr} {i:Nat} (x:SItr k h it a i) (hk:∀o,h.get? it=some o->h'.get? it=some o):SItr k h' it a i:=by
 cases k
 .obtain⟨o,e,r⟩:=x;exact⟨o,hk o e,r⟩
 .obtain⟨o,e,r⟩:=x;exact⟨o,hk o e,r⟩
theorem SObj.at {k:Bool} {h h':Heap} {a:Addr} {xs:Array Value} (x:SObj k h a xs) (hk:∀o,h.get? a=some o->h'.get? a=some o):SObj k h' a xs:=by
 cases k
 .obtain⟨o,e,r⟩:=x;exact⟨o,hk o e,r⟩
 .obtain⟨o,e,r⟩:=x;exact⟨o,hk o e,r⟩
theorem SObj.lt {k:Bool} {h:Heap} {a:Addr} {xs:Array Value} (x:SObj k h a xs):a<h.objs.size:=by
 cases k
 .obtain⟨o,e,r⟩:=x;exact Heap.lt_size e
 .obtain⟨o,e,r⟩:=x;exact Heap.lt_size e
section
variable {prog:Program} {w:World} {A:Around} {E:Value->Shared->Prop} {s:Shared}
theorem nextOf_item {k:Bool} {it l:Addr} {i:Nat} {items:Array Value} {x:Value} {Q:Value->Shared->Prop} (hit:SItr k s.heap it l i) (hl:SObj k s.heap l items) (hx:items[i]?=some x)
  (hQ:∀h',SItr k h' it l (i+1)->Heap.SameBut it s.heap h'->Q x { s with heap:=h' }):wpAny (model prog w) A (Builtin.SmallTypes.nextOf (.ref it)) Q E s:=by
 cases k
 .exact wpAny_nextOf_list_item hit hl hx hQ
 .have hit:s.heap.IsTupleIter it l i:=hit
  have hl:s.heap.IsTuple l items:=hl
  obtain⟨o,ho,hc,hd⟩:=id hit
  obtain⟨ol,hol,_,nl,hdl⟩:=hl
  unfold Builtin.SmallTypes.nextOf
  refine wpAny_bind (wpAny_callSpecial?_slot (name:=Str.ofString "__next__") hit.typeIs F.slot_tuple_iterator_next
   (wpAny_call_entry F.slot_tuple_iterator_next hit.typeIs F.entry_tuple_iterator_next ?_ (F.args_tuple_iterator_next_1 _)))
  show wpAny _ _ (field (.ref it) 0 >>= _) _ _ s
  refine wpAny_bind (wpAny_field ho hd (x:=.ref l) rfl ?_)
  show wpAny _ _ (if(Value.ref l == Value.none)=true then _ else _) _ _ s
  rw[if_neg (show ¬((Value.ref l == Value.none)=true) from Bool.false_ne_true)]
  show wpAny _ _ (field (.ref it) 1 >>= _) _ _ s
  refine wpAny_bind (wpAny_field ho hd (x:=.int i 0) rfl ?_)
  show wpAny _ _ (seqItems? (.ref l) >>= _) _ _ s
  refine wpAny_bind (wpAny_seqItems hol hdl ?_)
  simp only[Int.toNat_natCast,hx]
  refine wpAny_bind (wpAny_setField ho hd (by simp) (wpAny_pure ⟨x,rfl,wpAny_pure (hQ _ ?_ (Heap.SameBut.update ..))⟩))
  exact⟨_,Heap.get?_update_self _ ho (Obj.isFreed_of_fields (Obj.data_mapFields hd _)),(Obj.cls_mapFields ..).trans hc,by
   rw[Obj.data_mapFields hd];simp[rawInt]⟩
theorem nextOf_end {k:Bool} {it l:Addr} {i:Nat} {items:Array Value} {Q:Value->Shared->Prop} (hh:A.handled=none) (hit:SItr k s.heap it l i) (hl:SObj k s.heap l items) (hx:items[i]?=none)
  (hE:∀h' e,Heap.ExtBut it s.heap h'->(∃o,h'.get? e=some o/\o.cls=.type "StopIteration")->E (.ref e) { s with heap:=h' }):wpAny (model prog w) A (Builtin.SmallTypes.nextOf (.ref it)) Q E s:=by
 cases k
 .exact wpAny_nextOf_list_end hh hit hl hx hE
 .have hit:s.heap.IsTupleIter it l i:=hit
  have hl:s.heap.IsTuple l items:=hl
  obtain⟨o,ho,hc,hd⟩:=id hit
  obtain⟨ol,hol,_,nl,hdl⟩:=hl
  unfold Builtin.SmallTypes.nextOf
  refine wpAny_bind (wpAny_callSpecial?_slot (name:=Str.ofString "__next__") hit.typeIs F.slot_tuple_iterator_next
   (wpAny_call_entry F.slot_tuple_iterator_next hit.typeIs F.entry_tuple_iterator_next ?_ (F.args_tuple_iterator_next_1 _)))
  show wpAny _ _ (field (.ref it) 0 >>= _) _ _ s
  refine wpAny_bind (wpAny_field ho hd (x:=.ref l) rfl ?_)
  show wpAny _ _ (if(Value.ref l == Value.none)=true then _ else _) _ _ s
  rw[if_neg (show ¬((Value.ref l == Value.none)=true) from Bool.false_ne_true)]
  show wpAny _ _ (field (.ref it) 1 >>= _) _ _ s
  refine wpAny_bind (wpAny_field ho hd (x:=.int i 0) rfl ?_)
  show wpAny _ _ (seqItems? (.ref l) >>= _) _ _ s
  refine wpAny_bind (wpAny_seqItems hol hdl ?_)
  simp only[Int.toNat_natCast,hx]
  refine wpAny_bind (wpAny_rule (wpAny_bind (wpAny_setField ho hd (by simp) ?_)))
  show wpAny _ _ (newExc (.type "StopIteration") [] >>= _) _ _ _
  refine wpAny_bind ?_
  simp only[newExc,newTuple]
  refine wpAny_bind (wpAny_newObj_type ?_ (by size_fits))
  refine wpAny_bind (m:=firstArgMember _ _) (wpAny_of_eq (a:=Value.none) (by first|rfl|(simp only[firstArgMember];rfl)) ?_)
  refine wpAny_newObj_type ?_ (by size_fits)
  simp only[raiseNew]
  refine wpAny_bind (wpAny_handled ?_)
  first|rw[show A.in1.handled=none from hh]|rw[hh]
  refine wpAny_bind (wpAny_pure (wpAny_throw ?_))
  exact hE _ _ (((Heap.SameBut.update ..).extBut.push _).push _) ⟨_,Heap.get?_push_size _ rfl,rfl⟩
end
noncomputable abbrev zH1 (k:Bool) (h:Heap) (l1:Addr):Heap:=h.push { cls:=.type (itCls k),data:=.fields #[.ref l1,.int 0 0] }
noncomputable abbrev zH2 (k j:Bool) (h:Heap) (l1 l2:Addr):Heap:=(zH1 k h l1).push { cls:=.type (itCls j),data:=.fields #[.ref l2,.int 0 0] }
noncomputable abbrev zH3 (k j:Bool) (h:Heap) (l1 l2:Addr):Heap:=(zH2 k j h l1 l2).push { cls:=.type "tuple",data:=.seq #[.ref h.objs.size,.ref (zH1 k h l1).objs.size] }
noncomputable abbrev zH4 (k j:Bool) (h:Heap) (l1 l2:Addr):Heap:=(zH3 k j h l1 l2).push { cls:=.type "tuple",data:=.seq #[.none,.none] }
noncomputable abbrev zH5 (k j:Bool) (h:Heap) (l1 l2:Addr):Heap:=(zH4 k j h l1 l2).push { cls:=.type "zip",data:=.fields #[.none,.bool false,.bool false,.ref (zH2 k j h l1 l2).objs.size,.ref (zH3 k j h l1 l2).objs.size] }
set_option maxHeartbeats 4000000 in
theorem meets_zip (k j:Bool) (l1 l2:Addr) (xs ys:Array Value):
  Meets (Builtin.«zip.__new__» ⟨[.type "zip",.ref l1,.ref l2],[]⟩) (fun _ R s=>SObj k s.heap l1 xs/\SObj j s.heap l2 ys/\
   R (.ok (.ret (.ref (zH4 k j s.heap l1 l2).objs.size))) { s with heap:=zH5 k j s.heap l1 l2 }):=by
 cases k<;>cases j
 .exact meets_zip_new l1 l2 xs ys
 .exact .of_wp fun prog w A R s h=>by
   obtain⟨hp,g,d,tk,os⟩:=s;obtain⟨hl1,hl2,h⟩:=h
   have hsub:=sub_zip
   have hL1:Heap.IsList (Shared.heap ⟨hp,g,d,tk,os⟩) l1 xs:=hl1
   have hL2:Heap.IsTuple (Shared.heap ⟨hp.push { cls:=.type "list_iterator",data:=.fields #[.ref l1,.int 0 0] },g,d,tk,os⟩) l2 ys:=Heap.IsTuple.push hl2 _
   wp_walk using wpAny_pyIter_list hL1,wpAny_pyIter_tuple hL2
   exact⟨_,rfl,h⟩
 .exact .of_wp fun prog w A R s h=>by
   obtain⟨hp,g,d,tk,os⟩:=s;obtain⟨hl1,hl2,h⟩:=h
   have hsub:=sub_zip
   have hL1:Heap.IsTuple (Shared.heap ⟨hp,g,d,tk,os⟩) l1 xs:=hl1
   have hL2:Heap.IsList (Shared.heap ⟨hp.push { cls:=.type "tuple_iterator",data:=.fields #[.ref l1,.int 0 0] },g,d,tk,os⟩) l2 ys:=Heap.IsList.push hl2 _
   wp_walk using wpAny_pyIter_tuple hL1,wpAny_pyIter_list hL2
   exact⟨_,rfl,h⟩
 .exact .of_wp fun prog w A R s h=>by
   obtain⟨hp,g,d,tk,os⟩:=s;obtain⟨hl1,hl2,h⟩:=h
   have hsub:=sub_zip
   have hL1:Heap.IsTuple (Shared.heap ⟨hp,g,d,tk,os⟩) l1 xs:=hl1
   have hL2:Heap.IsTuple (Shared.heap ⟨hp.push { cls:=.type "tuple_iterator",data:=.fields #[.ref l1,.int 0 0] },g,d,tk,os⟩) l2 ys:=Heap.IsTuple.push hl2 _
   wp_walk using wpAny_pyIter_tuple hL1,wpAny_pyIter_tuple hL2
   exact⟨_,rfl,h⟩
section
variable {prog:Program} {w:World} {A:Around} {E:Value->Shared->Prop} {s:Shared}
theorem zip_new {k j:Bool} {l1 l2:Addr} {xs ys:Array Value} {Q:Value->Shared->Prop} (hl1:SObj k s.heap l1 xs) (hl2:SObj j s.heap l2 ys)
  (h:∀h',IsZip h' (s.heap.objs.size+4) (s.heap.objs.size+2) (s.heap.objs.size+3) .none->IsPair h' (s.heap.objs.size+2) (.ref s.heap.objs.size) (.ref (s.heap.objs.size+1))->
   IsPair h' (s.heap.objs.size+3) .none .none->SItr k h' s.heap.objs.size l1 0->SItr j h' (s.heap.objs.size+1) l2 0->h'.objs.size=s.heap.objs.size+5->
   (∀c o,s.heap.get? c=some o->h'.get? c=some o)->Q (.ref (s.heap.objs.size+4)) { s with heap:=h' }):
  wpAny (model prog w) A (call (.type "zip") [.ref l1,.ref l2]) Q E s:=by
 refine callType_new F.called_zip (by decide) (F.typeCall_zip_2 _ _) (F.newCall_zip_2 _ _) (fun obj=>F.args_object_init_3 obj _ _) F.entry_zip_new
  (meets_zip k j l1 l2 xs ys) ⟨hl1,hl2,?_⟩
 have z1:(zH1 k s.heap l1).objs.size=s.heap.objs.size+1:=Heap.size_push ..
 have z2:(zH2 k j s.heap l1 l2).objs.size=s.heap.objs.size+2:=by rw[Heap.size_push,z1]
 have z3:(zH3 k j s.heap l1 l2).objs.size=s.heap.objs.size+3:=by rw[Heap.size_push,z2]
 have z4:(zH4 k j s.heap l1 l2).objs.size=s.heap.objs.size+4:=by rw[Heap.size_push,z3]
 have z5:(zH5 k j s.heap l1 l2).objs.size=s.heap.objs.size+5:=by rw[Heap.size_push,z4]
 have g5:(zH5 k j s.heap l1 l2).get? (zH4 k j s.heap l1 l2).objs.size=some _:=Heap.get?_push_size _ rfl
 have g4:(zH5 k j s.heap l1 l2).get? (zH3 k j s.heap l1 l2).objs.size=some _:=Heap.get?_push_of_some _ (Heap.get?_push_size _ rfl)
 have g3:(zH5 k j s.heap l1 l2).get? (zH2 k j s.heap l1 l2).objs.size=some _:=Heap.get?_push_of_some _ (Heap.get?_push_of_some _ (Heap.get?_push_size _ rfl))
 have g2:(zH5 k j s.heap l1 l2).get? (zH1 k s.heap l1).objs.size=some { cls:=.type (itCls j),data:=.fields #[.ref l2,.int 0 0] }:=Heap.get?_push_of_some _ (Heap.get?_push_of_some _ (Heap.get?_push_of_some _ (Heap.get?_push_size _ rfl)))
 have g1:(zH5 k j s.heap l1 l2).get? s.heap.objs.size=some { cls:=.type (itCls k),data:=.fields #[.ref l1,.int 0 0] }:=Heap.get?_push_of_some _ (Heap.get?_push_of_some _ (Heap.get?_push_of_some _ (Heap.get?_push_of_some _ (Heap.get?_push_size _ rfl))))
 have gk:∀c o,s.heap.get? c=some o->(zH5 k j s.heap l1 l2).get? c=some o:=fun c o e=>Heap.get?_push_of_some _ (Heap.get?_push_of_some _ (Heap.get?_push_of_some _ (Heap.get?_push_of_some _ (Heap.get?_push_of_some _ e))))
 have mk:∀(c:Bool) (it l:Addr),(zH5 k j s.heap l1 l2).get? it=some { cls:=.type (itCls c),data:=.fields #[.ref l,.int 0 0] }->SItr c (zH5 k j s.heap l1 l2) it l 0:=fun c it l e=>by
  cases c
  .exact⟨_,e,rfl,rfl⟩
  .exact⟨_,e,rfl,rfl⟩
 show _/\_
 rw[z2,z3,z4]at g5
 rw[z1,z2]at g3
 rw[z3]at g4
 rw[z1]at g2
 rw[z4]
 exact⟨⟨_,g5,rfl⟩,h _ g5 g3 g4 (mk k _ _ g1) (mk j _ _ g2) z5 gk⟩
theorem zip_item {k j:Bool} {z TI TO i1 i2 l1 l2:Addr} {k1 k2:Nat} {xs ys:Array Value} {x y a b:Value} {Q:Option Value->Shared->Prop} (D:ZipApart z TI TO i1 i2 l1 l2)
  (hz:IsZip s.heap z TI TO .none) (hTI:IsPair s.heap TI (.ref i1) (.ref i2)) (hTO:IsPair s.heap TO a b)
  (h1:SItr k s.heap i1 l1 k1) (h2:SItr j s.heap i2 l2 k2) (hl1:SObj k s.heap l1 xs) (hl2:SObj j s.heap l2 ys) (hx:xs[k1]?=some x) (hy:ys[k2]?=some y)
  (hQ:∀h',IsZip h' z TI TO (rawInt s.heap.objs.size)->IsPair h' TO x y->SItr k h' i1 l1 (k1+1)->SItr j h' i2 l2 (k2+1)->IsPair h' s.heap.objs.size x y->h'.objs.size=s.heap.objs.size+1->
   (∀c o,c≠z->c≠TO->c≠i1->c≠i2->s.heap.get? c=some o->h'.get? c=some o)->Q (some (.ref s.heap.objs.size)) { s with heap:=h' }):
  wpAny (model prog w) A (pyNext (.ref z)) Q E s:=by
 have hT:s.TypeIs (.ref z) "zip":=⟨_,hz,rfl⟩
 unfold pyNext
 refine wpAny_bind (wpAny_attempt (wpAny_callSpecial?_slot (name:=Str.ofString "__next__") hT F.slot_zip_next
  (wpAny_call_entry F.slot_zip_next hT F.entry_zip_next ?_ (F.args_zip_next_1 _))))
 show wpAny _ _ (field (.ref z) 2 >>= _) _ _ _
 refine wpAny_bind (wpAny_field hz rfl (x:=.bool false) rfl ?_)
 show wpAny _ _ (field (.ref z) 3 >>= _) _ _ _
 refine wpAny_bind (wpAny_field hz rfl (x:=.ref TI) rfl ?_)
 refine wpAny_bind (wpAny_seqItems hTI rfl ?_)
 show wpAny _ _ (Builtin.SmallTypes.ownedTupleIsFree (.ref z) >>= _) _ _ _
 refine wpAny_bind ?_
 unfold Builtin.SmallTypes.ownedTupleIsFree
 refine wpAny_bind (wpAny_field hz rfl (x:=.none) rfl (wpAny_pure ?_))
 simp only[if_true]
 refine wpAny_bind (wpAny_rule ?_)
 refine wpAny_bind (wpAny_field hz rfl (x:=.ref TO) rfl ?_)
 refine wpAny_bind (wpAny_setField_rec hz (by simp) fun h₁ hz₁ hs₁=>?_)
 replace hz₁:IsZip h₁ z TI TO .ellipsis:=hz₁
 refine wpAny_bind ?_
 simp only[List.zipIdx_cons,List.zipIdx_nil,List.forIn_cons,List.forIn_nil]
 refine wpAny_bind (wpAny_bind (wpAny_onRaise ?_))
 show wpAny _ _ (Builtin.SmallTypes.nextOf (.ref i1) >>= _) _ _ _
 refine wpAny_bind (nextOf_item (h1.at fun o e=>hs₁.extBut _ _ D.i1z e) (hl1.at fun o e=>hs₁.extBut _ _ D.l1z e) hx fun h₂ h1₂ hs₂=>wpAny_pure ?_)
 have hTO₂:IsPair h₂ TO a b:=hs₂.extBut _ _ D.TOi1 (hs₁.extBut _ _ D.TOz hTO)
 refine wpAny_bind (wpAny_seqItems hTO₂ rfl ?_)
 refine wpAny_bind (wpAny_updateSeq_pair hTO₂ fun h₃ hTO₃ hs₃=>?_)
 replace hTO₃:IsPair h₃ TO x b:=hTO₃
 refine wpAny_bind (wpAny_letGo (wpAny_pure ?_))
 refine wpAny_bind (wpAny_bind (wpAny_onRaise ?_))
 show wpAny _ _ (Builtin.SmallTypes.nextOf (.ref i2) >>= _) _ _ _
 refine wpAny_bind (nextOf_item (h2.at fun o e=>hs₃.extBut _ _ D.TOi2.symm (hs₂.extBut _ _ D.i12.symm (hs₁.extBut _ _ D.i2z e)))
  (hl2.at fun o e=>hs₃.extBut _ _ D.l2TO (hs₂.extBut _ _ D.l2i1 (hs₁.extBut _ _ D.l2z e))) hy fun h₄ h2₄ hs₄=>wpAny_pure ?_)
 have hTO₄:IsPair h₄ TO x b:=hs₄.extBut _ _ D.TOi2 hTO₃
 refine wpAny_bind (wpAny_seqItems hTO₄ rfl ?_)
 refine wpAny_bind (wpAny_updateSeq_pair hTO₄ fun h₅ hTO₅ hs₅=>?_)
 replace hTO₅:IsPair h₅ TO x y:=hTO₅
 refine wpAny_bind (wpAny_letGo (wpAny_pure (wpAny_pure ?_)))
 refine wpAny_bind (wpAny_seqItems hTO₅ rfl ?_)
 refine wpAny_bind (wpAny_newTuple ?_)
 have hsz:h₅.objs.size=s.heap.objs.size:=by rw[hs₅.1,hs₄.1,hs₃.1,hs₂.1,hs₁.1]
 have hz₅:IsZip h₅ z TI TO .ellipsis:=hs₅.extBut _ _ D.TOz.symm (hs₄.extBut _ _ D.i2z.symm (hs₃.extBut _ _ D.TOz.symm (hs₂.extBut _ _ D.i1z.symm hz₁)))
 have hk₅:∀c o,c≠z->c≠TO->c≠i1->c≠i2->s.heap.get? c=some o->h₅.get? c=some o:=fun c o c1 c2 c3 c4 e=>
  hs₅.extBut _ _ c2 (hs₄.extBut _ _ c4 (hs₃.extBut _ _ c2 (hs₂.extBut _ _ c3 (hs₁.extBut _ _ c1 e))))
 have h1₅:SItr k h₅ i1 l1 (k1+1):=h1₂.at fun o e=>hs₅.extBut _ _ D.TOi1.symm (hs₄.extBut _ _ D.i12 (hs₃.extBut _ _ D.TOi1.symm e))
 have h2₅:SItr j h₅ i2 l2 (k2+1):=h2₄.at fun o e=>hs₅.extBut _ _ D.TOi2.symm e
 have hzlt:z<h₅.objs.size:=Heap.lt_size hz₅
 show wpAny _ _ (Builtin.SmallTypes.ownedTupleHandOut (.ref z) (.ref h₅.objs.size) >>= _) _ _ _
 refine wpAny_bind ?_
 unfold Builtin.SmallTypes.ownedTupleHandOut
 have hz₆:IsZip (h₅.push { cls:=.type "tuple",data:=.seq #[x,y] }) z TI TO .ellipsis:=Heap.get?_push_of_some _ hz₅
 refine wpAny_bind (wpAny_setField_rec hz₆ (by simp) fun h₇ hz₇ hs₇=>?_)
 replace hz₇:IsZip h₇ z TI TO (rawInt h₅.objs.size):=hz₇
 refine wpAny_setField_rec hz₇ (by simp) fun h₈ hz₈ hs₈=>?_
 replace hz₈:IsZip h₈ z TI TO (rawInt h₅.objs.size):=hz₈
 have up:∀c o,c≠z->h₅.get? c=some o->h₈.get? c=some o:=fun c o c1 e=>hs₈.extBut _ _ c1 (hs₇.extBut _ _ c1 (Heap.get?_push_of_some _ e))
 have hT₈:IsPair h₈ h₅.objs.size x y:=hs₈.extBut _ _ (Nat.ne_of_gt hzlt) (hs₇.extBut _ _ (Nat.ne_of_gt hzlt) (Heap.get?_push_size _ rfl))
 have hz8:h₈.objs.size=h₅.objs.size+1:=by rw[hs₈.1,hs₇.1,Heap.size_push]
 rw[hsz]at hz₈ hT₈ hz8
 refine wpAny_pure ⟨_,rfl,wpAny_pure ?_⟩
 show Q (some (.ref h₅.objs.size)) _
 rw[hsz]
 exact hQ h₈ hz₈ (up _ _ D.TOz hTO₅) (h1₅.at fun o e=>up _ o D.i1z e) (h2₅.at fun o e=>up _ o D.i2z e) hT₈ hz8 fun c o c1 c2 c3 c4 e=>up c o c1 (hk₅ c o c1 c2 c3 c4 e)
theorem zip_end {k j:Bool} {z TI TO i1 i2 l1 l2:Addr} {k1 k2:Nat} {xs ys:Array Value} {a b:Value} {Q:Option Value->Shared->Prop} (hh:A.handled=none) (D:ZipApart z TI TO i1 i2 l1 l2)
  (hz:IsZip s.heap z TI TO .none) (hTI:IsPair s.heap TI (.ref i1) (.ref i2)) (hTO:IsPair s.heap TO a b)
  (h1:SItr k s.heap i1 l1 k1) (h2:SItr j s.heap i2 l2 k2) (hl1:SObj k s.heap l1 xs) (hl2:SObj j s.heap l2 ys) (hend:xs[k1]?=none\/ys[k2]?=none)
  (hQ:∀h',(∀c o,c≠z->c≠TO->c≠i1->c≠i2->s.heap.get? c=some o->h'.get? c=some o)->Q none { s with heap:=h' }):wpAny (model prog w) A (pyNext (.ref z)) Q E s:=by
 have hT:s.TypeIs (.ref z) "zip":=⟨_,hz,rfl⟩
 unfold pyNext
 refine wpAny_bind (wpAny_attempt (wpAny_callSpecial?_slot (name:=Str.ofString "__next__") hT F.slot_zip_next
  (wpAny_call_entry F.slot_zip_next hT F.entry_zip_next ?_ (F.args_zip_next_1 _))))
 have fin:∀(h':Heap) (e:Addr),(∀c o,c≠z->c≠TO->c≠i1->c≠i2->s.heap.get? c=some o->h'.get? c=some o)->(∃o,h'.get? e=some o/\o.cls=.type "StopIteration")->
   wpAny (model prog w) A (do if <- isInstance (.ref e) (.type "StopIteration")then pure none else throw (.ref e)) Q E { s with heap:=h' }:=fun h' e hk ⟨o,ho,hc⟩=>
  wpAny_bind (wpAny_isInstance (T:="StopIteration") (b:=true) ⟨o,ho,hc⟩ isSubtype_stop (wpAny_pure (hQ _ hk)))
 show wpAny _ _ (field (.ref z) 2 >>= _) _ _ _
 refine wpAny_bind (wpAny_field hz rfl (x:=.bool false) rfl ?_)
 show wpAny _ _ (field (.ref z) 3 >>= _) _ _ _
 refine wpAny_bind (wpAny_field hz rfl (x:=.ref TI) rfl ?_)
 refine wpAny_bind (wpAny_seqItems hTI rfl ?_)
 show wpAny _ _ (Builtin.SmallTypes.ownedTupleIsFree (.ref z) >>= _) _ _ _
 refine wpAny_bind ?_
 unfold Builtin.SmallTypes.ownedTupleIsFree
 refine wpAny_bind (wpAny_field hz rfl (x:=.none) rfl (wpAny_pure ?_))
 simp only[if_true]
 refine wpAny_bind (wpAny_rule ?_)
 refine wpAny_bind (wpAny_field hz rfl (x:=.ref TO) rfl ?_)
 refine wpAny_bind (wpAny_setField_rec hz (by simp) fun h₁ hz₁ hs₁=>?_)
 replace hz₁:IsZip h₁ z TI TO .ellipsis:=hz₁
 refine wpAny_bind ?_
 simp only[List.zipIdx_cons,List.zipIdx_nil,List.forIn_cons,List.forIn_nil]
 refine wpAny_bind (wpAny_bind (wpAny_onRaise ?_))
 show wpAny _ _ (Builtin.SmallTypes.nextOf (.ref i1) >>= _) _ _ _
 have a1:=h1.at (h':=h₁) fun o e=>hs₁.extBut _ _ D.i1z e
 have b1:=hl1.at (h':=h₁) fun o e=>hs₁.extBut _ _ D.l1z e
 cases hx:xs[k1]? with
 |none=>
  refine wpAny_bind (nextOf_end (by first|exact hh|rfl) a1 b1 hx fun h₂ e hs₂ he=>?_)
  obtain⟨oe,hoe,hce⟩:=he
  have hz₂:IsZip h₂ z TI TO .ellipsis:=hs₂ _ _ D.i1z.symm hz₁
  have hez:e≠z:=fun x=>by subst x;rw[hz₂]at hoe;cases hoe;simp at hce
  refine wpAny_setField_rec hz₂ (by simp) fun h₃ _ hs₃=>fin h₃ e (fun c o c1 _ c3 _ x=>hs₃.extBut _ _ c1 (hs₂ _ _ c3 (hs₁.extBut _ _ c1 x))) ⟨oe,hs₃.extBut _ _ hez hoe,hce⟩
 |some x=>
  have hy:ys[k2]?=none:=by rcases hend with h|h;rw[hx]at h;cases h;exact h
  refine wpAny_bind (nextOf_item a1 b1 hx fun h₂ h1₂ hs₂=>wpAny_pure ?_)
  have hTO₂:IsPair h₂ TO a b:=hs₂.extBut _ _ D.TOi1 (hs₁.extBut _ _ D.TOz hTO)
  refine wpAny_bind (wpAny_seqItems hTO₂ rfl ?_)
  refine wpAny_bind (wpAny_updateSeq_pair hTO₂ fun h₃ hTO₃ hs₃=>?_)
  refine wpAny_bind (wpAny_letGo (wpAny_pure ?_))
  refine wpAny_bind (wpAny_bind (wpAny_onRaise ?_))
  show wpAny _ _ (Builtin.SmallTypes.nextOf (.ref i2) >>= _) _ _ _
  refine wpAny_bind (nextOf_end (by first|exact hh|rfl) (h2.at fun o e=>hs₃.extBut _ _ D.TOi2.symm (hs₂.extBut _ _ D.i12.symm (hs₁.extBut _ _ D.i2z e)))
   (hl2.at fun o e=>hs₃.extBut _ _ D.l2TO (hs₂.extBut _ _ D.l2i1 (hs₁.extBut _ _ D.l2z e))) hy fun h₄ e hs₄ he=>?_)
  obtain⟨oe,hoe,hce⟩:=he
  have hz₄:IsZip h₄ z TI TO .ellipsis:=hs₄ _ _ D.i2z.symm (hs₃.extBut _ _ D.TOz.symm (hs₂.extBut _ _ D.i1z.symm hz₁))
  have hez:e≠z:=fun x=>by subst x;rw[hz₄]at hoe;cases hoe;simp at hce
  refine wpAny_setField_rec hz₄ (by simp) fun h₅ _ hs₅=>fin h₅ e (fun c o c1 c2 c3 c4 x=>hs₅.extBut _ _ c1 (hs₄ _ _ c4 (hs₃.extBut _ _ c2 (hs₂.extBut _ _ c3 (hs₁.extBut _ _ c1 x))))) ⟨oe,hs₅.extBut _ _ hez hoe,hce⟩
end
noncomputable def Its (x:Str):It:=⟨fun i _=>i<x.cps.size,fun i H v H'=>H'=H/\∃c,x.cps[i]?=some c/\v=.str ⟨#[c]⟩,fun i _=>x.cps.size<=i⟩
theorem turn_str {P:Program} {w:World} {K:W.Frag} {tg:Expr} (it:Addr) (x:Str) (ty:String) (t:Tok) (hty:ty="str_ascii_iterator"\/ty="str_iterator"):
  Turn P w K tg (Its x) [it] it (fun i h=>h.IsStrIter it ty x t i) where
 mem:=by simp
 obj:=fun i h st b hb=>by
  have e:b=it:=by simpa using hb
  subst e
  obtain⟨o,e,c,d⟩:=st
  exact⟨o,e,fun v z=>by rw[d]at z;cases z⟩
 keep:=fun i h h' st k=>by
  obtain⟨o,e,r⟩:=st
  exact⟨o,k it (by simp) o e,r⟩
 item:=by
  intro X hP hw hK hc i pins s σ H E I hf st hg
  subst hP hw hK
  obtain⟨f0,f1,f2,f3,f4,f5⟩:=hf it (by simp)
  have hg':i<x.cps.size:=hg
  have hx:x.cps[i]?=some x.cps[i]:=by simp[hg']
  have fin:∀h',h'.IsStrIter it ty x t (i+1)->Heap.SameBut it s.heap h'->∃u,some (Value.str ⟨#[x.cps[i]]⟩ s.toks)=some u/\
    wpAny (model X.prog X.w) X.A (letOwnedTupleGo tg (.ref it) u) (fun _ s2=>∃y H',Inv X pins σ H' s2/\RelV y u/\(Its x).yld i H y H'/\s2.heap.IsStrIter it ty x t (i+1)/\∀b∈[it],H' b=none) E { s with heap:=h',toks:=s.toks+1 }:=fun h' st' sb=>by
   have I1:Inv X pins σ H { s with heap:=h',toks:=s.toks+1 }:=I.turned (fun b o hb e=>(sb.2 b hb).trans e) f0 f1 f3 f4 f5
   obtain⟨o,e,c,d⟩:=id st'
   refine⟨_,rfl,go_of (s:={ s with heap:=h',toks:=s.toks+1 }) e c d ?_ ⟨.str ⟨#[x.cps[i]]⟩,H,I1,⟨_,rfl⟩,⟨rfl,_,hx,rfl⟩,st',fun b hb=>(hf b hb).1⟩⟩
   rcases hty with rfl|rfl<;>decide
  rcases hty with rfl|rfl
  .exact wpAny_pyNext_ascii_item st hx fin
  .exact wpAny_pyNext_wide_item st hx fin
 done:=by
  intro X hP hw hK hc i pins s σ H E I hf st hg
  subst hP hw hK
  obtain⟨f0,f1,f2,f3,f4,f5⟩:=hf it (by simp)
  have hg':x.cps.size<=i:=hg
  have hx:x.cps[i]?=none:=by simp[hg']
  have fin:∀h',Heap.ExtBut it s.heap h'->(none:Option Value)=none/\Inv X pins σ H { s with heap:=h' }:=fun h' eb=>⟨rfl,I.turned (t':=s.toks) (fun b o hb e=>eb b o hb e) f0 f1 f3 f4 f5⟩
  rcases hty with rfl|rfl
  .exact wpAny_pyNext_ascii_end (I.ok.hd hc) st hx fin
  .exact wpAny_pyNext_wide_end (I.ok.hd hc) st hx fin
 self:=fun _ _ _ _ _ st h=>by
  rcases hty with rfl|rfl
  .exact wpAny_pyIter_striter_ascii st h
  .exact wpAny_pyIter_striter_wide st h
def Sq (k:Bool) (K:W.Frag) (H:Hp) (a:Addr) (xs:List V):Prop:=match k with
 |true=>SqT K H a xs
 |false=>SqL K H a xs
theorem Inv.sq {X:Cx} {pins:List (Addr×Obj)} {σ:St} {H:Hp} {s:Shared} {k:Bool} {a:Addr} {xs:List V} (I:Inv X pins σ H s) (h:Sq k X.K H a xs):∃its:List Value,Vals xs its/\SObj k s.heap a its.toArray/\xs.length<=sizeLine:=by
 cases k
 .obtain⟨its,r,p,z⟩:=I.list h
  exact⟨its,r,p.isList,z⟩
 .obtain⟨its,r,p,z⟩:=I.tuple h
  exact⟨its,r,p,z⟩
theorem Inv.sq_inj {X:Cx} {pins:List (Addr×Obj)} {σ:St} {H:Hp} {s:Shared} {k:Bool} {a:Addr} {xs ys:List V} (I:Inv X pins σ H s) (h:Sq k X.K H a xs) (h':Sq k X.K H a ys):xs=ys:=by
 cases k
 .exact I.list_inj h h'
 .exact I.tuple_inj h h'
noncomputable def Itz2 (k j:Bool) (K:W.Frag) (a b:Addr):It:=
 ⟨fun i H=>∃xs ys x y,Sq k K H a xs/\Sq j K H b ys/\xs[i]?=some x/\ys[i]?=some y,
  fun i H v H'=>∃p x y,v=.ref p/\H p=none/\(∀xs,Sq k K H a xs->xs[i]?=some x)/\(∀ys,Sq j K H b ys->ys[i]?=some y)/\H'=upd H p (.tup [x,y]),
  fun i H=>∃xs ys,Sq k K H a xs/\Sq j K H b ys/\(xs.length<=i\/ys.length<=i)⟩
noncomputable abbrev Itz (k:Bool) (K:W.Frag) (a b:Addr):It:=Itz2 k k K a b
def zTn (k j:Bool) (z TI TO i1 i2 l1 l2:Addr) (i:Nat) (h:Heap):Prop:=
 IsZip h z TI TO .none/\IsPair h TI (.ref i1) (.ref i2)/\(∃a b,IsPair h TO a b)/\SItr k h i1 l1 i/\SItr j h i2 l2 i
theorem turn_zip {P:Program} {w:World} {K:W.Frag} {elts:List Expr} {kt:Nat} {pt:Pos} {k j:Bool} {z TI TO i1 i2 l1 l2:Addr} (D:ZipApart z TI TO i1 i2 l1 l2):
  Turn P w K (.Tuple elts kt pt) (Itz2 k j K l1 l2) [z,TI,TO,i1,i2] z (zTn k j z TI TO i1 i2 l1 l2) where
 mem:=by simp
 obj:=fun i h st b hb=>by
  obtain⟨hz,hTI,⟨_,_,hTO⟩,h1,h2⟩:=st
  simp only[List.mem_cons,List.not_mem_nil,or_false]at hb
  rcases hb with rfl|rfl|rfl|rfl|rfl
  .exact⟨_,hz,fun v=>(nomatch ·)⟩
  .exact⟨_,hTI,fun v=>(nomatch ·)⟩
  .exact⟨_,hTO,fun v=>(nomatch ·)⟩
  .obtain⟨o,e,d⟩:=h1.obj
   exact⟨o,e,fun v q=>by rw[d]at q;cases q⟩
  .obtain⟨o,e,d⟩:=h2.obj
   exact⟨o,e,fun v q=>by rw[d]at q;cases q⟩
 keep:=fun i h h' st kk=>by
  obtain⟨hz,hTI,⟨a,b,hTO⟩,h1,h2⟩:=st
  exact⟨kk z (by simp) _ hz,kk TI (by simp) _ hTI,⟨a,b,kk TO (by simp) _ hTO⟩,h1.at fun o e=>kk i1 (by simp) o e,h2.at fun o e=>kk i2 (by simp) o e⟩
 item:=by
  intro X hP hw hK hc i pins s σ H E I hf st hg
  subst hP hw hK
  obtain⟨xs,ys,x,y,hxs,hys,hx,hy⟩:=hg
  obtain⟨hz,hTI,⟨a,b,hTO⟩,h1,h2⟩:=st
  obtain⟨us,rus,ous,_⟩:=I.sq hxs
  obtain⟨vs,rvs,ovs,_⟩:=I.sq hys
  obtain⟨u,hu,ru⟩:=rus.get hx
  obtain⟨v,hv,rv⟩:=rvs.get hy
  refine zip_item D hz hTI hTO h1 h2 ous ovs (x:=u) (y:=v) (by simpa using hu) (by simpa using hv) fun h' hz' hTO' h1' h2' hT hsz hk=>?_
  refine⟨_,rfl,wpAny_letOwnedTupleGo_zip (s:={ s with heap:=h' }) hz' fun h'' hz'' hs=>?_⟩
  have hs':Heap.SameBut z h' h'':=hs
  have zlt:z<s.heap.objs.size:=Heap.lt_size hz
  have neT:s.heap.objs.size≠z:=Nat.ne_of_gt zlt
  have hkk:∀c o,c∉[z,TO,i1,i2]->s.heap.get? c=some o->h''.get? c=some o:=fun c o hc e=>by
   simp only[List.mem_cons,List.not_mem_nil,or_false,not_or]at hc
   exact(hs'.2 c hc.1).trans (hk c o hc.1 hc.2.1 hc.2.2.1 hc.2.2.2 e)
  have sub:∀c∈[z,TO,i1,i2],c∈[z,TI,TO,i1,i2]:=fun c hc=>by
   simp only[List.mem_cons,List.not_mem_nil,or_false]at hc ⊢
   rcases hc with h|h|h|h
   .exact .inl h
   .exact .inr (.inr (.inl h))
   .exact .inr (.inr (.inr (.inl h)))
   .exact .inr (.inr (.inr (.inr h)))
  have hTn:H s.heap.objs.size=none:=I.hok.fresh (Nat.le_refl _)
  have trk:∀c o,H c=some o->c∉[z,TO,i1,i2]:=fun c o e hc=>by rw[(hf c (sub c hc)).1]at e;cases e
  have I1:Inv X pins σ (upd H s.heap.objs.size (.tup [x,y])) { s with heap:=h'' }:=by
   refine I.step (g':=s.gens) (d':=s.drawn) (t':=s.toks) (ch:=[z,TO,i1,i2]) (fun c hc=>?_) (fun c o _ _ hc e _=>hkk c o hc e) (fun c o _ _ hc e _=>⟨o.slots,hkk c o hc e⟩)
    (fun c o _ e n=>by rw[upd_ne (Nat.ne_of_lt (Heap.lt_size e))];exact n) (fun c o hc e=>⟨o,hkk c o hc e⟩) (fun c ps e=>by rw[upd_ne (ne_of_none e hTn)];exact e) (fun c o p e=>by rw[upd_ne (ne_of_none e hTn)];exact e)
    (fun c ps e=>⟨#[],by rw[upd_ne (ne_of_none e hTn),e];simp⟩) (fun m hm=>?_) (fun c o e=>?_) I.bare
   .obtain⟨f0,f1,f2,f3,f4,f5⟩:=hf c (sub c hc)
    exact⟨f3,f1,f4,f5⟩
   .obtain⟨oo,es,ep,ho,r⟩:=hm
    exact⟨oo,es,ep,hkk _ oo (fun hc=>(hf _ (sub _ hc)).2.1 rfl) ho,r⟩
   .by_cases hb:c=s.heap.objs.size
    .subst hb
     rw[upd_same]at e;cases e
     exact⟨by show 2<=sizeLine;decide,[u,v],.cons ru (.cons rv .nil),⟨_,(hs'.2 _ neT).trans hT,rfl,⟨_,rfl⟩,rfl⟩⟩
    .rw[upd_ne hb]at e
     refine(I.hok c o e).stay (fun d q hd eq=>hkk d q ?_ eq) (fun d q=>by rw[upd_ne (ne_of_none q hTn)];exact q) fun d qs q=>by rw[upd_ne (ne_of_none q hTn)];exact q
     rcases hd with rfl|hd
     .exact trk _ _ e
     .exact trk _ _ hd
  refine⟨.ref s.heap.objs.size,_,I1,rfl,⟨s.heap.objs.size,x,y,rfl,hTn,fun xs' h'=>by rw[I.sq_inj h' hxs];exact hx,fun ys' h'=>by rw[I.sq_inj h' hys];exact hy,rfl⟩,⟨hz'',?_,⟨u,v,?_⟩,?_,?_⟩,fun c hc=>?_⟩
  .exact(hs'.2 TI D.TIz).trans (hk TI _ D.TIz D.TITO D.TIi1 D.TIi2 hTI)
  .exact(hs'.2 TO D.TOz).trans hTO'
  .exact h1'.at fun o e=>(hs'.2 i1 D.i1z).trans e
  .exact h2'.at fun o e=>(hs'.2 i2 D.i2z).trans e
  .rw[upd_ne]
   .exact(hf c hc).1
   .intro q
    subst q
    simp only[List.mem_cons,List.not_mem_nil,or_false]at hc
    rcases hc with q|q|q|q|q
    .exact neT q
    .exact Nat.lt_irrefl _ (q ▸ Heap.lt_size hTI)
    .exact Nat.lt_irrefl _ (q ▸ Heap.lt_size hTO)
    .obtain⟨o,e,_⟩:=h1.obj
     exact Nat.lt_irrefl _ (q ▸ Heap.lt_size e)
    .obtain⟨o,e,_⟩:=h2.obj
     exact Nat.lt_irrefl _ (q ▸ Heap.lt_size e)
 done:=by
  intro X hP hw hK hc i pins s σ H E I hf st hg
  subst hP hw hK
  obtain⟨xs,ys,hxs,hys,hend⟩:=hg
  obtain⟨hz,hTI,⟨a,b,hTO⟩,h1,h2⟩:=st
  obtain⟨us,rus,ous,_⟩:=I.sq hxs
  obtain⟨vs,rvs,ovs,_⟩:=I.sq hys
  have l1':=rus.length
  have l2':=rvs.length
  refine zip_end (I.ok.hd hc) D hz hTI hTO h1 h2 ous ovs ?_ fun h' hk=>⟨rfl,?_⟩
  .rcases hend with q|q
   .exact .inl (by simp;omega)
   .exact .inr (by simp;omega)
  have sub:∀c∈[z,TO,i1,i2],c∈[z,TI,TO,i1,i2]:=fun c hc=>by
   simp only[List.mem_cons,List.not_mem_nil,or_false]at hc ⊢
   rcases hc with h|h|h|h
   .exact .inl h
   .exact .inr (.inr (.inl h))
   .exact .inr (.inr (.inr (.inl h)))
   .exact .inr (.inr (.inr (.inr h)))
  have hkk:∀c o,c∉[z,TO,i1,i2]->s.heap.get? c=some o->h'.get? c=some o:=fun c o hc e=>by
   simp only[List.mem_cons,List.not_mem_nil,or_false,not_or]at hc
   exact hk c o hc.1 hc.2.1 hc.2.2.1 hc.2.2.2 e
  have trk:∀c o,H c=some o->c∉[z,TO,i1,i2]:=fun c o e hc=>by rw[(hf c (sub c hc)).1]at e;cases e
  refine I.step (g':=s.gens) (d':=s.drawn) (t':=s.toks) (ch:=[z,TO,i1,i2]) (fun c hc=>?_) (fun c o _ _ hc e _=>hkk c o hc e) (fun c o _ _ hc e _=>⟨o.slots,hkk c o hc e⟩)
    (fun c o _ e n=>n) (fun c o hc e=>⟨o,hkk c o hc e⟩) (fun c ps e=>e) (fun c o p e=>e) (fun c ps e=>⟨#[],by rw[e];simp⟩) (fun m hm=>?_) (fun c o e=>?_) I.bare
  .obtain⟨f0,f1,f2,f3,f4,f5⟩:=hf c (sub c hc)
   exact⟨f3,f1,f4,f5⟩
  .obtain⟨oo,es,ep,ho,r⟩:=hm
   exact⟨oo,es,ep,hkk _ oo (fun hc=>(hf _ (sub _ hc)).2.1 rfl) ho,r⟩
  .refine(I.hok c o e).stay (fun d q hd eq=>hkk d q ?_ eq) (fun d q=>q) fun d qs q=>q
   rcases hd with rfl|hd
   .exact trk _ _ e
   .exact trk _ _ hd
 self:=fun _ _ _ _ _ st h=>wpAny_pyIter_zip st.1 h
section
variable {X:Cx} {tg:Expr}
noncomputable def iVal (K:W.Frag) (tl:TE):TI:=fun σ H R=>tl σ H fun x H1=>
 (∃a,x=.ref a/\(∃xs,SqL K H1 a xs)/\R (Itl K a) H1)\/(∃a,x=.ref a/\(∃xs,SqT K H1 a xs)/\R (Itt K a) H1)\/∃z,x=.str z/\R (Its z) H1
theorem pi_val {l:Expr} {tl:TE} (hl:PE X l tl):PI X tg l (iVal X.K tl):=by
 intro pins s σ H R I h
 refine thn (hl pins s σ H _ I h) fun v s1 ⟨x,H1,I1,r1,q1⟩=>?_
 rcases q1 with⟨a,e,⟨xs,hq⟩,q⟩|⟨a,e,⟨xs,hq⟩,q⟩|⟨z,e,q⟩
 .subst e
  cases r1
  obtain⟨its,rv,p,hz⟩:=I1.list hq
  refine wpAny_pyIter_list p.isList ?_
  refine⟨s1.heap.objs.size,[s1.heap.objs.size],_,_,H1,rfl,I1.kept (t':=s1.toks) fun b o e=>Heap.get?_push_of_some _ e,turn_list a _,⟨_,Heap.get?_push_size _ rfl,rfl,rfl⟩,fun b hb=>?_,q⟩
  have e:b=s1.heap.objs.size:=by simpa using hb
  subst e
  exact I1.fpOk (Nat.le_refl _) (I1.hok.fresh (Nat.le_refl _))
 .subst e
  cases r1
  obtain⟨its,rv,p,hz⟩:=I1.tuple hq
  refine wpAny_pyIter_tuple (show s1.heap.IsTuple a its.toArray from p) ?_
  refine⟨s1.heap.objs.size,[s1.heap.objs.size],_,_,H1,rfl,I1.kept (t':=s1.toks) fun b o e=>Heap.get?_push_of_some _ e,turn_tuple a _,⟨_,Heap.get?_push_size _ rfl,rfl,rfl⟩,fun b hb=>?_,q⟩
  have e:b=s1.heap.objs.size:=by simpa using hb
  subst e
  exact I1.fpOk (Nat.le_refl _) (I1.hok.fresh (Nat.le_refl _))
 .subst e
  obtain⟨t,rfl⟩:=r1
  have fin:∀(ty:String),(ty="str_ascii_iterator"\/ty="str_iterator")->PIE X pins σ tg R (.ref s1.heap.objs.size) { s1 with heap:=s1.heap.push { cls:=.type ty,data:=.fields #[.str z t,.int 0 0] } }:=fun ty hty=>by
   refine⟨s1.heap.objs.size,[s1.heap.objs.size],_,_,H1,rfl,I1.kept (t':=s1.toks) fun b o e=>Heap.get?_push_of_some _ e,turn_str _ z ty t hty,⟨_,Heap.get?_push_size _ rfl,rfl,rfl⟩,fun b hb=>?_,q⟩
   have e:b=s1.heap.objs.size:=by simpa using hb
   subst e
   exact I1.fpOk (Nat.le_refl _) (I1.hok.fresh (Nat.le_refl _))
  cases ha:z.cps.all (· < 128)
  .exact wpAny_pyIter_wide ha (fin _ (.inr rfl))
  .exact wpAny_pyIter_ascii ha (fin _ (.inl rfl))
noncomputable def iZip (K:W.Frag) (ta:TA):TI:=fun σ H R=>ta σ H fun vs H1=>∃(k j:Bool) (a b:Addr),vs=[.ref a,.ref b]/\(∃xs,Sq k K H1 a xs)/\(∃ys,Sq j K H1 b ys)/\R (Itz2 k j K a b) H1
theorem pi_zip {a b:Expr} {ta:TA} {p pos:Pos} {elts:List Expr} {kt:Nat} {pt:Pos} (hg:Gl X "zip") (hm:X.mg "zip"=none) (ha:PA X [a,b] ta) (hs:starEach [a,b] X.env=[(false,eval a X.env),(false,eval b X.env)]) (hs2:starEach [b] X.env=[(false,eval b X.env)]):
  PI X (.Tuple elts kt pt) (.Call (.Name "zip" p) [a,b] [] pos) (iZip X.K ta):=by
 intro pins s σ H R I h
 refine Call_ (ld_blt I hg hm boot_zip (PyProof.Rows.callWith_type1 (thn (ha pos pins s σ H _ I h) fun us s1 ⟨vs,H1,I1,r1,q1⟩=>?_) (by rw[hs,hs2]) (by rw[hs2];rfl)))
 obtain⟨k,j,a,b,e,⟨xs,hxs⟩,⟨ys,hys⟩,q⟩:=q1
 subst e
 cases r1 with
 |cons r rr=>
  cases rr with
  |cons r' rr=>
   cases rr
   cases r
   cases r'
   obtain⟨us,rus,ous,_⟩:=I1.sq hxs
   obtain⟨vs,rvs,ovs,_⟩:=I1.sq hys
   refine zip_new ous ovs fun h' hz hTI hTO h1 h2 hsz hk=>wpAny_pyIter_zip hz ?_
   refine⟨s1.heap.objs.size+4,[s1.heap.objs.size+4,s1.heap.objs.size+2,s1.heap.objs.size+3,s1.heap.objs.size,s1.heap.objs.size+1],_,_,H1,rfl,I1.kept (t':=s1.toks) hk,turn_zip (k:=k) (j:=j) (PyProof.Rows.zipApart_new ous.lt ovs.lt),⟨hz,hTI,⟨_,_,hTO⟩,h1,h2⟩,fun c hc=>?_,q⟩
   have hle:s1.heap.objs.size<=c:=by
    simp only[List.mem_cons,List.not_mem_nil,or_false]at hc
    rcases hc with rfl|rfl|rfl|rfl|rfl
    .exact Nat.le_add_right _ _
    .exact Nat.le_add_right _ _
    .exact Nat.le_add_right _ _
    .exact Nat.le_refl _
    .exact Nat.le_add_right _ _
   exact I1.fpOk hle (I1.hok.fresh hle)
end
noncomputable def Itd (go:Nat->Hp->Prop) (val:Nat->Hp->V->Prop) (stop:Nat->Hp->Prop):It:=
 ⟨go,fun i H v H'=>∃p x,v=.ref p/\H p=none/\val i H x/\H'=upd H p (.tup [.int i,x]),stop⟩
structure EnSrc (P:Program) (w:World) (K:W.Frag) (e it:Addr) (Sx:Nat->Heap->Prop) (go:Nat->Hp->Prop) (val:Nat->Hp->V->Prop) (stop:Nat->Hp->Prop):Prop where
 ne:e≠it
 obj:∀i h,Sx i h->∃o,h.get? it=some o/\∀v,o.data≠.cell v
 keep:∀i h h',Sx i h->(∀o,h.get? it=some o->h'.get? it=some o)->Sx i h'
 item:∀(X:Cx),X.prog=P->X.w=w->X.K=K->X.calm=true->∀(i:Nat) (pins:List (Addr×Obj)) (s:Shared) (σ:St) (H:Hp),Inv X pins σ H s->H e=none->H it=none->e<s.heap.objs.size->(∃old,IsEnum s.heap e it i old)->Sx i s.heap->go i H->
  ∃n Pd Sd fp,Draws P w X.A.in1 it fp n Pd Sd/\e∉fp/\i<n/\Sd i s.heap/\(∀j h,Sd j h->Sx j h)/\∀u,Pd i u->∃x,RelV x u/\val i H x
 done:∀(X:Cx),X.prog=P->X.w=w->X.K=K->X.calm=true->∀(i:Nat) (pins:List (Addr×Obj)) (s:Shared) (σ:St) (H:Hp),Inv X pins σ H s->H e=none->H it=none->(∃old,IsEnum s.heap e it i old)->Sx i s.heap->stop i H->
  ∃Pd Sd fp,Draws P w X.A.in1 it fp i Pd Sd/\Sd i s.heap
theorem turn_enum {P:Program} {w:World} {K:W.Frag} {elts:List Expr} {kt:Nat} {pt:Pos} {e it:Addr} {Sx:Nat->Heap->Prop} {go:Nat->Hp->Prop} {val:Nat->Hp->V->Prop} {stop:Nat->Hp->Prop} (S:EnSrc P w K e it Sx go val stop):
  Turn P w K (.Tuple elts kt pt) (Itd go val stop) [e,it] e (fun i h=>(∃old,IsEnum h e it i old)/\Sx i h) where
 mem:=by simp
 obj:=fun i h st b hb=>by
  obtain⟨⟨old,he⟩,hs⟩:=st
  simp only[List.mem_cons,List.not_mem_nil,or_false]at hb
  rcases hb with rfl|rfl
  .exact⟨_,he,fun v=>(nomatch ·)⟩
  .exact S.obj i h hs
 keep:=fun i h h' st kk=>by
  obtain⟨⟨old,he⟩,hs⟩:=st
  exact⟨⟨old,kk e (by simp) _ he⟩,S.keep i h h' hs fun o q=>kk it (by simp) o q⟩
 item:=by
  intro X hP hw hK hc i pins s σ H E I hf st hg
  have hfe:=hf e (by simp)
  have hfi:=hf it (by simp)
  obtain⟨n,Pd,Sd,fp,D,hefp,hin,hsd,hsub,hval⟩:=S.item X hP hw hK hc i pins s σ H I hfe.1 hfi.1 (Heap.lt_size st.1.choose_spec) st.1 st.2 hg
  obtain⟨⟨old,he⟩,hs⟩:=st
  subst hP hw hK
  refine wpAny_pyNext_enum_itemD D he hsd hin S.ne hefp fun u h' tk hPu ho hs' hT hsz hk=>?_
  obtain⟨x,rx,vx⟩:=hval u hPu
  refine⟨_,rfl,wpAny_letOwnedTupleGo_enum (s:={ s with heap:=h',toks:=tk+1 }) ho fun h'' he'' hb=>?_⟩
  have hb':Heap.SameBut e h' h'':=hb
  have elt:e<s.heap.objs.size:=Heap.lt_size he
  have neT:s.heap.objs.size≠e:=Nat.ne_of_gt elt
  have hTn:H s.heap.objs.size=none:=I.hok.fresh (Nat.le_refl _)
  have hkk:∀c o,c∉[e,it]->s.heap.get? c=some o->h''.get? c=some o:=fun c o hc q=>by
   simp only[List.mem_cons,List.not_mem_nil,or_false,not_or]at hc
   exact(hb'.2 c hc.1).trans (hk c o hc.1 hc.2 q)
  have trk:∀c o,H c=some o->c∉[e,it]:=fun c o q hc=>by rw[(hf c hc).1]at q;cases q
  have I1:Inv X pins σ (upd H s.heap.objs.size (.tup [.int i,x])) { s with heap:=h'',toks:=tk+1 }:=by
   refine I.step (g':=s.gens) (d':=s.drawn) (t':=tk+1) (ch:=[e,it]) (fun c hc=>?_) (fun c o _ _ hc q _=>hkk c o hc q) (fun c o _ _ hc q _=>⟨o.slots,hkk c o hc q⟩)
    (fun c o _ q n=>by rw[upd_ne (Nat.ne_of_lt (Heap.lt_size q))];exact n) (fun c o hc q=>⟨o,hkk c o hc q⟩) (fun c ps q=>by rw[upd_ne (ne_of_none q hTn)];exact q) (fun c o p q=>by rw[upd_ne (ne_of_none q hTn)];exact q)
    (fun c ps q=>⟨#[],by rw[upd_ne (ne_of_none q hTn),q];simp⟩) (fun m hm=>?_) (fun c o q=>?_) I.bare
   .obtain⟨f0,f1,f2,f3,f4,f5⟩:=hf c hc
    exact⟨f3,f1,f4,f5⟩
   .obtain⟨oo,es,ep,ho,r⟩:=hm
    exact⟨oo,es,ep,hkk _ oo (fun hc=>(hf _ hc).2.1 rfl) ho,r⟩
   .by_cases hb:c=s.heap.objs.size
    .subst hb
     rw[upd_same]at q;cases q
     exact⟨by show 2<=sizeLine;decide,[.int i tk,u],.cons ⟨_,rfl⟩ (.cons rx .nil),⟨_,(hb'.2 _ neT).trans hT,rfl,⟨_,rfl⟩,rfl⟩⟩
    .rw[upd_ne hb]at q
     refine(I.hok c o q).stay (fun d q hd eq=>hkk d q ?_ eq) (fun d q=>by rw[upd_ne (ne_of_none q hTn)];exact q) fun d qs q=>by rw[upd_ne (ne_of_none q hTn)];exact q
     rcases hd with rfl|hd
     .exact trk _ _ (by assumption)
     .exact trk _ _ hd
  refine⟨.ref s.heap.objs.size,_,I1,rfl,⟨s.heap.objs.size,x,rfl,hTn,vx,rfl⟩,⟨⟨_,he''⟩,S.keep _ _ _ (hsub _ _ hs') fun o q=>(hb'.2 it (Ne.symm S.ne)).trans q⟩,fun c hc=>?_⟩
  rw[upd_ne]
  .exact(hf c hc).1
  .intro q
   subst q
   simp only[List.mem_cons,List.not_mem_nil,or_false]at hc
   rcases hc with q|q
   .exact neT q
   .obtain⟨o,e1,_⟩:=S.obj _ _ hs
    exact Nat.lt_irrefl _ (q ▸ Heap.lt_size e1)
 done:=by
  intro X hP hw hK hc i pins s σ H E I hf st hg
  have hfe:=hf e (by simp)
  have hfi:=hf it (by simp)
  obtain⟨Pd,Sd,fp,D,hsd⟩:=S.done X hP hw hK hc i pins s σ H I hfe.1 hfi.1 st.1 st.2 hg
  obtain⟨⟨old,he⟩,hs⟩:=st
  subst hP hw hK
  refine wpAny_pyNext_enum_endD D he hsd fun h' hx=>⟨rfl,?_⟩
  obtain⟨f0,f1,f2,f3,f4,f5⟩:=hfi
  exact I.turned (t':=s.toks) (fun b o hb q=>hx b o hb q) f0 f1 f3 f4 f5
 self:=fun _ _ _ _ _ st h=>by
  obtain⟨⟨old,he⟩,_⟩:=st
  exact wpAny_pyIter_enum he h
noncomputable def Ite (K:W.Frag) (a:Addr):It:=Itd (fun i H=>∃xs x,SqL K H a xs/\xs[i]?=some x) (fun i H x=>∀xs,SqL K H a xs->xs[i]?=some x) (fun i H=>∃xs,SqL K H a xs/\xs.length=i)
theorem en_list {P:Program} {w:World} {K:W.Frag} {e it a:Addr} (ne:e≠it) (na:a≠e) (nai:a≠it):EnSrc P w K e it (fun i h=>h.IsListIter it a i) (fun i H=>∃xs x,SqL K H a xs/\xs[i]?=some x) (fun i H x=>∀xs,SqL K H a xs->xs[i]?=some x) (fun i H=>∃xs,SqL K H a xs/\xs.length=i) where
 ne:=ne
 obj:=fun i h st=>by
  obtain⟨o,q,c,d⟩:=st
  exact⟨o,q,fun v z=>by rw[d]at z;cases z⟩
 keep:=fun i h h' st k=>st.at k
 item:=by
  intro X hP hw hK hc i pins s σ H I _ _ _ _ st hg
  obtain⟨xs,x,hxs,hx⟩:=hg
  subst hP hw hK
  obtain⟨its,rv,p,hz⟩:=I.list hxs
  have hl:=rv.length
  obtain⟨u,hu,ru⟩:=rv.get hx
  refine⟨_,_,_,_,Draws.list (show X.A.in1.handled=none from I.ok.hd hc) it a nai its.toArray,?_,?_,⟨st,p.isList⟩,fun j h q=>q.1,fun u' hu'=>⟨x,?_,fun ys hys=>by rw[I.list_inj hys hxs];exact hx⟩⟩
  .simp only[List.mem_cons,List.not_mem_nil,or_false,not_or]
   exact⟨ne,Ne.symm na⟩
  .have:=(List.getElem?_eq_some_iff.mp hx).1
   simp;omega
  .have e2:its[i]?=some u':=by simpa using hu'
   rw[hu]at e2
   cases e2
   exact ru
 done:=by
  intro X hP hw hK hc i pins s σ H I _ _ _ st hg
  obtain⟨xs,hxs,hx⟩:=hg
  subst hP hw hK
  obtain⟨its,rv,p,hz⟩:=I.list hxs
  have hl:=rv.length
  have e:i=its.toArray.size:=by simp;omega
  subst e
  exact⟨_,_,_,Draws.list (show X.A.in1.handled=none from I.ok.hd hc) it a nai its.toArray,st,p.isList⟩
noncomputable def Iteg (z:Str):It:=Itd (fun i _=>i<z.cps.size) (fun i _ v=>∃c,z.cps[i]?=some c/\v=.str ⟨#[c]⟩) (fun i _=>z.cps.size=i)
theorem en_str {P:Program} {w:World} {K:W.Frag} {e it:Addr} {z:Str} {t:Tok} {ty:String} (hty:ty="str_ascii_iterator"\/ty="str_iterator") (ne:e≠it):EnSrc P w K e it (fun i h=>h.IsStrIter it ty z t i) (fun i _=>i<z.cps.size) (fun i _ v=>∃c,z.cps[i]?=some c/\v=.str ⟨#[c]⟩) (fun i _=>z.cps.size=i) where
 ne:=ne
 obj:=fun i h st=>by
  obtain⟨o,q,c,d⟩:=st
  exact⟨o,q,fun v z=>by rw[d]at z;cases z⟩
 keep:=fun i h h' st k=>by
  obtain⟨o,q,r⟩:=st
  exact⟨o,k o q,r⟩
 item:=by
  intro X hP hw hK hc i pins s σ H I _ _ _ _ st hg
  subst hP hw hK
  have hh:X.A.in1.handled=none:=I.ok.hd hc
  rcases hty with rfl|rfl
  .refine⟨_,_,_,_,Draws.strAscii hh it z t,by simpa using ne,hg,st,fun j h q=>q,fun u hu=>?_⟩
   obtain⟨c,t',hc',rfl⟩:=hu
   exact⟨.str ⟨#[c]⟩,⟨_,rfl⟩,c,hc',rfl⟩
  .refine⟨_,_,_,_,Draws.strWide hh it z t,by simpa using ne,hg,st,fun j h q=>q,fun u hu=>?_⟩
   obtain⟨c,t',hc',rfl⟩:=hu
   exact⟨.str ⟨#[c]⟩,⟨_,rfl⟩,c,hc',rfl⟩
 done:=by
  intro X hP hw hK hc i pins s σ H I _ _ _ st hg
  subst hP hw hK
  have hh:X.A.in1.handled=none:=I.ok.hd hc
  have hg':z.cps.size=i:=hg
  subst hg'
  rcases hty with rfl|rfl
  .exact⟨_,_,_,Draws.strAscii hh it z t,st⟩
  .exact⟨_,_,_,Draws.strWide hh it z t,st⟩
theorem draws_tup {prog:Program} {w:World} {A:Around} (hh:A.handled=none) (it l:Addr) (hne:l≠it) (items:Array Value):
  Draws prog w A it [it,l] items.size (fun i v=>items[i]?=some v) (fun i h=>SItr true h it l i/\SObj true h l items) where
 live:=fun _ _ st=>let⟨o,ho,_⟩:=st.1.obj;⟨o,ho⟩
 frame:=fun _ _ _ st hk=>⟨st.1.at fun o e=>hk it (by simp) o e,st.2.at fun o e=>hk l (by simp) o e⟩
 item:=fun i s Q E hi st hQ=>by
  refine nextOf_item st.1 st.2 (x:=items[i]) (by simp[hi]) fun h' hit' hs'=>?_
  exact hQ _ h' s.toks (by simp[hi]) ⟨hit',st.2.at fun o e=>hs'.extBut l o hne e⟩ hs'
 done:=fun s Q E st hE=>nextOf_end hh st.1 st.2 (by simp) hE
set_option tactic.hygienic true in
open AutoSeq1 (wpAny_loadPart') in
theorem meets_enumerate_newT (l:Addr) (items:Array Value) (n:Nat) (dct:Option Addr) (sl:Array (Option Value)):
  Meets (Builtin.«enumerate.__new__» ⟨[.type "enumerate",.ref l],[]⟩) (fun _ R s=>s.heap.get? l=some { cls:=.type "tuple",dict:=dct,data:=.seq items n,slots:=sl }/\
   R (.ok (.ret (.ref (s.heap.push { cls:=.type "tuple_iterator",data:=.fields #[.ref l,.int 0 0] }).objs.size)))
    { s with heap:=(s.heap.push { cls:=.type "tuple_iterator",data:=.fields #[.ref l,.int 0 0] }).push { cls:=.type "enumerate",data:=.fields #[.none,.bool false,.ref s.heap.objs.size,rawInt 0,.none,.none] } }):=
 .of_wp fun prog w A R s h=>by
  obtain⟨hp,g,d,tk,os⟩:=s;obtain⟨hl,h⟩:=h
  have hsub:=sub_enumerate
  have hL:Heap.IsTuple (Shared.heap ⟨hp,g,d,tk,os⟩) l items:=⟨_,hl,rfl,n,rfl⟩
  wp_walk using wpAny_loadPart' hl
  refine wpAny_stack_any fun st=>wpAny_pure ?_
  split
  .rename_i c _ _ _ _ _
   cases(c == Value.type "enumerate")
   .wp_walk using wpAny_loadPart' hl,wpAny_pyIter_tuple hL
    exact⟨_,rfl,h⟩
   .wp_walk using wpAny_loadPart' hl,wpAny_pyIter_tuple hL
    exact⟨_,rfl,h⟩
  .wp_walk using wpAny_loadPart' hl,wpAny_pyIter_tuple hL
   exact⟨_,rfl,h⟩
theorem call_enumerate_tuple {prog:Program} {w:World} {A:Around} {E:Value->Shared->Prop} {s:Shared} {l:Addr} {items:Array Value} {Q:Value->Shared->Prop} (hL:s.heap.IsTuple l items)
  (h:∀h',IsEnum h' (s.heap.objs.size+1) s.heap.objs.size 0 .none->SItr true h' s.heap.objs.size l 0->h'.objs.size=s.heap.objs.size+2->
   (∀b o,s.heap.get? b=some o->h'.get? b=some o)->Q (.ref (s.heap.objs.size+1)) { s with heap:=h' }):
  wpAny (model prog w) A (call (.type "enumerate") [.ref l]) Q E s:=by
 obtain⟨⟨c,dct,dt,sl⟩,hl,hc,n,hd⟩:=hL
 replace hc:c=.type "tuple":=hc
 replace hd:dt=.seq items n:=hd
 subst hc hd
 refine callType_new F.called_enumerate (by decide) (F.typeCall_enumerate_1 _) (F.newCall_enumerate_1 _) (fun obj=>F.args_object_init_2 obj _) F.entry_enumerate_new
  (meets_enumerate_newT l items n dct sl) ⟨hl,?_⟩
 have hz:(s.heap.push { cls:=.type "tuple_iterator",data:=.fields #[.ref l,.int 0 0] }).objs.size=s.heap.objs.size+1:=Heap.size_push ..
 show _/\_
 rw[hz]
 have he:IsEnum ((s.heap.push { cls:=.type "tuple_iterator",data:=.fields #[.ref l,.int 0 0] }).push
   { cls:=.type "enumerate",data:=.fields #[.none,.bool false,.ref s.heap.objs.size,rawInt 0,.none,.none] }) (s.heap.objs.size+1) s.heap.objs.size 0 .none:=by
  have:=Heap.get?_push_size (s.heap.push { cls:=.type "tuple_iterator",data:=.fields #[.ref l,.int 0 0] })
   (o:={ cls:=.type "enumerate",data:=.fields #[.none,.bool false,.ref s.heap.objs.size,rawInt 0,.none,.none] }) rfl
  rw[hz]at this;exact this
 refine⟨⟨_,he,rfl⟩,h _ he ⟨_,Heap.get?_push_of_some _ (Heap.get?_push_size _ rfl),rfl,rfl⟩ (by rw[Heap.size_push,hz]) fun b o x=>Heap.get?_push_of_some _ (Heap.get?_push_of_some _ x)⟩
noncomputable def Itet (K:W.Frag) (a:Addr):It:=Itd (fun i H=>∃xs x,SqT K H a xs/\xs[i]?=some x) (fun i H x=>∀xs,SqT K H a xs->xs[i]?=some x) (fun i H=>∃xs,SqT K H a xs/\xs.length=i)
theorem en_tup {P:Program} {w:World} {K:W.Frag} {e it a:Addr} (ne:e≠it) (na:a≠e) (nai:a≠it):EnSrc P w K e it (fun i h=>SItr true h it a i) (fun i H=>∃xs x,SqT K H a xs/\xs[i]?=some x) (fun i H x=>∀xs,SqT K H a xs->xs[i]?=some x) (fun i H=>∃xs,SqT K H a xs/\xs.length=i) where
 ne:=ne
 obj:=fun i h st=>by
  obtain⟨o,q,d⟩:=st.obj
  exact⟨o,q,fun v z=>by rw[d]at z;cases z⟩
 keep:=fun i h h' st k=>st.at k
 item:=by
  intro X hP hw hK hc i pins s σ H I _ _ _ _ st hg
  obtain⟨xs,x,hxs,hx⟩:=hg
  subst hP hw hK
  obtain⟨its,rv,p,hz⟩:=I.tuple hxs
  have hl:=rv.length
  obtain⟨u,hu,ru⟩:=rv.get hx
  refine⟨_,_,_,_,draws_tup (show X.A.in1.handled=none from I.ok.hd hc) it a nai its.toArray,?_,?_,⟨st,p⟩,fun j h q=>q.1,fun u' hu'=>⟨x,?_,fun ys hys=>by rw[I.tuple_inj hys hxs];exact hx⟩⟩
  .simp only[List.mem_cons,List.not_mem_nil,or_false,not_or]
   exact⟨ne,Ne.symm na⟩
  .have:=(List.getElem?_eq_some_iff.mp hx).1
   simp;omega
  .have e2:its[i]?=some u':=by simpa using hu'
   rw[hu]at e2
   cases e2
   exact ru
 done:=by
  intro X hP hw hK hc i pins s σ H I _ _ _ st hg
  obtain⟨xs,hxs,hx⟩:=hg
  subst hP hw hK
  obtain⟨its,rv,p,hz⟩:=I.tuple hxs
  have hl:=rv.length
  have e:i=its.toArray.size:=by simp;omega
  subst e
  exact⟨_,_,_,draws_tup (show X.A.in1.handled=none from I.ok.hd hc) it a nai its.toArray,st,p⟩
section
variable {X:Cx}
noncomputable def iEnum (K:W.Frag) (tl:TE):TI:=fun σ H R=>tCons tl tNil σ H fun vs H1=>∃x,vs=[x]/\
 ((∃a,x=.ref a/\(∃xs,SqL K H1 a xs)/\R (Ite K a) H1)\/(∃z,x=.str z/\R (Iteg z) H1)\/∃a,x=.ref a/\(∃xs,SqT K H1 a xs)/\R (Itet K a) H1)
theorem boot_enumerate:bootBuiltins "enumerate"=some (.type "enumerate"):=by decide +kernel
theorem pi_enum {a:Expr} {tl:TE} {p pos:Pos} {elts:List Expr} {kt:Nat} {pt:Pos} (hg:Gl X "enumerate") (hm:X.mg "enumerate"=none) (ha:PA X [a] (tCons tl tNil)) (hs:starEach [a] X.env=[(false,eval a X.env)]):
  PI X (.Tuple elts kt pt) (.Call (.Name "enumerate" p) [a] [] pos) (iEnum X.K tl):=by
 intro pins s σ H R I h
 have h':tCons tl tNil σ H (fun vs H1=>∃x,vs=[x]/\((∃a,x=.ref a/\(∃xs,SqL X.K H1 a xs)/\R (Ite X.K a) H1)\/(∃z,x=.str z/\R (Iteg z) H1)\/∃a,x=.ref a/\(∃xs,SqT X.K H1 a xs)/\R (Itet X.K a) H1)):=h
 refine Call_ (ld_blt I hg hm boot_enumerate (PyProof.Rows.callWith_type1 (thn (ha pos pins s σ H _ I h') fun us s1 ⟨vs,H1,I1,r1,q1⟩=>?_) (by rw[hs];rfl) (by rfl)))
 obtain⟨x,e,q1⟩:=q1
 subst e
 cases r1 with
 |cons r rr=>
  cases rr
  rcases q1 with⟨a,rfl,⟨xs,hxs⟩,q⟩|⟨z,rfl,q⟩|⟨a,rfl,⟨xs,hxs⟩,q⟩
  .cases r
   obtain⟨its,rv,pl,hz⟩:=I1.list hxs
   refine call_enumerate_list pl.isList fun h' he hit hsz hk=>wpAny_pyIter_enum he ?_
   have la:a<s1.heap.objs.size:=by
    obtain⟨o,q,_⟩:=pl.isList
    exact Heap.lt_size q
   refine⟨s1.heap.objs.size+1,[s1.heap.objs.size+1,s1.heap.objs.size],_,_,H1,rfl,I1.kept (t':=s1.toks) hk,turn_enum (en_list (Nat.succ_ne_self _) (Nat.ne_of_lt (Nat.lt_succ_of_lt la)) (Nat.ne_of_lt la)),⟨⟨_,he⟩,hit⟩,fun c hc=>?_,q⟩
   have hle:s1.heap.objs.size<=c:=by
    simp only[List.mem_cons,List.not_mem_nil,or_false]at hc
    rcases hc with rfl|rfl<;>omega
   exact I1.fpOk hle (I1.hok.fresh hle)
  .obtain⟨t,rfl⟩:=r
   refine call_enumerate_str fun h' he hit hsz hk=>wpAny_pyIter_enum he ?_
   have hty:strIterType z="str_ascii_iterator"\/strIterType z="str_iterator":=by
    unfold strIterType
    split
    .exact .inl rfl
    .exact .inr rfl
   refine⟨s1.heap.objs.size+1,[s1.heap.objs.size+1,s1.heap.objs.size],_,_,H1,rfl,I1.kept (t':=s1.toks) hk,turn_enum (en_str hty (Nat.succ_ne_self _)),⟨⟨_,he⟩,hit⟩,fun c hc=>?_,q⟩
   have hle:s1.heap.objs.size<=c:=by
    simp only[List.mem_cons,List.not_mem_nil,or_false]at hc
    rcases hc with rfl|rfl<;>omega
   exact I1.fpOk hle (I1.hok.fresh hle)
  .cases r
   obtain⟨its,rv,pl,hz⟩:=I1.tuple hxs
   refine call_enumerate_tuple (show s1.heap.IsTuple a its.toArray from pl) fun h' he hit hsz hk=>wpAny_pyIter_enum he ?_
   have la:a<s1.heap.objs.size:=by
    obtain⟨o,q,_⟩:=pl
    exact Heap.lt_size q
   refine⟨s1.heap.objs.size+1,[s1.heap.objs.size+1,s1.heap.objs.size],_,_,H1,rfl,I1.kept (t':=s1.toks) hk,turn_enum (en_tup (Nat.succ_ne_self _) (Nat.ne_of_lt (Nat.lt_succ_of_lt la)) (Nat.ne_of_lt la)),⟨⟨_,he⟩,hit⟩,fun c hc=>?_,q⟩
   have hle:s1.heap.objs.size<=c:=by
    simp only[List.mem_cons,List.not_mem_nil,or_false]at hc
    rcases hc with rfl|rfl<;>omega
   exact I1.fpOk hle (I1.hok.fresh hle)
end
section
variable {X:Cx}
theorem call_int_text:CallR X (.type "int") (fun xs H Q=>∃x n,xs=[.str x]/\PySem.intText? x=some n/\x.length<=640/\Q (.int n) H):=by
 intro pins s σ H xs us Q I r h
 obtain⟨x,n,rfl,hn,hl,q⟩:=h
 obtain⟨u,rfl,t,rfl⟩:=vals1 r
 exact W.KIN.call_text hn hl ⟨.int n,H,I.tok _,⟨_,rfl⟩,q⟩
noncomputable def rInt:List V->Hp->VK->Prop:=fun xs H Q=>((∃i,xs=[.int i]/\Q (.int i) H)\/∃k,xs=[.bl k]/\Q (.int (if k then 1 else 0)) H)\/∃x n,xs=[.str x]/\PySem.intText? x=some n/\x.length<=640/\Q (.int n) H
theorem call_intA:CallR X (.type "int") rInt:=call_int1.or call_int_text
noncomputable def rMulS:R2:=fun x y H Q=>∃a n,x=.str a/\y=.int n/\-1000000<=n/\n<=1000000/\a.length*n.toNat<=1000000/\Q (.str (Txt.mul a n)) H
theorem op_mul_str:OpR X (binaryOp .Mult) rMulS:=by
 intro pins s σ H x y v u Q I rx ry h
 obtain⟨a,n,rfl,rfl,h1,h2,h3,q⟩:=h
 obtain⟨t,rfl⟩:=rx
 obtain⟨t',rfl⟩:=ry
 refine SB.mul ⟨?_,fun hn hc=>?_,fun hn hc=>?_⟩ fun t' k=>⟨.str (Txt.mul a n),H,I.tok _,⟨_,rfl⟩,q⟩
 .have e1:¬n < -(2 ^ 63:Int):=by omega
  have e2:¬n ≥ 2 ^ 63:=by omega
  simp[e1,e2]
  omega
 .have hn0:0<n:=by omega
  intro hgt
  have h4:(a.length:Int)*n<=1000000:=by
   have:((a.length*n.toNat:Nat):Int)<=1000000:=by omega
   rw[Int.natCast_mul,Int.toNat_of_nonneg (by omega)]at this
   exact this
  have h5:=(Int.ediv_lt_iff_lt_mul hn0).mp hgt
  omega
 .have e:Builtin.Str.tooLong (a.length*n.toNat)=false:=by
   unfold Builtin.Str.tooLong
   have:sizeLine=16777216:=sizeLine_eq
   simp
   omega
  exact e
noncomputable def rJoin (K:W.Frag):V->List V->Hp->VK->Prop:=fun x xs H Q=>∃(sep:Str) (p:Addr) (ys:List Str),x=.str sep/\xs=[.ref p]/\(SqL K H p (ys.map V.str)\/SqT K H p (ys.map V.str))/\(ys.map (·.length)).sum+ys.length*sep.length<=16777216/\Q (.str (Txt.join sep ys)) H
theorem strsAre_of:∀{ys:List Str} {us:List Value},Vals (ys.map V.str) us->StrsAre us ys
 | [],us,h=>by
  have e:=h.zero
  subst e
  exact .nil
 |y :: ys,_,.cons r t=>by
  obtain⟨k,rfl⟩:=r
  exact .cons y k (strsAre_of t)
theorem mt_join:MtR X "str.join" (rJoin X.K):=by
 intro pins s σ H x xs v us Q I rx rv h
 obtain⟨sep,p,ys,rfl,rfl,hs,hz,q⟩:=h
 obtain⟨t,rfl⟩:=rx
 obtain⟨u,rfl,ru⟩:=rv.one
 cases ru
 rcases hs with hs|hs
 .obtain⟨its,r,pl,_⟩:=I.list hs
  exact join_list pl.isList (strsAre_of r) hz fun t' k=>⟨.str _,H,I.tok _,⟨_,rfl⟩,q⟩
 .obtain⟨its,r,pl,_⟩:=I.tuple hs
  exact join_tuple pl (strsAre_of r) hz fun t' k=>⟨.str _,H,I.tok _,⟨_,rfl⟩,q⟩
noncomputable def tyName (H:Hp):V->Option String
 | .non=>some "NoneType"
 | .bl _=>some "bool"
 | .int _=>some "int"
 | .str _=>some "str"
 | .ref a=>match H a with
  |some (.lst _)=>some "list"
  |some (.tup _)=>some "tuple"
  |some (.dK _)=>some "dict"
  |some (.dT _)=>some "dict"
  |some (.frz _ (.lst _))=>some "list"
  |_=>none
 |_=>none
set_option tactic.hygienic true in
theorem tyName_of {K:W.Frag} {H:Hp} {x:V} {T:String} (h:tyName H x=some T):TyOf K H x (.type T):=by
 cases x with
 |non=>cases h;exact .non
 |bl b=>cases h;exact .bl b
 |int i=>cases h;exact .int i
 |str y=>cases h;exact .str y
 |byt _=>cases h
 |flt _=>cases h
 |ty _=>cases h
 |ref a=>
  have h:(match H a with
   |some (.lst _)=>some "list"
   |some (.tup _)=>some "tuple"
   |some (.dK _)=>some "dict"
   |some (.dT _)=>some "dict"
   |some (.frz _ (.lst _))=>some "list"
   |_=>none)=some T:=h
  split at h
  .rename_i e;cases h;exact .lst e
  .rename_i e;cases h;exact .tup e
  .rename_i e;cases h;exact .dK e
  .rename_i e;cases h;exact .dT e
  .rename_i e;cases h;exact .frz e
  .cases h
noncomputable def isT (T c:String):Bool:=T == c || (T == "bool"&&c == "int")
noncomputable def tyKnown:List String:=["NoneType","bool","int","str","list","tuple","dict"]
theorem kitOne_known (K:W.Frag):∀T∈tyKnown,∀c∈["bool","int","str","list","tuple","dict"],W.kitOne K (.type T) (.type c)=some (isT T c):=by
 intro T hT c hc
 simp only[tyKnown,List.mem_cons,List.not_mem_nil,or_false]at hT hc
 rcases hT with rfl|rfl|rfl|rfl|rfl|rfl|rfl<;>rcases hc with rfl|rfl|rfl|rfl|rfl|rfl<;>rfl
noncomputable def rIsi:List V->Hp->VK->Prop:=fun xs H Q=>
 (∃x T c,xs=[x,.ty c]/\tyName H x=some T/\T∈tyKnown/\c∈["bool","int","str","list","tuple","dict"]/\Q (.bl (isT T c)) H)\/
 (∃(x:V) (T:String) (p:Addr) (cs:List String),xs=[x,.ref p]/\tyName H x=some T/\T∈tyKnown/\H p=some (.tup (cs.map V.ty))/\(∀c∈cs,c∈["bool","int","str","list","tuple","dict"])/\Q (.bl (cs.any (isT T))) H)
theorem vals_ty:∀{cs:List String} {us:List Value},Vals (cs.map V.ty) us->us=cs.map Value.type
 | [],us,h=>h.zero
 |c :: cs,_,.cons r t=>by
  have r':_=Value.type c:=r
  rw[r',vals_ty t]
  rfl
theorem kitAny_known (K:W.Frag) {T:String} (hT:T∈tyKnown):∀{cs:List String},(∀c∈cs,c∈["bool","int","str","list","tuple","dict"])->W.kitAny K (.type T) (cs.map Value.type)=some (cs.any (isT T))
 | [],_=>rfl
 |c :: cs,h=>by
  have h1:=kitOne_known K T hT c (h c List.mem_cons_self)
  have h2:=kitAny_known K hT (cs:=cs) fun c' hc'=>h c' (List.mem_cons_of_mem _ hc')
  show(match W.kitOne K (.type T) (.type c)with|some true=>some true|some false=>W.kitAny K (.type T) (cs.map Value.type)|none=>none)=_
  rw[h1]
  cases hb:isT T c
  .rw[List.any_cons,hb]
   exact h2
  .rw[List.any_cons,hb]
   rfl
set_option tactic.hygienic true in
theorem isinst_tup {pins:List (Addr×Obj)} {σ:St} {H:Hp} {s:Shared} {Q:Value->Shared->Prop} {E:Value->Shared->Prop} {b:Bool} {x:V} {u:Value} {T:String} {p:Addr} {dd:Option Addr} {its:List Value} {n:Nat} {sl:Array (Option Value)} (I:Inv X pins σ H s) (rx:RelV x u) (ty:tyName H x=some T)
  (hp:s.heap.get? p=some ⟨.type "tuple",dd,.seq its.toArray n,sl⟩) (e:W.kitAny X.K (.type T) its=some b) (h:∀tk,Q (.bool b) { s with toks:=tk }):
  wpAny (model X.prog X.w) X.A (call (.builtin "isinstance") [u,.ref p]) Q E s:=by
 cases x with
 |non=>cases ty;cases(show u=Value.none from rx);exact W.kia_tup W.kitx_none I.kIn True.intro hp e (fun z=>nomatch z) h
 |bl y=>cases ty;cases(show u=Value.bool y from rx);exact W.kia_tup W.kitx_bool I.kIn True.intro hp e (fun z=>nomatch z) h
 |int i=>cases ty;obtain⟨t,q⟩:=(show ∃t,u=Value.int i t from rx);cases q;exact W.kia_tup W.kitx_int I.kIn True.intro hp e (fun z=>nomatch z) h
 |str y=>cases ty;obtain⟨t,q⟩:=(show ∃t,u=Value.str y t from rx);cases q;exact W.kia_tup W.kitx_str I.kIn True.intro hp e (fun z=>nomatch z) h
 |byt _=>cases ty
 |flt _=>cases ty
 |ty _=>cases ty
 |ref a=>
  cases(show u=Value.ref a from rx)
  have ty:(match H a with
   |some (.lst _)=>some "list"
   |some (.tup _)=>some "tuple"
   |some (.dK _)=>some "dict"
   |some (.dT _)=>some "dict"
   |some (.frz _ (.lst _))=>some "list"
   |_=>none)=some T:=ty
  split at ty
  .rename_i xs ea
   cases ty
   obtain⟨_,_,n,_,h1⟩:=(show ObjOk X.prog X.w H s.heap a (.lst xs) from I.hok a _ ea)
   exact W.kia_tup W.kitx_list I.kIn ⟨_,h1,rfl⟩ hp e (fun z=>nomatch z) h
  .rename_i xs ea
   cases ty
   obtain⟨_,_,_,o,h1,h2,_⟩:=(show ObjOk X.prog X.w H s.heap a (.tup xs) from I.hok a _ ea)
   exact W.kia_tup W.kitx_tuple I.kIn ⟨o,h1,h2⟩ hp e (fun z=>nomatch z) h
  .rename_i kvs ea
   cases ty
   obtain⟨_,_,vs,_,o,es,ep,h1,h2,_⟩:=(show ObjOk X.prog X.w H s.heap a (.dK kvs) from I.hok a _ ea)
   exact W.kia_tup W.kitx_dict I.kIn ⟨o,h1,h2.1⟩ hp e (fun z=>nomatch z) h
  .rename_i kvs ea
   cases ty
   obtain⟨_,_,xs,_,o,es,ep,h1,h2,_⟩:=(show ObjOk X.prog X.w H s.heap a (.dT kvs) from I.hok a _ ea)
   exact W.kia_tup W.kitx_dict I.kIn ⟨o,h1,h2.1⟩ hp e (fun z=>nomatch z) h
  .rename_i ob xs ea
   cases ty
   obtain⟨_,_,_,n,_,h1⟩:=(show ObjOk X.prog X.w H s.heap a (.frz ob (.lst xs)) from I.hok a _ ea)
   exact W.kia_tup W.kitx_list I.kIn ⟨_,h1,rfl⟩ hp e (fun z=>nomatch z) h
  .cases ty
theorem call_isi:CallR X (.builtin "isinstance") rIsi:=by
 intro pins s σ H xs us Q I r h
 rcases h with⟨x,T,c,rfl,hT,hk,hc,q⟩|⟨x,T,p,cs,rfl,hT,hk,hp,hc,q⟩
 .obtain⟨u,w',rfl,r1,r2⟩:=vals2 r
  have r2:w'=Value.type c:=r2
  subst r2
  exact isinst_ok I r1 (tyName_of hT) (kitOne_known X.K T hk c hc) fun tk=>⟨.bl _,H,I.tok _,rfl,q⟩
 .obtain⟨u,w',rfl,r1,r2⟩:=vals2 r
  have r2:w'=Value.ref p:=r2
  subst r2
  obtain⟨_,its,rv,o,h1,h2,⟨n,h3⟩,_⟩:=(show ObjOk X.prog X.w H s.heap p (.tup (cs.map V.ty)) from I.hok p _ hp)
  have e:=vals_ty rv
  subst e
  obtain⟨oc,od,dat,osl⟩:=o
  have h2:oc=_:=h2
  have h3:dat=_:=h3
  subst h2 h3
  exact isinst_tup I r1 hT h1 (kitAny_known X.K hk hc) fun tk=>⟨.bl _,H,I.tok _,rfl,q⟩
noncomputable def rAll (K:W.Frag) (any:Bool):List V->Hp->VK->Prop:=fun xs H Q=>∃(p:Addr) (bs:List Bool),xs=[.ref p]/\SqL K H p (bs.map V.bl)/\Q (.bl (if any then bs.any id else bs.all id)) H
theorem bools_get:∀{bs:List Bool} {us:List Value} {i:Nat} {v:Value},Vals (bs.map V.bl) us->us[i]?=some v->∃b,bs[i]?=some b/\v=.bool b
 | [],us,i,v,h,e=>by rw[h.zero]at e;simp at e
 |b :: bs,_,0,v,.cons r t,e=>by
  have r:_=Value.bool b:=r
  simp at e
  exact⟨b,rfl,by rw[<- e];exact r⟩
 |b :: bs,_,i+1,v,.cons r t,e=>by
  obtain⟨b',h1,h2⟩:=bools_get (i:=i) t (by simpa using e)
  exact⟨b',by simpa using h1,h2⟩
theorem range_all (bs:List Bool):(List.range bs.length).all (fun i=>bs.getD i false)=bs.all id:=by
 rw[Bool.eq_iff_iff,List.all_eq_true,List.all_eq_true]
 constructor
 .intro h b hb
  obtain⟨i,hi,rfl⟩:=List.mem_iff_getElem.mp hb
  have:=h i (List.mem_range.mpr hi)
  simpa[List.getD_eq_getElem?_getD,hi]using this
 .intro h i hi
  have hi:=List.mem_range.mp hi
  have:=h bs[i] (List.getElem_mem hi)
  simpa[List.getD_eq_getElem?_getD,hi]using this
theorem range_any (bs:List Bool):(List.range bs.length).any (fun i=>bs.getD i false)=bs.any id:=by
 rw[Bool.eq_iff_iff,List.any_eq_true,List.any_eq_true]
 constructor
 .rintro⟨i,hi,h⟩
  have hi:=List.mem_range.mp hi
  exact⟨bs[i],List.getElem_mem hi,by simpa[List.getD_eq_getElem?_getD,hi]using h⟩
 .rintro⟨b,hb,h⟩
  obtain⟨i,hi,rfl⟩:=List.mem_iff_getElem.mp hb
  exact⟨i,List.mem_range.mpr hi,by simpa[List.getD_eq_getElem?_getD,hi]using h⟩
theorem call_allL (hc:X.calm=true):CallR X (.builtin "all") (rAll X.K false):=by
 intro pins s σ H xs us Q I r h
 obtain⟨p,bs,rfl,hs,q⟩:=h
 obtain⟨u,rfl,ru⟩:=vals1 r
 cases ru
 obtain⟨its,rv,pl,hz⟩:=I.list hs
 have hlen:its.toArray.size=bs.length:=by
  have:=rv.length
  rw[List.length_map]at this
  rw[List.size_toArray,this]
 refine call_all_walk (wpAny_pyIter_list pl.isList ?_)
 have hlt:p<s.heap.objs.size:=by obtain⟨o,n,e,_⟩:=pl;exact Heap.lt_size e
 refine⟨s.heap.objs.size,_,_,_,_,_,fun i=>bs.getD i false,rfl,Walks.list (A:=X.A.in1) (I.ok.hd hc) _ p (Nat.ne_of_lt hlt) its.toArray,⟨⟨_,Heap.get?_push_size _ rfl,rfl,rfl⟩,Heap.IsList.push pl.isList _⟩,?_,fun h' tk hk=>?_⟩
 .intro i v s' Q' E' hv hq
  obtain⟨b,hb,rfl⟩:=bools_get rv (i:=i) (by simpa using hv)
  refine wpAny_truthy_bool ?_
  have e:bs.getD i false=b:=by rw[List.getD_eq_getElem?_getD,hb];rfl
  have hq':Q' (bs.getD i false) s':=hq
  rw[e]at hq'
  exact hq'
 .rw[hlen,range_all]
  exact⟨.bl _,H,I.kept fun b o e=>hk b o (by simp;exact Nat.ne_of_lt (Heap.lt_size e)) (Heap.get?_push_of_some _ e),rfl,q⟩
noncomputable def rBest (K:W.Frag) (mx:Bool):List V->Hp->VK->Prop:=fun xs H Q=>∃(p:Addr) (ns:List Int),xs=[.ref p]/\SqL K H p (ns.map V.int)/\ns≠[]/\∀M,M∈ns->(∀a∈ns,if mx then a<=M else M<=a)->Q (.int M) H
theorem call_maxL (hc:X.calm=true):CallR X (.builtin "max") (rBest X.K true):=by
 intro pins s σ H xs us Q I r h
 obtain⟨p,ns,rfl,hs,hne,q⟩:=h
 obtain⟨u,rfl,ru⟩:=vals1 r
 cases ru
 obtain⟨its,rv,pl,hz⟩:=I.list hs
 have hi:=intsAre_of rv
 obtain⟨xs,e⟩:=hi.allInts.items
 have hns:ns=xs.toList.map (·.1):=by
  rw[<- hi.numsOf,<- nums_intItems,<- e]
 have hsz:0<xs.size:=by
  have h3:=List.length_pos_iff.mpr hne
  rw[hns,List.length_map,Array.length_toList]at h3
  exact h3
 have hl:=pl.isList
 rw[e]at hl
 refine max_intList (I.ok.hd hc) hl hsz fun v h' tk hv hk=>?_
 obtain⟨t,rfl⟩:=intItems_at hv
 obtain⟨h1,h2⟩:=argBest_gt (numAt xs) (xs.size-1)
 refine⟨.int _,H,I.kept hk,⟨t,rfl⟩,q _ ?_ fun a ha=>?_⟩
 .rw[hns,numAt_eq];exact getD_mem (by rw[List.length_map,Array.length_toList];omega)
 .rw[hns]at ha
  obtain⟨j,hj,rfl⟩:=mem_getD ha
  rw[List.length_map,Array.length_toList]at hj
  rw[if_pos rfl,<- numAt_eq];exact h2 j (by omega)
theorem call_minL (hc:X.calm=true):CallR X (.builtin "min") (rBest X.K false):=by
 intro pins s σ H xs us Q I r h
 obtain⟨p,ns,rfl,hs,hne,q⟩:=h
 obtain⟨u,rfl,ru⟩:=vals1 r
 cases ru
 obtain⟨its,rv,pl,hz⟩:=I.list hs
 have hi:=intsAre_of rv
 obtain⟨xs,e⟩:=hi.allInts.items
 have hns:ns=xs.toList.map (·.1):=by
  rw[<- hi.numsOf,<- nums_intItems,<- e]
 have hsz:0<xs.size:=by
  have h3:=List.length_pos_iff.mpr hne
  rw[hns,List.length_map,Array.length_toList]at h3
  exact h3
 have hl:=pl.isList
 rw[e]at hl
 refine min_intList (I.ok.hd hc) hl hsz fun v h' tk hv hk=>?_
 obtain⟨t,rfl⟩:=intItems_at hv
 obtain⟨h1,h2⟩:=argBest_lt (numAt xs) (xs.size-1)
 refine⟨.int _,H,I.kept hk,⟨t,rfl⟩,q _ ?_ fun a ha=>?_⟩
 .rw[hns,numAt_eq];exact getD_mem (by rw[List.length_map,Array.length_toList];omega)
 .rw[hns]at ha
  obtain⟨j,hj,rfl⟩:=mem_getD ha
  rw[List.length_map,Array.length_toList]at hj
  rw[if_neg (by decide),<- numAt_eq];exact h2 j (by omega)
end
section
variable {X:Cx}
open PySem.SeqAt in
theorem eqAt_of {A:Around} {s:Shared} {x y:V} {u v:Value} (rx:RelV x u) (ry:RelV y v) (h:scal x y=true/\(∀b,x≠.byt b)\/x=y/\∃a,x=.ref a):EqAt A s u v (decide (x=y)):=by
 rcases h with⟨h,hb⟩|⟨rfl,a,rfl⟩
 .cases x with
  |non=>cases y with
   |non=>cases rx;cases ry;exact EqAt.same _
   |bl b=>cases rx;cases ry;exact EqAt.none_bool _
   |int b=>cases rx;obtain⟨t,rfl⟩:=ry;exact EqAt.none_int _ _
   |str b=>cases rx;obtain⟨t,rfl⟩:=ry;exact EqAt.none_str _ _
   |_=>cases h
  |bl a=>cases y with
   |non=>cases rx;cases ry;exact EqAt.bool_none _
   |bl b=>cases rx;cases ry;have:=EqAt.bool_bool (A:=A) (s:=s) a b;cases a<;>cases b<;>exact this
   |str b=>cases rx;obtain⟨t,rfl⟩:=ry;exact EqAt.bool_str _ _ _
   |_=>cases h
  |int a=>cases y with
   |non=>obtain⟨t,rfl⟩:=rx;cases ry;exact EqAt.int_none _ _
   |int b=>obtain⟨t,rfl⟩:=rx;obtain⟨t',rfl⟩:=ry;rw[dec_int];exact EqAt.int_int _ _ _ _
   |str b=>obtain⟨t,rfl⟩:=rx;obtain⟨t',rfl⟩:=ry;exact EqAt.int_str _ _ _ _
   |_=>cases h
  |str a=>cases y with
   |non=>obtain⟨t,rfl⟩:=rx;cases ry;exact EqAt.str_none _ _
   |bl b=>obtain⟨t,rfl⟩:=rx;cases ry;exact EqAt.str_bool _ _ _
   |int b=>obtain⟨t,rfl⟩:=rx;obtain⟨t',rfl⟩:=ry;exact EqAt.str_int _ _ _ _
   |str b=>
    obtain⟨t,rfl⟩:=rx
    obtain⟨t',rfl⟩:=ry
    have e:decide (V.str a=V.str b)=(a == b):=by
     by_cases hab:a=b
     .subst hab;simp
     .rw[decide_eq_false (by intro z;cases z;exact hab rfl)];simp[hab]
    rw[e]
    exact EqAt.str_str _ _ _ _
   |_=>cases h
  |byt b=>exact absurd rfl (hb b)
  |_=>cases y<;>cases h
 .cases rx
  cases ry
  rw[decide_eq_true rfl]
  exact EqAt.same _
def LEq (xs ys:List V):Prop:=∀(i:Nat) x y,xs[i]?=some x->ys[i]?=some y->scal x y=true/\(∀b,x≠.byt b)\/x=y/\∃a,x=.ref a
noncomputable def rEqL (K:W.Frag) (neg:Bool):V->V->Hp->VK->Prop:=fun x y H Q=>∃p q xs ys,x=.ref p/\y=.ref q/\SqL K H p xs/\SqL K H q ys/\(xs.length=ys.length->LEq xs ys)/\Q (.bl (if neg then !decide (xs=ys)else decide (xs=ys))) H
theorem all_eq {xs ys:List V} (h:xs.length=ys.length):(List.range xs.length).all (fun i=>decide (xs[i]?=ys[i]?))=decide (xs=ys):=by
 by_cases e:xs=ys
 .subst e
  simp
 .rw[decide_eq_false e,Bool.eq_false_iff]
  intro q
  rw[List.all_eq_true]at q
  apply e
  apply List.ext_getElem?
  intro i
  rcases Nat.lt_or_ge i xs.length with hi|hi
  .exact of_decide_eq_true (q i (List.mem_range.mpr hi))
  .rw[List.getElem?_eq_none_iff.mpr hi,List.getElem?_eq_none_iff.mpr (by omega)]
open PySem.SeqAt in
theorem op_eqL (hu:X.A.units<cLine):OpR X (compareOp .Eq) (rEqL X.K false):=by
 intro pins s σ H x y v u Q I rx ry h
 obtain⟨p,q,xs,ys,rfl,rfl,hp,hq,he,k⟩:=h
 cases rx
 cases ry
 obtain⟨its,r1,pl1,_⟩:=I.list hp
 obtain⟨its2,r2,pl2,_⟩:=I.list hq
 have l1:=r1.length
 have l2:=r2.length
 by_cases hl:xs.length=ys.length
 .refine eq_listAt (e:=fun i=>decide (xs[i]?=ys[i]?)) pl1.isList pl2.isList (by simp;omega) hu (fun j h1 h2=>?_) ?_
  .have j1:j<xs.length:=by simp at h1;omega
   have j2:j<ys.length:=by omega
   have g1:xs[j]?=some xs[j]:=List.getElem?_eq_getElem j1
   have g2:ys[j]?=some ys[j]:=List.getElem?_eq_getElem j2
   obtain⟨u1,e1,ru1⟩:=r1.get g1
   obtain⟨u2,e2,ru2⟩:=r2.get g2
   have f1:its.toArray[j]=u1:=by simp at h1 ⊢;rw[List.getElem?_eq_getElem h1]at e1;exact Option.some.inj e1
   have f2:its2.toArray[j]=u2:=by simp at h2 ⊢;rw[List.getElem?_eq_getElem h2]at e2;exact Option.some.inj e2
   rw[f1,f2,g1,g2]
   have e3:decide (some xs[j]=some ys[j])=decide (xs[j]=ys[j]):=by simp
   rw[e3]
   exact eqAt_of ru1 ru2 (he hl j _ _ g1 g2)
  .have e4:(List.range its.toArray.size).all (fun i=>decide (xs[i]?=ys[i]?))=decide (xs=ys):=by
    rw[List.size_toArray,<- l1];exact all_eq hl
   rw[e4]
   exact⟨.bl _,H,I,rfl,k⟩
 .refine eq_list_lengthsAt pl1.isList pl2.isList (by simp;omega) hu ?_
  rw[decide_eq_false (fun z=>hl (by rw[z]))]at k
  exact⟨.bl false,H,I,rfl,k⟩
open PySem.SeqAt in
theorem op_neL (hu:X.A.units<cLine):OpR X (compareOp .NotEq) (rEqL X.K true):=by
 intro pins s σ H x y v u Q I rx ry h
 obtain⟨p,q,xs,ys,rfl,rfl,hp,hq,he,k⟩:=h
 cases rx
 cases ry
 obtain⟨its,r1,pl1,_⟩:=I.list hp
 obtain⟨its2,r2,pl2,_⟩:=I.list hq
 have l1:=r1.length
 have l2:=r2.length
 obtain⟨⟨cls,dd,data,sl⟩,ho,hc,n,hd⟩:=pl1.isList
 obtain⟨⟨cls2,dd2,data2,sl2⟩,ho2,hc2,n2,hd2⟩:=pl2.isList
 simp only at hc hd hc2 hd2
 subst hc hd hc2 hd2
 by_cases hl:xs.length=ys.length
 .refine richCompare_meets_room (op:=.NotEq) ⟨_,ho,rfl⟩ ⟨_,ho2,rfl⟩ F.slot_list_ne F.entry_list_ne (F.args_list_ne_2 _ _) (list_neAt p q its.toArray its2.toArray n n2 dd dd2 sl sl2 (by simp;omega) (fun i=>decide (xs[i]?=ys[i]?))) ⟨ho,ho2,fun j h1 h2=>?_,?_⟩ hu
  .have j1:j<xs.length:=by simp at h1;omega
   have j2:j<ys.length:=by omega
   have g1:xs[j]?=some xs[j]:=List.getElem?_eq_getElem j1
   have g2:ys[j]?=some ys[j]:=List.getElem?_eq_getElem j2
   obtain⟨u1,e1,ru1⟩:=r1.get g1
   obtain⟨u2,e2,ru2⟩:=r2.get g2
   have f1:its.toArray[j]=u1:=by simp at h1 ⊢;rw[List.getElem?_eq_getElem h1]at e1;exact Option.some.inj e1
   have f2:its2.toArray[j]=u2:=by simp at h2 ⊢;rw[List.getElem?_eq_getElem h2]at e2;exact Option.some.inj e2
   rw[f1,f2,g1,g2]
   have e3:decide (some xs[j]=some ys[j])=decide (xs[j]=ys[j]):=by simp
   rw[e3]
   exact eqAt_of ru1 ru2 (he hl j _ _ g1 g2)
  .have e4:(List.range its.toArray.size).all (fun i=>decide (xs[i]?=ys[i]?))=decide (xs=ys):=by
    rw[List.size_toArray,<- l1];exact all_eq hl
   rw[e4]
   exact(show Value.bool (!decide (xs=ys))≠Value.notImplemented/\EP X pins σ Q (Value.bool (!decide (xs=ys))) s from⟨(fun x=>nomatch x),⟨.bl _,H,I,rfl,k⟩⟩)
 .refine richCompare_meets_room (op:=.NotEq) ⟨_,ho,rfl⟩ ⟨_,ho2,rfl⟩ F.slot_list_ne F.entry_list_ne (F.args_list_ne_2 _ _) (list_ne_lengthsAt p q its.toArray its2.toArray n n2 dd dd2 sl sl2 (by simp;omega)) ⟨ho,ho2,?_⟩ hu
  rw[decide_eq_false (fun z=>hl (by rw[z]))]at k
  exact(show Value.bool true≠Value.notImplemented/\EP X pins σ Q (Value.bool true) s from⟨(fun x=>nomatch x),⟨.bl true,H,I,rfl,k⟩⟩)
noncomputable def rgs (i:Int) (n:Nat):List V:=(List.range n).map fun(k:Nat)=>V.int (i+(k:Int))
noncomputable def rRng:List V->Hp->VK->Prop:=fun xs H Q=>∃i j:Int,(xs=[.int i,.int j]\/(i=0/\xs=[.int j]))/\∀p,H p=none->Q (.ref p) (upd H p (.rng i j))
theorem call_rng:CallR X (.type "range") rRng:=by
 intro pins s σ H xs us Q I rv h
 obtain⟨i,j,hx,q⟩:=h
 have hn:H s.heap.objs.size=none:=I.hok.fresh (Nat.le_refl _)
 rcases hx with rfl|⟨rfl,rfl⟩
 .cases rv with
  |cons r1 rv=>
   cases rv with
   |cons r2 rv=>
    cases rv
    obtain⟨t,rfl⟩:=r1
    obtain⟨u,rfl⟩:=r2
    exact call_range_2 ⟨.ref s.heap.objs.size,_,I.laid (t':=s.toks+1) (fun _ _ e=>Heap.get?_push_of_some _ e) (Nat.le_refl _) (o:=.rng i j) ⟨t,u,s.toks,Heap.get?_push_size _ rfl⟩,rfl,q _ hn⟩
 .cases rv with
  |cons r1 rv=>
   cases rv
   obtain⟨t,rfl⟩:=r1
   exact call_range_1 ⟨.ref s.heap.objs.size,_,I.laid (t':=s.toks+1+1) (fun _ _ e=>Heap.get?_push_of_some _ e) (Nat.le_refl _) (o:=.rng 0 j) ⟨s.toks,t,s.toks+1,Heap.get?_push_size _ rfl⟩,rfl,q _ hn⟩
noncomputable def rLrg:List V->Hp->VK->Prop:=fun xs H Q=>∃r i j,xs=[.ref r]/\H r=some (.rng i j)/\(-(2 ^ 62)<=i/\i<2 ^ 62/\-(2 ^ 62)<=j/\j<2 ^ 62)/\(j-i).toNat<=sizeLine/\∀p,H p=none->Q (.ref p) (upd H p (.lst (rgs i (j-i).toNat)))
theorem call_lrg (hc:X.calm=true):CallR X (.type "list") rLrg:=by
 intro pins s σ H xs us Q I rv h
 obtain⟨r,i,j,rfl,hr,⟨h1,h2,h3,h4⟩,hz,q⟩:=h
 cases rv with
 |cons r1 rv=>
  cases rv
  cases r1
  obtain⟨t,u,v,e⟩:=(show ObjOk X.prog X.w H s.heap r (.rng i j) from I.hok r _ hr)
  refine call_list_range (n:=(j-i).toNat) (I.ok.hd hc) e (small_one h1 h2 h3 h4) (by rw[rangeSize_one];split<;>omega) hz fun h' tk' acc' c' hk hS hit=>?_
  obtain⟨hsz,hv⟩:=hit
  have hn:H s.heap.objs.size=none:=I.hok.fresh (Nat.le_refl _)
  have key:∀(n:Nat) (l:List Value) (f:Nat->Int),l.length=n->(∀k v,l[k]?=some v->∃t,v=Value.int (f k) t)->Vals ((List.range n).map fun k=>V.int (f k)) l:=by
   intro n
   induction n with
   |zero=>intro l f hl hv;have:l=[]:=List.length_eq_zero_iff.mp hl;subst this;exact .nil
   |succ n ih=>
    intro l f hl hv
    cases l with
    |nil=>cases hl
    |cons x r=>
     rw[List.range_succ_eq_map,List.map_cons,List.map_map]
     refine .cons (hv 0 x rfl) ?_
     exact ih r (fun k=>f (k+1)) (by simpa using hl) fun k v hk=>hv (k+1) v (by simpa using hk)
  refine⟨.ref s.heap.objs.size,_,I.laid (t':=tk') hk (Nat.le_refl _) (o:=.lst (rgs i (j-i).toNat)) ⟨by unfold rgs;rw[List.length_map,List.length_range];exact hz,acc'.toList,c',?_,hS⟩,rfl,q _ hn⟩
  refine key _ _ (fun k=>i+(k:Int)) (by rw[Array.length_toList];exact hsz) fun k v hk=>?_
  obtain⟨t,e⟩:=hv k v (by simpa using hk)
  exact⟨t,by rw[e];simp⟩
end
section
variable {X:Cx}
theorem ints_get:∀{ns:List Int} {us:List Value} {i:Nat} {v:Value},Vals (ns.map V.int) us->us[i]?=some v->∃t,v=.int (ns.getD i 0) t
 | [],us,i,v,h,e=>by rw[h.zero]at e;simp at e
 |b :: bs,_,0,v,.cons r t,e=>by
  obtain⟨t,r⟩:=r
  simp at e
  exact⟨t,by rw[<- e,r];rfl⟩
 |b :: bs,_,i+1,v,.cons r t,e=>by
  obtain⟨t',h⟩:=ints_get (i:=i) t (by simpa using e)
  exact⟨t',by rw[h];simp⟩
theorem preSum_list:∀(ns:List Int),preSum (fun i=>ns.getD i 0) ns.length=ns.sum:=by
 have key:∀(f:Nat->Int) (n:Nat),preSum f n=((List.range n).map f).sum:=by
  intro f n
  induction n with
  |zero=>rfl
  |succ n ih=>
   rw[List.range_succ,List.map_append,List.sum_append,<- ih]
   simp[preSum]
 intro ns
 rw[key]
 congr 1
 apply List.ext_getElem?
 intro i
 rw[List.getElem?_map]
 rcases Nat.lt_or_ge i ns.length with h|h
 .rw[List.getElem?_range h,List.getElem?_eq_getElem h]
  simp[List.getD_eq_getElem?_getD,h]
 .rw[List.getElem?_eq_none_iff.mpr h,List.getElem?_eq_none_iff.mpr (by simpa using h)]
  rfl
noncomputable def rSum (K:W.Frag):List V->Hp->VK->Prop:=fun xs H Q=>∃(p:Addr) (ns:List Int),xs=[.ref p]/\SqL K H p (ns.map V.int)/\Q (.int ns.sum) H
theorem call_sumL (hc:X.calm=true):CallR X (.builtin "sum") (rSum X.K):=by
 intro pins s σ H xs us Q I r h
 obtain⟨p,ns,rfl,hs,q⟩:=h
 obtain⟨u,rfl,ru⟩:=vals1 r
 cases ru
 obtain⟨its,rv,pl,hz⟩:=I.list hs
 have hlen:its.toArray.size=ns.length:=by
  have:=rv.length
  rw[List.length_map]at this
  rw[List.size_toArray];exact this.symm
 have hlt:p<s.heap.objs.size:=by
  obtain⟨o,e,_⟩:=pl.isList
  exact Heap.lt_size e
 refine call_sum_walkG (wpAny_pyIter_list pl.isList ?_)
 have hp1:(s.heap.push { cls:=.type "list_iterator",data:=.fields #[.ref p,.int 0 0] }).get? s.heap.objs.size=some { cls:=.type "list_iterator",data:=.fields #[.ref p,.int 0 0] }:=Heap.get?_push_size _ rfl
 refine⟨s.heap.objs.size,_,_,_,_,_,fun i=>ns.getD i 0,rfl,Walks.list (A:=X.A.in1) (show X.A.in1.handled=none from I.ok.hd hc) s.heap.objs.size p (Nat.ne_of_lt hlt) its.toArray,⟨⟨_,hp1,rfl,rfl⟩,?_⟩,?_,fun i v hv=>?_,fun h' tk t' hk=>?_⟩
 .obtain⟨o,e,r⟩:=pl.isList
  exact⟨o,Heap.get?_push_of_some _ e,r⟩
 .intro b hb
  show b<(s.heap.push _).objs.size
  rw[Heap.size_push]
  simp only[List.mem_cons,List.not_mem_nil,or_false]at hb
  rcases hb with rfl|rfl
  .exact Nat.lt_succ_self _
  .exact Nat.lt_succ_of_lt hlt
 .exact ints_get rv (by simpa using hv)
 .rw[hlen,preSum_list]
  refine⟨.int _,H,I.kept (t':=tk) fun b o e=>hk b o ?_ (Heap.get?_push_of_some _ e),⟨_,rfl⟩,q⟩
  simp only[List.mem_cons,List.not_mem_nil,or_false]
  exact Nat.ne_of_lt (Heap.lt_size e)
theorem op_mulW:OpR X (binaryOp .Mult) (rI IntMulOk fun i j=>.int (i*j)):=opI fun _ _ _ _ _ _ _ hc q=>mul_int q hc
noncomputable def isPl:V->Bool
 | .ty _=>false
 | .byt _=>false
 | .flt _=>false
 |_=>true
noncomputable def rIsB (neg:Bool):R2:=fun x y H Q=>∃b,y=.bl b/\isPl x=true/\Q (.bl (if neg then !decide (x=.bl b)else decide (x=.bl b))) H
theorem is_eq {x:V} {v:Value} {b:Bool} (r:RelV x v) (h:isPl x=true):plainIs v (.bool b)=true/\(v == Value.bool b)=decide (x=.bl b):=by
 cases x with
 |non=>cases r;exact⟨rfl,rfl⟩
 |bl a=>cases r;refine⟨rfl,?_⟩;cases a<;>cases b<;>rfl
 |int i=>obtain⟨t,rfl⟩:=r;exact⟨rfl,rfl⟩
 |str i=>obtain⟨t,rfl⟩:=r;exact⟨rfl,rfl⟩
 |ref a=>cases r;exact⟨rfl,rfl⟩
 |_=>cases h
theorem op_isB:OpR X (compareOp .Is) (rIsB false):=by
 intro pins s σ H x y v u Q I rx ry h
 obtain⟨b,rfl,hp,q⟩:=h
 cases ry
 obtain⟨h1,h2⟩:=is_eq (b:=b) rx hp
 exact wpAny_is_plain h1 ⟨.bl _,H,I,by rw[h2];rfl,q⟩
theorem op_isNotB:OpR X (compareOp .IsNot) (rIsB true):=by
 intro pins s σ H x y v u Q I rx ry h
 obtain⟨b,rfl,hp,q⟩:=h
 cases ry
 obtain⟨h1,h2⟩:=is_eq (b:=b) rx hp
 exact wpAny_isNot_plain h1 ⟨.bl _,H,I,by rw[h2];rfl,q⟩
theorem op_fdivW:OpR X (binaryOp .FloorDiv) (rI (fun _ j=>0<j/\j.natAbs.log2<9000) fun i j=>.int (i / j)):=opI fun i j _ _ _ _ _ hc q=>by
 refine floordiv_int (by omega) ?_ (.inl (PyProof.noPylong_of_log2 hc.2))
 rw[Int.fdiv_eq_ediv_of_nonneg i (by omega)]
 exact q
end
section
variable {κ:Type} [DecidableEq κ]
noncomputable def valV (kvs:List (κ×V)) (k:κ):Option V:=(kvs.find? fun kv=>decide (kv.1=k)).map (·.2)
noncomputable def putK (kvs:List (κ×V)) (k:κ) (v:V):List (κ×V):=
 if(kvs.any fun kv=>decide (kv.1=k))=true then kvs.map (fun kv=>if kv.1=k then(kv.1,v)else kv)else kvs++[(k,v)]
theorem valV_pos {p:κ×V} {r:List (κ×V)} {k:κ} (e:p.1=k):valV (p :: r) k=some p.2:=by simp[valV,List.find?_cons,e]
theorem valV_neg {p:κ×V} {r:List (κ×V)} {k:κ} (e:¬p.1=k):valV (p :: r) k=valV r k:=by simp[valV,List.find?_cons,e]
theorem valV_any (k:κ):∀kvs:List (κ×V),(kvs.any fun kv=>decide (kv.1=k))=(valV kvs k).isSome
 | []=>rfl
 |p :: r=>by
  rw[List.any_cons]
  by_cases e:p.1=k
  .simp only[valV_pos e,decide_eq_true e,Bool.true_or,Option.isSome_some]
  .rw[valV_neg e,decide_eq_false e,Bool.false_or];exact valV_any k r
theorem length_putK (kvs:List (κ×V)) (k:κ) (v:V):(putK kvs k v).length<=kvs.length+1:=by
 unfold putK
 split
 .rw[List.length_map];omega
 .rw[List.length_append,List.length_cons,List.length_nil];omega
theorem putK_new {kvs:List (κ×V)} {k:κ} (v:V) (h:valV kvs k=none):putK kvs k v=kvs++[(k,v)]:=by
 unfold putK
 rw[valV_any,h]
 exact if_neg (by decide)
theorem RelO.isSome_eq {o:Option V} {u:Option Value} (r:RelO o u):o.isSome=u.isSome:=by
 cases o with
 |none=>cases u with
  |none=>rfl
  |some _=>exact(show False from r).elim
 |some _=>cases u with
  |none=>exact(show False from r).elim
  |some _=>rfl
theorem RelO.getD {o:Option V} {u:Option Value} {d:V} {d':Value} (r:RelO o u) (rd:RelV d d'):RelV (o.getD d) (u.getD d'):=by
 cases o with
 |none=>cases u with
  |none=>exact rd
  |some _=>exact(show False from r).elim
 |some _=>cases u with
  |none=>exact(show False from r).elim
  |some _=>exact r
theorem KV.val {kvs:List (κ×V)} {vs:List (κ×Value)} (r:KV kvs vs) (k:κ):RelO (valV kvs k) (valueAt vs k):=by
 unfold KV at r
 induction r with
 |nil=>exact True.intro
 | @cons p q ps qs h t ih=>
  obtain⟨h1,h2⟩:=h
  by_cases e:p.1=k
  .have e':q.1=k:=h1.symm.trans e
   have b:valueAt (q :: qs) k=some q.2:=by simp[valueAt,List.find?_cons,e']
   rw[valV_pos e,b];exact h2
  .have e':¬q.1=k:=fun z=>e (h1.trans z)
   have b:valueAt (q :: qs) k=valueAt qs k:=by simp[valueAt,List.find?_cons,e']
   rw[valV_neg e,b];exact ih
theorem KV.any {kvs:List (κ×V)} {vs:List (κ×Value)} (r:KV kvs vs) (k:κ):(kvs.any fun kv=>decide (kv.1=k))=vs.any fun kv=>decide (kv.1=k):=by
 unfold KV at r
 induction r with
 |nil=>rfl
 |cons h t ih=>rw[List.any_cons,List.any_cons,ih,h.1]
theorem KV.repl {kvs:List (κ×V)} {vs:List (κ×Value)} (r:KV kvs vs) (k:κ) {y:V} {u:Value} (ry:RelV y u):
  KV (kvs.map fun kv=>if kv.1=k then(kv.1,y)else kv) (vs.map fun kv=>if kv.1=k then(kv.1,u)else kv):=by
 unfold KV at r ⊢
 induction r with
 |nil=>exact .nil
 | @cons p q ps qs h t ih=>
  rw[List.map_cons,List.map_cons]
  refine .cons ?_ ih
  obtain⟨h1,h2⟩:=h
  by_cases e:p.1=k
  .rw[if_pos e,if_pos (h1.symm.trans e)];exact⟨h1,ry⟩
  .rw[if_neg e,if_neg (fun z=>e (h1.trans z))];exact⟨h1,h2⟩
theorem KV.put {kvs:List (κ×V)} {vs:List (κ×Value)} (r:KV kvs vs) (k:κ) {y:V} {u:Value} (ry:RelV y u):KV (putK kvs k y) (stored vs k u):=by
 unfold putK stored
 rw[r.any k]
 by_cases e:(vs.any fun kv=>decide (kv.1=k))=true
 .rw[if_pos e,if_pos e];exact r.repl k ry
 .rw[if_neg e,if_neg e];exact Paired.snoc r ⟨rfl,ry⟩
theorem KV.keys {kvs:List (κ×V)} {vs:List (κ×Value)} (r:KV kvs vs):kvs.map (·.1)=vs.map (·.1):=by
 unfold KV at r
 induction r with
 |nil=>rfl
 |cons h t ih=>rw[List.map_cons,List.map_cons,ih,h.1]
theorem KV.length {kvs:List (κ×V)} {vs:List (κ×Value)} (r:KV kvs vs):kvs.length=vs.length:=Paired.length r
end
theorem kV_is {P:Program} {w:World} {k:Key} {u:Value} (r:RelV (kV k) u):(mixKind P w).is k u=true:=by
 cases k with
 |inl i=>obtain⟨t,e⟩:=(show ∃t,u=Value.int i t from r);subst e;exact mixKind_int P w i t
 |inr x=>obtain⟨t,e⟩:=(show ∃t,u=Value.str x t from r);subst e;exact mixKind_str P w x t
 |non=>obtain rfl:u=Value.none:=r;rfl
theorem items_are {P:Program} {w:World}:∀{ks:List Key} {us:List Value},Vals (ks.map kV) us->ItemsAre (mixKind P w) ks us
 | [],_,r=>by rw[List.map_nil]at r;cases r;exact .nil
 |k :: ks,_,r=>by
  rw[List.map_cons]at r
  cases r with
  |cons h t=>exact .cons (kV_is h) (items_are t)
noncomputable abbrev KT (H:Hp):List (List Key×V)->List (List Key×Addr×Value)->Prop:=Paired fun p q=>p.1=q.1/\H q.2.1=some (.tup (p.1.map kV))/\RelV p.2 q.2.2
theorem KT.val {H:Hp} {kvs:List (List Key×V)} {xs:List (List Key×Addr×Value)} (r:KT H kvs xs) (k:List Key):RelO (valV kvs k) ((atKey xs k).map (·.2)):=by
 induction r with
 |nil=>exact True.intro
 | @cons p q ps qs h t ih=>
  obtain⟨h1,_,h2⟩:=h
  by_cases e:p.1=k
  .have e':q.1=k:=h1.symm.trans e
   have b:atKey (q :: qs) k=some q.2:=by simp[atKey,List.find?_cons,e']
   rw[valV_pos e,b];exact h2
  .have e':¬q.1=k:=fun z=>e (h1.trans z)
   have b:atKey (q :: qs) k=atKey qs k:=by simp[atKey,List.find?_cons,e']
   rw[valV_neg e,b];exact ih
theorem KT.repl {H:Hp} {kvs:List (List Key×V)} {xs:List (List Key×Addr×Value)} (r:KT H kvs xs) (k:List Key) {y:V} {u:Value} (ry:RelV y u):
  KT H (kvs.map fun kv=>if kv.1=k then(kv.1,y)else kv) (xs.map (putAt k u)):=by
 induction r with
 |nil=>exact .nil
 | @cons p q ps qs h t ih=>
  rw[List.map_cons,List.map_cons]
  refine .cons ?_ ih
  obtain⟨h1,h2,h3⟩:=h
  unfold putAt
  by_cases e:p.1=k
  .rw[if_pos e,if_pos (h1.symm.trans e)];exact⟨h1,h2,ry⟩
  .rw[if_neg e,if_neg (fun z=>e (h1.trans z))];exact⟨h1,h2,h3⟩
theorem KT.put {H:Hp} {kvs:List (List Key×V)} {xs:List (List Key×Addr×Value)} (r:KT H kvs xs) (k:List Key) {b:Addr} {y:V} {u:Value} (hb:H b=some (.tup (k.map kV))) (ry:RelV y u):
  KT H (putK kvs k y) (storedH xs k b u):=by
 have e:(kvs.any fun kv=>decide (kv.1=k))=(atKey xs k).isSome:=by
  rw[valV_any,(r.val k).isSome_eq,Option.isSome_map]
 unfold putK storedH
 rw[e]
 by_cases q:(atKey xs k).isSome=true
 .rw[if_pos q,if_pos q];exact r.repl k ry
 .rw[if_neg q,if_neg q];exact Paired.snoc r ⟨rfl,hb,ry⟩
theorem KT.keeps {H H':Hp} {kvs:List (List Key×V)} {xs:List (List Key×Addr×Value)} (r:KT H kvs xs) (ht:∀b ys,H b=some (.tup ys)->H' b=some (.tup ys)):KT H' kvs xs:=
 Paired.mapP r fun _ _ z=>⟨z.1,ht _ _ z.2.1,z.2.2⟩
section
variable {P:Program} {w:World} {H:Hp} {h:Heap} {a:Addr}
theorem rd_of {u:HO} (ok:HOk P w H h) (e:Rd H a u):ObjOk P w H h a u:=e.ok ok
theorem dk_rd {kvs:List (Key×V)} (ok:HOk P w H h) (e:Rd H a (.dK kvs)):kvs.length<=sizeLine/\(a == sysModules)=false/\∃vs,KV kvs vs/\h.DictOf (mixKind P w) a vs:=
 show ObjOk P w H h a (.dK kvs) from rd_of ok e
theorem dk_of {kvs:List (Key×V)} (ok:HOk P w H h) (e:H a=some (.dK kvs)):kvs.length<=sizeLine/\(a == sysModules)=false/\∃vs,KV kvs vs/\h.DictOf (mixKind P w) a vs:=dk_rd ok (.inl e)
theorem key_of {ks:List Key} (ok:HOk P w H h) (e:H a=some (.tup (ks.map kV))):(tupleKind (mixKind P w)).is h ks a:=by
 obtain⟨_,its,r,o,h1,h2,⟨n,h3⟩,_⟩:=(show ObjOk P w H h a (.tup (ks.map kV)) from ok a _ e)
 exact⟨o,its.toArray,n,h1,h2,h3,by simpa using items_are r⟩
theorem dt_rd {kvs:List (List Key×V)} (ok:HOk P w H h) (e:Rd H a (.dT kvs)):kvs.length<=sizeLine/\(a == sysModules)=false/\
  ∃xs,KT H kvs xs/\h.DictOfH (tupleKind (mixKind P w)) a xs:=by
 obtain⟨z,y,xs,r,o,es,ep,h1,h2,h3,h4,h5⟩:=(show ObjOk P w H h a (.dT kvs) from rd_of ok e)
 refine⟨z,y,xs,r,o,es,ep,h1,h2,h3,h4,fun x hx=>?_,h5⟩
 have all:∀{l:List (List Key×V)} {m:List (List Key×Addr×Value)},KT H l m->∀x∈m,(tupleKind (mixKind P w)).is h x.1 x.2.1:=by
  intro l m q
  induction q with
  |nil=>intro x hx;exact nomatch hx
  | @cons p q ps qs hq t ih=>
   intro x hx
   rcases List.mem_cons.mp hx with e|hx
   .subst e
    exact key_of ok (by rw[<- hq.1];exact hq.2.1)
   .exact ih x hx
 exact all r x hx
theorem dt_of {kvs:List (List Key×V)} (ok:HOk P w H h) (e:H a=some (.dT kvs)):kvs.length<=sizeLine/\(a == sysModules)=false/\
  ∃xs,KT H kvs xs/\h.DictOfH (tupleKind (mixKind P w)) a xs:=dt_rd ok (.inl e)
end
def DGet (H:Hp) (a:Addr) (y:V) (r:Option V):Prop:=
 (∃kvs k,Rd H a (.dK kvs)/\y=kV k/\r=valV kvs k)\/∃kvs k b,Rd H a (.dT kvs)/\y=.ref b/\H b=some (.tup (k.map kV))/\r=valV kvs k
def DPut (H:Hp) (a:Addr) (y v:V) (H':Hp):Prop:=
 (∃kvs k,H a=some (.dK kvs)/\y=kV k/\kvs.length<sizeLine/\H'=upd H a (.dK (putK kvs k v)))\/
 ∃kvs k b,H a=some (.dT kvs)/\y=.ref b/\H b=some (.tup (k.map kV))/\kvs.length<sizeLine/\H'=upd H a (.dT (putK kvs k v))
theorem DGet.k {H:Hp} {a:Addr} {kvs:List (Key×V)} {k:Key} (e:H a=some (.dK kvs)):DGet H a (kV k) (valV kvs k):=.inl ⟨kvs,k,.inl e,rfl,rfl⟩
theorem DGet.t {H:Hp} {a b:Addr} {kvs:List (List Key×V)} {k:List Key} (e:H a=some (.dT kvs)) (eb:H b=some (.tup (k.map kV))):DGet H a (.ref b) (valV kvs k):=.inr ⟨kvs,k,b,.inl e,rfl,eb,rfl⟩
section
variable {X:Cx} {pins:List (Addr×Obj)} {σ:St} {H:Hp} {s:Shared} {a:Addr} {y v:V} {u r:Value} {o:Option V} {A:Around} {E:Value->Shared->Prop}
theorem Inv.big (I:Inv X pins σ H s):sysModules<s.heap.objs.size:=by
 have h:mainGlobals<s.heap.objs.size:=(I.mod.glob.keeps I.bk).lt
 exact Nat.lt_trans (by decide) h
theorem d_in {Q:Value->Shared->Prop} (hu:A.units+1<cLine) (I:Inv X pins σ H s) (g:DGet H a y o) (ry:RelV y u) (h:∀s',Inv X pins σ H s'->Q (.bool o.isSome) s'):
  wpAny (model X.prog X.w) A (compareOp .In u (.ref a)) Q E s:=by
 rcases g with⟨kvs,k,e,ey,l⟩|⟨kvs,k,b,e,ey,eb,l⟩
 .subst ey
  obtain⟨z,hd,vs,rel,dd⟩:=dk_rd I.hok e
  refine wpAny_in_of (kV_is ry) hd dd.mapOf ?_
  rw[<- (rel.val k).isSome_eq,<- l]
  exact h _ (I.tok _)
 .subst ey
  cases(show u=Value.ref b from ry)
  obtain⟨z,hd,xs,rel,dd⟩:=dt_rd I.hok e
  refine wpAny_in_heap (tupleKind_room_in1 hu) (key_of I.hok eb) hd dd ?_
  have q:=(rel.val k).isSome_eq
  rw[Option.isSome_map]at q
  rw[<- q,<- l]
  exact h _ (I.tok _)
theorem d_notIn {Q:Value->Shared->Prop} (hu:A.units+1<cLine) (I:Inv X pins σ H s) (g:DGet H a y o) (ry:RelV y u) (h:∀s',Inv X pins σ H s'->Q (.bool (!o.isSome)) s'):
  wpAny (model X.prog X.w) A (compareOp .NotIn u (.ref a)) Q E s:=by
 rcases g with⟨kvs,k,e,ey,l⟩|⟨kvs,k,b,e,ey,eb,l⟩
 .subst ey
  obtain⟨z,hd,vs,rel,dd⟩:=dk_rd I.hok e
  refine wpAny_notIn_of (kV_is ry) hd dd.mapOf ?_
  rw[<- (rel.val k).isSome_eq,<- l]
  exact h _ (I.tok _)
 .subst ey
  cases(show u=Value.ref b from ry)
  obtain⟨z,hd,xs,rel,dd⟩:=dt_rd I.hok e
  refine wpAny_notIn_heap (tupleKind_room_in1 hu) (key_of I.hok eb) hd dd ?_
  have q:=(rel.val k).isSome_eq
  rw[Option.isSome_map]at q
  rw[<- q,<- l]
  exact h _ (I.tok _)
end
section
variable {X:Cx} {pins:List (Addr×Obj)} {σ:St} {H:Hp} {s:Shared} {a:Addr} {kvs:List (Key×V)} {k:Key} {u:Value} {A:Around} {E:Value->Shared->Prop}
end
section
variable {X:Cx} {o i e value:Expr} {pos pos' tpos:Pos} {td ty tv:TE}
end
section
variable {X:Cx} {pos:Pos}
end
noncomputable def mergeK (kvs more:List (Key×V)):List (Key×V):=more.foldl (fun acc kv=>putK acc kv.1 kv.2) kvs
theorem KV.merge:∀{more:List (Key×V)} {rs:List (Key×Value)} {kvs:List (Key×V)} {vs:List (Key×Value)},KV more rs->KV kvs vs->KV (mergeK kvs more) (merged vs rs):=by
 intro more rs kvs vs r
 unfold KV at r
 induction r generalizing kvs vs with
 |nil=>intro q;exact q
 | @cons p q ps qs h t ih=>
  intro r0
  have e:KV (putK kvs p.1 p.2) (stored vs q.1 q.2):=by
   have:=r0.put p.1 h.2
   rw[<- h.1];exact this
  exact ih e
structure M1 (X:Cx) (o:Expr) (m:Str) (apos:Pos) (e:Expr) (cpos:Pos):Prop where
 base:attributeBase o m X.env (eval o X.env)=eval o X.env
 few:((backTo cpos (starEach [e] X.env)).all (fun x=>!x.1)&&(backToKw cpos (keywordEach [] X.env)).all (fun x=>x.1.isSome)
  && decide (([e]:List Expr).length+([]:List Keyword).length+(if([]:List Keyword).isEmpty then 0 else 1)<30))=true
 line:(apos.endLine == cpos.line)=true
 trees:backTo cpos (starEach [e] X.env)=[(false,eval e X.env)]
structure M2 (X:Cx) (o:Expr) (m:Str) (apos:Pos) (e f:Expr) (cpos:Pos):Prop where
 base:attributeBase o m X.env (eval o X.env)=eval o X.env
 few:((backTo cpos (starEach [e,f] X.env)).all (fun x=>!x.1)&&(backToKw cpos (keywordEach [] X.env)).all (fun x=>x.1.isSome)
  && decide (([e,f]:List Expr).length+([]:List Keyword).length+(if([]:List Keyword).isEmpty then 0 else 1)<30))=true
 line:(apos.endLine == cpos.line)=true
 trees:backTo cpos (starEach [e,f] X.env)=[(false,eval e X.env),(false,eval f X.env)]
def IsD (H:Hp) (a:Addr):Prop:=(∃kvs,Rd H a (.dK kvs))\/∃kvs,Rd H a (.dT kvs)
theorem isD_at {X:Cx} {pins:List (Addr×Obj)} {σ:St} {H:Hp} {s:Shared} {a:Addr} (I:Inv X pins σ H s) (d:IsD H a):
  s.TypeIs (.ref a) "dict"/\(∀b,Value.ref a=.ref b->∃ob,s.heap.get? b=some ob/\ob.dict=none)/\(a == sysModules)=false:=by
 rcases d with⟨kvs,e⟩|⟨kvs,e⟩
 .obtain⟨_,hd,vs,_,dd⟩:=dk_rd I.hok e
  refine⟨dd.typeIs,fun b q=>?_,hd⟩
  cases q
  obtain⟨ob,_,_,h1,h2,_⟩:=dd
  exact⟨ob,h1,h2.2.1⟩
 .obtain⟨_,hd,xs,_,dd⟩:=dt_rd I.hok e
  refine⟨dd.typeIs,fun b q=>?_,hd⟩
  cases q
  obtain⟨ob,_,_,h1,h2,_⟩:=dd
  exact⟨ob,h1,h2.2.1⟩
section
variable {X:Cx} {pins:List (Addr×Obj)} {σ:St} {H:Hp} {s:Shared} {a:Addr} {y d:V} {u r:Value} {o:Option V} {A:Around} {E:Value->Shared->Prop}
theorem d_get1 {Q:Value->Shared->Prop} (hu:A.units+1<cLine) (I:Inv X pins σ H s) (g:DGet H a y o) (ry:RelV y u) (h:∀w' s',Inv X pins σ H s'->RelV (o.getD .non) w'->Q w' s'):
  wpAny (model X.prog X.w) A (call (.builtin "dict.get") [.ref a,u]) Q E s:=by
 rcases g with⟨kvs,k,e,ey,l⟩|⟨kvs,k,b,e,ey,eb,l⟩
 .subst ey
  obtain⟨z,hd,vs,rel,dd⟩:=dk_rd I.hok e
  refine call_meetsIn PySem.F.slot_dict_get dd.typeIs PySem.F.entry_dict_get (PySem.F.args_dict_get_2 _ _) (meets_dict_get (mixKind X.prog X.w) a (kV_is ry) hd) ⟨_,dd.mapOf,h _ _ (I.tok _) ?_⟩
  rw[l]
  exact(rel.val k).getD rfl
 .subst ey
  cases(show u=Value.ref b from ry)
  obtain⟨z,hd,xs,rel,dd⟩:=dt_rd I.hok e
  refine call_meetsIn PySem.F.slot_dict_get dd.typeIs PySem.F.entry_dict_get (PySem.F.args_dict_get_2 _ _) (meetsH_dict_get (tupleKind (mixKind X.prog X.w)) a b hd) ⟨tupleKind_room_in1 hu,k,xs,key_of I.hok eb,dd,h _ _ (I.tok _) ?_⟩
  rw[l]
  exact(rel.val k).getD rfl
end
section
variable {X:Cx} {o e f:Expr} {apos cpos:Pos} {td ty tx:TE}
end
section
variable {X:Cx} {pins:List (Addr×Obj)} {σ:St} {H:Hp} {s:Shared} {a:Addr} {kvs:List (Key×V)} {A:Around} {E:Value->Shared->Prop}
end
section
variable {X:Cx} {pins:List (Addr×Obj)} {σ:St} {H:Hp} {s:Shared} {a:Addr} {y:V} {u:Value} {A:Around} {E:Value->Shared->Prop}
end
section
variable {X:Cx}
end
section
variable {κ:Type} [DecidableEq κ]
end
noncomputable def Itc (lo c:Int) (n:Nat):It:=⟨fun i _=>i<n,fun i H x H'=>H'=H/\x=.int (lo+i*c),fun i _=>n<=i⟩
section
variable {prog:Program} {w:World} {A:Around} {E:Value->Shared->Prop} {s:Shared}
end
section
variable {X:Cx} {tg:Expr}
noncomputable def nStep (i j c:Int):Nat:=if i<j then((j-i-1) / c+1).toNat else 0
noncomputable def rStep (i j c:Int):Nat:=if c=-1 then(i-j).toNat else nStep i j c
end
section
variable {X:Cx}
theorem and_one {i:Int} (h:0<=i):Builtin.bitAnd i 1=i % 2:=by
 rw[PyProof.Rows.bitAnd_pp h (by decide)]
 have e:(1:Int).toNat=1:=rfl
 rw[e,Nat.and_one_is_mod]
 omega
theorem op_and1:OpR X (binaryOp .BitAnd) (rI (fun i j=>0<=i/\j=1) fun i _=>.int (i % 2)):=by
 intro pins s σ H x y v u Q I rx ry h
 obtain⟨i,j,rfl,rfl,⟨h0,rfl⟩,q⟩:=h
 refine op_and pins s σ H _ _ v u Q I rx ry ⟨i,1,rfl,rfl,?_⟩
 have q':Q (.int (i % 2)) H:=q
 rw[<- and_one h0]at q'
 exact q'
noncomputable def inT (x y:Str):Bool:=!(Builtin.Str.occurrences x y 0 x.length 1).isEmpty
noncomputable def rInS (neg:Bool):R2:=fun x y H Q=>∃a b,x=.str a/\y=.str b/\Q (.bl (if neg then !inT b a else inT b a)) H
theorem op_inS:OpR X (compareOp .In) (rInS false):=by
 intro pins s σ H x y v u Q I rx ry h
 obtain⟨a,b,rfl,rfl,q⟩:=h
 obtain⟨t,rfl⟩:=rx
 obtain⟨t',rfl⟩:=ry
 exact in_str ⟨.bl _,H,I,rfl,q⟩
theorem op_notInS:OpR X (compareOp .NotIn) (rInS true):=by
 intro pins s σ H x y v u Q I rx ry h
 obtain⟨a,b,rfl,rfl,q⟩:=h
 obtain⟨t,rfl⟩:=rx
 obtain⟨t',rfl⟩:=ry
 have q':Q (.bl (!inT b a)) H:=q
 refine notIn_str ⟨.bl (!inT b a),H,I,?_,q'⟩
 show Value.bool _=Value.bool _
 simp[inT]
noncomputable def rBitLen:V->List V->Hp->VK->Prop:=fun x vs H Q=>∃i,x=.int i/\vs=[]/\Q (.int (Builtin.Int.intBits i)) H
theorem mt_bitlen:MtR X "int.bit_length" rBitLen:=by
 intro pins s σ H x vs v us Q I rx rv h
 obtain⟨i,rfl,rfl,q⟩:=h
 obtain⟨t,rfl⟩:=rx
 rw[rv.zero]
 exact call_int_bit_length ⟨.int _,H,I.tok _,⟨_,rfl⟩,q⟩
end
section
variable {X:Cx}
noncomputable def txGt (x y:Str):Bool:=decide (y.cps.toList<x.cps.toList)
noncomputable def rGtS:R2:=fun x y H Q=>∃a b,x=.str a/\y=.str b/\Q (.bl (txGt a b)) H
theorem op_gtS:OpR X (compareOp .Gt) rGtS:=by
 intro pins s σ H x y v u Q I rx ry h
 obtain⟨a,b,rfl,rfl,k⟩:=h
 obtain⟨t,rfl⟩:=rx
 obtain⟨t',rfl⟩:=ry
 exact PySem.P.gt_str ⟨.bl _,H,I,rfl,k⟩
noncomputable def dSc:V->Bool
 | .int _=>true
 | .str _=>true
 | .bl _=>true
 | .non=>true
 |_=>false
noncomputable def Dq (H:Hp):Nat->V->V->Prop
 |0,v,w=>v=w/\dSc v=true
 |n+1,v,w=>(v=w/\dSc v=true)\/∃a b xs ys,v=.ref a/\w=.ref b/\((H a=some (.lst xs)/\H b=some (.lst ys))\/(H a=some (.tup xs)/\H b=some (.tup ys)))/\xs.length=ys.length/\∀(i:Nat) x y,xs[i]?=some x->ys[i]?=some y->Dq H n x y
open PySem.SeqAt in
theorem dq_sc {A:Around} {s:Shared} {x:V} {u v:Value} (h:dSc x=true) (r1:RelV x u) (r2:RelV x v):EqAt A s u v true:=by
 have:=eqAt_of (A:=A) (s:=s) r1 r2 (.inl (by cases x<;>first|(cases h;done)|exact⟨rfl,fun b=>by intro z;cases z⟩))
 rw[decide_eq_true rfl]at this
 exact this
theorem all_true {n:Nat}:(List.range n).all (fun _=>true)=true:=by simp
theorem arr_at {its:List Value} {j:Nat} {u:Value} (e:its[j]?=some u) (h:j<its.toArray.size):its.toArray[j]=u:=by
 simp at h ⊢
 rw[List.getElem?_eq_getElem h]at e
 exact Option.some.inj e
open PySem.SeqAt in
theorem dq_items {n:Nat} {H:Hp} {A:Around} {s:Shared} {xs ys:List V} {its its2:List Value} (ih:∀x y u v,Dq H n x y->RelV x u->RelV y v->EqAt A.in1 s u v true) (hl:xs.length=ys.length) (r1:Vals xs its) (r2:Vals ys its2)
  (he:∀(i:Nat) x y,xs[i]?=some x->ys[i]?=some y->Dq H n x y):∀j (h1:j<its.toArray.size) (h2:j<its2.toArray.size),EqAt A.in1 s its.toArray[j] its2.toArray[j] ((fun _=>true) j):=by
 intro j h1 h2
 have l1:=r1.length
 have j1:j<xs.length:=by simp at h1;omega
 have j2:j<ys.length:=by omega
 have g1:xs[j]?=some xs[j]:=List.getElem?_eq_getElem j1
 have g2:ys[j]?=some ys[j]:=List.getElem?_eq_getElem j2
 obtain⟨u1,e1,ru1⟩:=r1.get g1
 obtain⟨u2,e2,ru2⟩:=r2.get g2
 rw[arr_at e1 h1,arr_at e2 h2]
 exact ih _ _ _ _ (he j _ _ g1 g2) ru1 ru2
open PySem.SeqAt in
theorem dq_at {pins:List (Addr×Obj)} {σ:L2.St} {H:Hp} {s:Shared} (I:Inv X pins σ H s):∀(n:Nat) (A:Around) (x y:V) (u v:Value),A.units+n<cLine->Dq H n x y->RelV x u->RelV y v->EqAt A s u v true:=by
 intro n
 induction n with
 |zero=>
  rintro A x y u v hu ⟨rfl,hs⟩ r1 r2
  exact dq_sc hs r1 r2
 |succ n ih=>
  rintro A x y u v hu h rx ry
  rcases h with⟨rfl,hs⟩|⟨a,b,xs,ys,rfl,rfl,hab,hl,he⟩
  .exact dq_sc hs rx ry
  cases rx
  cases ry
  by_cases hne:a=b
  .subst hne;exact EqAt.same _
  have ih':∀x y u v,Dq H n x y->RelV x u->RelV y v->EqAt A.in1 s u v true:=fun x y u v=>ih A.in1 x y u v (by show A.units+1+n<cLine;omega)
  rcases hab with⟨h1,h2⟩|⟨h1,h2⟩
  .obtain⟨its,r1,pl1,_⟩:=I.list (SqL.of h1)
   obtain⟨its2,r2,pl2,_⟩:=I.list (SqL.of h2)
   have l1:=r1.length
   have l2:=r2.length
   have:=RcAt.lists pl1.isList pl2.isList (by simp;omega) (by omega) (dq_items ih' hl r1 r2 he)
   rw[all_true]at this
   exact EqAt.of_refs hne this
  .obtain⟨its,r1,pl1,_⟩:=I.tuple (SqT.of h1)
   obtain⟨its2,r2,pl2,_⟩:=I.tuple (SqT.of h2)
   have l1:=r1.length
   have l2:=r2.length
   have:=RcAt.tuples pl1 pl2 (by omega) (dq_items ih' hl r1 r2 he)
   rw[all_true]at this
   have e:(true&&its.toArray.size == its2.toArray.size)=true:=by simp;omega
   rw[e]at this
   exact EqAt.of_refs hne this
noncomputable def rEqD (neg:Bool):R2:=fun x y H Q=>∃n,n<=8/\Dq H n x y/\(∃a b,x=.ref a/\y=.ref b)/\Q (.bl (!neg)) H
theorem Dq.open {H:Hp} {n:Nat} {a b:Addr} (h:Dq H n (.ref a) (.ref b)):∃m xs ys,n=m+1/\((H a=some (.lst xs)/\H b=some (.lst ys))\/(H a=some (.tup xs)/\H b=some (.tup ys)))/\xs.length=ys.length/\∀(i:Nat) x y,xs[i]?=some x->ys[i]?=some y->Dq H m x y:=by
 cases n with
 |zero=>exact(Bool.false_ne_true h.2).elim
 |succ m=>
  rcases h with⟨_,hs⟩|⟨a',b',xs,ys,e1,e2,hab,hl,he⟩
  .cases hs
  .cases e1;cases e2;exact⟨m,xs,ys,rfl,hab,hl,he⟩
open PySem.SeqAt in
theorem op_eqD (hu:X.A.units+64<cLine):OpR X (compareOp .Eq) (rEqD false):=by
 intro pins s σ H x y v u Q I rx ry h
 obtain⟨n,hn,hd,⟨a,b,rfl,rfl⟩,k⟩:=h
 cases rx
 cases ry
 obtain⟨m,xs,ys,rfl,hab,hl,he⟩:=hd.open
 have ih':∀x y u v,Dq H m x y->RelV x u->RelV y v->EqAt X.A.in1 s u v true:=fun x y u v=>dq_at I m X.A.in1 x y u v (by show X.A.units+1+m<cLine;omega)
 rcases hab with⟨h1,h2⟩|⟨h1,h2⟩
 .obtain⟨its,r1,pl1,_⟩:=I.list (SqL.of h1)
  obtain⟨its2,r2,pl2,_⟩:=I.list (SqL.of h2)
  have l1:=r1.length
  have l2:=r2.length
  refine eq_listAt pl1.isList pl2.isList (by simp;omega) (by omega) (dq_items ih' hl r1 r2 he) ?_
  rw[all_true]
  exact⟨.bl true,H,I,rfl,k⟩
 .obtain⟨its,r1,pl1,_⟩:=I.tuple (SqT.of h1)
  obtain⟨its2,r2,pl2,_⟩:=I.tuple (SqT.of h2)
  have l1:=r1.length
  have l2:=r2.length
  refine eq_tupleAt pl1 pl2 (by omega) (dq_items ih' hl r1 r2 he) ?_
  have e:(true&&its.toArray.size == its2.toArray.size)=true:=by simp;omega
  rw[all_true,e]
  exact⟨.bl true,H,I,rfl,k⟩
open PySem.SeqAt in
theorem op_neD (hu:X.A.units+64<cLine):OpR X (compareOp .NotEq) (rEqD true):=by
 intro pins s σ H x y v u Q I rx ry h
 obtain⟨n,hn,hd,⟨a,b,rfl,rfl⟩,k⟩:=h
 cases rx
 cases ry
 obtain⟨m,xs,ys,rfl,hab,hl,he⟩:=hd.open
 have ih':∀x y u v,Dq H m x y->RelV x u->RelV y v->EqAt X.A.in1 s u v true:=fun x y u v=>dq_at I m X.A.in1 x y u v (by show X.A.units+1+m<cLine;omega)
 have hend:EP X pins σ Q (Value.bool false) s:=⟨.bl false,H,I,rfl,k⟩
 rcases hab with⟨h1,h2⟩|⟨h1,h2⟩
 .obtain⟨its,r1,pl1,_⟩:=I.list (SqL.of h1)
  obtain⟨its2,r2,pl2,_⟩:=I.list (SqL.of h2)
  have l1:=r1.length
  have l2:=r2.length
  obtain⟨⟨cls,dd,data,sl⟩,ho,hc,n1,hd1⟩:=pl1.isList
  obtain⟨⟨cls2,dd2,data2,sl2⟩,ho2,hc2,n2,hd2⟩:=pl2.isList
  simp only at hc hd1 hc2 hd2
  subst hc hd1 hc2 hd2
  refine richCompare_meets_room (op:=.NotEq) ⟨_,ho,rfl⟩ ⟨_,ho2,rfl⟩ F.slot_list_ne F.entry_list_ne (F.args_list_ne_2 _ _) (list_neAt a b its.toArray its2.toArray n1 n2 dd dd2 sl sl2 (by simp;omega) (fun _=>true)) ⟨ho,ho2,dq_items ih' hl r1 r2 he,?_⟩ (by omega)
  rw[all_true]
  exact(show Value.bool false≠Value.notImplemented/\EP X pins σ Q (Value.bool false) s from⟨(fun x=>nomatch x),hend⟩)
 .obtain⟨its,r1,pl1,_⟩:=I.tuple (SqT.of h1)
  obtain⟨its2,r2,pl2,_⟩:=I.tuple (SqT.of h2)
  have l1:=r1.length
  have l2:=r2.length
  obtain⟨⟨cls,dd,data,sl⟩,ho,hc,n1,hd1⟩:=id pl1
  obtain⟨⟨cls2,dd2,data2,sl2⟩,ho2,hc2,n2,hd2⟩:=id pl2
  simp only at hc hd1 hc2 hd2
  subst hc hd1 hc2 hd2
  refine richCompare_meets_room (op:=.NotEq) ⟨_,ho,rfl⟩ ⟨_,ho2,rfl⟩ F.slot_tuple_ne F.entry_tuple_ne (F.args_tuple_ne_2 _ _) (tuple_neAt a b its.toArray its2.toArray n1 n2 dd dd2 sl sl2 (fun _=>true)) ⟨ho,ho2,dq_items ih' hl r1 r2 he,?_⟩ (by omega)
  have e:(true&&its.toArray.size == its2.toArray.size)=true:=by simp;omega
  rw[all_true,e]
  exact(show Value.bool false≠Value.notImplemented/\EP X pins σ Q (Value.bool false) s from⟨(fun x=>nomatch x),hend⟩)
end
end L2
namespace HT
open PySem PyProof.Rows
open PySem.SeqAt
open PySem.MeetsSeq PySem.MeetsSeq2 PySem.MeetsSeq3
section
variable {prog:Program} {w:World} {A:Around} {E:Value->Shared->Prop} {s:Shared}
theorem cat_tup0 {t b:Addr} {ws:List Value} {Q:Value->Shared->Prop} (ht:IsTup s.heap t #[]) (hb:IsTup s.heap b ws.toArray) (h0:Q (.ref b) s):wpAny (model prog w) A (binaryOp .Add (.ref t) (.ref b)) Q E s:=by
 obtain⟨⟨cls,dd,data,sl⟩,ho,hc,n,hd⟩:=id ht
 obtain⟨⟨cls2,dd2,data2,sl2⟩,ho2,hc2,n2,hd2⟩:=id hb
 simp only at hc hd hc2 hd2
 subst hc hd hc2 hd2
 exact concat_meets ⟨_,ho,rfl⟩ ⟨_,ho2,rfl⟩ noFill_tuple_add seq_tuple_add PySem.F.slot_tuple_add PySem.F.entry_tuple_add (PySem.F.args_tuple_add_2 _ _)
  (tuple_addW0 t b #[] ws.toArray n n2 dd dd2 sl sl2 rfl) ⟨ho,ho2,h0⟩
end
end HT
namespace L2
open PySem PySem.Spec PyProof.Rows
section
variable {X:Cx}
noncomputable def rCatT0 (K:W.Frag):R2:=fun x y H Q=>∃a b ys,x=.ref a/\y=.ref b/\SqT K H a []/\SqT K H b ys/\Q (.ref b) H
theorem op_catT0:OpR X (binaryOp .Add) (rCatT0 X.K):=by
 intro pins s σ H x y v u Q I rx ry h
 obtain⟨a,b,ys,rfl,rfl,ha,hb,q⟩:=h
 cases rx
 cases ry
 obtain⟨its,r1,p1,_⟩:=I.tuple ha
 obtain⟨its2,r2,p2,_⟩:=I.tuple hb
 have e:its=[]:=r1.nil_iff.mpr rfl
 subst e
 exact HT.cat_tup0 p1 p2 ⟨.ref b,H,I,rfl,q⟩
end
end L2
namespace L2
open PySem PySem.Spec PyProof.Rows PySem.Calls PySem.NumText
def B2 (x:PySem.Str) (n:Int):Prop:=(x.cps.all (· < 128))=true/\(x.cps.toList.takeWhile (· != 0)).length<=640/\(int_private% "readNumeral") 0 2 (x.cps.toList.takeWhile (· != 0))=(int_private% "Numeral.value") n/\((x.cps.toList.takeWhile (· != 0)).length == x.cps.toList.length)=true
theorem wp_text2 {M:Model} {A:Around} {E:Value->Shared->Prop} {s:Shared} {Q:Value->Shared->Prop} {v:Value} {text:List Nat} {n:Int}
  (hs:(text.takeWhile (· != 0)).length<=640) (hr:(int_private% "readNumeral") 0 2 (text.takeWhile (· != 0))=(int_private% "Numeral.value") n)
  (ha:((text.takeWhile (· != 0)).length == text.length)=true) (h:Q (.int n s.toks) { s with toks:=s.toks+1 }):
  wpAny M A ((int_private% "intFromText") v text 2) Q E s:=by
 obtain⟨hp,g,d,tk,os⟩:=s
 repeat (any_goals (first
  |assumption
  |(with_reducible refine wpAny_ite_true (decide_eq_true hs) ?_)
  |(with_reducible refine wpAny_ite_true (decide_eq_true ha) ?_)
  |wp_step))
 all_goals (try rw[hr])
 all_goals (try dsimp only)
 repeat (any_goals (first
  |assumption
  |(with_reducible refine wpAny_ite_true (decide_eq_true hs) ?_)
  |(with_reducible refine wpAny_ite_true (decide_eq_true ha) ?_)
  |wp_step))
set_option maxHeartbeats 4000000 in
theorem gives_text2 {x:PySem.Str} {u v:Tok} {n:Int} (hb:B2 x n):Gives (Builtin.«int.__new__» ⟨[.type "int",.str x u,.int 2 v],[]⟩) (.int n):=
 .of_wp fun M A E s Q h=>by
  obtain⟨hp,g,d,tk,os⟩:=s
  have f1:=F.conv_sub_int
  have f2:=F.madeHere_int
  have f6:typeOf (.str x u)=pure (.type "str"):=rfl
  have hk:=W.KIN.Hid.mk hb
  clear hb
  repeat (any_goals (first
   |assumption
   |((with_reducible show wpAny _ _ ((int_private% "intFromText") _ _ _) _ _ _);rw[if_pos hk.out.1];refine wp_text2 hk.out.2.1 hk.out.2.2.1 hk.out.2.2.2 ?_)
   |wp_step))
  all_goals first|exact⟨_,rfl,h⟩|skip
theorem typeCall_int_2 (a b:Value):checkTypeCall "int" ⟨[a,b],[]⟩=pure ():=by kernel_rfl
theorem newCall_int_2 (a b:Value):checkBuiltinCall "int.__new__" ⟨[.type "int",a,b],[]⟩=pure ():=by kernel_rfl
section
variable {X:Cx}
noncomputable def rInt2:List V->Hp->VK->Prop:=fun xs H Q=>∃x n,xs=[.str x,.int 2]/\B2 x n/\Q (.int n) H
theorem call_int2:CallR X (.type "int") rInt2:=by
 intro pins s σ H xs us Q I r h
 obtain⟨x,n,rfl,hb,q⟩:=h
 obtain⟨u,v,rfl,⟨t,rfl⟩,⟨t',rfl⟩⟩:=vals2 r
 exact callType_new F.called_int F.newNe_int (typeCall_int_2 _ _) (newCall_int_2 _ _) (fun obj=>F.args_object_init_3 obj _ _) F.entry_int_new (gives_text2 hb).meets (show(Made.int n).post _ s from⟨rfl,⟨.int n,H,I.tok _,⟨_,rfl⟩,q⟩⟩)
theorem call_intB:CallR X (.type "int") (fun xs H Q=>rInt xs H Q\/rInt2 xs H Q):=call_intA.or call_int2
end
section
variable {X:Cx}
end
end L2
namespace PySem
open PyProof.Rows
def Heap.IsRvd (h:Heap) (a t:Addr) (i:Int):Prop:=∃o,h.get? a=some o/\o.cls=.type "reversed"/\o.data=.fields #[.ref t,rawInt i]
theorem Heap.IsRvd.at {h h':Heap} {a t:Addr} {i:Int} (x:h.IsRvd a t i) (e:∀o,h.get? a=some o->h'.get? a=some o):h'.IsRvd a t i:=let⟨o,ho,r⟩:=x;⟨o,e _ ho,r⟩
section
variable {prog:Program} {w:World} {A:Around} {E:Value->Shared->Prop} {s:Shared}
theorem Heap.IsRvd.typeIs {a t:Addr} {i:Int} (x:s.heap.IsRvd a t i):s.TypeIs (.ref a) "reversed":=let⟨o,ho,hc,_⟩:=x;⟨o,ho,hc⟩
end
section
variable {prog:Program} {w:World} {A:Around} {E:Value->Shared->Prop} {s:Shared}
end
section
variable {prog:Program} {w:World} {A:Around} {E:Value->Shared->Prop} {s:Shared}
end
end PySem
namespace L2
open PySem PySem.Spec PyProof.Rows
section
variable {X:Cx}
end
end L2
namespace HT
open PySem PyProof.Rows
section
variable {prog:Program} {w:World} {A:Around} {E:Value->Shared->Prop} {s:Shared}
end
end HT
namespace L2
open PySem PySem.Spec PyProof.Rows
section
variable {X:Cx}
noncomputable def rSlW (K:W.Frag):V->Option Int->Option Int->Hp->VK->Prop:=fun x lo hi H Q=>∃a xs,x=.ref a/\SqT K H a xs/\(HT.sIx xs.length 0 lo=0/\HT.sIx xs.length xs.length hi=xs.length)/\Q (.ref a) H
noncomputable def tGint (K:W.Frag) (x:Str) (n:Int):TE:=fun _ H Q=>(∃t,W.nsIn K mainGlobals x=some (some (.int n t)))/\Q (.int n) H
theorem pe_gint {x:Str} {n:Int} {pos:Pos} (hg:Gl X x) (hd:(x == ("__debug__":Str))=false):PE X (.Name x pos) (tGint X.K x n):=by
 intro pins s σ H Q I h
 obtain⟨⟨t,e⟩,q⟩:=h
 exact ld_glob I hg (W.mg_of I.ok.mod.kin I.mod.glob e) ⟨.int n,H,I,⟨_,rfl⟩,q⟩ hd
end
section
variable {X:Cx} {pins:List (Addr×Obj)} {σ:St} {H:Hp} {s:Shared}
variable {X:Cx}
end
end L2
namespace HT
open PySem PyProof.Rows
section
variable {prog:Program} {w:World} {A:Around} {E:Value->Shared->Prop} {s:Shared}
end
end HT
namespace L2
open PySem PySem.Spec PyProof.Rows
section
variable {X:Cx} {e st:Expr} {te:TE} {p2 pos:Pos}
end
section
variable {prog:Program} {w:World} {A:Around} {E:Value->Shared->Prop} {s:Shared} {b0:Array Keyed} {κ:PyProof.Rows.KeyKind}
def Whole (b0:Array Keyed) (st:SortSt):Prop:=arrOf st=b0/\failedOf st=none/\pendingOf st=#[(0,b0.size,0)]
end
section
variable {X:Cx}
end
end L2
namespace L2
open PySem PySem.Spec PyProof.Rows PySem.SeqAt
def Ls1 (H:Hp) (v:V) (ns:List Int):Prop:=∃p,v=.ref p/\H p=some (.lst (ns.map V.int))
def LL (H:Hp) (a:Addr) (L:List (List Int)):Prop:=∃vs,H a=some (.lst vs)/\vs.length=L.length/\∀(i:Nat) v ns,vs[i]?=some v->L[i]?=some ns->Ls1 H v ns
section
variable {X:Cx} {pins:List (Addr×Obj)} {σ:L2.St} {H:Hp} {s:Shared}
noncomputable def rEqB (neg:Bool):R2:=fun x y H Q=>∃a b L M,x=.ref a/\y=.ref b/\LL H a L/\LL H b M/\Q (.bl (decide (L=M))) H
noncomputable def rNinB:R2:=fun x y H Q=>∃b L ns,Ls1 H x ns/\y=.ref b/\LL H b L/\Q (.bl (!decide (ns∈L))) H
end
section
variable {X:Cx}
end
theorem get_list {X:Cx}:PGet X (rIxL X.K):=by
 intro pins s σ H x y v u Q I rx ry h
 obtain⟨p,xs,i,z,rfl,rfl,hq,he,q⟩:=h
 cases rx
 obtain⟨t,rfl⟩:=ry
 obtain⟨its,r,pl,hz⟩:=I.list hq
 obtain⟨j,h1,h2,h3,h4,h5⟩:=atI_get he
 obtain⟨w,ew,rw'⟩:=r.get h2
 have hl:=r.length
 have hn:=line63
 have fin:EP X pins σ Q w s:=⟨z,H,I,rw',q⟩
 by_cases h0:0<=i
 .have hj:i.toNat=j:=by
   rw[seqIndex_of h0 h5]at h1
   exact Option.some.inj h1
  exact wpAny_getItem_list pl.isList h0 (by omega) (by rw[hj];simpa using ew) fin
 .have hj:(i+(its.toArray.size:Int)).toNat=j:=by
   rw[seqIndex_neg (by omega) h4]at h1
   rw[List.size_toArray,<- hl]
   exact Option.some.inj h1
  exact wpAny_getItem_list_neg pl.isList (by omega) (by rw[List.size_toArray]<;>omega) (by omega) (by rw[hj];simpa using ew) fin
noncomputable def rAnyI (K:W.Frag):List V->Hp->VK->Prop:=fun xs H Q=>∃(p:Addr) (ns:List Int),xs=[.ref p]/\SqL K H p (ns.map V.int)/\Q (.bl (ns.any fun n=>n != 0)) H
theorem int_get:∀{ns:List Int} {us:List Value} {i:Nat} {v:Value},Vals (ns.map V.int) us->us[i]?=some v->∃n t,ns[i]?=some n/\v=.int n t
 | [],us,i,v,h,e=>by rw[h.zero]at e;simp at e
 |n :: ns,_,0,v,.cons r t,e=>by
  obtain⟨t',r⟩:=r
  simp at e
  exact⟨n,t',rfl,by rw[<- e];exact r⟩
 |n :: ns,_,i+1,v,.cons r t,e=>by
  simp at e
  obtain⟨m,t',h1,h2⟩:=int_get t e
  exact⟨m,t',by simpa using h1,h2⟩
theorem call_anyI {X:Cx} (hc:X.calm=true):CallR X (.builtin "any") (rAnyI X.K):=by
 intro pins s σ H xs us Q I r h
 obtain⟨p,ns,rfl,hs,q⟩:=h
 obtain⟨u,rfl,ru⟩:=vals1 r
 cases ru
 obtain⟨its,rv,pl,hz⟩:=I.list hs
 have hlen:its.toArray.size=(ns.map fun n=>n != 0).length:=by
  have:=rv.length
  rw[List.length_map]at this
  rw[List.size_toArray,List.length_map,<- this]
 refine call_any_walk (wpAny_pyIter_list pl.isList ?_)
 have hlt:p<s.heap.objs.size:=by obtain⟨o,n,e,_⟩:=pl;exact Heap.lt_size e
 refine⟨s.heap.objs.size,_,_,_,_,_,fun i=>(ns.map fun n=>n != 0).getD i false,rfl,Walks.list (A:=X.A.in1) (I.ok.hd hc) _ p (Nat.ne_of_lt hlt) its.toArray,⟨⟨_,Heap.get?_push_size _ rfl,rfl,rfl⟩,Heap.IsList.push pl.isList _⟩,?_,fun h' tk hk=>?_⟩
 .intro i v s' Q' E' hv hq
  obtain⟨n,t,hb,rfl⟩:=int_get rv (i:=i) (by simpa using hv)
  have e:(ns.map fun n=>n != 0).getD i false=(n != 0):=by rw[List.getD_eq_getElem?_getD,List.getElem?_map,hb];rfl
  have hq':Q' ((ns.map fun n=>n != 0).getD i false) s':=hq
  rw[e]at hq'
  exact PySem.P.truthy_int hq'
 .rw[hlen,range_any]
  rw[show(ns.map fun n=>n != 0).any id=ns.any fun n=>n != 0 by rw[List.any_map];rfl]
  exact⟨.bl _,H,I.kept fun b o e=>hk b o (by simp;exact Nat.ne_of_lt (Heap.lt_size e)) (Heap.get?_push_of_some _ e),rfl,q⟩
def SqE (K:W.Frag) (H:Hp) (p:Addr) (xs:List V):Prop:=∃k:Bool,Sq k K H p xs
noncomputable def rAnyE (K:W.Frag):List V->Hp->VK->Prop:=fun xs H Q=>∃(p:Addr) (ns:List Int),xs=[.ref p]/\SqE K H p (ns.map V.int)/\Q (.bl (ns.any fun n=>n != 0)) H
noncomputable def rMinE (K:W.Frag):List V->Hp->VK->Prop:=fun xs H Q=>∃(p:Addr) (ns:List Int),xs=[.ref p]/\SqE K H p (ns.map V.int)/\ns≠[]/\∀M,M∈ns->(∀a∈ns,M<=a)->Q (.int M) H
theorem tup_it {s:Shared} {p:Addr} {items:Array Value} (pl:s.heap.IsTuple p items):p<s.heap.objs.size/\(∀o:Obj,(s.heap.push o).IsTuple p items):=⟨by obtain⟨o,e,_⟩:=pl;exact Heap.lt_size e,fun o=>Heap.IsTuple.push pl o⟩
theorem call_anyE {X:Cx} (hc:X.calm=true):CallR X (.builtin "any") (rAnyE X.K):=by
 intro pins s σ H xs us Q I r h
 obtain⟨p,ns,rfl,⟨k,hs⟩,q⟩:=h
 cases k with
 |false=>exact call_anyI hc pins s σ H _ us Q I r ⟨p,ns,rfl,hs,q⟩
 |true=>
  obtain⟨u,rfl,ru⟩:=vals1 r
  cases ru
  obtain⟨its,rv,pl,hz⟩:=I.tuple hs
  have pl:s.heap.IsTuple p its.toArray:=pl
  have hlen:its.toArray.size=(ns.map fun n=>n != 0).length:=by
   have:=rv.length
   rw[List.length_map]at this
   rw[List.size_toArray,List.length_map,<- this]
  refine call_any_walk (wpAny_pyIter_tuple pl ?_)
  obtain⟨hlt,hpush⟩:=tup_it pl
  refine⟨s.heap.objs.size,_,_,_,_,_,fun i=>(ns.map fun n=>n != 0).getD i false,rfl,Walks.tuple (A:=X.A.in1) (I.ok.hd hc) _ p (Nat.ne_of_lt hlt) its.toArray,⟨⟨_,Heap.get?_push_size _ rfl,rfl,rfl⟩,hpush _⟩,?_,fun h' tk hk=>?_⟩
  .intro i v s' Q' E' hv hq
   obtain⟨n,t,hb,rfl⟩:=int_get rv (i:=i) (by simpa using hv)
   have e:(ns.map fun n=>n != 0).getD i false=(n != 0):=by rw[List.getD_eq_getElem?_getD,List.getElem?_map,hb];rfl
   have hq':Q' ((ns.map fun n=>n != 0).getD i false) s':=hq
   rw[e]at hq'
   exact PySem.P.truthy_int hq'
  .rw[hlen,range_any]
   rw[show(ns.map fun n=>n != 0).any id=ns.any fun n=>n != 0 by rw[List.any_map];rfl]
   exact⟨.bl _,H,I.kept fun b o e=>hk b o (by simp;exact Nat.ne_of_lt (Heap.lt_size e)) (Heap.get?_push_of_some _ e),rfl,q⟩
theorem fp_lt {s:Shared} {p:Addr} {o:Obj} (hlt:p<s.heap.objs.size):∀b∈[s.heap.objs.size,p],b<(s.heap.push o).objs.size:=by
 intro b hb
 rw[Heap.size_push]
 simp only[List.mem_cons,List.not_mem_nil,or_false]at hb
 rcases hb with rfl|rfl
 .exact Nat.lt_succ_self _
 .exact Nat.lt_succ_of_lt hlt
theorem call_minE {X:Cx} (hc:X.calm=true):CallR X (.builtin "min") (rMinE X.K):=by
 intro pins s σ H xs us Q I r h
 obtain⟨p,ns,rfl,⟨k,hs⟩,hne,q⟩:=h
 cases k with
 |false=>exact call_minL hc pins s σ H _ us Q I r ⟨p,ns,rfl,hs,hne,q⟩
 |true=>
  obtain⟨u,rfl,ru⟩:=vals1 r
  cases ru
  obtain⟨its,rv,pl,hz⟩:=I.tuple hs
  have pl:s.heap.IsTuple p its.toArray:=pl
  have hi:=intsAre_of rv
  obtain⟨xs,e⟩:=hi.allInts.items
  have hns:ns=xs.toList.map (·.1):=by
   rw[<- hi.numsOf,<- nums_intItems,<- e]
  have hsz:0<xs.size:=by
   have h3:=List.length_pos_iff.mpr hne
   rw[hns,List.length_map,Array.length_toList]at h3
   exact h3
  rw[e]at pl
  obtain⟨hlt,hpush⟩:=tup_it pl
  refine call_min_walk (wpAny_pyIter_tuple pl ?_)
  refine⟨_,_,_,_,_,_,_,rfl,Walks.tuple (A:=X.A.in1) (I.ok.hd hc) _ p (Nat.ne_of_lt hlt) (intItems xs),⟨⟨_,Heap.get?_push_size _ rfl,rfl,rfl⟩,hpush _⟩,fp_lt hlt,by simpa[intItems]using hsz,CmpOf.ints_lt (numAt xs) (fun _ _=>intItems_at),fun v h' tk hv hk=>?_⟩
  rw[show(intItems xs).size=xs.size by simp[intItems]]at hv
  obtain⟨t,rfl⟩:=intItems_at hv
  obtain⟨h1,h2⟩:=argBest_lt (numAt xs) (xs.size-1)
  refine⟨.int _,H,I.kept (t':=tk) fun b o e=>hk b o (by simp;exact Nat.ne_of_lt (Heap.lt_size e)) (Heap.get?_push_of_some _ e),⟨t,rfl⟩,q _ ?_ fun a ha=>?_⟩
  .rw[hns,numAt_eq];exact getD_mem (by rw[List.length_map,Array.length_toList];omega)
  .rw[hns]at ha
   obtain⟨j,hj,rfl⟩:=mem_getD ha
   rw[List.length_map,Array.length_toList]at hj
   rw[<- numAt_eq];exact h2 j (by omega)
section
variable {X:Cx} {env:Env}
def Fr {α:Type} (t:Sem α):Prop:=∀(M:Model) (Γ:PySem.Ctx) (Q:α->Pos->Shared->Prop) (E:Value->Pos->Shared->Prop) (p:Pos) (s:Shared),Sem.wp M Γ t Q E p s->Sem.wp M Γ t (fun a p' s'=>1<=s'.toks/\Q a p' s') E p s
theorem Fr.bindL {α β:Type} {m:Sem α} {f:α->Sem β} (h:Fr m):Fr (m >>= f):=by
 intro M Γ Q E p s q
 rw[Sem.wp_bind']at q ⊢
 refine Sem.wp_mono M Γ m (fun a p' s' z=>?_) (fun _ _ _ z=>z) p s (h M Γ _ E p s q)
 exact Sem.wp_mono M Γ (f a) (fun _ _ _ z=>z) (fun _ _ _ z=>z.2) p' s' (Sem.wp_toks M Γ 1 (f a) Q E p' s' z.1 z.2)
theorem Fr.any {α:Type} {M:Model} {A:Around} {t:Sem α} {Q:α->Shared->Prop} {E:Value->Shared->Prop} {s:Shared} (h:Fr t) (q:wpAny M A t Q E s):wpAny M A t (fun a s'=>1<=s'.toks/\Q a s') E s:=fun Γ p hΓ=>h M Γ _ _ p s (q Γ p hΓ)
end
section
variable {X:Cx}
end
section
variable {prog:Program} {w:World} {A:Around} {E:Value->Shared->Prop} {s:Shared} {b0:Array Keyed} {κ:SortKind}
end
section
variable {X:Cx}
end
end L2
namespace So
open PySem PySem.Spec PyProof.Rows
noncomputable def gallop':Bool->Keyed->Array Keyed->Nat->Nat->Nat->StateT SortSt Sem (Option Nat):=sortPriv% PySem.Builtin.gallop
section
variable {M:Model} {A:Around} {E:Value->Shared->Prop} {s:Shared} {O:KeyOrd} {ky:Keyed->O.α} {P:Keyed->Prop} {kd:SortKind}
structure Cmp (M:Model) (A:Around) (E:Value->Shared->Prop) (s:Shared) (O:KeyOrd) (ky:Keyed->O.α) (P:Keyed->Prop) (kd:SortKind):Prop where
 lt:∀{x y:Keyed} {st:SortSt} {Q:Option Bool->SortSt->Prop},P x->P y->kindOf st=kd->Q (some (O.blt (ky x) (ky y))) st->wpS M A E s (lt' x y) Q st
theorem wpS_elem {a:Array Keyed} {i:Nat} {x:Keyed} {Q:Keyed->SortSt->Prop} {st:SortSt} (e:a[i]?=some x) (h:Q x st):wpS M A E s (elem' a i) Q st:=by
 rw[elem'_eq,e];exact wpS_pure h
end
end So
namespace So
open PySem PySem.Spec PyProof.Rows
structure Mg (R:Keyed->Keyed->Prop) (T o ra rb:List Keyed):Prop where
 pm:(o++(ra++rb)).Perm T
 so:o.Pairwise R
 sa:ra.Pairwise R
 sb:rb.Pairwise R
 oa:∀x∈o,∀y∈ra,R x y
 ob:∀x∈o,∀y∈rb,R x y
section
variable {R:Keyed->Keyed->Prop} {T o ra rb:List Keyed}
theorem Mg.swap (m:Mg R T o ra rb):Mg R T o rb ra:=⟨(List.Perm.append_left o List.perm_append_comm).trans m.pm,m.so,m.sb,m.sa,m.ob,m.oa⟩
theorem Mg.put {u:List Keyed} (m:Mg R T o (u++ra) rb) (h:∀y∈u,∀z∈rb,R y z):Mg R T (o++u) ra rb:=by
 have⟨s1,s2,s3⟩:=List.pairwise_append.mp m.sa
 refine⟨?_,List.pairwise_append.mpr ⟨m.so,s1,fun x hx y hy=>m.oa x hx y (List.mem_append_left _ hy)⟩,s2,m.sb,?_,?_⟩
 .have:=m.pm;simpa[List.append_assoc]using this
 .intro x hx y hy
  rcases List.mem_append.mp hx with hx|hx
  .exact m.oa x hx y (List.mem_append_right _ hy)
  .exact s3 x hx y hy
 .intro x hx y hy
  rcases List.mem_append.mp hx with hx|hx
  .exact m.ob x hx y hy
  .exact h x hx y hy
theorem Mg.put1 {u:Keyed} (m:Mg R T o (u :: ra) rb) (h:∀z∈rb,R u z):Mg R T (o++[u]) ra rb:=
 Mg.put (u:=[u]) m fun y hy=>by rw[List.mem_singleton]at hy;subst hy;exact h
theorem Mg.putB {u:List Keyed} (m:Mg R T o ra (u++rb)) (h:∀y∈u,∀z∈ra,R y z):Mg R T (o++u) ra rb:=(m.swap.put h).swap
theorem Mg.putB1 {u:Keyed} (m:Mg R T o ra (u :: rb)) (h:∀z∈ra,R u z):Mg R T (o++[u]) ra rb:=(m.swap.put1 h).swap
theorem Mg.fin (m:Mg R T o ra rb) (h:∀y∈ra,∀z∈rb,R y z):(o++(ra++rb)).Perm T/\(o++(ra++rb)).Pairwise R:=by
 refine⟨m.pm,List.pairwise_append.mpr ⟨m.so,List.pairwise_append.mpr ⟨m.sa,m.sb,h⟩,fun x hx y hy=>?_⟩⟩
 rcases List.mem_append.mp hy with hy|hy
 .exact m.oa x hx y hy
 .exact m.ob x hx y hy
end
end So
namespace So
open PySem PySem.Spec PyProof.Rows
section
variable {M:Model} {A:Around} {E:Value->Shared->Prop} {s:Shared} {O:KeyOrd} {ky:Keyed->O.α} {P:Keyed->Prop} {kd:SortKind}
def SameG (st st':SortSt):Prop:=kindOf st'=kindOf st/\arrOf st'=arrOf st/\pendingOf st'=pendingOf st/\failedOf st'=failedOf st
theorem SameG.rfl' (st:SortSt):SameG st st:=⟨rfl,rfl,rfl,rfl⟩
theorem SameG.trans {a b c:SortSt} (h:SameG a b) (g:SameG b c):SameG a c:=⟨g.1.trans h.1,g.2.1.trans h.2.1,g.2.2.1.trans h.2.2.1,g.2.2.2.trans h.2.2.2⟩
theorem SameG.set (st:SortSt) (m:Nat):SameG st (SortSt.mk' (kindOf st) (arrOf st) (pendingOf st) m (failedOf st)):=⟨rfl,rfl,rfl,rfl⟩
def Rk (O:KeyOrd) (ky:Keyed->O.α) (p q:Keyed):Prop:=O.kle (ky p) (ky q)
theorem at_some {a:Array Keyed} {i:Nat} (h:i<a.size):∃p,a[i]?=some p/\p∈a.toList:=⟨a[i],by simp,by simp⟩
theorem drop_at {a:Array Keyed} {i:Nat} {p:Keyed} (e:a[i]?=some p):a.toList.drop i=p :: a.toList.drop (i+1):=by
 have hi:i<a.size:=by
  rcases Nat.lt_or_ge i a.size with h|h
  .exact h
  .rw[Array.getElem?_eq_none h]at e;cases e
 have:a[i]=p:=by rw[Array.getElem?_eq_getElem hi]at e;exact Option.some.inj e
 rw[List.drop_eq_getElem_cons (by simpa using hi)]
 simp[this]
theorem list_extract (a:Array Keyed) (i j:Nat):(a.extract i j).toList=(a.toList.drop i).take (j-i):=by
 simp[Array.toList_extract,List.extract_eq_take_drop]
theorem list_rest (a:Array Keyed) (i:Nat):(a.extract i a.size).toList=a.toList.drop i:=by
 rw[list_extract,List.take_of_length_le];simp
theorem drop_k (l:List Keyed) (i k:Nat):l.drop i=(l.drop i).take k++l.drop (i+k):=by
 rw[<- List.drop_drop,List.take_append_drop]
theorem mem_take_at {a:Array Keyed} {i k:Nat} {p:Keyed} (h:p∈(a.toList.drop i).take k):∃n,n<k/\a[i+n]?=some p:=by
 obtain⟨n,hn,e⟩:=List.getElem_of_mem h
 have hl:n<k:=by simp at hn;omega
 refine⟨n,hl,?_⟩
 rw[List.getElem_take,List.getElem_drop]at e
 simp at hn
 rw[Array.getElem?_eq_getElem (by omega)]
 simpa using e
theorem mem_drop_at {a:Array Keyed} {i:Nat} {p:Keyed} (h:p∈a.toList.drop i):∃n,i<=n/\a[n]?=some p:=by
 obtain⟨n,hn,e⟩:=List.getElem_of_mem h
 refine⟨i+n,by omega,?_⟩
 rw[List.getElem_drop]at e
 simp at hn
 rw[Array.getElem?_eq_getElem (by omega)]
 simpa using e
theorem pw_at {R:Keyed->Keyed->Prop} {a:Array Keyed} (h:a.toList.Pairwise R) {i j:Nat} {p q:Keyed} (hij:i<j) (e:a[i]?=some p) (e2:a[j]?=some q):R p q:=by
 have hj:j<a.size:=by
  rcases Nat.lt_or_ge j a.size with h|h
  .exact h
  .rw[Array.getElem?_eq_none h]at e2;cases e2
 have h1:a[i]=p:=by rw[Array.getElem?_eq_getElem (by omega)]at e;exact Option.some.inj e
 have h2:a[j]=q:=by rw[Array.getElem?_eq_getElem hj]at e2;exact Option.some.inj e2
 have:=List.pairwise_iff_getElem.mp h i j (by simp;omega) (by simp;omega) hij
 simpa[h1,h2]using this
theorem up_at {a:Array Keyed} (h:a.toList.Pairwise (Rk O ky)) {i j:Nat} {p q:Keyed} (hij:i<=j) (e:a[i]?=some p) (e2:a[j]?=some q):O.kle (ky p) (ky q):=by
 by_cases g:i=j
 .subst g;rw[e]at e2;cases e2;exact KeyOrd.kle_refl _
 .exact pw_at h (by omega) e e2
end
end So
namespace So
open PySem PySem.Spec PyProof.Rows
section
variable {M:Model} {A:Around} {E:Value->Shared->Prop} {s:Shared} {O:KeyOrd} {ky:Keyed->O.α} {P:Keyed->Prop} {kd:SortKind} {x y:Array Keyed}
def Good (O:KeyOrd) (ky:Keyed->O.α) (x y r:Array Keyed):Prop:=r.toList.Perm (x.toList++y.toList)/\r.toList.Pairwise (Rk O ky)
def Wk (O:KeyOrd) (ky:Keyed->O.α) (x y o:Array Keyed) (i j:Nat):Prop:=Mg (Rk O ky) (x.toList++y.toList) o.toList (x.toList.drop i) (y.toList.drop j)/\i<=x.size/\j<=y.size
theorem Wk.dn {o:Array Keyed} {i j:Nat} (w:Wk O ky x y o i j) (e:j=y.size):Good O ky x y (o++x.extract i x.size++y.extract j y.size):=by
 subst e
 have:=w.1.fin (fun p _ q hq=>by rw[List.drop_eq_nil_of_le (by simp)]at hq;cases hq)
 unfold Good
 rw[Array.toList_append,Array.toList_append,list_rest,list_rest,List.append_assoc]
 exact this
theorem Wk.la {o:Array Keyed} {i j:Nat} (w:Wk O ky x y o i j) (e:i+1=x.size) (hl:∀p q,x[x.size-1]?=some p->q∈y.toList->O.klt (ky q) (ky p)):Good O ky x y (o++y.extract j y.size++x.extract i x.size):=by
 have:=w.1.swap.fin (fun q hq p hp=>by
  obtain⟨n,hn,e2⟩:=mem_drop_at hp
  have:n<x.size:=by
   rcases Nat.lt_or_ge n x.size with h|h
   .exact h
   .rw[Array.getElem?_eq_none h]at e2;cases e2
  have:n=x.size-1:=by omega
  subst this
  exact KeyOrd.kle_of_klt (hl p q e2 (List.mem_of_mem_drop hq)))
 unfold Good
 rw[Array.toList_append,Array.toList_append,list_rest,list_rest,List.append_assoc]
 exact this
theorem Wk.putB {o:Array Keyed} {i j:Nat} {p q:Keyed} (w:Wk O ky x y o i j) (e1:x[i]?=some p) (e2:y[j]?=some q) (h:O.kle (ky q) (ky p)) (hj:j<y.size) (sx:x.toList.Pairwise (Rk O ky)):Wk O ky x y (o.push q) i (j+1):=by
 refine⟨?_,w.2.1,hj⟩
 have m:=w.1
 rw[drop_at e2]at m
 rw[Array.toList_push]
 refine m.putB1 fun z hz=>?_
 obtain⟨n,hn,e3⟩:=mem_drop_at hz
 exact KeyOrd.kle_trans h (up_at sx hn e1 e3)
theorem Wk.putA {o:Array Keyed} {i j:Nat} {p q:Keyed} (w:Wk O ky x y o i j) (e1:x[i]?=some p) (e2:y[j]?=some q) (h:O.kle (ky p) (ky q)) (hi:i<x.size) (sy:y.toList.Pairwise (Rk O ky)):Wk O ky x y (o.push p) (i+1) j:=by
 refine⟨?_,hi,w.2.2⟩
 have m:=w.1
 rw[drop_at e1]at m
 rw[Array.toList_push]
 refine m.put1 fun z hz=>?_
 obtain⟨n,hn,e3⟩:=mem_drop_at hz
 exact KeyOrd.kle_trans h (up_at sy hn e2 e3)
theorem Wk.manyA {o:Array Keyed} {i j k:Nat} {q:Keyed} (w:Wk O ky x y o i j) (e2:y[j]?=some q) (h:∀n p,n<k->x[i+n]?=some p->O.kle (ky p) (ky q)) (hi:i+k<=x.size) (sy:y.toList.Pairwise (Rk O ky)):
  Wk O ky x y (o++x.extract i (i+k)) (i+k) j:=by
 refine⟨?_,hi,w.2.2⟩
 have m:=w.1
 rw[drop_k _ i k]at m
 rw[Array.toList_append,list_extract,Nat.add_sub_cancel_left]
 refine m.put fun p hp z hz=>?_
 obtain⟨n,hn,e3⟩:=mem_take_at hp
 obtain⟨n2,hn2,e4⟩:=mem_drop_at hz
 exact KeyOrd.kle_trans (h n p hn e3) (up_at sy hn2 e2 e4)
theorem Wk.manyB {o:Array Keyed} {i j k:Nat} {p:Keyed} (w:Wk O ky x y o i j) (e1:x[i]?=some p) (h:∀n q,n<k->y[j+n]?=some q->O.klt (ky q) (ky p)) (hj:j+k<=y.size) (sx:x.toList.Pairwise (Rk O ky)):
  Wk O ky x y (o++y.extract j (j+k)) i (j+k):=by
 refine⟨?_,w.2.1,hj⟩
 have m:=w.1
 rw[drop_k _ j k]at m
 rw[Array.toList_append,list_extract,Nat.add_sub_cancel_left]
 refine m.putB fun q hq z hz=>?_
 obtain⟨n,hn,e3⟩:=mem_take_at hq
 obtain⟨n2,hn2,e4⟩:=mem_drop_at hz
 exact KeyOrd.kle_trans (KeyOrd.kle_of_klt (h n q hn e3)) (up_at sx hn2 e1 e4)
end
end So
namespace So
open PySem PySem.Spec PyProof.Rows
noncomputable def dnH (x y o:Array Keyed) (i j:Nat):Array Keyed:=x.extract 0 i++y.extract 0 j++o.reverse
noncomputable def fbH (x y o:Array Keyed) (i j:Nat):Array Keyed:=y.extract 0 j++x.extract 0 i++o.reverse
noncomputable abbrev TG:Type:=Option (Array Keyed)×Nat×Nat×Array Keyed×Nat×Nat×Nat
noncomputable abbrev TI:Type:=Option (Array Keyed)×Nat×Nat×Array Keyed×Nat×Nat
noncomputable abbrev TO:Type:=Option (Array Keyed)×Nat×Nat×Array Keyed×Nat
noncomputable def hi3 (x y:Array Keyed) (i j:Nat) (o:Array Keyed) (mg ca cb:Nat):StateT SortSt Sem (ForInStep TG):=do
 let p <- elem' x (i-1)
 if(i-1 == 0)=true then pure (.done (some (dnH x y (o.push p) (i-1) j),i-1,j,o.push p,mg,ca,cb))
 else if(decide (ca<7)&&decide (cb<7))=true then pure (.done (none,i-1,j,o.push p,mg,ca,cb))else pure (.yield (none,i-1,j,o.push p,mg,ca,cb))
noncomputable def hi2 (x y:Array Keyed) (i j:Nat) (o:Array Keyed) (mg ca cb:Nat):StateT SortSt Sem (ForInStep TG):=do
 let q <- elem' y (j-1)
 if(j-1 == 1)=true then pure (.done (some (fbH x y (o.push q) i (j-1)),i,j-1,o.push q,mg,ca,cb))
 else do
  let p <- elem' x (i-1)
  let r <- gallop' true p y 0 (j-1) (j-1-1)
  match r with
  |some z=>
   if j-1-z > 0 then
    if(z == 1)=true then pure (.done (some (fbH x y (o.push q++(y.extract z (j-1)).reverse) i z),i,z,o.push q++(y.extract z (j-1)).reverse,mg,ca,j-1-z))
    else if(z == 0)=true then pure (.done (some (dnH x y (o.push q++(y.extract z (j-1)).reverse) i z),i,z,o.push q++(y.extract z (j-1)).reverse,mg,ca,j-1-z))
    else hi3 x y i z (o.push q++(y.extract z (j-1)).reverse) mg ca (j-1-z)
   else hi3 x y i (j-1) (o.push q) mg ca (j-1-z)
  |_=>pure (.done (some (dnH x y (o.push q) i (j-1)),i,j-1,o.push q,mg,ca,cb))
section
variable {M:Model} {A:Around} {E:Value->Shared->Prop} {s:Shared} {O:KeyOrd} {ky:Keyed->O.α} {P:Keyed->Prop} {kd:SortKind} {x y:Array Keyed}
theorem take_at {a:Array Keyed} {i:Nat} {p:Keyed} (e:a[i]?=some p):(a.toList.take (i+1)).reverse=p :: (a.toList.take i).reverse:=by
 have:a.toList[i]?=some p:=by simpa using e
 rw[List.take_add_one,this];simp
theorem list_begin (a:Array Keyed) (i:Nat):(a.extract 0 i).toList=a.toList.take i:=by rw[list_extract];simp
theorem take_k (l:List Keyed) {z i:Nat} (h:z<=i):(l.take i).reverse=((l.drop z).take (i-z)).reverse++(l.take z).reverse:=by
 rw[<- List.reverse_append]
 congr 1
 rw[<- List.take_append_drop z (l.take i),List.take_take,List.drop_take]
 congr 2
 omega
theorem mem_begin_at {a:Array Keyed} {i:Nat} {p:Keyed} (h:p∈(a.toList.take i).reverse):∃n,n<i/\a[n]?=some p:=by
 obtain⟨n,hn,e⟩:=mem_take_at (a:=a) (i:=0) (k:=i) (p:=p) (by simpa using h)
 exact⟨n,hn,by simpa using e⟩
def Wh (O:KeyOrd) (ky:Keyed->O.α) (x y o:Array Keyed) (i j:Nat):Prop:=Mg (fun p q=>Rk O ky q p) (x.toList++y.toList) o.toList (x.toList.take i).reverse (y.toList.take j).reverse/\i<=x.size/\j<=y.size
theorem Wh.dn {o:Array Keyed} {i j:Nat} (w:Wh O ky x y o i j) (e:i=0):Good O ky x y (x.extract 0 i++y.extract 0 j++o.reverse):=by
 subst e
 have⟨h1,h2⟩:=w.1.swap.fin (fun q _ p hp=>by simp at hp)
 unfold Good
 have e:(x.extract 0 0++y.extract 0 j++o.reverse).toList=(o.toList++((y.toList.take j).reverse++(x.toList.take 0).reverse)).reverse:=by
  rw[Array.toList_append,Array.toList_append,list_begin,list_begin];simp
 rw[e]
 exact⟨(List.reverse_perm _).trans h1,List.pairwise_reverse.mpr h2⟩
theorem Wh.putA {o:Array Keyed} {i j:Nat} {p:Keyed} (w:Wh O ky x y o (i+1) j) (e1:x[i]?=some p) (h:∀n q,n<j->y[n]?=some q->O.kle (ky q) (ky p)):Wh O ky x y (o.push p) i j:=by
 refine⟨?_,by have:=w.2.1;omega,w.2.2⟩
 have m:=w.1
 rw[take_at e1]at m
 rw[Array.toList_push]
 refine m.put1 fun z hz=>?_
 obtain⟨n,hn,e3⟩:=mem_begin_at hz
 exact h n z hn e3
theorem Wh.putB {o:Array Keyed} {i j:Nat} {q:Keyed} (w:Wh O ky x y o i (j+1)) (e2:y[j]?=some q) (h:∀n p,n<i->x[n]?=some p->O.kle (ky p) (ky q)):Wh O ky x y (o.push q) i j:=by
 refine⟨?_,w.2.1,by have:=w.2.2;omega⟩
 have m:=w.1
 rw[take_at e2]at m
 rw[Array.toList_push]
 refine m.putB1 fun z hz=>?_
 obtain⟨n,hn,e3⟩:=mem_begin_at hz
 exact h n z hn e3
theorem Wh.manyA {o:Array Keyed} {i j z:Nat} (w:Wh O ky x y o i j) (hz:z<=i) (h:∀n p m q,z<=n->n<i->x[n]?=some p->m<j->y[m]?=some q->O.kle (ky q) (ky p)):Wh O ky x y (o++(x.extract z i).reverse) z j:=by
 refine⟨?_,by have:=w.2.1;omega,w.2.2⟩
 have m:=w.1
 rw[take_k _ hz]at m
 rw[Array.toList_append,Array.toList_reverse,list_extract]
 refine m.put fun p hp q hq=>?_
 obtain⟨n,hn,e3⟩:=mem_take_at (List.mem_reverse.mp hp)
 obtain⟨n2,hn2,e4⟩:=mem_begin_at hq
 exact h _ p n2 q (by omega) (by omega) e3 hn2 e4
theorem Wh.manyB {o:Array Keyed} {i j z:Nat} (w:Wh O ky x y o i j) (hz:z<=j) (h:∀n q m p,z<=n->n<j->y[n]?=some q->m<i->x[m]?=some p->O.kle (ky p) (ky q)):Wh O ky x y (o++(y.extract z j).reverse) i z:=by
 refine⟨?_,w.2.1,by have:=w.2.2;omega⟩
 have m:=w.1
 rw[take_k _ hz]at m
 rw[Array.toList_append,Array.toList_reverse,list_extract]
 refine m.putB fun q hq p hp=>?_
 obtain⟨n,hn,e3⟩:=mem_take_at (List.mem_reverse.mp hq)
 obtain⟨n2,hn2,e4⟩:=mem_begin_at hp
 exact h _ q n2 p (by omega) (by omega) e3 hn2 e4
end
end So
namespace So
open PySem PySem.Spec PyProof.Rows
section
variable {M:Model} {A:Around} {E:Value->Shared->Prop} {s:Shared} {O:KeyOrd} {ky:Keyed->O.α} {P:Keyed->Prop} {kd:SortKind}
end
end So
namespace So
open PySem PySem.Spec PyProof.Rows
section
variable {M:Model} {A:Around} {E:Value->Shared->Prop} {s:Shared} {O:KeyOrd} {ky:Keyed->O.α} {P:Keyed->Prop} {kd:SortKind} {st0:SortSt} {lo nrem:Nat}
noncomputable def ke (ky:Keyed->O.α) (a:Array Keyed) (i:Nat):O.α:=ky ((a[i]?).getD (Value.none,Value.none))
theorem ke_at {a:Array Keyed} {i:Nat} {p:Keyed} (h:a[i]?=some p):ke ky a i=ky p:=by unfold ke;rw[h];rfl
structure Sb (st0:SortSt) (lo:Nat) (st:SortSt):Prop where
 perm:(arrOf st).Perm (arrOf st0)
 same:∀i,i<lo->(arrOf st)[i]?=(arrOf st0)[i]?
 kind:kindOf st=kindOf st0
 fail:failedOf st=failedOf st0
 pend:pendingOf st=pendingOf st0
theorem Sb.rfl' (st0:SortSt) (lo:Nat):Sb st0 lo st0:=⟨Array.Perm.refl _,fun _ _=>rfl,rfl,rfl,rfl⟩
theorem Sb.size {st:SortSt} (B:Sb st0 lo st):(arrOf st).size=(arrOf st0).size:=B.perm.size_eq
theorem Sb.lt (C:Cmp M A E s O ky P kd) {st:SortSt} {i j:Nat} {Q:Option Bool->SortSt->Prop} (kst:kindOf st0=kd) (pa:∀p∈(arrOf st0).toList,P p) (B:Sb st0 lo st) (hi:i<(arrOf st0).size) (hj:j<(arrOf st0).size)
  (h:Q (some (O.blt (ke ky (arrOf st) i) (ke ky (arrOf st) j))) st):wpS M A E s (ltAt' i j) Q st:=by
 obtain⟨p,ep,mp⟩:=at_some (a:=arrOf st) (i:=i) (by rw[B.size];exact hi)
 obtain⟨q,eq,mq⟩:=at_some (a:=arrOf st) (i:=j) (by rw[B.size];exact hj)
 have pm:=Array.perm_iff_toList_perm.mp B.perm
 rw[ltAt'_eq]
 refine wpS_bind (wpS_get ?_)
 refine wpS_bind (wpS_elem ep (wpS_bind (wpS_elem eq (C.lt (pa p (pm.mem_iff.mp mp)) (pa q (pm.mem_iff.mp mq)) (B.kind.trans kst) ?_))))
 rw[ke_at ep,ke_at eq]at h
 exact h
def Si (ky:Keyed->O.α) (lo:Nat) (a:Array Keyed) (n:Nat):Prop:=∀i j,i<=j->j<n->O.kle (ke ky a (lo+i)) (ke ky a (lo+j))
def Ni (ky:Keyed->O.α) (lo:Nat) (a:Array Keyed) (n:Nat):Prop:=∀i j,i<=j->j<n->O.kle (ke ky a (lo+j)) (ke ky a (lo+i))
theorem Si.more {a:Array Keyed} {n:Nat} (h:Si ky lo a n) (h1:1<=n) (g:O.kle (ke ky a (lo+(n-1))) (ke ky a (lo+n))):Si ky lo a (n+1):=by
 intro i j hij hj
 by_cases c:j<n
 .exact h i j hij c
 .have e:j=n:=by omega
  subst e
  by_cases c2:i=j
  .subst c2;exact KeyOrd.kle_refl _
  .exact KeyOrd.kle_trans (h i (j-1) (by omega) (by omega)) g
theorem Ni.more {a:Array Keyed} {n:Nat} (h:Ni ky lo a n) (h1:1<=n) (g:O.kle (ke ky a (lo+n)) (ke ky a (lo+(n-1)))):Ni ky lo a (n+1):=by
 intro i j hij hj
 by_cases c:j<n
 .exact h i j hij c
 .have e:j=n:=by omega
  subst e
  by_cases c2:i=j
  .subst c2;exact KeyOrd.kle_refl _
  .exact KeyOrd.kle_trans g (h i (j-1) (by omega) (by omega))
end
end So
namespace So
open PySem PySem.Spec PyProof.Rows
section
variable {M:Model} {A:Around} {E:Value->Shared->Prop} {s:Shared} {O:KeyOrd} {ky:Keyed->O.α} {P:Keyed->Prop} {kd:SortKind} {st0:SortSt} {lo nrem:Nat}
end
end So
namespace So
open PySem PySem.Spec PyProof.Rows
section
variable {M:Model} {A:Around} {E:Value->Shared->Prop} {s:Shared} {O:KeyOrd} {ky:Keyed->O.α} {P:Keyed->Prop} {kd:SortKind} {st0:SortSt} {lo nrem:Nat}
inductive Rn (R:Keyed->Keyed->Prop):List (Nat×Nat×Nat)->List (List Keyed)->Nat->Prop
 |nil (a:Nat):Rn R [] [] a
 |cons {a:Nat} (w:Nat) {l:List Keyed} {p:List (Nat×Nat×Nat)} {L:List (List Keyed)}:0<l.length->l.Pairwise R->Rn R p L (a+l.length)->Rn R ((a,l.length,w) :: p) (l :: L) a
theorem Rn.len {R:Keyed->Keyed->Prop}:∀{p:List (Nat×Nat×Nat)} {L:List (List Keyed)} {a:Nat},Rn R p L a->p.length=L.length/\L.length<=L.flatten.length
 |_,_,_,.nil _=>⟨rfl,Nat.le_refl _⟩
 |_,_,_,.cons w h0 hs r=>by
  have⟨h1,h2⟩:=r.len
  refine⟨by simp[h1],?_⟩
  simp only[List.length_cons,List.flatten_cons,List.length_append];omega
theorem Rn.push {R:Keyed->Keyed->Prop} {l:List Keyed} (h0:0<l.length) (hs:l.Pairwise R):∀{p:List (Nat×Nat×Nat)} {L:List (List Keyed)} {a:Nat},Rn R p L a->∀b,b=a+L.flatten.length->Rn R (p++[(b,l.length,0)]) (L++[l]) a
 |_,_,a,.nil _,b,e=>by
  have:b=a:=by simpa using e
  subst this
  exact .cons 0 h0 hs (.nil _)
 |_,_,a,.cons w g0 gs r,b,e=>.cons w g0 gs (r.push h0 hs b (by rw[e,List.flatten_cons,List.length_append];omega))
theorem Rn.merge {R:Keyed->Keyed->Prop} {su nu pw sv nv pv:Nat}:∀{p:List (Nat×Nat×Nat)} {L:List (List Keyed)} {a i:Nat},Rn R p L a->p[i]?=some (su,nu,pw)->p[i+1]?=some (sv,nv,pv)->
  ∃L1 l1 l2 L2,L=L1++l1 :: l2 :: L2/\su=a+L1.flatten.length/\nu=l1.length/\sv=su+nu/\nv=l2.length/\0<nu/\0<nv/\l1.Pairwise R/\l2.Pairwise R/\
   ∀m,m.length=nu+nv->m.Pairwise R->Rn R ((p.set i (su,nu+nv,pw)).eraseIdx (i+1)) (L1++m :: L2) a
 |_,_,a,i,.nil _,e,_=>by simp at e
 |_,_,a,0,@Rn.cons _ _ w l p L h0 hs r,e,e2=>by
  have e':(a,l.length,w)=(su,nu,pw):=by simpa using e
  have e2':p[0]?=some (sv,nv,pv):=by simpa using e2
  obtain⟨rfl,rfl,rfl⟩:a=su/\l.length=nu/\w=pw:=by simpa using e'
  cases r with
  |nil _=>simp at e2'
  | @cons _ w2 l2 p2 L2 g0 gs r2=>
   obtain⟨rfl,rfl,rfl⟩:a+l.length=sv/\l2.length=nv/\w2=pv:=by simpa using e2'
   refine⟨[],l,l2,L2,rfl,by simp,rfl,rfl,rfl,h0,g0,hs,gs,fun m hm hsm=>?_⟩
   show Rn R ((a,l.length+l2.length,w) :: p2) (m :: L2) a
   rw[<- hm]
   refine .cons w (by omega) hsm ?_
   rw[hm,<- Nat.add_assoc];exact r2
 |_,_,a,i+1,@Rn.cons _ _ w l p L h0 hs r,e,e2=>by
  have e':p[i]?=some (su,nu,pw):=by simpa using e
  have e2':p[i+1]?=some (sv,nv,pv):=by simpa using e2
  obtain⟨L1,l1,l2,L2,rfl,a1,a2,a3,a4,a5,a6,a7,a8,a9⟩:=r.merge e' e2'
  refine⟨l :: L1,l1,l2,L2,rfl,by rw[a1,List.flatten_cons,List.length_append];omega,a2,a3,a4,a5,a6,a7,a8,fun m hm hsm=>?_⟩
  have:=a9 m hm hsm
  exact .cons w h0 hs this
structure Wt (O:KeyOrd) (ky:Keyed->O.α) (kd:SortKind) (a0:Array Keyed) (st:SortSt) (L:List (List Keyed)) (T:List Keyed):Prop where
 ar:(arrOf st).toList=L.flatten++T
 rn:Rn (Rk O ky) (pendingOf st).toList L 0
 pm:(arrOf st).toList.Perm a0.toList
 kd:kindOf st=kd
 fl:failedOf st=none
theorem Wt.size {a0:Array Keyed} {st:SortSt} {L:List (List Keyed)} {T:List Keyed} (w:Wt O ky kd a0 st L T):(arrOf st).size=a0.size:=by
 have:=w.pm.length_eq;simpa using this
theorem Wt.pa {a0:Array Keyed} {st:SortSt} {L:List (List Keyed)} {T:List Keyed} (w:Wt O ky kd a0 st L T) (pa:∀p∈a0.toList,P p):∀p∈(arrOf st).toList,P p:=fun p hp=>pa p (w.pm.mem_iff.mp hp)
theorem Sb.split {U T:List Keyed} {st:SortSt} {n:Nat} (B:Sb st0 lo st) (e:(arrOf st0).toList=U++T) (hl:U.length=lo) (hn:lo+n<=(arrOf st0).size) (S:Si ky lo (arrOf st) n):
  ∃l T',(arrOf st).toList=U++(l++T')/\l.length=n/\l.Pairwise (Rk O ky):=by
 have hz:(arrOf st).toList.length=(arrOf st0).size:=by rw[Array.length_toList];exact B.size
 have eU:(arrOf st).toList.take lo=U:=by
  apply List.ext_getElem?
  intro i
  by_cases hi:i<lo
  .rw[List.getElem?_take_of_lt hi]
   have h1:=B.same i hi
   have h2:(arrOf st0).toList[i]?=U[i]?:=by rw[e,List.getElem?_append_left (by omega)]
   rw[<- h2];simpa using h1
  .rw[List.getElem?_eq_none (by rw[List.length_take];omega),List.getElem?_eq_none (by omega)]
 refine⟨((arrOf st).toList.drop lo).take n,(arrOf st).toList.drop (lo+n),?_,by rw[List.length_take,List.length_drop];omega,?_⟩
 .rw[<- eU,<- drop_k,List.take_append_drop]
 .rw[List.pairwise_iff_getElem]
  intro i j hi hj hij
  have hj':j<n:=by rw[List.length_take]at hj;omega
  have:=S i j (by omega) hj'
  have a1:(arrOf st)[lo+i]?=some (((arrOf st).toList.drop lo).take n)[i]:=by
   rw[List.getElem_take,List.getElem_drop,Array.getElem?_eq_getElem (by simp at hz;omega)];simp
  have a2:(arrOf st)[lo+j]?=some (((arrOf st).toList.drop lo).take n)[j]:=by
   rw[List.getElem_take,List.getElem_drop,Array.getElem?_eq_getElem (by simp at hz;omega)];simp
  rw[ke_at a1,ke_at a2]at this
  exact this
end
end So
namespace L2
open PySem PySem.Spec PyProof.Rows So
section
variable {prog:Program} {w:World} {A:Around} {E:Value->Shared->Prop} {s:Shared}
end
section
variable {X:Cx}
end
noncomputable abbrev Itm:Type:=Int ⊕ PySem.Str
noncomputable def itIs:Itm->Value->Prop
 | .inl i,v=>∃t,v=.int i t
 | .inr x,v=>∃t,v=.str x t
inductive ItsAre:List Value->List Itm->Prop
 |nil:ItsAre [] []
 |cons {v:Value} {a:Itm} {vs:List Value} {l:List Itm}:itIs a v->ItsAre vs l->ItsAre (v :: vs) (a :: l)
theorem ItsAre.len:∀{vs:List Value} {l:List Itm},ItsAre vs l->vs.length=l.length
 |_,_,.nil=>rfl
 |_,_,.cons _ r=>by simp[r.len]
section
variable {prog:Program} {w:World} {A:Around} {E:Value->Shared->Prop} {s:Shared}
end
section
variable {X:Cx}
end
section
variable {prog:Program} {w:World} {A:Around} {E:Value->Shared->Prop} {s:Shared}
end
def Fz (H:Hp) (d:Addr) (o:Obj):Prop:=∃u,H d=some (.frz o u)
theorem Fz.at {P:Program} {w:World} {H:Hp} {h:Heap} {d:Addr} {o:Obj} (f:Fz H d o) (x:HOk P w H h):h.get? d=some o:=let⟨u,e⟩:=f;(x d _ e).1
section
variable {X:Cx} {tg:Expr}
theorem HOk.freeze {P:Program} {w:World} {H:Hp} {h:Heap} {d:Addr} {u:HO} {o:Obj} (x:HOk P w H h) (e:H d=some u) (hu:Mut (some u)) (ho:h.get? d=some o):HOk P w (upd H d (.frz o u)) h:=fun b v q=>by
 have ntup:∀c xs,H c=some (.tup xs)->c≠d:=fun c xs r z=>by subst z;rw[r]at e;cases e;exact hu
 have nown:∀c y,H c=some (.own y)->c≠d:=fun c y r z=>by subst z;rw[r]at e;cases e;exact hu
 have st:∀a v,ObjOk P w H h a v->ObjOk P w (upd H d (.frz o u)) h a v:=fun a v y=>y.stay (fun _ _ _ q=>q) (fun c r=>by rw[upd_ne (nown c a r)];exact r) fun c xs r=>by rw[upd_ne (ntup c xs r)];exact r
 by_cases hb:b=d
 .subst hb;rw[upd_same]at q;cases q;exact⟨ho,st _ _ (x _ _ e)⟩
 .rw[upd_ne hb]at q;exact st _ _ (x b v q)
theorem Inv.freeze {pins:List (Addr×Obj)} {σ:St} {H:Hp} {s:Shared} {d:Addr} {u:HO} {o:Obj} (I:Inv X pins σ H s) (e:H d=some u) (hu:Mut (some u)) (ho:s.heap.get? d=some o):Inv X pins σ (upd H d (.frz o u)) s:=by
 have:=I.step (h':=s.heap) (g':=s.gens) (d':=s.drawn) (t':=s.toks) (ch:=[]) (H':=upd H d (.frz o u)) (fun _ z=>nomatch z) (fun b o _ _ _ q _=>q) (fun b o _ _ _ q _=>⟨o.slots,q⟩)
  (fun b o _ _ n=>by rw[upd_ne (fun z=>by subst z;rw[n]at e;cases e)];exact n) (fun b o _ q=>⟨o,q⟩)
  (fun b xs q=>by rw[upd_ne (fun z=>by subst z;rw[q]at e;cases e;exact hu)];exact q)
  (fun b o v q=>by rw[upd_ne (fun z=>by subst z;rw[q]at e;cases e;exact hu)];exact q)
  (fun b ps q=>⟨#[],by rw[upd_ne (fun z=>by subst z;rw[q]at e;cases e;exact hu),Array.append_empty];exact q⟩)
  (fun m n=>n) (I.hok.freeze e hu ho) I.bare
 exact this
end
section
variable {X:Cx} {pos:Pos}
noncomputable def gSeq (K:W.Frag) (n:Nat) (t:TGs):TG:=fun v σ H Q=>∃a xs,v=.ref a/\(SqT K H a xs\/SqL K H a xs)/\xs.length=n/\t xs σ H Q
theorem pg_seq {es:List Expr} {k:Nat} {t:TGs} {n:Nat} (hc:X.calm=true) (h:PGs X es t)
  (hn:(assignEach es X.env).length=n:=by rfl) (hst:(assignEach es X.env).findIdx? (·.1)=none:=by rfl):PG X (.Tuple es k pos) (gSeq X.K n t):=by
 intro pins s σ H v u Q I r hw
 obtain⟨a,xs,e1,hq,hl,hw⟩:=hw
 rcases hq with hq|hq
 .exact pg_tup hc h hn hst pins s σ H v u Q I r ⟨a,xs,e1,hq,hl,hw⟩
 .subst e1
  cases r
  obtain⟨its,rv,pl,hz⟩:=I.list hq
  rw[assign_Tuple]
  refine wpAny_bind (wpAny_standAt ?_)
  unfold unpack
  rw[hn,hst]
  have e:n=its.toArray.size:=by simp[<- hl,rv.length]
  rw[e]
  refine wpAny_bind (wpAny_holding (W.kun_itemsOf (I.ok.hd hc) pl.isList fun h' hx=>?_))
  have I1:Inv X pins σ H { s with heap:=h' }:=I.kept (t':=s.toks) fun b o e=>hx b o (Nat.ne_of_lt (Heap.lt_size e)) e
  exact h pins _ σ H xs _ Q I1 (by simpa using rv) hw
end
section
variable {prog:Program} {w:World} {A:Around} {E:Value->Shared->Prop} {s:Shared} {K:Type} [DecidableEq K] {knd:HeapKind prog w K} {d:Addr}
end
section
variable {X:Cx}
end
end L2
namespace PySem
def Rsn (xs:Array Nat):Prop:=xs.toList.Pairwise (· < ·)
end PySem
namespace PySem
section
variable {prog:Program} {w:World} {K:Type} [DecidableEq K] (knd:KeyKind prog w K)
variable {knd}
variable {A:Around} {E:Value->Shared->Prop} {s:Shared}
end
end PySem
namespace L2
open PySem PySem.Spec PyProof.Rows
noncomputable def less1 (h:Heap) (a:Addr):Heap:=h.update a fun o=>{ o with data:=.freed }
noncomputable def less (h:Heap) (S:List Addr):Heap:=S.foldl less1 h
def ExcT (h:Heap) (e:Addr) (cls:Value) (T:Addr):Prop:=∃oe vs oT ts a0,h.get? e=some oe/\(oe.cls=cls/\vs[0]?=some a0)/\oe.data=.fields vs/\vs[1]?=some (.ref T)/\T≠e/\h.get? T=some oT/\oT.data=.fields ts/\ts[3]?=some .none
structure LeftX (F S:List Addr) (e:Addr) (cls:Value) (h h':Heap):Prop where
 keep:∀b o,b∉F->b∉S->h.get? b=some o->h'.get? b=some o
 slot:∀b o,b∈F->h.get? b=some o->∃sl,h'.get? b=some { o with slots:=sl }
 there:∀b o,b∉S->h.get? b=some o->∃o',h'.get? b=some o'
 exc:∃T,(h.get? T=none\/T∈S)/\ExcT h' e cls T
section
variable {M:Model} {A:Around} {E:Value->Shared->Prop} {s:Shared}
end
structure FnCx (X:Cx):Prop where
 ex:X.ex=[]
 fn:∀x,X.fn x=true
 stk:X.stack=X.env :: X.outer
 fr:X.env.frame=some X.env.locals
theorem FnCx.frs {X:Cx} (F:FnCx X):L2.frs X.stack=X.env.locals :: X.fs:=by
 rw[F.stk]
 show List.filterMap _ _=_
 rw[List.filterMap_cons,F.fr]
 rfl
section
variable {X:Cx} {pins:List (Addr×Obj)} {σ:St} {H:Hp} {s:Shared}
theorem Inv.left {S:List Addr} {e:Addr} {cls:Value} {h2:Heap} (I:Inv X pins σ H s) (F:FnCx X) (L:LeftX (frs X.stack) S e cls s.heap h2)
  (hS:∀b∈S,H b=none/\X.s₀.heap.get? b=none/\(∀p∈X.pn++pins,p.1≠b)/\∃o vs,s.heap.get? b=some o/\o.data=.fields vs):Inv X pins σ H { s with heap:=h2 }:=by
 have hF:=F.frs
 have nfs:∀{b:Addr},b≠X.env.locals->b∉X.fs->b∉frs X.stack:=fun {b} h1 h2 hb=>by
  rw[hF]at hb
  rcases List.mem_cons.mp hb with z|z
  .exact h1 z
  .exact h2 z
 have cell_ok:∀x c oc v,X.env.cells.lookup x=some c->s.heap.get? c=some oc->oc.data=.cell v->h2.get? c=some oc:=fun x c oc v hx ho hd=>by
  refine L.keep c oc (nfs (I.cne x c hx) fun hb=>?_) (fun hb=>?_) ho
  .obtain⟨_,o,eo,_⟩:=I.ok.funs.mem hb
   exact Nat.lt_irrefl _ (Nat.lt_of_lt_of_le (Heap.lt_size eo) (I.ok.cab x c (F.fn x) hx))
  .obtain⟨_,_,_,o,vs,eo,ed⟩:=hS c hb
   rw[ho]at eo;cases eo
   rw[hd]at ed;cases ed
 refine⟨I.ok,I.os,I.bare,⟨fun b o e0 n hb hx=>?_,fun b o e0 n hb hx=>?_,I.base.free,fun b o e0 hx=>?_,I.base.tups,I.base.frzs,I.base.tbls⟩,?_,fun x c hx=>?_,I.free,I.freeC,fun p hp=>?_,fun b u e=>?_,I.len⟩
 .have e1:=I.base.keep b o e0 n hb hx
  refine L.keep b o (nfs (Nat.ne_of_lt (Nat.lt_of_lt_of_le (Heap.lt_size e0) I.ok.above)) hb) (fun z=>?_) e1
  rw[(hS b z).2.1]at e0;cases e0
 .obtain⟨sl,e1⟩:=I.base.slot b o e0 n hb hx
  obtain⟨sl2,e2⟩:=L.slot b _ (by rw[hF];exact List.mem_cons_of_mem _ hb) e1
  exact⟨sl2,e2⟩
 .obtain⟨o',e1⟩:=I.base.there b o e0 hx
  exact L.there b o' (fun z=>by rw[(hS b z).2.1]at e0;cases e0) e1
 .obtain⟨m,⟨o,es,ep,ho,hd,r⟩,hl⟩:=I.loc
  obtain⟨sl,e2⟩:=L.slot X.env.locals o (by rw[hF];exact List.mem_cons_self) ho
  refine⟨m,⟨_,es,ep,e2,hd,r⟩,fun i x v h1 h2 h3=>?_⟩
  obtain⟨u,ru,q⟩:=hl i x v h1 h2 h3
  refine⟨u,ru,?_⟩
  rcases q with q|⟨k,c,hc,oc,ho,hd⟩
  .exact .inl q
  .exact .inr ⟨k,c,hc,oc,cell_ok x c oc _ hc ho hd,hd⟩
 .obtain⟨v,oc,ho,hd⟩:=I.cell x c hx
  exact⟨v,oc,cell_ok x c oc v hx ho hd,hd⟩
 .obtain⟨e,n,ne,nf,d⟩:=I.pin p hp
  exact⟨L.keep p.1 p.2 (nfs ne nf) (fun z=>(hS p.1 z).2.2.1 p hp rfl) e,n,ne,nf,d⟩
 .refine(I.hok b u e).stay (fun c v hc q=>?_) (fun _ q=>q) fun _ _ q=>q
  have tr:∃u',H c=some u':=by
   rcases hc with z|z
   .exact⟨u,by rw[z];exact e⟩
   .exact⟨_,z⟩
  obtain⟨u',hu⟩:=tr
  refine L.keep c v (fun hb=>?_) (fun hb=>?_) q
  .rw[I.stkFree c hb]at hu;cases hu
  .rw[(hS c hb).1]at hu;cases hu
noncomputable def CX1 (P:Program) (w:World) (mg:Str->Option Value):CXT:=fun outer H s E e s'=>∃(ea T Ca:Addr) (nm:Str) (H':Hp),e=.ref ea/\mg nm=some (.ref Ca)/\s'.os=s.os/\AllBare s'.gens/\Un (frs outer) [] H H' s.heap s'.heap/\HOk P w H' s'.heap/\
 ExcT s'.heap ea (.ref Ca) T/\H' ea=none/\H' T=none/\s.heap.get? ea=none/\s.heap.get? T=none/\E (.str nm 0) none H'
end
def bmV:List Value:=[.type "ValueError",.type "Exception",.type "BaseException",.type "object"]
section
variable {X:Cx}
end
section
variable {X:Cx} {pins:List (Addr×Obj)} {σ:St} {H:Hp} {s:Shared} {D:Ends} {hs:List ExceptHandler}
noncomputable def Cx.inX (X:Cx) (e:Addr):Cx:={ X with A:=X.A.mark (some (.ref e)),calm:=false,xe:=fun _ _=>False }
def ExcObj (e Ca:Addr) (h:Heap):Prop:=∃o vs,h.get? e=some o/\o.cls=.ref Ca/\o.data=.fields vs
noncomputable def ExcO (e Ca:Addr):HO:=.ext (ExcObj e Ca)
end
end L2
namespace L2
open PySem PySem.Spec PyProof.Rows PySem.W
structure XCls (K:Frag) (C:Addr):Prop where
 ga:findIn K (.ref C) "__getattribute__"=some (some (.builtin "BaseException.__getattribute__"))
 gt:findIn K (.ref C) "__getattr__"=some none
 cl:findIn K (.ref C) "__class__"=some (some (.builtin "object.__class__"))
 be:subIn K (.ref C) (.type "BaseException")=some true
 ob:subIn K (.ref C) (.type "object")=some true
 is:(clsIn K C).isSome=true
section
variable {prog:Program} {w:World} {A:Around} {E:Value->Shared->Prop} {K:Frag} {h:Heap} {g:Array GenState} {d:Drawn} {t:Nat} {os:OsState} {a C:Addr} {o:Obj}
end
end L2
namespace L2
open PySem PySem.Spec PyProof.Rows PySem.W
section
variable {X:Cx}
end
noncomputable def okIs:Option Int->Value->Bool
 |some k,v=>Value.isInt k v
 |none,.none=>true
 |none,_=>false
theorem okIs_shape:∀{k:Option Int} {v:Value},okIs k v=true->(∃i t,k=some i/\v=Value.int i t)\/(k=none/\v=Value.none)
 |some i,v,h=>by
  obtain⟨t,e⟩:=Value.isInt_shape (k:=i) (v:=v) h
  exact .inl ⟨i,t,rfl,e⟩
 |none,v,h=>by cases v<;>first|exact .inr ⟨rfl,rfl⟩|cases h
noncomputable def okH:Option Int->Int
 |some k=>hashInt k
 |none=>0xFCA86420
noncomputable def oKind (prog:Program) (w:World):PySem.KeyKind prog w (Option Int) where
 is:=okIs
 hash:=okH
 inj:=fun v a b ha hb=>by
  rcases okIs_shape ha with⟨i,t,rfl,rfl⟩|⟨rfl,rfl⟩
  .rcases okIs_shape hb with⟨j,u,rfl,e⟩|⟨rfl,e⟩
   .injection e with e1 _;rw[e1]
   .exact nomatch e
  .rcases okIs_shape hb with⟨j,u,rfl,e⟩|⟨rfl,e⟩
   .exact nomatch e
   .rfl
 byValue:=fun k v h=>by
  rcases okIs_shape h with⟨i,t,rfl,rfl⟩|⟨rfl,rfl⟩<;>rfl
 pyHash:=fun hv h=>by
  rcases okIs_shape hv with⟨i,t,rfl,rfl⟩|⟨rfl,rfl⟩
  .exact wpAny_pyHash_int h
  .exact hash_none h
 eqBool:=fun {A E s a b u v Q} hu hv h=>by
  rcases okIs_shape hu with⟨i,t,rfl,rfl⟩|⟨rfl,rfl⟩
  .rcases okIs_shape hv with⟨j,u,rfl,rfl⟩|⟨rfl,rfl⟩
   .have e:decide ((some i:Option Int)=some j)=(i == j):=by
     by_cases q:i=j
     .subst q;simp
     .rw[decide_eq_false (fun z=>q (Option.some.inj z)),(beq_eq_false_iff_ne.mpr q)]
    rw[e]at h
    exact wpAny_eqBool_int h
   .exact SeqAt.EqAt.int_none i t _ _ _ _ h
  .rcases okIs_shape hv with⟨j,u,rfl,rfl⟩|⟨rfl,rfl⟩
   .exact SeqAt.EqAt.none_int j u _ _ _ _ h
   .exact SeqAt.EqAt.same .none _ _ _ _ h
 «strs»:=fun k x t v h=>by
  rcases okIs_shape h with⟨i,u,rfl,e⟩|⟨rfl,e⟩<;>exact nomatch e
end L2
namespace PySem
open PyProof.Rows
section
variable {prog:Program} {w:World} {K:Type} [DecidableEq K] {knd:KeyKind prog w K}
variable {A:Around} {R:Result->Shared->Prop} {I:Addr} {fp wr:List Addr} {G:Array GenState->Array GenState->Prop} {n:Nat} {P:Nat->Value->Prop} {St:Nat->Shared->Prop}
end
section
variable {prog:Program} {w:World} {K:Type} [DecidableEq K] {knd:KeyKind prog w K} {A:Around} {E:Value->Shared->Prop} {s:Shared}
end
end PySem
namespace PySem
open PyProof.Rows
def Heap.IsSti (h:Heap) (a d:Addr) (f:Value) (i n ep:Nat):Prop:=∃o,h.get? a=some o/\o.cls=.type "set_iterator"/\o.data=.fields #[f,rawInt i,.ref d,rawInt n,rawInt ep]
theorem Heap.IsSti.at {h h':Heap} {a d:Addr} {f:Value} {i n ep:Nat} (x:h.IsSti a d f i n ep) (e:∀o,h.get? a=some o->h'.get? a=some o):h'.IsSti a d f i n ep:=let⟨o,ho,r⟩:=x;⟨o,e _ ho,r⟩
def Ord (bt:Bool) (w:World) (d ep:Nat) (es:Array (Int×Value)) (t:SetTable) (xs:Array Value) (h:Heap) (f:Value) (i:Nat):Prop:=
 (bt=true/\f=rawInt 0/\xs=(pickOrder (w.params.setOrder d ep) es).map (·.2))\/
 (bt=false/\(!t.plain&&decide (es.size > 1))=false/\Rsn t.place/\f=rawInt (if i=0 then 0 else((t.place.getD (i-1) 0+1:Nat):Int))/\xs=es.map (·.2))\/
 (bt=false/\∃(T:Addr) (pl:Array Nat),f=.ref T/\IsTup h T (pl.map fun(j:Nat)=>rawInt j)/\xs.size=pl.size/\∀(j p:Nat),pl[j]?=some p->∃x:Int×Value,es[p]?=some x/\xs[j]?=some x.2)
section
variable {prog:Program} {w:World} {A:Around} {E:Value->Shared->Prop} {s:Shared}
theorem Heap.IsSti.typeIs {a d:Addr} {f:Value} {i n ep:Nat} (x:s.heap.IsSti a d f i n ep):s.TypeIs (.ref a) "set_iterator":=let⟨o,ho,hc,_⟩:=x;⟨o,ho,hc⟩
theorem out_perm {α:Type}:∀(l:List α) (i:Nat) (h:i<l.length),(l[i] :: l.eraseIdx i).Perm l
 |a :: l,0,h=>List.Perm.refl _
 |a :: l,i+1,h=>by
  rw[List.eraseIdx_cons_succ,List.getElem_cons_succ]
  exact(List.Perm.swap a _ _).trans ((out_perm l i (by simpa using h)).cons a)
theorem pick_go {α:Type} (f:Nat->Nat):∀(n k:Nat) (l:List α) (out:Array α),n=l.length->(pickOrder.go f n k l out).toList.Perm (out.toList++l)
 |0,k,l,out,e=>by
  have:l=[]:=List.length_eq_zero_iff.mp e.symm
  subst this
  unfold pickOrder.go
  simp
 |n+1,k,l,out,e=>by
  unfold pickOrder.go
  have hl:f k % l.length<l.length:=Nat.mod_lt _ (by omega)
  rw[List.getElem?_eq_getElem hl]
  dsimp only
  refine(pick_go f n (k+1) _ _ (by rw[List.length_eraseIdx_of_lt hl];omega)).trans ?_
  rw[Array.toList_push,List.append_assoc]
  refine List.Perm.append_left _ ?_
  rw[List.singleton_append]
  exact out_perm l _ hl
theorem pick_perm {α:Type} (f:Nat->Nat) (xs:Array α):(pickOrder f xs).toList.Perm xs.toList:=by
 have:=pick_go f xs.size 0 xs.toList #[] (by simp)
 simpa[pickOrder]using this
end
end PySem
namespace PySem
open PyProof.Rows
section
variable {prog:Program} {w:World} {A:Around} {E:Value->Shared->Prop} {s:Shared}
end
end PySem
namespace PySem
open PyProof.Rows
section
variable {prog:Program} {w:World}
variable {A:Around} {E:Value->Shared->Prop} {s:Shared}
end
end PySem
namespace L2
open PySem PySem.Spec PyProof.Rows
noncomputable def tCompG {α:Type} (own:List Nat) (wi:TI) (g:TG) (tc:TT) (rest:TL α) (a0:α) (ho:Addr->α->HO) (ok:α->Hp->Prop):TE:=fun σ H Q=>wi σ H fun J H1=>tClause own g tc rest J σ a0 H1 fun xs H2=>ok xs H2/\∀p,H2 p=none->Q (.ref p) (upd H2 p (ho p xs))
structure CompInG {α:Type} (Is:α->Obj->Prop) (X:Cx) (e:Expr) (scope:Scope) (tg:Expr) (iter:Expr) (ifs:List Expr) (nx:Addr->Env->Sem Unit) (g:TG) (tc:TT) (rest:TL α) (own:List Nat):Prop where
 sc:CompSc X scope
 ow:∀i x,X.N[i]?=some x->(scope.names.lookup x=some .local\/scope.names.lookup x=some .cell)->i∈own
 cl:∃gs,clausesOf e=⟨tg,iter,ifs,0⟩ :: gs
 fs:∀x,foldedSetIterable iter X.env x=pure x
 calm:X.calm=true
 q:∀it D env,(Code.compLoop e 0 it (.ref D) env).quiet=true/\(Code.compStart e 0 it (.ref D) env).quiet=true
 u:∀A it D env,Around.under A (Code.compLoop e 0 it (.ref D) env)=A/\Around.under A (Code.compStart e 0 it (.ref D) env)=A
 T:∀P w it D env,(model P w).den (.compLoop e 0 it (.ref D) env)=(turnCode e 0 tg iter ifs (nx D env) it (.ref D) env).onRaise (fun x=>do noteFrame x env;theTreesLotGoes x)
 S:∀P w it D env,(model P w).den (.compStart e 0 it (.ref D) env)=(compStart e 0 it (.ref D) env).onRaise (fun x=>do noteFrame x env;standAt theWindowsPlace)
 ge:GExt own g
 inn:∀s0 H0 ex D,PG (X.comp scope s0 H0 ex) tg g/\PTs (X.comp scope s0 H0 ex) ifs tc/\∃ws',(∀j∈ws',j∈own)/\CompRun (X.comp scope s0 H0 ex) D Is ws' (nx D (X.comp scope s0 H0 ex).env) rest
section
variable {X:Cx} {e:Expr} {scope:Scope} {tg iter:Expr} {ifs:List Expr} {nx:Addr->Env->Sem Unit} {g:TG} {tc:TT} {α:Type} {Is:α->Obj->Prop} {rest:TL α} {own:List Nat} {wi:TI} {a0:α} {o0:Bool->Obj} {newAcc:Sem Value} {ho:Addr->α->HO} {ok:α->Hp->Prop}
theorem comp_allG (hnew:∀(s:Shared) (Q:Value->Shared->Prop),(∀led,Q (.ref s.heap.objs.size) { s with heap:=s.heap.push (o0 led) })->wpAny (model X.prog X.w) X.A newAcc Q X.xe s) (hfr:∀led,(o0 led).isFreed=false) (ha0:∀led,Is a0 (o0 led)) (hda:∀(a:α) (o:Obj),Is a o->∀v:Option Value,o.data≠.cell v) (C:CompInG Is X e scope tg iter ifs nx g tc rest own) (hi:PI X tg iter wi) {pins:List (Addr×Obj)} {s:Shared} {σ:St} {H:Hp} {R:V->Hp->Prop} (I:Inv X pins σ H s) (hw:tCompG own wi g tc rest a0 ho ok σ H R)
  {use:Option (Value->Sem Unit)} {Q:Value->Shared->Prop} {pos:Pos}
  (fin:∀(s3 s':Shared) (H0 H':Hp) (ex:List Addr) (D:Addr) (xs:α) (o:Obj) (σ':St),Inv X pins σ H0 s3->(∀b∈ex,FpOk X pins H0 b)->Inv (X.comp scope s3 H0 ex) [] σ' H' s'->s'.heap.get? D=some o->D<s3.heap.objs.size->X.s₀.heap.objs.size<=D->FpOk X pins H0 D->(D == sysModules)=false->Is xs o->H' D=none->ok xs H'->R (.ref D) (upd H' D (ho D xs))->
   compPost (model X.prog X.w) X.A X.xe use Q (.ref D) s3.heap.objs.size (.ok .next) s'):
  wpAny (model X.prog X.w) X.A (comprehension e scope X.env pos newAcc false (eval iter X.env) use) Q X.xe s:=by
 obtain⟨gs,hcl⟩:=C.cl
 refine wpAny_comprehension_free hcl C.fs (closFor fun n hn=>I.ok.has n (C.sc.free n hn)) C.sc.kind C.sc.names ?_
 refine thn (hi pins s σ H _ I hw) fun v s1 h1=>thn h1 fun itv s2 h2=>?_
 obtain⟨it,fp,tn,J,H2,rfl,I2,T,st2,f2,hc⟩:=h2
 refine hnew _ _ fun led=>wpAny_compEnv ?_
 have keep:∀b o,s2.heap.get? b=some o->(s2.heap.push (o0 led)).get? b=some o:=fun b o e=>Heap.get?_push_of_some _ e
 have I3:Inv X pins σ H2 { s2 with heap:=s2.heap.push (o0 led) }:=I2.kept (t':=s2.toks) keep
 have hsz:(s2.heap.push (o0 led)).objs.size=s2.heap.objs.size+1:=Heap.size_push ..
 have fD:FpOk X pins H2 s2.heap.objs.size:=I2.fpOk (Nat.le_refl _) (I2.hok.fresh (Nat.le_refl _))
 have hlt:∀b∈fp,b<s2.heap.objs.size:=fun b hb=>by
  obtain⟨o,e,_⟩:=T.obj _ _ st2 b hb
  exact Heap.lt_size e
 have hDf:s2.heap.objs.size∉fp:=fun z=>Nat.lt_irrefl _ (hlt _ z)
 have hex:∀b∈s2.heap.objs.size :: fp,FpOk X pins H2 b:=fun b hb=>by
  rcases List.mem_cons.mp hb with rfl|hb
  .exact fD
  .exact f2 b hb
 generalize hs3:({ s2 with heap:=s2.heap.push (o0 led) }:Shared)=s3 at *
 have hs3s:s3.heap.objs.size=s2.heap.objs.size+1:=by rw[<- hs3];exact hsz
 have hlt3:∀b∈s2.heap.objs.size :: fp,b<s3.heap.objs.size:=fun b hb=>by
  rw[hs3s]
  rcases List.mem_cons.mp hb with rfl|hb
  .exact Nat.lt_succ_self _
  .exact Nat.lt_succ_of_lt (hlt b hb)
 have J0:=comp_start (own:=own) I3 hex hlt3 C.sc C.ow
 obtain⟨c1,c2,ws',c4,c5⟩:=C.inn s3 H2 (s2.heap.objs.size :: fp) s2.heap.objs.size
 have kp:∀b o,s2.heap.get? b=some o->(compHeap s3.heap scope.names).get? b=some o:=fun b o e=>pushCells_keeps _ _ b o (Heap.get?_push_of_some _ (by rw[<- hs3];exact keep b o e))
 have oD:(compHeap s3.heap scope.names).get? s2.heap.objs.size=some (o0 led):=pushCells_keeps _ _ _ _ (Heap.get?_push_of_some _ (by rw[<- hs3];exact Heap.get?_push_size _ (hfr led)))
 have stat:∀b∈s2.heap.objs.size :: fp,FpOk (X.comp scope s3 H2 (s2.heap.objs.size :: fp)) [] H2 b:=fun b hb=>
  ⟨(hex b hb).1,(J0.ok.exf b hb).1,J0.ok.exfs b hb,.inl hb,(J0.ok.exf b hb).2,fun p hp=>absurd (show p∈([]:List (Addr×Obj)) from hp) (by simp)⟩
 have T':Turn (X.comp scope s3 H2 (s2.heap.objs.size :: fp)).prog (X.comp scope s3 H2 (s2.heap.objs.size :: fp)).w (X.comp scope s3 H2 (s2.heap.objs.size :: fp)).K tg J fp it tn:=T
 have hc':tClause own g tc rest J (clr own σ) a0 H2 (fun xs H2=>ok xs H2/\∀p,H2 p=none->R (.ref p) (upd H2 p (ho p xs))):=by
  obtain⟨W,w0,turn⟩:=hc
  refine⟨W,w0,?_⟩
  rw[clr_idem]
  exact turn
 have st3:tn 0 ({ s3 with heap:=compHeap s3.heap scope.names }:Shared).heap:=T.keep _ _ _ st2 fun b hb o e=>kp b o e
 have L:=comp_loop (X:=X.comp scope s3 H2 (s2.heap.objs.size :: fp)) (Is:=Is) (D:=s2.heap.objs.size) rfl C.calm (C.q _ _ _).1 (C.u _ _ _ _).1 (C.T _ _ _ _ _) T' c1 C.ge c2 c5 c4 hda hDf J0
  (fun b hb=>stat b (List.mem_cons_of_mem _ hb)) (stat _ List.mem_cons_self) oD (ha0 led) st3 hc'
 have L2:=start_ok (C.q _ _ _).2 (C.u _ _ _ _).2 (fun it'=>(C.q it' _ _).1) (C.S _ _ _ _ _) ⟨_,by rw[hcl];rfl,rfl⟩ L (fun E=>T.self _ 0 _ _ E st3 ⟨rfl,rfl⟩)
 refine codeAny_mono L2 fun r s' h=>?_
 obtain⟨rfl,xs,o',H',J',e',is',n',hN⟩:=h
 exact fin s3 s' H2 H' _ _ xs o' _ I3 hex J' e' (hlt3 _ List.mem_cons_self) I2.sz fD (beq_eq_false_iff_ne.mpr (Nat.ne_of_gt I2.big)) is' n' hN.1 (hN.2 _ n')
end
section
variable {X:Cx} {e:Expr} {scope:Scope} {tg iter:Expr} {ifs:List Expr} {nx:Addr->Env->Sem Unit} {g:TG} {tc:TT} {α:Type} {Is:α->Obj->Prop} {rest:TL α} {own:List Nat} {wi:TI} {a0:α} {o0:Bool->Obj} {newAcc:Sem Value} {ho:Addr->α->HO} {ok:α->Hp->Prop}
theorem pe_compG (hnew:∀(s:Shared) (Q:Value->Shared->Prop),(∀led,Q (.ref s.heap.objs.size) { s with heap:=s.heap.push (o0 led) })->wpAny (model X.prog X.w) X.A newAcc Q X.xe s) (hfr:∀led,(o0 led).isFreed=false) (ha0:∀led,Is a0 (o0 led)) (hda:∀(a:α) (o:Obj),Is a o->∀v:Option Value,o.data≠.cell v)
  (hfin:∀(a:α) (o:Obj) (D:Addr) (H:Hp) (h:Heap),Is a o->h.get? D=some o->(D == sysModules)=false->H D=none->ok a H->HOk X.prog X.w H h->ObjOk X.prog X.w (upd H D (ho D a)) h D (ho D a)) (C:CompInG Is X e scope tg iter ifs nx g tc rest own) (hi:PI X tg iter wi) {pos:Pos} (he:eval e X.env=comprehension e scope X.env pos newAcc false (eval iter X.env)):PE X e (tCompG own wi g tc rest a0 ho ok):=by
 intro pins s σ H Q I hw
 rw[he]
 refine comp_allG hnew hfr ha0 hda C hi I hw fun s3 s' H0 H' ex D xs o σ' I3 hex J e' hlt h0 fD sy is' n' hok' hR=>?_
 obtain⟨m,hn,_⟩:=J.loc
 refine⟨m,hn,fun h' hs=>?_⟩
 have J2:=comp_end I3 hex J hs
 have neC:D≠s3.heap.objs.size:=Nat.ne_of_lt hlt
 refine⟨.ref D,upd H' D (ho D xs),J2.track (o:=ho D xs) ⟨n',fD.2⟩ h0 (hfin xs o D H' _ is' ((hs.2 D neC).trans e') sy n' hok' J2.hok),rfl,hR⟩
theorem ps_setcompG (hnew:∀(s:Shared) (Q:Value->Shared->Prop),(∀led,Q (.ref s.heap.objs.size) { s with heap:=s.heap.push (o0 led) })->wpAny (model X.prog X.w) X.A newAcc Q X.xe s) (hfr:∀led,(o0 led).isFreed=false) (ha0:∀led,Is a0 (o0 led)) (hda:∀(a:α) (o:Obj),Is a o->∀v:Option Value,o.data≠.cell v)
  (hfin:∀(a:α) (o:Obj) (D:Addr) (H:Hp) (h:Heap),Is a o->h.get? D=some o->(D == sysModules)=false->H D=none->ok a H->HOk X.prog X.w H h->ObjOk X.prog X.w (upd H D (ho D a)) h D (ho D a)) (C:CompInG Is X e scope tg iter ifs nx g tc rest own) (hi:PI X tg iter wi) {i:Nat} {y:Str} {py pos pos2:Pos} (hN:X.N.Nodup) (hy:X.N[i]?=some y) (hx:Loc X.env.scope y) (hf:X.fn y=true\/X.env.scope.names.lookup y=some .local)
  (he:evalThenUse e X.env (assign (.Name y py) X.env)=(do let _ <- comprehension e scope X.env pos2 newAcc false (eval iter X.env) (some (assign (.Name y py) X.env))))
  (hsw:swapsWith e (some (.Name y py)) pos.line X.env=pure true):PS X (.Assign [.Name y py] e pos) (tAsg (tCompG own wi g tc rest a0 ho ok) (gName i)):=by
 intro pins s σ H D I hw
 rw[exec_Assign_Name_used _ _ _ _ hsw]
 refine wpAny_bind (wpAny_standAt (wpAny_bind ?_))
 rw[he]
 refine wpAny_bind (thn (Q:=fun _ s'=>SP X pins D .next s') (comp_allG hnew hfr ha0 hda C hi I hw fun s3 s' H0 H' ex D' xs o σ' I3 hex J e' hlt h0 fD sy is' n' hok' hR=>?_) fun _ s' q=>wpAny_pure (wpAny_pure q))
 obtain⟨m,hn,_⟩:=J.loc
 have J2:Inv X pins σ H' s':=comp_end I3 hex J (Heap.SameBut.refl ..)
 have neC:D'≠s3.heap.objs.size:=Nat.ne_of_lt hlt
 have J3:Inv X pins σ (upd H' D' (ho D' xs)) s':=J2.track ⟨n',fD.2⟩ h0 (hfin xs o D' H' _ is' e' sy n' hok' J2.hok)
 have fC:FpOk X pins H0 s3.heap.objs.size:=I3.fpOk (Nat.le_refl _) (I3.hok.fresh (Nat.le_refl _))
 refine wpAny_assign_Name (store_ok2 J3 hN hy hx (v:=.ref D') rfl (fun s'' J4 hs=>?_) hf)
 obtain⟨a,hsa,ha⟩:=hs
 have haC:s3.heap.objs.size≠a:=by
  rcases ha with rfl|ha
  .exact fC.2.1
  .exact fun q=>fC.2.2.2.2.1 _ _ ha q.symm
 have hn':s'.heap.Ns s3.heap.objs.size m:=hn
 refine⟨m,hn'.sameBut hsa haC,fun h' hs'=>?_⟩
 have J5:Inv X pins (σ.set i (some (.ref D'))) (upd H' D' (ho D' xs)) { s'' with heap:=h' }:=J4.turned (it:=s3.heap.objs.size) (t':=s''.toks) (fun b ob hb q=>(hs'.2 b hb).trans q) (by rw[upd_ne (Ne.symm neC)];exact J.free) fC.2.1 fC.2.2.2.1 fC.2.2.2.2.1 fC.2.2.2.2.2
 exact⟨_,_,J5,hR⟩
end
noncomputable def kO:Option Int->V
 |some i=>.int i
 |none=>.non
theorem kO_is {P:Program} {w:World} {k:Option Int} {u:Value} (r:RelV (kO k) u):(oKind P w).is k u=true/\u.scannable=true:=by
 cases k with
 |none=>cases r;exact⟨rfl,rfl⟩
 |some i=>
  obtain⟨t,rfl⟩:=r
  exact⟨by show Value.isInt i (.int i t)=true;simp[Value.isInt],rfl⟩
def IsS (a:(Option Int->Bool)×Nat) (o:Obj):Prop:=a.2<=4000/\(∃es ep t,o.data=.set es ep t)/\∃m,m<=a.2/\∀(P:Program) (w:World),o.SetObjOf (oKind P w) a.1 m
theorem isS_of {P:Program} {w:World} {S:Option Int->Bool} {n m:Nat} {o:Obj} (h:o.SetObjOf (oKind P w) S m) (hm:m<=n) (hn:n<=4000):IsS (S,n) o:=⟨hn,⟨_,_,_,h.2.choose_spec.choose_spec.choose_spec.1⟩,m,hm,fun P' w'=>h.transport (knd':=oKind P' w') rfl rfl⟩
theorem isS_data (a:(Option Int->Bool)×Nat) (o:Obj) (h:IsS a o) (v:Option Value):o.data≠.cell v:=by
 obtain⟨_,⟨es,ep,t,hd⟩,_⟩:=h
 rw[hd]
 exact fun z=>nomatch z
noncomputable def SetO (D:Addr) (S:Option Int->Bool) (n:Nat):HO:=.ext fun h=>∃o,h.get? D=some o/\IsS (S,n) o
theorem setO_ok {P:Program} {w:World} {H:Hp} {h:Heap} {D:Addr} {S:Option Int->Bool} {n:Nat} {o:Obj} (e:h.get? D=some o) (i:IsS (S,n) o):ObjOk P w H h D (SetO D S n):=
 ⟨⟨o,e,i⟩,⟨o,e⟩,fun h1 h2 ⟨o',e',i'⟩ k=>⟨o',k o' e',i'⟩⟩
section
variable {X:Cx}
theorem isS_at {s:Shared} {D:Addr} {a:(Option Int->Bool)×Nat} {o:Obj} (e:s.heap.get? D=some o) (i:IsS a o):∃m,m<=a.2/\s.heap.SetOf (oKind X.prog X.w) D a.1 m:=by
 obtain⟨hn,_,m,hm,h⟩:=i
 exact⟨m,hm,(h X.prog X.w).setOf e (Nat.lt_of_le_of_lt (Nat.le_trans hm hn) (by decide))⟩
noncomputable def rInO (neg:Bool):R2:=fun x y H Q=>∃k D S n,x=kO k/\y=.ref D/\H D=some (SetO D S n)/\Q (.bl (if neg then !(S k)else S k)) H
theorem op_inO:OpR X (compareOp .In) (rInO false):=by
 intro pins s σ H x y v u Q I rx ry h
 obtain⟨k,D,S,n,rfl,rfl,hD,q⟩:=h
 cases ry
 obtain⟨o,e,i⟩:=(show ObjOk X.prog X.w H s.heap D (SetO D S n) from I.hok D _ hD).1
 obtain⟨m,_,hS⟩:=isS_at (X:=X) e i
 exact wpAny_inSet_of (kO_is rx).1 (kO_is (P:=X.prog) (w:=X.w) rx).2 hS ⟨.bl (S k),H,I.tok _,rfl,q⟩
theorem op_notInO:OpR X (compareOp .NotIn) (rInO true):=by
 intro pins s σ H x y v u Q I rx ry h
 obtain⟨k,D,S,n,rfl,rfl,hD,q⟩:=h
 cases ry
 obtain⟨o,e,i⟩:=(show ObjOk X.prog X.w H s.heap D (SetO D S n) from I.hok D _ hD).1
 obtain⟨m,_,hS⟩:=isS_at (X:=X) e i
 exact wpAny_notInSet_of (kO_is rx).1 (kO_is (P:=X.prog) (w:=X.w) rx).2 hS ⟨.bl (!S k),H,I.tok _,rfl,q⟩
noncomputable def inL (ns:List Int):Option Int->Bool
 |some i=>ns.contains i
 |none=>false
noncomputable def rSetOf (K:W.Frag):List V->Hp->VK->Prop:=fun xs H Q=>∃a ns,xs=[.ref a]/\SqL K H a (ns.map V.int)/\ns.length<=3999/\∀p,H p=none->Q (.ref p) (upd H p (SetO p (inL ns) ns.length))
theorem call_setL (hc:X.calm=true):CallR X (.type "set") (rSetOf X.K):=by
 intro pins s σ H xs us Q I rv h
 obtain⟨a,ns,rfl,hs,hl,q⟩:=h
 cases rv with
 |cons r1 rv=>
  cases rv
  cases r1
  obtain⟨its,r,pl,hz⟩:=I.list hs
  have hlen:=r.length
  rw[List.length_map]at hlen
  refine call_set_list (I.ok.hd hc) pl.isList (intsAre_of r) (by rw[List.size_toArray,<- hlen];exact Nat.lt_of_le_of_lt (Nat.succ_le_succ hl) (by decide)) fun h' tk hS hk=>?_
  have hn:H s.heap.objs.size=none:=I.hok.fresh (Nat.le_refl _)
  obtain⟨o,ho,hso⟩:=hS.objOf
  have fl:=firstMet_length_le (fun i=>ns.getD i 0) its.toArray.size
  have key:o.SetObjOf (oKind X.prog X.w) (inL ns) (firstMet (fun i=>ns.getD i 0) its.toArray.size).length:=by
   obtain⟨hex,es,ep,t,hd,hel,hmem,hsz,hf⟩:=hso
   refine⟨hex,es,ep,t,hd,fun e he=>?_,fun k=>?_,hsz,hf⟩
   .obtain⟨⟨j,hj,hh⟩,hsc⟩:=hel e he
    exact⟨⟨some j,hj,hh⟩,hsc⟩
   .cases k with
    |none=>
     constructor
     .intro z;cases z
     .rintro⟨e,he,hi⟩
      obtain⟨⟨j,hj,hh⟩,hsc⟩:=hel e he
      obtain⟨t',et⟩:=Value.isInt_shape hj
      rw[et]at hi
      cases hi
    |some i=>
     have:=hmem i
     dsimp only at this
     rw[firstMet_any]at this
     refine Iff.trans ?_ this
     show ns.contains i=true↔_
     have en:(List.range its.toArray.size).map (fun i=>ns.getD i 0)=ns:=by
      rw[List.size_toArray,<- hlen]
      apply List.ext_getElem?
      intro j
      rw[List.getElem?_map]
      by_cases hj:j<ns.length
      .rw[List.getElem?_range hj]
       simp[List.getD,hj]
      .rw[List.getElem?_eq_none_iff.mpr (by simpa using hj),List.getElem?_eq_none_iff.mpr (by omega)]
       rfl
     rw[en,List.contains_eq_any_beq]
     constructor
     .intro z
      rw[List.any_eq_true]at z ⊢
      obtain⟨x,hx,e⟩:=z
      exact⟨x,hx,by rw[beq_iff_eq]at e ⊢;exact e.symm⟩
     .intro z
      rw[List.any_eq_true]at z ⊢
      obtain⟨x,hx,e⟩:=z
      exact⟨x,hx,by rw[beq_iff_eq]at e ⊢;exact e.symm⟩
  refine⟨.ref s.heap.objs.size,_,I.laid (t':=tk) (fun b o hb=>hk b o (Heap.lt_size hb) hb) (Nat.le_refl _) (o:=SetO s.heap.objs.size (inL ns) ns.length) (setO_ok ho (isS_of key (Nat.le_trans fl (by rw[List.size_toArray,hlen];exact Nat.le_refl _)) (by omega))),rfl,q _ hn⟩
noncomputable def tEmitS (te:TE):TL ((Option Int->Bool)×Nat):=fun σ a H N=>te σ H fun v H'=>∃k,v=kO k/\a.2<4000/\N (fun j=>a.1 j || decide (j=k),a.2+1) H'
theorem run_emitS {D:Addr} {elt:Expr} {te:TE} (hxe:X.xe=fun _ _=>False) (he:PE X elt te):CompRun X D IsS [] (do let v <- eval elt X.env;standAt elt.pos;let _ <- call (.builtin "set.add") [.ref D,v]) (tEmitS te):=by
 intro pins s σ H a o N I hD ho hi hq
 have I1:Inv X (pins++pinsAt [D] s.heap) σ H s:=I.pinned (fun b hb=>by
  have e:b=D:=by simpa using hb
  subst e
  exact hD) (fun b hb=>by
  have e:b=D:=by simpa using hb
  subst e
  exact⟨o,ho,isS_data _ _ hi⟩)
 have h1:=he _ s σ H _ I1 hq
 rw[hxe]at h1
 refine wpAny_bind (thn h1 fun u s1 ⟨v,H1,J1,r1,k,ek,z1,n1⟩=>?_)
 subst ek
 have q1:=J1.pin (D,o) (List.mem_append_right _ (List.mem_append_right _ (mem_pinsAt (by simp) ho)))
 obtain⟨m,hm,hS⟩:=isS_at (X:=X) q1.1 hi
 refine wpAny_bind (wpAny_standAt (wpAny_bind (call_set_add (kO_is r1).1 (kO_is (P:=X.prog) (w:=X.w) r1).2 hS (Nat.lt_of_le_of_lt (Nat.succ_le_of_lt (Nat.lt_of_le_of_lt hm z1)) (by decide)) fun h' hs hS'=>?_)))
 obtain⟨_,f1,f2,f3,f4,f5⟩:=hD
 obtain⟨o',ho',hso⟩:=hS'.objOf
 have J2:Inv X pins σ H1 { s1 with heap:=h',toks:=s1.toks+1 }:=J1.unpinned.turned (it:=D) (t':=s1.toks+1) (fun b o hb e=>(hs.2 b hb).trans e) q1.2.1 f1 f3 f4 f5
 exact wpAny_pure ⟨σ,_,o',H1,J2,Ext.refl,ho',isS_of hso (by split<;>omega) (by omega),q1.2.1,n1⟩
theorem new_set {A:Around} {E:Value->Shared->Prop} (s:Shared) (Q:Value->Shared->Prop) (h:∀led,Q (.ref s.heap.objs.size) { s with heap:=s.heap.push { cls:=.type "set",dict:=none,data:=.set #[] 0 (.fresh 0 0 led) } }):wpAny (model X.prog X.w) A (newSet (.type "set")) Q E s:=by
 unfold newSet setsByText
 refine wpAny_bind (wpAny_bind (wpAny_askSetting (wpAny_pure ?_)))
 exact wpAny_newObj_type (h _)
theorem new_set0 (led:Bool):IsS (fun _=>false,0) { cls:=.type "set",dict:=none,data:=.set #[] 0 (.fresh 0 0 led) }:=⟨Nat.zero_le _,⟨_,_,_,rfl⟩,0,Nat.le_refl _,fun _ _=>setObjOf_fresh led⟩
end
noncomputable abbrev NH:Int:=0xFCA86420
section
variable {prog:Program} {w:World} {A:Around} {E:Value->Shared->Prop} {s:Shared}
theorem find_none {d:Addr} {o:Obj} {es:Array DictEntry} {ep:Nat} {Q:Option Nat->Shared->Prop} (ho:s.heap.get? d=some o) (hd:o.data=.dict es ep) (hno:∀e∈es.toList,e.hash≠NH) (h:Q none s):
  wpAny (model prog w) A (dictFind d .none NH) Q E s:=by
 have hp:placesWithHash es.size (fun i=>es[i]?.map (·.hash)) NH=[]:=by
  unfold placesWithHash
  rw[List.filter_eq_nil_iff]
  intro i hi hc
  dsimp only at hc
  cases he:es[i]? with
  |none=>rw[he]at hc;cases hc
  |some e=>
   rw[he]at hc
   have hm:e∈es.toList:=Array.mem_toList_iff.mpr (Array.mem_of_getElem? he)
   exact hno e hm (by simpa using hc)
 unfold dictFind
 try with_reducible refine wpAny_holding ?_
 refine wpAny_bind (wpAny_dictEntries ho hd ?_)
 dsimp only
 rw[hp]
 rw[if_pos (show((Value.none :: ([]:List Nat).filterMap (fun i=>es[i]?.map (·.key))).all carriedByValue)=true by rfl)]
 unfold dictWalkPlain
 simp only[List.forIn_nil,pure_bind,bind_pure]
 exact wpAny_pure h
theorem meets_get_none {d:Addr} (hd:(d == sysModules)=false):
  MeetsIn prog w (Builtin.«dict.get» ⟨[.ref d,.none],[]⟩) (fun _ R s=>∃o es ep,s.heap.get? d=some o/\o.data=.dict es ep/\(∀e∈es.toList,e.hash≠NH)/\R (.ok (.ret .none)) { s with toks:=s.toks+1 }):=
 .of_wp fun A R s ⟨o,es,ep,h1,h2,h3,h⟩=>by
  show wpAny _ _ (dictGet d .none >>= _) _ _ s
  refine wpAny_bind ?_
  unfold dictGet
  try with_reducible refine wpAny_holding ?_
  refine wpAny_bind (hash_none (wpAny_bind (find_none (s:={ s with toks:=s.toks+1 }) h1 h2 h3 (wpAny_pure ?_))))
  show wpAny _ _ (Builtin.Dict.missed d .none >>= _) _ _ _
  exact wpAny_bind (wpAny_missed_other hd (wpAny_pure ⟨.none,rfl,h⟩))
end
theorem pairs_mem {P:Program} {w:World} {k:Key}:∀{es:List DictEntry} {vs:List (Key×Value)} {en:DictEntry},Pairs (mixKind P w) es vs->en∈es->(mixKind P w).is k en.key=true->k∈vs.map (·.1)
 |_,_,_,.nil,h,_=>by cases h
 |_,_,en,.cons (e:=e) (kv:=kv) h1 h2 r,h,hk=>by
  rcases List.mem_cons.mp h with rfl|h
  .rw[(mixKind P w).inj _ _ _ hk h1]
   exact List.mem_cons_self
  .exact List.mem_cons_of_mem _ (pairs_mem r h hk)
theorem paired_mem_r {α β:Type} {F:α->β->Prop}:∀{xs:List α} {ys:List β} {y:β},Paired F xs ys->y∈ys->∃x∈xs,F x y
 |_,_,_,.nil,h=>by cases h
 |_,_,y,.cons h1 r,h=>by
  rcases List.mem_cons.mp h with rfl|h
  .exact⟨_,List.mem_cons_self,h1⟩
  .obtain⟨x,hx,hf⟩:=paired_mem_r r h
   exact⟨x,List.mem_cons_of_mem _ hx,hf⟩
def NoN (H:Hp) (a:Addr):Prop:=(∃kvs,H a=some (.dK kvs)/\∀kv∈kvs,∃i:Int,kv.1=.inl i/\hashInt i≠NH)\/
 ∃kvs,H a=some (.dT kvs)/\∀kv∈kvs,∃is:List Int,kv.1=is.map Key.inl/\reduceHash (Builtin.Tuple.tupleHashOf (is.map hashInt))≠NH
theorem NoN.at {X:Cx} {pins:List (Addr×Obj)} {σ:St} {H:Hp} {s:Shared} {a:Addr} (I:Inv X pins σ H s) (h:NoN H a):(a == sysModules)=false/\s.TypeIs (.ref a) "dict"/\∃o es ep,s.heap.get? a=some o/\o.data=.dict es ep/\∀e∈es.toList,e.hash≠NH:=by
 rcases h with⟨kvs,e,hk⟩|⟨kvs,e,hk⟩
 .obtain⟨z,hd,vs,rel,dd⟩:=dk_of I.hok e
  refine⟨hd,dd.typeIs,?_⟩
  obtain⟨o,es,ep,h1,_,h3,h4,h5,_⟩:=dd
  refine⟨o,es,ep,h1,h3,fun en hen=>?_⟩
  obtain⟨k,hk1,hk2⟩:=h4 en (Array.mem_toList_iff.mp hen)
  have hin:k∈kvs.map (·.1):=by
   rw[rel.keys]
   exact pairs_mem h5 hen hk1
  obtain⟨kv,hkv,rfl⟩:=List.mem_map.mp hin
  obtain⟨i,ei,hi⟩:=hk kv hkv
  rw[hk2,ei]
  exact hi
 .obtain⟨z,hd,xs,rel,dd⟩:=dt_of I.hok e
  refine⟨hd,dd.typeIs,?_⟩
  obtain⟨o,es,ep,h1,_,h3,h4,_⟩:=dd
  refine⟨o,es,ep,h1,h3,fun en hen=>?_⟩
  rw[h4]at hen
  obtain⟨x,hx,rfl⟩:=List.mem_map.mp hen
  obtain⟨kv,hkv,hp⟩:=paired_mem_r rel hx
  obtain⟨is,ei,hi⟩:=hk kv hkv
  show(tupleKind (mixKind X.prog X.w)).hash x.1≠NH
  rw[<- hp.1,ei]
  show reduceHash (Builtin.Tuple.tupleHashOf ((is.map Key.inl).map (mixKind X.prog X.w).hash))≠NH
  rw[List.map_map]
  exact hi
theorem d_getN {X:Cx} {pins:List (Addr×Obj)} {σ:St} {H:Hp} {s:Shared} {a:Addr} {A:Around} {E:Value->Shared->Prop} {Q:Value->Shared->Prop} (I:Inv X pins σ H s) (g:NoN H a) (h:∀s',Inv X pins σ H s'->Q .none s'):
  wpAny (model X.prog X.w) A (call (.builtin "dict.get") [.ref a,.none]) Q E s:=by
 obtain⟨hd,ht,o,es,ep,h1,h2,h3⟩:=g.at I
 exact call_meetsIn PySem.F.slot_dict_get ht PySem.F.entry_dict_get (PySem.F.args_dict_get_2 _ _) (meets_get_none hd) ⟨o,es,ep,h1,h2,h3,h _ (I.tok _)⟩
def IsDK (P:Program) (w:World) (kvs:List (Key×V)) (o:Obj):Prop:=kvs.length<=sizeLine/\∃vs es ep,KV kvs vs/\o.ExactDict/\o.data=.dict es ep/\KeysOf (mixKind P w) es/\Pairs (mixKind P w) es.toList vs/\(vs.map (·.1)).Nodup
theorem isDK_data {P:Program} {w:World} (a:List (Key×V)) (o:Obj) (h:IsDK P w a o) (v:Option Value):o.data≠.cell v:=by
 obtain⟨_,_,es,ep,_,_,hd,_⟩:=h
 rw[hd]
 exact fun z=>nomatch z
theorem new_dict {X:Cx} {A:Around} {E:Value->Shared->Prop} (s:Shared) (Q:Value->Shared->Prop) (h:∀_led:Bool,Q (.ref s.heap.objs.size) { s with heap:=s.heap.push { cls:=.type "dict",dict:=none,data:=.dict #[] } }):wpAny (model X.prog X.w) A newDict Q E s:=wpAny_newObj_type (h true)
theorem new_dictK {P:Program} {w:World} (_led:Bool):IsDK P w [] { cls:=.type "dict",dict:=none,data:=.dict #[] }:=
 ⟨Nat.zero_le _,[],#[],0,.nil,⟨rfl,rfl,rfl⟩,rfl,fun e he=>by simp at he,.nil,List.nodup_nil⟩
theorem dk_fin {P:Program} {w:World} (a:List (Key×V)) (o:Obj) (D:Addr) (H:Hp) (h:Heap) (i:IsDK P w a o) (e:h.get? D=some o) (sy:(D == sysModules)=false) (_:H D=none) (_:True) (_:HOk P w H h):ObjOk P w (upd H D (.dK a)) h D (.dK a):=by
 obtain⟨z,vs,es,ep,h1,h2,h3,h4,h5,h6⟩:=i
 exact⟨z,sy,vs,h1,o,es,ep,e,h2,h3,h4,h5,h6⟩
section
variable {X:Cx}
noncomputable def tEmitK (tk tv:TE):TL (List (Key×V)):=fun σ a H N=>tk σ H fun y H1=>tv σ H1 fun v H2=>∃k,y=kV k/\a.length<sizeLine/\N (putK a k v) H2
theorem run_emitK {D:Addr} {ke ve:Expr} {tk tv:TE} (hxe:X.xe=fun _ _=>False) (hk:PE X ke tk) (hv:PE X ve tv):CompRun X D (IsDK X.prog X.w) [] (do
   let kv <- eval ke X.env
   let vv <- holding [kv] (eval ve X.env)
   match Value.ref D with
   | .ref d=>do
    standAt { ke.pos with endLine:=ve.pos.endLine,endCol:=ve.pos.endCol }
    holding [kv,vv] (dictSet d kv vv)
   |_=>unsupported "internal:dictcomp") (tEmitK tk tv):=by
 intro pins s σ H a o N I hD ho hi hq
 have pinD:∀{s1:Shared} {pins1:List (Addr×Obj)} {H1:Hp},Inv X pins1 σ H1 s1->FpOk X pins1 H1 D->s1.heap.get? D=some o->Inv X (pins1++pinsAt [D] s1.heap) σ H1 s1:=fun J f e=>J.pinned (fun b hb=>by
  have z:b=D:=by simpa using hb
  subst z
  exact f) (fun b hb=>by
  have z:b=D:=by simpa using hb
  subst z
  exact⟨o,e,isDK_data _ _ hi⟩)
 have h1:=hk _ s σ H _ (pinD I hD ho) hq
 rw[hxe]at h1
 refine wpAny_bind (thn h1 fun u s1 ⟨y,H1,J1,r1,hq1⟩=>?_)
 have q1:=J1.pin (D,o) (List.mem_append_right _ (List.mem_append_right _ (mem_pinsAt (by simp) ho)))
 have h2:=hv _ s1 σ H1 _ J1 hq1
 rw[hxe]at h2
 refine wpAny_bind (wpAny_holding (thn h2 fun u2 s2 ⟨v,H2,J2,r2,k,ek,z2,n2⟩=>?_))
 subst ek
 have q2:=J2.pin (D,o) (List.mem_append_right _ (List.mem_append_right _ (mem_pinsAt (by simp) ho)))
 obtain⟨z,vs,es,ep,g1,g2,g3,g4,g5,g6⟩:=hi
 have dd:s2.heap.DictOf (mixKind X.prog X.w) D vs:=⟨o,es,ep,q2.1,g2,g3,g4,g5,g6⟩
 refine wpAny_bind (wpAny_standAt (wpAny_holding (wpAny_dictSet_pairs (hsz:=by rw[<- g1.length];exact z) (kV_is r1) dd fun h' dd' hs=>?_)))
 obtain⟨_,f1,f2,f3,f4,f5⟩:=hD
 obtain⟨o',es',ep',d1,d2,d3,d4,d5,d6⟩:=dd'
 have J3:Inv X pins σ H2 { s2 with heap:=h',toks:=s2.toks+1 }:=J2.unpinned.turned (it:=D) (t':=s2.toks+1) (fun b o hb e=>(hs.2 b hb).trans e) q2.2.1 f1 f3 f4 f5
 exact⟨σ,_,o',H2,J3,Ext.refl,d1,⟨Nat.le_trans (length_putK a k v) z2,_,es',ep',g1.put k r2,d2,d3,d4,d5,d6⟩,q2.2.1,n2⟩
end
noncomputable abbrev KTL:=List (List Key×Addr×V)
def IsDT (P:Program) (w:World) (a:KTL) (o:Obj):Prop:=a.length<=sizeLine/\∃(xs:List (List Key×Addr×Value)) (es:Array DictEntry) (ep:Nat),Paired (fun(p:List Key×Addr×V) (q:List Key×Addr×Value)=>p.1=q.1/\p.2.1=q.2.1/\RelV p.2.2 q.2.2) a xs/\o.ExactDict/\o.data=.dict es ep/\es.toList=xs.map (entryOfKey (tupleKind (mixKind P w)))/\(xs.map (·.1)).Nodup
theorem isDT_data {P:Program} {w:World} (a:KTL) (o:Obj) (h:IsDT P w a o) (v:Option Value):o.data≠.cell v:=by
 obtain⟨_,_,es,ep,_,_,hd,_⟩:=h
 rw[hd]
 exact fun z=>nomatch z
theorem new_dictT {P:Program} {w:World} (_led:Bool):IsDT P w [] { cls:=.type "dict",dict:=none,data:=.dict #[] }:=
 ⟨Nat.zero_le _,[],#[],0,.nil,⟨rfl,rfl,rfl⟩,rfl,rfl,List.nodup_nil⟩
def okT (a:KTL) (H:Hp):Prop:=∀x∈a,H x.2.1=some (.tup (x.1.map kV))
noncomputable def plT (a:KTL):List (List Key×V):=a.map fun x=>(x.1,x.2.2)
theorem paired_plT {H:Hp}:∀{a:KTL} {xs:List (List Key×Addr×Value)},Paired (fun(p:List Key×Addr×V) (q:List Key×Addr×Value)=>p.1=q.1/\p.2.1=q.2.1/\RelV p.2.2 q.2.2) a xs->okT a H->Paired (fun(p:List Key×V) (q:List Key×Addr×Value)=>p.1=q.1/\H q.2.1=some (.tup (p.1.map kV))/\RelV p.2 q.2.2) (plT a) xs
 |_,_,.nil,_=>.nil
 |_,_,.cons h r,ok=>.cons ⟨h.1,by rw[<- h.2.1];exact ok _ List.mem_cons_self,h.2.2⟩ (paired_plT r fun x hx=>ok x (List.mem_cons_of_mem _ hx))
theorem dt_fin {P:Program} {w:World} (a:KTL) (o:Obj) (D:Addr) (H:Hp) (h:Heap) (i:IsDT P w a o) (e:h.get? D=some o) (sy:(D == sysModules)=false) (hD:H D=none) (ok:okT a H) (_:HOk P w H h):ObjOk P w (upd H D (.dT (plT a))) h D (.dT (plT a)):=by
 obtain⟨z,xs,es,ep,h1,h2,h3,h4,h5⟩:=i
 refine⟨by unfold plT;rw[List.length_map];exact z,sy,xs,paired_plT h1 fun x hx=>?_,o,es,ep,e,h2,h3,h4,h5⟩
 rw[upd_ne (ne_of_none (ok x hx) hD)]
 exact ok x hx
section
variable {X:Cx}
noncomputable def tEmitT (tk tv:TE):TL KTL:=fun σ a H N=>tk σ H fun y H1=>tv σ H1 fun v H2=>∃(k:List Key) (b:Addr),y=.ref b/\H2 b=some (.tup (k.map kV))/\okT a H2/\(∀x∈a,x.1≠k)/\a.length<sizeLine/\N (a++[(k,b,v)]) H2
theorem run_emitT {D:Addr} {ke ve:Expr} {tk tv:TE} (hu:X.A.units+1<cLine) (hxe:X.xe=fun _ _=>False) (hk:PE X ke tk) (hv:PE X ve tv):CompRun X D (IsDT X.prog X.w) [] (do
   let kv <- eval ke X.env
   let vv <- holding [kv] (eval ve X.env)
   match Value.ref D with
   | .ref d=>do
    standAt { ke.pos with endLine:=ve.pos.endLine,endCol:=ve.pos.endCol }
    holding [kv,vv] (dictSet d kv vv)
   |_=>unsupported "internal:dictcomp") (tEmitT tk tv):=by
 intro pins s σ H a o N I hD ho hi hq
 have pinD:∀{s1:Shared} {pins1:List (Addr×Obj)} {H1:Hp},Inv X pins1 σ H1 s1->FpOk X pins1 H1 D->s1.heap.get? D=some o->Inv X (pins1++pinsAt [D] s1.heap) σ H1 s1:=fun J f e=>J.pinned (fun b hb=>by
  have z:b=D:=by simpa using hb
  subst z
  exact f) (fun b hb=>by
  have z:b=D:=by simpa using hb
  subst z
  exact⟨o,e,isDT_data _ _ hi⟩)
 have h1:=hk _ s σ H _ (pinD I hD ho) hq
 rw[hxe]at h1
 refine wpAny_bind (thn h1 fun u s1 ⟨y,H1,J1,r1,hq1⟩=>?_)
 have h2:=hv _ s1 σ H1 _ J1 hq1
 rw[hxe]at h2
 refine wpAny_bind (wpAny_holding (thn h2 fun u2 s2 ⟨v,H2,J2,r2,k,b,ek,eb,ok,nw,z2,n2⟩=>?_))
 subst ek
 cases(show u=Value.ref b from r1)
 have q2:=J2.pin (D,o) (List.mem_append_right _ (List.mem_append_right _ (mem_pinsAt (by simp) ho)))
 obtain⟨z,xs,es,ep,g1,g2,g3,g4,g5⟩:=hi
 have hxl:=Paired.length g1
 have dd:s2.heap.DictOfH (tupleKind (mixKind X.prog X.w)) D xs:=⟨o,es,ep,q2.1,g2,g3,g4,fun x hx=>by
  obtain⟨p,hp,e1,e2,_⟩:=paired_mem_r g1 hx
  rw[<- e1,<- e2]
  exact key_of J2.hok (ok p hp),g5⟩
 refine wpAny_bind (wpAny_standAt (wpAny_holding (wpAny_dictSet_heap (hsz:=by rw[<- hxl];exact z) (show X.A.units<cLine from Nat.lt_of_succ_lt hu) (key_of J2.hok eb) dd fun h' dd' hs=>?_)))
 obtain⟨_,f1,f2,f3,f4,f5⟩:=hD
 have hnew:∀x∈xs,x.1≠k:=fun x hx e=>by
  obtain⟨p,hp,e1,_⟩:=paired_mem_r g1 hx
  exact nw p hp (e1.trans e)
 rw[storedH_new (by unfold atKey;rw[List.find?_eq_none.mpr (fun x hx=>by simpa using hnew x hx)];rfl)]at dd'
 obtain⟨o',es',ep',d1,d2,d3,d4,d5,d6⟩:=dd'
 have J3:Inv X pins σ H2 { s2 with heap:=h',toks:=s2.toks+(tupleKind (mixKind X.prog X.w)).draws k }:=J2.unpinned.turned (it:=D) (t':=s2.toks+(tupleKind (mixKind X.prog X.w)).draws k) (fun b o hb e=>(hs.2 b hb).trans e) q2.2.1 f1 f3 f4 f5
 exact⟨σ,_,o',H2,J3,Ext.refl,d1,⟨by rw[List.length_append];exact z2,_,es',ep',Paired.snoc g1 ⟨rfl,rfl,r2⟩,d2,d3,d4,d6⟩,q2.2.1,n2⟩
end
noncomputable def tInX (neg:Bool) (ty td:TE):TE:=fun σ H Q=>ty σ H fun y H1=>td σ H1 fun x H2=>(∃a o,x=.ref a/\DGet H2 a y o/\Q (.bl (if neg then !o.isSome else o.isSome)) H2)\/rInO neg y x H2 Q
noncomputable def tDGetN (td ty:TE):TE:=fun σ H Q=>td σ H fun x H1=>∃a,x=.ref a/\IsD H1 a/\ty σ H1 fun y H2=>(∃o,DGet H2 a y o/\Q (o.getD .non) H2)\/(y=.non/\NoN H2 a/\Q .non H2)
section
variable {X:Cx} {o e f i:Expr} {apos cpos:Pos} {td ty tx:TE}
theorem pc_inX (hu:X.A.units+1<cLine) (hi:PE X i ty) (ho:PE X o td):PC X .In i o (tInX false ty td):=by
 intro pins s σ H Q I h
 refine thn (hi pins s σ H _ I h) fun iv s1 ⟨y,H1,I1,ry,q1⟩=>thn (ho pins s1 σ H1 _ I1 q1) fun u s2 ⟨x,H2,I2,rx,q2⟩=>?_
 rcases q2 with⟨a,ov,ex,g,q2⟩|q2
 .subst ex
  obtain rfl:u=Value.ref a:=rx
  exact d_in hu I2 g ry fun s3 I3=>⟨.bl ov.isSome,H2,I3,rfl,q2⟩
 .exact op_inO pins s2 σ H2 y x iv u Q I2 ry rx q2
theorem pc_notInX (hu:X.A.units+1<cLine) (hi:PE X i ty) (ho:PE X o td):PC X .NotIn i o (tInX true ty td):=by
 intro pins s σ H Q I h
 refine thn (hi pins s σ H _ I h) fun iv s1 ⟨y,H1,I1,ry,q1⟩=>thn (ho pins s1 σ H1 _ I1 q1) fun u s2 ⟨x,H2,I2,rx,q2⟩=>?_
 rcases q2 with⟨a,ov,ex,g,q2⟩|q2
 .subst ex
  obtain rfl:u=Value.ref a:=rx
  exact d_notIn hu I2 g ry fun s3 I3=>⟨.bl (!ov.isSome),H2,I3,rfl,q2⟩
 .exact op_notInO pins s2 σ H2 y x iv u Q I2 ry rx q2
theorem pe_dgetN (hu:X.A.units+1<cLine) (ho:PE X o td) (he:PE X e ty) (m:M1 X o "get" apos e cpos):PE X (.Call (.Attribute o "get" apos) [e] [] cpos) (tDGetN td ty):=by
 intro pins s σ H Q I h
 refine wpAny_Call_method m.base m.few m.line PySem.F.plainAttrs_dict PySem.F.slot_dict_get PySem.F.type_dict_get (thn (ho pins s σ H _ I h) fun u s1 ⟨x,H1,I1,rx,a,ex,d,q1⟩=>?_)
 subst ex
 obtain rfl:u=Value.ref a:=rx
 obtain⟨t1,t2,_⟩:=isD_at I1 d
 refine⟨t1,t2,?_⟩
 rw[m.trees]
 refine Calls.callWith_builtin rfl (Calls.evalArgs_plain (Calls.spliced_cons (thn (he pins s1 σ H1 _ I1 q1) fun iv s2 ⟨y,H2,I2,ry,q2⟩=>Calls.spliced_nil ?_)))
 rcases q2 with⟨ov,g,q2⟩|⟨ey,g,q2⟩
 .exact d_get1 hu I2 g ry fun w' s3 I3 rw'=>⟨_,H2,I3,rw',q2⟩
 .subst ey
  obtain rfl:iv=Value.none:=ry
  exact d_getN I2 g fun s3 I3=>⟨.non,H2,I3,rfl,q2⟩
end
noncomputable abbrev tSetC (own:List Nat) (wi:TI) (g:TG) (tc:TT) (rest:TL ((Option Int->Bool)×Nat)):TE:=tCompG own wi g tc rest (fun _=>false,0) (fun p a=>SetO p a.1 a.2) fun _ _=>True
noncomputable abbrev tDctK (own:List Nat) (wi:TI) (g:TG) (tc:TT) (tk tv:TE):TE:=tCompG own wi g tc (tEmitK tk tv) [] (fun _ a=>.dK a) fun _ _=>True
noncomputable abbrev tDctT (own:List Nat) (wi:TI) (g:TG) (tc:TT) (tk tv:TE):TE:=tCompG own wi g tc (tEmitT tk tv) [] (fun _ a=>.dT (plT a)) okT
section
variable {X:Cx} {e:Expr} {scope:Scope} {tg iter:Expr} {ifs:List Expr} {nx:Addr->Env->Sem Unit} {g:TG} {tc:TT} {own:List Nat} {wi:TI}
theorem set_fin {P:Program} {w:World} (a:(Option Int->Bool)×Nat) (o:Obj) (D:Addr) (H:Hp) (h:Heap) (i:IsS a o) (e:h.get? D=some o) (_:(D == sysModules)=false) (_:H D=none) (_:True) (_:HOk P w H h):ObjOk P w (upd H D (SetO D a.1 a.2)) h D (SetO D a.1 a.2):=setO_ok e i
theorem ps_mk {α:Type} {Is:α->Obj->Prop} {rest:TL α} {a0:α} {o0:Bool->Obj} {newAcc:Sem Value} {ho:Addr->α->HO} {ok:α->Hp->Prop} {i:Nat} {y:Str} {py pos pos2:Pos}
  (hnew:∀(s:Shared) (Q:Value->Shared->Prop),(∀led,Q (.ref s.heap.objs.size) { s with heap:=s.heap.push (o0 led) })->wpAny (model X.prog X.w) X.A newAcc Q X.xe s) (hfr:∀led,(o0 led).isFreed=false) (ha0:∀led,Is a0 (o0 led)) (hda:∀(a:α) (o:Obj),Is a o->∀v:Option Value,o.data≠.cell v)
  (hfin:∀(a:α) (o:Obj) (D:Addr) (H:Hp) (h:Heap),Is a o->h.get? D=some o->(D == sysModules)=false->H D=none->ok a H->HOk X.prog X.w H h->ObjOk X.prog X.w (upd H D (ho D a)) h D (ho D a))
  (C:CompInG Is X e scope tg iter ifs nx g tc rest own) (hi:PI X tg iter wi) (hN:X.N.Nodup) (hy:X.N[i]?=some y) (hx:Loc X.env.scope y) (hf:X.fn y=true\/X.env.scope.names.lookup y=some .local)
  (hG:PG X (.Name y py) (gName i))
  (he:eval e X.env=comprehension e scope X.env pos2 newAcc false (eval iter X.env))
  (he2:evalThenUse e X.env (assign (.Name y py) X.env)=(do let _ <- comprehension e scope X.env pos2 newAcc false (eval iter X.env) (some (assign (.Name y py) X.env))))
  (hsw:∃b,swapsWith e (some (.Name y py)) pos.line X.env=pure b):PS X (.Assign [.Name y py] e pos) (tAsg (tCompG own wi g tc rest a0 ho ok) (gName i)):=by
 obtain⟨b,hb⟩:=hsw
 cases b with
 |true=>exact ps_setcompG hnew hfr ha0 hda hfin C hi hN hy hx hf he2 hb
 |false=>exact ps_asg (pe_compG hnew hfr ha0 hda hfin C hi he) hG hb rfl
end
section
variable {prog:Program} {w:World} {A:Around} {E:Value->Shared->Prop} {s:Shared}
end
section
variable {X:Cx}
variable {e:Expr} {scope:Scope} {tg iter:Expr} {ifs:List Expr} {nx:Addr->Env->Sem Unit} {g:TG} {tc:TT} {rest:TL ((Option Int->Bool)×Nat)} {own:List Nat} {wi:TI}
end
section
variable {prog:Program} {w:World} {A:Around} {E:Value->Shared->Prop} {s:Shared}
end
section
variable {X:Cx}
end
section
variable {prog:Program} {w:World} {A:Around} {E:Value->Shared->Prop} {s:Shared}
end
section
variable {X:Cx}
end
end L2
namespace R3
open PySem PySem.Spec PyProof.Rows L2
inductive Bf where
 |len|abs|int|isinstance|all|max|min|list|tuple|range|sum|set|anyI|anyE|minE
 deriving DecidableEq
inductive Mf where
 |append|extend|join|bitlen|popL
 deriving DecidableEq
inductive Xf where
 |eqT|inR|notInR
 deriving DecidableEq
inductive Zf where
 |eqB|ninB|ltS
 deriving DecidableEq
inductive Yf where
 |strd|ltx
 deriving DecidableEq
set_option genInjectivity false
mutual
inductive Ce where
 |var (i:Nat)|int (n:Int)|bl (b:Bool)|non|str (x:Str)|ty (n:String)
 |bin (op:Operator) (a b:Ce)
 |neg (a:Ce)|not (a:Ce)
 |and (a b:Ce)|or (a b:Ce)
 |cmp (op:CmpOp) (a b:Ce)
 |chn (op op':CmpOp) (a b c:Ce)
 |ife (q:Cq) (a b:Ce)
 |tup (es:Ces)|lst (es:Ces)
 |idx (a b:Ce)
 |call (f:Str) (es:Ces)
 |blt (f:Bf) (es:Ces)
 |met (m:Mf) (o:Ce) (es:Ces)
 |comp (elt:Ce) (own:List Nat) (t:Ct) (it:Ci) (q:Cqo) (r:Cc)
 |din (neg:Bool) (a b:Ce)|dgt (a b:Ce)|gint (x:Str) (n:Int)
 |cl0 (f:Str)
inductive Ces where
 |nil|cons (e:Ce) (r:Ces)
inductive Cq where
 |val (e:Ce)|not (q:Cq)|and (a b:Cq)|or (a b:Cq)|cmp (op:CmpOp) (a b:Ce)|chn (op op':CmpOp) (a b c:Ce)|din (neg:Bool) (a b:Ce)
inductive Cqo where
 |none|some (q:Cq)
inductive Co where
 |none|some (e:Ce)
inductive Ci where
 |val (e:Ce)|range1 (a:Ce)|range2 (a b:Ce)|zip (a b:Ce)|enum (a:Ce)
inductive Ct where
 |name (i:Nat)|tup (ts:Cts)|sub (o i:Ce)
inductive Cts where
 |nil|cons (t:Ct) (r:Cts)
inductive Cc where
 |nil|cons (ws:List Nat) (t:Ct) (it:Ci) (q:Cqo) (r:Cc)
end
mutual
inductive Cs where
 |expr (e:Ce)|ret (e:Ce)|asg (t:Ct) (e:Ce)|aug (i:Nat) (sub:Bool) (e:Ce)
 |ite (q:Cq) (a b:Css)|whl (q:Cq) (b:Css)|for_ (t:Ct) (it:Ci) (b:Css)|augS (o i:Ce) (sub:Bool) (e:Ce)
 |setc2 (i:Nat) (elt:Ce) (own:List Nat) (t:Ct) (it:Ci) (q:Cqo) (ws:List Nat) (t2:Ct) (it2:Ci) (q2:Cqo)|dctc (tup:Bool) (i:Nat) (k v:Ce) (own:List Nat) (t:Ct) (it:Ci) (q:Cqo)
inductive Css where
 |nil|cons (s:Cs) (r:Css)
end
set_option genInjectivity true
def CShl (i j:Int):Prop:=0<=j/\j<=1000000/\i.natAbs<2 ^ 100
def CDivW (_ j:Int):Prop:=0<j/\(j<1073741824\/j.natAbs.log2<9000)
def CMulW (i j:Int):Prop:=(-(2 ^ 64)<i/\i<2 ^ 64)\/(-(2 ^ 64)<j/\j<2 ^ 64)\/IntMulOk i j
section
variable (K:W.Frag)
noncomputable def rBin:Operator->R2
 | .Add=>fun x y H Q=>match x,y with
  | .int i,.int j=>Q (.int (i+j)) H
  | .str i,.str j=>i.length+j.length<=sizeLine/\Q (.str (i++j)) H
  |x,y=>rCat x y H Q\/rCatT K x y H Q\/rCatT0 K x y H Q
 | .Sub=>rI0 fun i j=>.int (i-j)
 | .Mult=>fun x y H Q=>match x,y with
  | .int i,.int j=>CMulW i j/\Q (.int (i*j)) H
  | .str a,.int n=>-1000000<=n/\n<=1000000/\a.length*n.toNat<=1000000/\Q (.str (Txt.mul a n)) H
  |x,y=>rRep x y H Q
 | .Mod=>rI (fun _ j=>0<j) fun i j=>.int (i % j)
 | .FloorDiv=>rI CDivW fun i j=>.int (i / j)
 | .Pow=>rI CPow fun i j=>.int (i ^ j.toNat)
 | .LShift=>rI CShl fun i j=>.int (i*2 ^ j.toNat)
 | .RShift=>rI (fun _ j=>0<=j) fun i j=>.int (i / 2 ^ j.toNat)
 | .BitAnd=>rI (fun i j=>0<=i/\j=1) fun i _=>.int (i % 2)
 |_=>fun _ _ _ _=>False
noncomputable def rCmp:CmpOp->R2
 | .Eq=>fun x y H Q=>match x,y with
  | .ref a,.ref b=>rEqL K false (.ref a) (.ref b) H Q\/rEqD false (.ref a) (.ref b) H Q
  |x,y=>rEq x y H Q
 | .NotEq=>fun x y H Q=>match x,y with
  | .ref a,.ref b=>rEqL K true (.ref a) (.ref b) H Q\/rEqD true (.ref a) (.ref b) H Q
  |x,y=>rNe x y H Q
 | .Lt=>rI0 fun i j=>.bl (decide (i<j))
 | .LtE=>rI0 fun i j=>.bl (decide (i<=j))
 | .Gt=>fun x y H Q=>match x with
  | .str a=>rGtS (.str a) y H Q
  |x=>rI0 (fun i j=>.bl (decide (j<i))) x y H Q
 | .GtE=>rI0 fun i j=>.bl (decide (j<=i))
 | .Is=>fun x y H Q=>match y with
  | .bl b=>rIsB false x (.bl b) H Q
  |y=>y=.non/\Q (.bl (decide (x=.non))) H
 | .IsNot=>fun x y H Q=>match y with
  | .bl b=>rIsB true x (.bl b) H Q
  |y=>y=.non/\Q (.bl (!decide (x=.non))) H
 | .In=>fun x y H Q=>match y with
  | .str b=>rInS false x (.str b) H Q
  |y=>rIn K false x y H Q
 | .NotIn=>fun x y H Q=>match y with
  | .str b=>rInS true x (.str b) H Q
  |y=>rIn K true x y H Q
noncomputable def rBlt:Bf->List V->Hp->VK->Prop
 | .len=>fun xs H Q=>∃x n,xs=[x]/\LenV K x H n/\Q (.int n) H
 | .abs=>fun xs H Q=>∃i,xs=[.int i]/\Q (.int (if i<0 then -i else i)) H
 | .int=>fun xs H Q=>match xs with
  | [.int i]=>Q (.int i) H
  | [.bl k]=>Q (.int (if k then 1 else 0)) H
  | [.str x]=>∃n,PySem.intText? x=some n/\x.length<=640/\Q (.int n) H
  | [.str x,.int j]=>j=2/\∃n,B2 x n/\Q (.int n) H
  |_=>False
 | .isinstance=>fun xs H Q=>rIsi xs H Q\/False
 | .all=>rAll K false
 | .anyI=>rAnyI K
 | .anyE=>rAnyE K
 | .minE=>rMinE K
 | .max=>fun xs H Q=>match xs with
  | [.int i,.int j]=>Q (.int (if j > i then j else i)) H
  |xs=>rBest K true xs H Q
 | .min=>fun xs H Q=>match xs with
  | [.int i,.int j]=>Q (.int (if j<i then j else i)) H
  |xs=>rBest K false xs H Q
 | .list=>fun xs H Q=>(∃p ys,xs=[.ref p]/\(SqL K H p ys\/SqT K H p ys)/\∀l,H l=none->Q (.ref l) (upd H l (.lst ys)))\/rLrg xs H Q
 | .range=>rRng
 | .sum=>rSum K
 | .set=>rSetOf K
 | .tuple=>fun xs H Q=>∃p ys,xs=[.ref p]/\((SqL K H p ys/\∀l,H l=none->Q (.ref l) (upd H l (.tup ys)))\/(SqT K H p ys/\Q (.ref p) H))
noncomputable def rMet:Mf->V->List V->Hp->VK->Prop
 | .append=>rAppend
 | .extend=>rExtend
 | .join=>rJoin K
 | .bitlen=>rBitLen
 | .popL=>rPop
noncomputable def metTy:Mf->String
 | .join=>"str"
 | .bitlen=>"int"
 |_=>"list"
noncomputable def metName:Mf->Str
 | .append=>"append"
 | .extend=>"extend"
 | .join=>"join"
 | .bitlen=>"bit_length"
 | .popL=>"pop"
noncomputable def bltName:Bf->Str
 | .len=>"len"
 | .abs=>"abs"
 | .int=>"int"
 | .isinstance=>"isinstance"
 | .all=>"all"
 | .anyI=>"any"
 | .anyE=>"any"
 | .minE=>"min"
 | .max=>"max"
 | .min=>"min"
 | .list=>"list"
 | .tuple=>"tuple"
 | .range=>"range"
 | .sum=>"sum"
 | .set=>"set"
noncomputable def rIxM:R2:=fun x y H Q=>match x,y with
 | .str z,.int i=>z.length<=sizeLine/\∃c,atI z.cps.toList i=some c/\Q (.str ⟨#[c]⟩) H
 |x,y=>rIxL K x y H Q\/rIxT K x y H Q
noncomputable def rSl:V->Option Int->Option Int->Hp->VK->Prop:=fun x lo hi H Q=>match x with
 | .str a=>a.length<=sizeLine/\Q (.str (Txt.slice a lo hi)) H
 |x=>rSlL K x lo hi H Q\/rSlT K x lo hi H Q\/rSlW K x lo hi H Q
end
noncomputable def rZf:Zf->R2
 | .eqB=>rEqB false
 | .ninB=>rNinB
 | .ltS=>fun x y H Q=>∃i j,x=.str i/\y=.str j/\Q (.bl (decide (i.cps.toList<j.cps.toList))) H
structure Rc where
 N:List Str
 B:List Str
 K:W.Frag
 fs:Str->Option Sp
 xk:L2.St->XK:=fun _=>E0
 cl:Str->Option Addr:=fun _=>none
noncomputable def tDinB (neg:Bool) (ty td:TE):TE:=tInX neg ty td
noncomputable def lenTs:Cts->Nat
 | .nil=>0
 | .cons _ r=>lenTs r+1
mutual
noncomputable def tE (C:Rc):Ce->TE
 | .var i=>tVar i
 | .int n=>tC (.int n)
 | .bl b=>tC (.bl b)
 | .non=>tC .non
 | .str x=>tC (.str x)
 | .ty n=>tC (.ty n)
 | .bin op a b=>tOp (rBin C.K op) (tE C a) (tE C b)
 | .neg a=>tUn (rU fun i=>.int (-i)) (tE C a)
 | .not a=>tNotV (tE C a)
 | .and a b=>tAndV (tE C a) (tE C b)
 | .or a b=>tOrV (tE C a) (tE C b)
 | .cmp op a b=>tOp (rCmp C.K op) (tE C a) (tE C b)
 | .chn op op' a b c=>tChain (rCmp C.K op) (rCmp C.K op') (tE C a) (tE C b) (tE C c)
 | .ife q a b=>tIf (tQ C q) (tE C a) (tE C b)
 | .tup es=>tTup (tA C es)
 | .lst es=>tLst (tA C es)
 | .idx a b=>tOp (rIxM C.K) (tE C a) (tE C b)
 | .call f es=>fun σ H Q=>match C.fs f with
  |some sp=>tCall sp [] (C.xk σ) (tA C es) σ H Q
  |none=>False
 | .cl0 f=>fun σ H Q=>match C.fs f with
  |some sp=>tCall sp [] (C.xk σ) tNil σ H Q
  |none=>False
 | .blt f es=>tCB (rBlt C.K f) (tA C es)
 | .met m o es=>tBM C.K (metTy m) (rMet C.K m) (tE C o) (tA C es)
 | .din neg a b=>tDinB neg (tE C a) (tE C b)
 | .dgt a b=>tDGetN (tE C a) (tE C b)
 | .gint x n=>tGint C.K x n
 | .comp elt own t it q r=>tComp own (tI C it) (tG C t) (tQo C q) (tR C r (tEmit (tE C elt)))
noncomputable def tA (C:Rc):Ces->TA
 | .nil=>tNil
 | .cons e r=>tCons (tE C e) (tA C r)
noncomputable def tQ (C:Rc):Cq->TT
 | .val e=>fun σ H Q=>tE C e σ H fun x H'=>∃k,TruV C.K x H' k/\Q k H'
 | .not q=>tNot (tQ C q)
 | .and a b=>tAnd (tQ C a) (tQ C b)
 | .or a b=>tOr (tQ C a) (tQ C b)
 | .cmp op a b=>tTest (tOp (rCmp C.K op) (tE C a) (tE C b))
 | .chn op op' a b c=>tTest (tChain (rCmp C.K op) (rCmp C.K op') (tE C a) (tE C b) (tE C c))
 | .din neg a b=>tTest (tDinB neg (tE C a) (tE C b))
noncomputable def tQo (C:Rc):Cqo->TT
 | .none=>fun _ H Q=>Q true H
 | .some q=>tQ C q
noncomputable def tO (C:Rc):Co->TO
 | .none=>tNoPart
 | .some e=>tPart (tE C e)
noncomputable def tI (C:Rc):Ci->TI
 | .val e=>iVal C.K (tE C e)
 | .range1 a=>iRng1 (tCons (tE C a) tNil)
 | .range2 a b=>iRng2 (tCons (tE C a) (tCons (tE C b) tNil))
 | .zip a b=>iZip C.K (tCons (tE C a) (tCons (tE C b) tNil))
 | .enum a=>iEnum C.K (tE C a)
noncomputable def tG (C:Rc):Ct->TG
 | .name i=>gName i
 | .tup ts=>gSeq C.K (lenTs ts) (tGs C ts)
 | .sub o i=>gSub (tE C o) (tE C i) rSetL
noncomputable def tGs (C:Rc):Cts->TGs
 | .nil=>gNil
 | .cons t r=>gCons (tG C t) (tGs C r)
noncomputable def tR (C:Rc):Cc->TL (List V)->TL (List V)
 | .nil,em=>em
 | .cons ws t it q r,em=>tNest (tI C it) (tClause ws (tG C t) (tQo C q) (tR C r em))
end
mutual
noncomputable def tS (C:Rc):Cs->TS
 | .expr e=>tDrop (tE C e)
 | .ret e=>tRet (tE C e)
 | .asg t e=>tAsg (tE C e) (tG C t)
 | .aug i sub e=>tAug i (tE C e) (ipI fun i j=>if sub then i-j else i+j)
 | .augS o i sub e=>tAugS (tE C o) (tE C i) (tE C e) (rIxL C.K) (ipI fun i j=>if sub then i-j else i+j) rSetL
 | .ite q a b=>tIfS (tQ C q) (tSs C a) (tSs C b)
 | .whl q b=>tWhile (tQ C q) (tSs C b)
 | .for_ t it b=>tFor (tI C it) (tG C t) (tSs C b)
 | .setc2 i elt own t it q ws t2 it2 q2=>tAsg (tSetC own (tI C it) (tG C t) (tQo C q) (tNest (tI C it2) (tClause ws (tG C t2) (tQo C q2) (tEmitS (tE C elt))))) (gName i)
 | .dctc tup i k v own t it q=>if tup then tAsg (tDctT own (tI C it) (tG C t) (tQo C q) (tE C k) (tE C v)) (gName i)else tAsg (tDctK own (tI C it) (tG C t) (tQo C q) (tE C k) (tE C v)) (gName i)
noncomputable def tSs (C:Rc):Css->TS
 | .nil=>tNext
 | .cons s r=>tSeq (tS C s) (tSs C r)
end
noncomputable def vis (sc:Scope) (x:Str):Bool:=match sc.names.lookup x with
 |some .local=>true
 |some .cell=>true
 |some .free=>true
 |_=>false
noncomputable def locb (sc:Scope) (x:Str):Bool:=match sc.names.lookup x with
 |some .local=>true
 |some .cell=>true
 |_=>false
noncomputable def glb (sc:Scope) (x:Str):Bool:=decide (sc.names.lookup x=some .globalImplicit)
noncomputable def nameOk (N:List Str) (i:Nat) (x:Str):Bool:=decide (N[i]?=some x)&&!(x == ("__debug__":Str))&&!(x == ("__classdict__":Str))
noncomputable def notStar:Expr->Bool
 | .Starred ..=>false
 |_=>true
noncomputable def okIter:Expr->Bool
 | .Set ..=>false
 |_=>true
noncomputable def notSlice:Expr->Bool
 | .Slice ..=>false
 |_=>true
noncomputable def baseOk:Expr->Bool
 | .Call _ [] _ _=>false
 |_=>true
noncomputable def plainT:Expr->Bool
 | .UnaryOp .Not _ _=>false
 | .BoolOp ..=>false
 | .IfExp ..=>false
 | .Compare ..=>false
 |_=>true
noncomputable def typeNames:List String:=["list","tuple","str","bool","int","dict","ValueError"]
noncomputable def scOk (N:List Str) (sc scope:Scope) (own:List Nat):Bool:=
 decide (scope.kind=.function)&&
 scope.names.all (fun x=>(decide (x.2≠.local) || decide (scope.names.lookup x.1=some .local))&&(decide (x.2≠.cell) || decide (scope.names.lookup x.1=some .cell))&&
  (decide (x.2≠.free) || decide (sc.names.lookup x.1=some .cell) || decide (sc.names.lookup x.1=some .free)))&&
 (List.range N.length).all (fun i=>match N[i]? with
  |some x=>(decide (scope.names.lookup x≠some .local)&&decide (scope.names.lookup x≠some .cell)) || decide (i∈own)
  |none=>true)
noncomputable def zipT:Ci->Expr->Bool
 | .zip _ _,.Tuple ..=>true
 | .zip _ _,_=>false
 | .enum _,.Tuple ..=>true
 | .enum _,_=>false
 |_,_=>true
mutual
noncomputable def tOwn (own:List Nat):Ct->Bool
 | .name i=>decide (i∈own)
 | .tup ts=>tOwns own ts
 | .sub _ _=>false
noncomputable def tOwns (own:List Nat):Cts->Bool
 | .nil=>true
 | .cons t r=>tOwn own t&&tOwns own r
end
noncomputable def tld (B:List Str):Bool:=decide (("~":Str)∈B)
noncomputable def hat (B:List Str):Bool:=decide (("^":Str)∈B)
noncomputable def pct (B:List Str):Bool:=decide (("%":Str)∈B)
noncomputable def bang (x:Str):Str:=⟨#[33]++x.cps⟩
theorem no_tt {P:Prop} (h:false=true):P:=(Bool.false_ne_true h).elim
theorem band {a b:Bool} (h:(a&&b)=true):a=true/\b=true:=by
 cases a with
 |true=>exact⟨rfl,h⟩
 |false=>exact no_tt h
noncomputable def vAnd (e:Expr) (f:Expr->Expr->Bool):Bool:=match e with
 | .BoolOp .And [x,y] _=>f x y
 | .BoolOp .And (x :: y :: z :: r) pos=>f x (.BoolOp .And (y :: z :: r) pos)
 |_=>false
theorem vAnd_of {e:Expr} {f:Expr->Expr->Bool} (h:vAnd e f=true):(∃x y pos,e=.BoolOp .And [x,y] pos/\f x y=true)\/∃x y z r pos,e=.BoolOp .And (x :: y :: z :: r) pos/\f x (.BoolOp .And (y :: z :: r) pos)=true:=by
 cases e with
 |BoolOp o vs pos=>
  cases o with
  |And=>
   cases vs with
   |nil=>exact no_tt h
   |cons x r=>
    cases r with
    |nil=>exact no_tt h
    |cons y r=>
     cases r with
     |nil=>exact .inl ⟨x,y,pos,rfl,h⟩
     |cons z r=>exact .inr ⟨x,y,z,r,pos,rfl,h⟩
  |_=>exact no_tt h
 |_=>exact no_tt h
noncomputable def vOr (e:Expr) (f:Expr->Expr->Bool):Bool:=match e with
 | .BoolOp .Or [x,y] _=>f x y
 | .BoolOp .Or (x :: y :: z :: r) pos=>f x (.BoolOp .Or (y :: z :: r) pos)
 |_=>false
theorem vOr_of {e:Expr} {f:Expr->Expr->Bool} (h:vOr e f=true):(∃x y pos,e=.BoolOp .Or [x,y] pos/\f x y=true)\/∃x y z r pos,e=.BoolOp .Or (x :: y :: z :: r) pos/\f x (.BoolOp .Or (y :: z :: r) pos)=true:=by
 cases e with
 |BoolOp o vs pos=>
  cases o with
  |Or=>
   cases vs with
   |nil=>exact no_tt h
   |cons x r=>
    cases r with
    |nil=>exact no_tt h
    |cons y r=>
     cases r with
     |nil=>exact .inl ⟨x,y,pos,rfl,h⟩
     |cons z r=>exact .inr ⟨x,y,z,r,pos,rfl,h⟩
  |_=>exact no_tt h
 |_=>exact no_tt h
noncomputable def w_nil {α:Type} (z:List α) (f:Bool):Bool:=match z with
 | []=>f
 |_=>false
theorem w_nil_of {α:Type} {z:List α} {f:Bool} (h:w_nil z f=true):z=[]/\f=true:=by
 cases z with
 |nil=>exact⟨rfl,h⟩
 |_=>exact no_tt h
noncomputable def w_cons {α:Type} (z:List α) (f:α->List α->Bool):Bool:=match z with
 |x :: r=>f x r
 |_=>false
theorem w_cons_of {α:Type} {z:List α} {f:α->List α->Bool} (h:w_cons z f=true):∃x r,z=x :: r/\f x r=true:=by
 cases z with
 |cons x r=>exact⟨x,r,rfl,h⟩
 |_=>exact no_tt h
noncomputable def w_none {α:Type} (z:Option α) (f:Bool):Bool:=match z with
 |none=>f
 |_=>false
theorem w_none_of {α:Type} {z:Option α} {f:Bool} (h:w_none z f=true):z=none/\f=true:=by
 cases z with
 |none=>exact⟨rfl,h⟩
 |_=>exact no_tt h
noncomputable def w_some {α:Type} (z:Option α) (f:α->Bool):Bool:=match z with
 |some x=>f x
 |_=>false
theorem w_some_of {α:Type} {z:Option α} {f:α->Bool} (h:w_some z f=true):∃x,z=some x/\f x=true:=by
 cases z with
 |some x=>exact⟨x,rfl,h⟩
 |_=>exact no_tt h
noncomputable def w_gen (z:Comprehension) (f:Expr->Expr->List Expr->Int->Bool):Bool:=f z.target z.iter z.ifs z.is_async
theorem w_gen_of {z:Comprehension} {f:Expr->Expr->List Expr->Int->Bool} (h:w_gen z f=true):∃a b c d,z=⟨a,b,c,d⟩/\f a b c d=true:=by
 cases z
 exact⟨_,_,_,_,rfl,h⟩
noncomputable def wE_Name (z:Expr) (f:Str->Pos->Bool):Bool:=match z with
 | .Name x0 x1=>f x0 x1
 |_=>false
theorem wE_Name_of {z f} (h:wE_Name z f=true):∃x0 x1,z=.Name x0 x1/\f x0 x1=true:=by
 cases z with
 |Name x0 x1=>exact⟨x0,x1,rfl,h⟩
 |_=>exact no_tt h
noncomputable def wE_Constant (z:Expr) (f:Const->Nat->Pos->Bool):Bool:=match z with
 | .Constant x0 x1 x2=>f x0 x1 x2
 |_=>false
theorem wE_Constant_of {z f} (h:wE_Constant z f=true):∃x0 x1 x2,z=.Constant x0 x1 x2/\f x0 x1 x2=true:=by
 cases z with
 |Constant x0 x1 x2=>exact⟨x0,x1,x2,rfl,h⟩
 |_=>exact no_tt h
noncomputable def wC_int (z:Const) (f:Int->Bool):Bool:=match z with
 | .int x0=>f x0
 |_=>false
theorem wC_int_of {z f} (h:wC_int z f=true):∃x0,z=.int x0/\f x0=true:=by
 cases z with
 |int x0=>exact⟨x0,rfl,h⟩
 |_=>exact no_tt h
noncomputable def wC_bool (z:Const) (f:Bool->Bool):Bool:=match z with
 | .bool x0=>f x0
 |_=>false
theorem wC_bool_of {z f} (h:wC_bool z f=true):∃x0,z=.bool x0/\f x0=true:=by
 cases z with
 |bool x0=>exact⟨x0,rfl,h⟩
 |_=>exact no_tt h
noncomputable def wC_none (z:Const) (f:Bool):Bool:=match z with
 | .none=>f
 |_=>false
theorem wC_none_of {z f} (h:wC_none z f=true):z=.none/\f=true:=by
 cases z with
 |none=>exact⟨rfl,h⟩
 |_=>exact no_tt h
noncomputable def wC_str (z:Const) (f:Str->Bool):Bool:=match z with
 | .str x0=>f x0
 |_=>false
theorem wC_str_of {z f} (h:wC_str z f=true):∃x0,z=.str x0/\f x0=true:=by
 cases z with
 |str x0=>exact⟨x0,rfl,h⟩
 |_=>exact no_tt h
noncomputable def wE_BinOp (z:Expr) (f:Expr->Operator->Expr->Pos->Bool):Bool:=match z with
 | .BinOp x0 x1 x2 x3=>f x0 x1 x2 x3
 |_=>false
theorem wE_BinOp_of {z f} (h:wE_BinOp z f=true):∃x0 x1 x2 x3,z=.BinOp x0 x1 x2 x3/\f x0 x1 x2 x3=true:=by
 cases z with
 |BinOp x0 x1 x2 x3=>exact⟨x0,x1,x2,x3,rfl,h⟩
 |_=>exact no_tt h
noncomputable def wE_UnaryOp (z:Expr) (f:UnaryOp->Expr->Pos->Bool):Bool:=match z with
 | .UnaryOp x0 x1 x2=>f x0 x1 x2
 |_=>false
theorem wE_UnaryOp_of {z f} (h:wE_UnaryOp z f=true):∃x0 x1 x2,z=.UnaryOp x0 x1 x2/\f x0 x1 x2=true:=by
 cases z with
 |UnaryOp x0 x1 x2=>exact⟨x0,x1,x2,rfl,h⟩
 |_=>exact no_tt h
noncomputable def wU_USub (z:UnaryOp) (f:Bool):Bool:=match z with
 | .USub=>f
 |_=>false
theorem wU_USub_of {z f} (h:wU_USub z f=true):z=.USub/\f=true:=by
 cases z with
 |USub=>exact⟨rfl,h⟩
 |_=>exact no_tt h
noncomputable def wU_Not (z:UnaryOp) (f:Bool):Bool:=match z with
 | .Not=>f
 |_=>false
theorem wU_Not_of {z f} (h:wU_Not z f=true):z=.Not/\f=true:=by
 cases z with
 |Not=>exact⟨rfl,h⟩
 |_=>exact no_tt h
noncomputable def wE_Compare (z:Expr) (f:Expr->List CmpOp->List Expr->Pos->Bool):Bool:=match z with
 | .Compare x0 x1 x2 x3=>f x0 x1 x2 x3
 |_=>false
theorem wE_Compare_of {z f} (h:wE_Compare z f=true):∃x0 x1 x2 x3,z=.Compare x0 x1 x2 x3/\f x0 x1 x2 x3=true:=by
 cases z with
 |Compare x0 x1 x2 x3=>exact⟨x0,x1,x2,x3,rfl,h⟩
 |_=>exact no_tt h
noncomputable def wE_IfExp (z:Expr) (f:Expr->Expr->Expr->Pos->Bool):Bool:=match z with
 | .IfExp x0 x1 x2 x3=>f x0 x1 x2 x3
 |_=>false
theorem wE_IfExp_of {z f} (h:wE_IfExp z f=true):∃x0 x1 x2 x3,z=.IfExp x0 x1 x2 x3/\f x0 x1 x2 x3=true:=by
 cases z with
 |IfExp x0 x1 x2 x3=>exact⟨x0,x1,x2,x3,rfl,h⟩
 |_=>exact no_tt h
noncomputable def wE_Tuple (z:Expr) (f:List Expr->Nat->Pos->Bool):Bool:=match z with
 | .Tuple x0 x1 x2=>f x0 x1 x2
 |_=>false
theorem wE_Tuple_of {z f} (h:wE_Tuple z f=true):∃x0 x1 x2,z=.Tuple x0 x1 x2/\f x0 x1 x2=true:=by
 cases z with
 |Tuple x0 x1 x2=>exact⟨x0,x1,x2,rfl,h⟩
 |_=>exact no_tt h
noncomputable def wE_List (z:Expr) (f:List Expr->Pos->Bool):Bool:=match z with
 | .List x0 x1=>f x0 x1
 |_=>false
theorem wE_List_of {z f} (h:wE_List z f=true):∃x0 x1,z=.List x0 x1/\f x0 x1=true:=by
 cases z with
 |List x0 x1=>exact⟨x0,x1,rfl,h⟩
 |_=>exact no_tt h
noncomputable def wE_Subscript (z:Expr) (f:Expr->Expr->Pos->Bool):Bool:=match z with
 | .Subscript x0 x1 x2=>f x0 x1 x2
 |_=>false
theorem wE_Subscript_of {z f} (h:wE_Subscript z f=true):∃x0 x1 x2,z=.Subscript x0 x1 x2/\f x0 x1 x2=true:=by
 cases z with
 |Subscript x0 x1 x2=>exact⟨x0,x1,x2,rfl,h⟩
 |_=>exact no_tt h
noncomputable def wE_Call (z:Expr) (f:Expr->List Expr->List Keyword->Pos->Bool):Bool:=match z with
 | .Call x0 x1 x2 x3=>f x0 x1 x2 x3
 |_=>false
theorem wE_Call_of {z f} (h:wE_Call z f=true):∃x0 x1 x2 x3,z=.Call x0 x1 x2 x3/\f x0 x1 x2 x3=true:=by
 cases z with
 |Call x0 x1 x2 x3=>exact⟨x0,x1,x2,x3,rfl,h⟩
 |_=>exact no_tt h
noncomputable def wE_Attribute (z:Expr) (f:Expr->Str->Pos->Bool):Bool:=match z with
 | .Attribute x0 x1 x2=>f x0 x1 x2
 |_=>false
theorem wE_Attribute_of {z f} (h:wE_Attribute z f=true):∃x0 x1 x2,z=.Attribute x0 x1 x2/\f x0 x1 x2=true:=by
 cases z with
 |Attribute x0 x1 x2=>exact⟨x0,x1,x2,rfl,h⟩
 |_=>exact no_tt h
noncomputable def wE_DictComp (z:Expr) (f:Expr->Expr->List Comprehension->Scope->Pos->Bool):Bool:=match z with
 | .DictComp x0 x1 x2 x3 x4=>f x0 x1 x2 x3 x4
 |_=>false
theorem wE_DictComp_of {z f} (h:wE_DictComp z f=true):∃x0 x1 x2 x3 x4,z=.DictComp x0 x1 x2 x3 x4/\f x0 x1 x2 x3 x4=true:=by
 cases z with
 |DictComp x0 x1 x2 x3 x4=>exact⟨x0,x1,x2,x3,x4,rfl,h⟩
 |_=>exact no_tt h
noncomputable def wE_ListComp (z:Expr) (f:Expr->List Comprehension->Scope->Pos->Bool):Bool:=match z with
 | .ListComp x0 x1 x2 x3=>f x0 x1 x2 x3
 |_=>false
theorem wE_ListComp_of {z f} (h:wE_ListComp z f=true):∃x0 x1 x2 x3,z=.ListComp x0 x1 x2 x3/\f x0 x1 x2 x3=true:=by
 cases z with
 |ListComp x0 x1 x2 x3=>exact⟨x0,x1,x2,x3,rfl,h⟩
 |_=>exact no_tt h
noncomputable def wS_Expr (z:Stmt) (f:Expr->Pos->Bool):Bool:=match z with
 | .Expr x0 x1=>f x0 x1
 |_=>false
theorem wS_Expr_of {z f} (h:wS_Expr z f=true):∃x0 x1,z=.Expr x0 x1/\f x0 x1=true:=by
 cases z with
 |Expr x0 x1=>exact⟨x0,x1,rfl,h⟩
 |_=>exact no_tt h
noncomputable def wS_Return (z:Stmt) (f:Option Expr->Pos->Bool):Bool:=match z with
 | .Return x0 x1=>f x0 x1
 |_=>false
theorem wS_Return_of {z f} (h:wS_Return z f=true):∃x0 x1,z=.Return x0 x1/\f x0 x1=true:=by
 cases z with
 |Return x0 x1=>exact⟨x0,x1,rfl,h⟩
 |_=>exact no_tt h
noncomputable def wS_Assign (z:Stmt) (f:List Expr->Expr->Pos->Bool):Bool:=match z with
 | .Assign x0 x1 x2=>f x0 x1 x2
 |_=>false
theorem wS_Assign_of {z f} (h:wS_Assign z f=true):∃x0 x1 x2,z=.Assign x0 x1 x2/\f x0 x1 x2=true:=by
 cases z with
 |Assign x0 x1 x2=>exact⟨x0,x1,x2,rfl,h⟩
 |_=>exact no_tt h
noncomputable def wE_SetComp (z:Expr) (f:Expr->List Comprehension->Scope->Pos->Bool):Bool:=match z with
 | .SetComp x0 x1 x2 x3=>f x0 x1 x2 x3
 |_=>false
theorem wE_SetComp_of {z f} (h:wE_SetComp z f=true):∃x0 x1 x2 x3,z=.SetComp x0 x1 x2 x3/\f x0 x1 x2 x3=true:=by
 cases z with
 |SetComp x0 x1 x2 x3=>exact⟨x0,x1,x2,x3,rfl,h⟩
 |_=>exact no_tt h
noncomputable def wS_AugAssign (z:Stmt) (f:Expr->Operator->Expr->Pos->Bool):Bool:=match z with
 | .AugAssign x0 x1 x2 x3=>f x0 x1 x2 x3
 |_=>false
theorem wS_AugAssign_of {z f} (h:wS_AugAssign z f=true):∃x0 x1 x2 x3,z=.AugAssign x0 x1 x2 x3/\f x0 x1 x2 x3=true:=by
 cases z with
 |AugAssign x0 x1 x2 x3=>exact⟨x0,x1,x2,x3,rfl,h⟩
 |_=>exact no_tt h
noncomputable def wS_If (z:Stmt) (f:Expr->List Stmt->List Stmt->Pos->Bool):Bool:=match z with
 | .If x0 x1 x2 x3=>f x0 x1 x2 x3
 |_=>false
theorem wS_If_of {z f} (h:wS_If z f=true):∃x0 x1 x2 x3,z=.If x0 x1 x2 x3/\f x0 x1 x2 x3=true:=by
 cases z with
 |If x0 x1 x2 x3=>exact⟨x0,x1,x2,x3,rfl,h⟩
 |_=>exact no_tt h
noncomputable def wS_While (z:Stmt) (f:Expr->List Stmt->List Stmt->Pos->Bool):Bool:=match z with
 | .While x0 x1 x2 x3=>f x0 x1 x2 x3
 |_=>false
theorem wS_While_of {z f} (h:wS_While z f=true):∃x0 x1 x2 x3,z=.While x0 x1 x2 x3/\f x0 x1 x2 x3=true:=by
 cases z with
 |While x0 x1 x2 x3=>exact⟨x0,x1,x2,x3,rfl,h⟩
 |_=>exact no_tt h
noncomputable def wS_For (z:Stmt) (f:Expr->Expr->List Stmt->List Stmt->Pos->Bool):Bool:=match z with
 | .For x0 x1 x2 x3 x4=>f x0 x1 x2 x3 x4
 |_=>false
theorem wS_For_of {z f} (h:wS_For z f=true):∃x0 x1 x2 x3 x4,z=.For x0 x1 x2 x3 x4/\f x0 x1 x2 x3 x4=true:=by
 cases z with
 |For x0 x1 x2 x3 x4=>exact⟨x0,x1,x2,x3,x4,rfl,h⟩
 |_=>exact no_tt h
noncomputable def v1 (zz:Expr) (f:Str->Bool):Bool:=wE_Name zz fun y1 y2=>f y1
theorem v1_k {zz f} {P:Prop} (h:v1 zz f=true) (k:∀x w1,zz=.Name x w1->f x=true->P):P:=by
 obtain⟨y1,y2,e0,h⟩:=wE_Name_of h
 exact k y1 y2 (by rw[e0]) h
noncomputable def v2 (zz:Expr) (f:Int->Bool):Bool:=wE_Constant zz fun y1 y2 y3=>wC_int y1 fun y4=>f y4
theorem v2_k {zz f} {P:Prop} (h:v2 zz f=true) (k:∀m w1 w2,zz=.Constant (.int m) w1 w2->f m=true->P):P:=by
 obtain⟨y1,y2,y3,e0,h⟩:=wE_Constant_of h
 obtain⟨y4,e1,h⟩:=wC_int_of h
 exact k y4 y2 y3 (by rw[e0,e1]) h
noncomputable def v3 (zz:Expr) (f:Bool->Bool):Bool:=wE_Constant zz fun y1 y2 y3=>wC_bool y1 fun y4=>f y4
theorem v3_k {zz f} {P:Prop} (h:v3 zz f=true) (k:∀c w1 w2,zz=.Constant (.bool c) w1 w2->f c=true->P):P:=by
 obtain⟨y1,y2,y3,e0,h⟩:=wE_Constant_of h
 obtain⟨y4,e1,h⟩:=wC_bool_of h
 exact k y4 y2 y3 (by rw[e0,e1]) h
noncomputable def v4 (zz:Expr) (f:Bool):Bool:=wE_Constant zz fun y1 y2 y3=>wC_none y1 (f)
theorem v4_k {zz f} {P:Prop} (h:v4 zz f=true) (k:∀w1 w2,zz=.Constant .none w1 w2->f=true->P):P:=by
 obtain⟨y1,y2,y3,e0,h⟩:=wE_Constant_of h
 obtain⟨e1,h⟩:=wC_none_of h
 exact k y2 y3 (by rw[e0,e1]) h
noncomputable def v5 (zz:Expr) (f:Str->Bool):Bool:=wE_Constant zz fun y1 y2 y3=>wC_str y1 fun y4=>f y4
theorem v5_k {zz f} {P:Prop} (h:v5 zz f=true) (k:∀y w1 w2,zz=.Constant (.str y) w1 w2->f y=true->P):P:=by
 obtain⟨y1,y2,y3,e0,h⟩:=wE_Constant_of h
 obtain⟨y4,e1,h⟩:=wC_str_of h
 exact k y4 y2 y3 (by rw[e0,e1]) h
noncomputable def v6 (zz:Expr) (f:Expr->Operator->Expr->Bool):Bool:=wE_BinOp zz fun y1 y2 y3 y4=>f y1 y2 y3
theorem v6_k {zz f} {P:Prop} (h:v6 zz f=true) (k:∀ea op' eb w1,zz=.BinOp ea op' eb w1->f ea op' eb=true->P):P:=by
 obtain⟨y1,y2,y3,y4,e0,h⟩:=wE_BinOp_of h
 exact k y1 y2 y3 y4 (by rw[e0]) h
noncomputable def v7 (zz:Expr) (f:Expr->Bool):Bool:=wE_UnaryOp zz fun y1 y2 y3=>wU_USub y1 (f y2)
theorem v7_k {zz f} {P:Prop} (h:v7 zz f=true) (k:∀ea w1,zz=.UnaryOp .USub ea w1->f ea=true->P):P:=by
 obtain⟨y1,y2,y3,e0,h⟩:=wE_UnaryOp_of h
 obtain⟨e1,h⟩:=wU_USub_of h
 exact k y2 y3 (by rw[e0,e1]) h
noncomputable def v8 (zz:Expr) (f:Expr->Bool):Bool:=wE_UnaryOp zz fun y1 y2 y3=>wU_Not y1 (f y2)
theorem v8_k {zz f} {P:Prop} (h:v8 zz f=true) (k:∀ea w1,zz=.UnaryOp .Not ea w1->f ea=true->P):P:=by
 obtain⟨y1,y2,y3,e0,h⟩:=wE_UnaryOp_of h
 obtain⟨e1,h⟩:=wU_Not_of h
 exact k y2 y3 (by rw[e0,e1]) h
noncomputable def v9 (zz:Expr) (f:Expr->CmpOp->Expr->Bool):Bool:=wE_Compare zz fun y1 y2 y3 y4=>w_cons y2 fun y5 y6=>w_nil y6 (w_cons y3 fun y7 y8=>w_nil y8 (f y1 y5 y7))
theorem v9_k {zz f} {P:Prop} (h:v9 zz f=true) (k:∀ea op' eb w1,zz=.Compare ea (op' :: []) (eb :: []) w1->f ea op' eb=true->P):P:=by
 obtain⟨y1,y2,y3,y4,e0,h⟩:=wE_Compare_of h
 obtain⟨y5,y6,e1,h⟩:=w_cons_of h
 obtain⟨e2,h⟩:=w_nil_of h
 obtain⟨y7,y8,e3,h⟩:=w_cons_of h
 obtain⟨e4,h⟩:=w_nil_of h
 exact k y1 y5 y7 y4 (by rw[e0,e1,e2,e3,e4]) h
noncomputable def v10 (zz:Expr) (f:Expr->CmpOp->CmpOp->Expr->Expr->Bool):Bool:=wE_Compare zz fun y1 y2 y3 y4=>w_cons y2 fun y5 y6=>w_cons y6 fun y7 y8=>w_nil y8 (w_cons y3 fun y9 y10=>w_cons y10 fun y11 y12=>w_nil y12 (f y1 y5 y7 y9 y11))
theorem v10_k {zz f} {P:Prop} (h:v10 zz f=true) (k:∀ea o1 o2 eb ec w1,zz=.Compare ea (o1 :: (o2 :: [])) (eb :: (ec :: [])) w1->f ea o1 o2 eb ec=true->P):P:=by
 obtain⟨y1,y2,y3,y4,e0,h⟩:=wE_Compare_of h
 obtain⟨y5,y6,e1,h⟩:=w_cons_of h
 obtain⟨y7,y8,e2,h⟩:=w_cons_of h
 obtain⟨e3,h⟩:=w_nil_of h
 obtain⟨y9,y10,e4,h⟩:=w_cons_of h
 obtain⟨y11,y12,e5,h⟩:=w_cons_of h
 obtain⟨e6,h⟩:=w_nil_of h
 exact k y1 y5 y7 y9 y11 y4 (by rw[e0,e1,e2,e3,e4,e5,e6]) h
noncomputable def v11 (zz:Expr) (f:Expr->Expr->Expr->Bool):Bool:=wE_IfExp zz fun y1 y2 y3 y4=>f y1 y2 y3
theorem v11_k {zz f} {P:Prop} (h:v11 zz f=true) (k:∀eq ea eb w1,zz=.IfExp eq ea eb w1->f eq ea eb=true->P):P:=by
 obtain⟨y1,y2,y3,y4,e0,h⟩:=wE_IfExp_of h
 exact k y1 y2 y3 y4 (by rw[e0]) h
noncomputable def v12 (zz:Expr) (f:List Expr->Bool):Bool:=wE_Tuple zz fun y1 y2 y3=>f y1
theorem v12_k {zz f} {P:Prop} (h:v12 zz f=true) (k:∀xs w1 w2,zz=.Tuple xs w1 w2->f xs=true->P):P:=by
 obtain⟨y1,y2,y3,e0,h⟩:=wE_Tuple_of h
 exact k y1 y2 y3 (by rw[e0]) h
noncomputable def v13 (zz:Expr) (f:List Expr->Bool):Bool:=wE_List zz fun y1 y2=>f y1
theorem v13_k {zz f} {P:Prop} (h:v13 zz f=true) (k:∀xs w1,zz=.List xs w1->f xs=true->P):P:=by
 obtain⟨y1,y2,e0,h⟩:=wE_List_of h
 exact k y1 y2 (by rw[e0]) h
noncomputable def v14 (zz:Expr) (f:Expr->Expr->Bool):Bool:=wE_Subscript zz fun y1 y2 y3=>f y1 y2
theorem v14_k {zz f} {P:Prop} (h:v14 zz f=true) (k:∀ea eb w1,zz=.Subscript ea eb w1->f ea eb=true->P):P:=by
 obtain⟨y1,y2,y3,e0,h⟩:=wE_Subscript_of h
 exact k y1 y2 y3 (by rw[e0]) h
noncomputable def v16 (zz:Expr) (f:Str->Expr->List Expr->Bool):Bool:=wE_Call zz fun y1 y2 y3 y4=>wE_Name y1 fun y5 y6=>w_cons y2 fun y7 y8=>w_nil y3 (f y5 y7 y8)
theorem v16_k {zz f} {P:Prop} (h:v16 zz f=true) (k:∀x w1 e r w2,zz=.Call (.Name x w1) (e :: r) [] w2->f x e r=true->P):P:=by
 obtain⟨y1,y2,y3,y4,e0,h⟩:=wE_Call_of h
 obtain⟨y5,y6,e1,h⟩:=wE_Name_of h
 obtain⟨y7,y8,e2,h⟩:=w_cons_of h
 obtain⟨e3,h⟩:=w_nil_of h
 exact k y5 y6 y7 y8 y4 (by rw[e0,e1,e2,e3]) h
noncomputable def v80 (zz:Expr) (f:Str->Bool):Bool:=wE_Call zz fun y1 y2 y3 y4=>wE_Name y1 fun y5 y6=>w_nil y2 (w_nil y3 (f y5))
theorem v80_k {zz f} {P:Prop} (h:v80 zz f=true) (k:∀x w1 w2,zz=.Call (.Name x w1) [] [] w2->f x=true->P):P:=by
 obtain⟨y1,y2,y3,y4,e0,h⟩:=wE_Call_of h
 obtain⟨y5,y6,e1,h⟩:=wE_Name_of h
 obtain⟨e2,h⟩:=w_nil_of h
 obtain⟨e3,h⟩:=w_nil_of h
 exact k y5 y6 y4 (by rw[e0,e1,e2,e3]) h
noncomputable def v17 (zz:Expr) (f:Expr->Str->Pos->List Expr->Pos->Bool):Bool:=wE_Call zz fun y1 y2 y3 y4=>wE_Attribute y1 fun y5 y6 y7=>w_nil y3 (f y5 y6 y7 y2 y4)
theorem v17_k {zz f} {P:Prop} (h:v17 zz f=true) (k:∀eo nm apos args pos,zz=.Call (.Attribute eo nm apos) args [] pos->f eo nm apos args pos=true->P):P:=by
 obtain⟨y1,y2,y3,y4,e0,h⟩:=wE_Call_of h
 obtain⟨y5,y6,y7,e1,h⟩:=wE_Attribute_of h
 obtain⟨e2,h⟩:=w_nil_of h
 exact k y5 y6 y7 y2 y4 (by rw[e0,e1,e2]) h
noncomputable def v20 (zz:Expr) (f:Expr->Str->Pos->Expr->Pos->Bool):Bool:=wE_Call zz fun y1 y2 y3 y4=>wE_Attribute y1 fun y5 y6 y7=>w_cons y2 fun y8 y9=>w_nil y9 (w_nil y3 (f y5 y6 y7 y8 y4))
theorem v20_k {zz f} {P:Prop} (h:v20 zz f=true) (k:∀eo nm apos y pos,zz=.Call (.Attribute eo nm apos) (y :: []) [] pos->f eo nm apos y pos=true->P):P:=by
 obtain⟨y1,y2,y3,y4,e0,h⟩:=wE_Call_of h
 obtain⟨y5,y6,y7,e1,h⟩:=wE_Attribute_of h
 obtain⟨y8,y9,e2,h⟩:=w_cons_of h
 obtain⟨e3,h⟩:=w_nil_of h
 obtain⟨e4,h⟩:=w_nil_of h
 exact k y5 y6 y7 y8 y4 (by rw[e0,e1,e2,e3,e4]) h
noncomputable def v23 (zz:Expr) (f:Str->Expr->Bool):Bool:=wE_Call zz fun y1 y2 y3 y4=>wE_Name y1 fun y5 y6=>w_cons y2 fun y7 y8=>w_nil y8 (w_nil y3 (f y5 y7))
theorem v23_k {zz f} {P:Prop} (h:v23 zz f=true) (k:∀x w1 y w2,zz=.Call (.Name x w1) (y :: []) [] w2->f x y=true->P):P:=by
 obtain⟨y1,y2,y3,y4,e0,h⟩:=wE_Call_of h
 obtain⟨y5,y6,e1,h⟩:=wE_Name_of h
 obtain⟨y7,y8,e2,h⟩:=w_cons_of h
 obtain⟨e3,h⟩:=w_nil_of h
 obtain⟨e4,h⟩:=w_nil_of h
 exact k y5 y6 y7 y4 (by rw[e0,e1,e2,e3,e4]) h
noncomputable def v26 (zz:Expr) (f:Expr->Expr->Expr->List Expr->Int->Scope->Bool):Bool:=wE_ListComp zz fun y1 y2 y3 y4=>w_cons y2 fun y5 y6=>w_gen y5 fun y7 y8 y9 y10=>w_nil y6 (f y1 y7 y8 y9 y10 y3)
theorem v26_k {zz f} {P:Prop} (h:v26 zz f=true) (k:∀ee tg iter ifs a scope w1,zz=.ListComp ee (⟨tg,iter,ifs,a⟩ :: []) scope w1->f ee tg iter ifs a scope=true->P):P:=by
 obtain⟨y1,y2,y3,y4,e0,h⟩:=wE_ListComp_of h
 obtain⟨y5,y6,e1,h⟩:=w_cons_of h
 obtain⟨y7,y8,y9,y10,e2,h⟩:=w_gen_of h
 obtain⟨e3,h⟩:=w_nil_of h
 exact k y1 y7 y8 y9 y10 y3 y4 (by rw[e0,e1,e2,e3]) h
noncomputable def v27 (zz:Expr) (f:Expr->Expr->Expr->List Expr->Int->Expr->Expr->List Expr->Int->Scope->Bool):Bool:=wE_ListComp zz fun y1 y2 y3 y4=>w_cons y2 fun y5 y6=>w_gen y5 fun y7 y8 y9 y10=>w_cons y6 fun y11 y12=>w_gen y11 fun y13 y14 y15 y16=>w_nil y12 (f y1 y7 y8 y9 y10 y13 y14 y15 y16 y3)
theorem v27_k {zz f} {P:Prop} (h:v27 zz f=true) (k:∀ee tg iter ifs a tg2 iter2 ifs2 a2 scope w1,zz=.ListComp ee (⟨tg,iter,ifs,a⟩ :: (⟨tg2,iter2,ifs2,a2⟩ :: [])) scope w1->f ee tg iter ifs a tg2 iter2 ifs2 a2 scope=true->P):P:=by
 obtain⟨y1,y2,y3,y4,e0,h⟩:=wE_ListComp_of h
 obtain⟨y5,y6,e1,h⟩:=w_cons_of h
 obtain⟨y7,y8,y9,y10,e2,h⟩:=w_gen_of h
 obtain⟨y11,y12,e3,h⟩:=w_cons_of h
 obtain⟨y13,y14,y15,y16,e4,h⟩:=w_gen_of h
 obtain⟨e5,h⟩:=w_nil_of h
 exact k y1 y7 y8 y9 y10 y13 y14 y15 y16 y3 y4 (by rw[e0,e1,e2,e3,e4,e5]) h
noncomputable def v28 (zz:Expr) (f:Expr->Expr->Expr->List Expr->Int->Expr->Expr->List Expr->Int->Expr->Expr->List Expr->Int->Scope->Bool):Bool:=wE_ListComp zz fun y1 y2 y3 y4=>w_cons y2 fun y5 y6=>w_gen y5 fun y7 y8 y9 y10=>w_cons y6 fun y11 y12=>w_gen y11 fun y13 y14 y15 y16=>w_cons y12 fun y17 y18=>w_gen y17 fun y19 y20 y21 y22=>w_nil y18 (f y1 y7 y8 y9 y10 y13 y14 y15 y16 y19 y20 y21 y22 y3)
theorem v28_k {zz f} {P:Prop} (h:v28 zz f=true) (k:∀ee tg iter ifs a tg2 iter2 ifs2 a2 tg3 iter3 ifs3 a3 scope w1,zz=.ListComp ee (⟨tg,iter,ifs,a⟩ :: (⟨tg2,iter2,ifs2,a2⟩ :: (⟨tg3,iter3,ifs3,a3⟩ :: []))) scope w1->f ee tg iter ifs a tg2 iter2 ifs2 a2 tg3 iter3 ifs3 a3 scope=true->P):P:=by
 obtain⟨y1,y2,y3,y4,e0,h⟩:=wE_ListComp_of h
 obtain⟨y5,y6,e1,h⟩:=w_cons_of h
 obtain⟨y7,y8,y9,y10,e2,h⟩:=w_gen_of h
 obtain⟨y11,y12,e3,h⟩:=w_cons_of h
 obtain⟨y13,y14,y15,y16,e4,h⟩:=w_gen_of h
 obtain⟨y17,y18,e5,h⟩:=w_cons_of h
 obtain⟨y19,y20,y21,y22,e6,h⟩:=w_gen_of h
 obtain⟨e7,h⟩:=w_nil_of h
 exact k y1 y7 y8 y9 y10 y13 y14 y15 y16 y19 y20 y21 y22 y3 y4 (by rw[e0,e1,e2,e3,e4,e5,e6,e7]) h
noncomputable def v29 (zz:List Expr) (f:Bool):Bool:=w_nil zz (f)
theorem v29_k {zz f} {P:Prop} (h:v29 zz f=true) (k:zz=[]->f=true->P):P:=by
 obtain⟨e0,h⟩:=w_nil_of h
 exact k (by rw[e0]) h
noncomputable def v30 (zz:List Expr) (f:Expr->List Expr->Bool):Bool:=w_cons zz fun y1 y2=>f y1 y2
theorem v30_k {zz f} {P:Prop} (h:v30 zz f=true) (k:∀x xs,zz=(x :: xs)->f x xs=true->P):P:=by
 obtain⟨y1,y2,e0,h⟩:=w_cons_of h
 exact k y1 y2 (by rw[e0]) h
noncomputable def v31 (zz:List Expr) (f:Expr->Bool):Bool:=w_cons zz fun y1 y2=>w_nil y2 (f y1)
theorem v31_k {zz f} {P:Prop} (h:v31 zz f=true) (k:∀e,zz=(e :: [])->f e=true->P):P:=by
 obtain⟨y1,y2,e0,h⟩:=w_cons_of h
 obtain⟨e1,h⟩:=w_nil_of h
 exact k y1 (by rw[e0,e1]) h
noncomputable def v32 (zz:Option Expr) (f:Bool):Bool:=w_none zz (f)
theorem v32_k {zz f} {P:Prop} (h:v32 zz f=true) (k:zz=none->f=true->P):P:=by
 obtain⟨e0,h⟩:=w_none_of h
 exact k (by rw[e0]) h
noncomputable def v33 (zz:Option Expr) (f:Expr->Bool):Bool:=w_some zz fun y1=>f y1
theorem v33_k {zz f} {P:Prop} (h:v33 zz f=true) (k:∀y,zz=(some y)->f y=true->P):P:=by
 obtain⟨y1,e0,h⟩:=w_some_of h
 exact k y1 (by rw[e0]) h
noncomputable def v34 (zz:Expr) (f:Str->Expr->Expr->Bool):Bool:=wE_Call zz fun y1 y2 y3 y4=>wE_Name y1 fun y5 y6=>w_cons y2 fun y7 y8=>w_cons y8 fun y9 y10=>w_nil y10 (w_nil y3 (f y5 y7 y9))
theorem v34_k {zz f} {P:Prop} (h:v34 zz f=true) (k:∀n w1 y z w2,zz=.Call (.Name n w1) (y :: (z :: [])) [] w2->f n y z=true->P):P:=by
 obtain⟨y1,y2,y3,y4,e0,h⟩:=wE_Call_of h
 obtain⟨y5,y6,e1,h⟩:=wE_Name_of h
 obtain⟨y7,y8,e2,h⟩:=w_cons_of h
 obtain⟨y9,y10,e3,h⟩:=w_cons_of h
 obtain⟨e4,h⟩:=w_nil_of h
 obtain⟨e5,h⟩:=w_nil_of h
 exact k y5 y6 y7 y9 y4 (by rw[e0,e1,e2,e3,e4,e5]) h
noncomputable def v36 (zz:Stmt) (f:Expr->Bool):Bool:=wS_Expr zz fun y1 y2=>f y1
theorem v36_k {zz f} {P:Prop} (h:v36 zz f=true) (k:∀x w1,zz=.Expr x w1->f x=true->P):P:=by
 obtain⟨y1,y2,e0,h⟩:=wS_Expr_of h
 exact k y1 y2 (by rw[e0]) h
noncomputable def v37 (zz:Stmt) (f:Expr->Bool):Bool:=wS_Return zz fun y1 y2=>w_some y1 fun y3=>f y3
theorem v37_k {zz f} {P:Prop} (h:v37 zz f=true) (k:∀x w1,zz=.Return (some x) w1->f x=true->P):P:=by
 obtain⟨y1,y2,e0,h⟩:=wS_Return_of h
 obtain⟨y3,e1,h⟩:=w_some_of h
 exact k y3 y2 (by rw[e0,e1]) h
noncomputable def v39 (zz:Stmt) (f:Expr->Expr->Bool):Bool:=wS_Assign zz fun y1 y2 y3=>w_cons y1 fun y4 y5=>w_nil y5 (f y4 y2)
theorem v39_k {zz f} {P:Prop} (h:v39 zz f=true) (k:∀tg x w1,zz=.Assign (tg :: []) x w1->f tg x=true->P):P:=by
 obtain⟨y1,y2,y3,e0,h⟩:=wS_Assign_of h
 obtain⟨y4,y5,e1,h⟩:=w_cons_of h
 obtain⟨e2,h⟩:=w_nil_of h
 exact k y4 y2 y3 (by rw[e0,e1,e2]) h
noncomputable def v41 (zz:Stmt) (f:Str->Pos->Expr->Expr->Expr->List Expr->Int->Expr->Expr->List Expr->Int->Scope->Bool):Bool:=wS_Assign zz fun y1 y2 y3=>w_cons y1 fun y4 y5=>wE_Name y4 fun y6 y7=>w_nil y5 (wE_SetComp y2 fun y8 y9 y10 y11=>w_cons y9 fun y12 y13=>w_gen y12 fun y14 y15 y16 y17=>w_cons y13 fun y18 y19=>w_gen y18 fun y20 y21 y22 y23=>w_nil y19 (f y6 y7 y8 y14 y15 y16 y17 y20 y21 y22 y23 y10))
theorem v41_k {zz f} {P:Prop} (h:v41 zz f=true) (k:∀y py ee tg iter ifs a tg2 iter2 ifs2 a2 scope w1 w2,zz=.Assign ((.Name y py) :: []) (.SetComp ee (⟨tg,iter,ifs,a⟩ :: (⟨tg2,iter2,ifs2,a2⟩ :: [])) scope w1) w2->f y py ee tg iter ifs a tg2 iter2 ifs2 a2 scope=true->P):P:=by
 obtain⟨y1,y2,y3,e0,h⟩:=wS_Assign_of h
 obtain⟨y4,y5,e1,h⟩:=w_cons_of h
 obtain⟨y6,y7,e2,h⟩:=wE_Name_of h
 obtain⟨e3,h⟩:=w_nil_of h
 obtain⟨y8,y9,y10,y11,e4,h⟩:=wE_SetComp_of h
 obtain⟨y12,y13,e5,h⟩:=w_cons_of h
 obtain⟨y14,y15,y16,y17,e6,h⟩:=w_gen_of h
 obtain⟨y18,y19,e7,h⟩:=w_cons_of h
 obtain⟨y20,y21,y22,y23,e8,h⟩:=w_gen_of h
 obtain⟨e9,h⟩:=w_nil_of h
 exact k y6 y7 y8 y14 y15 y16 y17 y20 y21 y22 y23 y10 y11 y3 (by rw[e0,e1,e2,e3,e4,e5,e6,e7,e8,e9]) h
noncomputable def v42 (zz:Stmt) (f:Str->Pos->Expr->Expr->Expr->Expr->List Expr->Int->Scope->Bool):Bool:=wS_Assign zz fun y1 y2 y3=>w_cons y1 fun y4 y5=>wE_Name y4 fun y6 y7=>w_nil y5 (wE_DictComp y2 fun y8 y9 y10 y11 y12=>w_cons y10 fun y13 y14=>w_gen y13 fun y15 y16 y17 y18=>w_nil y14 (f y6 y7 y8 y9 y15 y16 y17 y18 y11))
theorem v42_k {zz f} {P:Prop} (h:v42 zz f=true) (k:∀y py ke ve tg iter ifs a scope w1 w2,zz=.Assign ((.Name y py) :: []) (.DictComp ke ve (⟨tg,iter,ifs,a⟩ :: []) scope w1) w2->f y py ke ve tg iter ifs a scope=true->P):P:=by
 obtain⟨y1,y2,y3,e0,h⟩:=wS_Assign_of h
 obtain⟨y4,y5,e1,h⟩:=w_cons_of h
 obtain⟨y6,y7,e2,h⟩:=wE_Name_of h
 obtain⟨e3,h⟩:=w_nil_of h
 obtain⟨y8,y9,y10,y11,y12,e4,h⟩:=wE_DictComp_of h
 obtain⟨y13,y14,e5,h⟩:=w_cons_of h
 obtain⟨y15,y16,y17,y18,e6,h⟩:=w_gen_of h
 obtain⟨e7,h⟩:=w_nil_of h
 exact k y6 y7 y8 y9 y15 y16 y17 y18 y11 y12 y3 (by rw[e0,e1,e2,e3,e4,e5,e6,e7]) h
noncomputable def v49 (zz:Stmt) (f:Str->Operator->Expr->Bool):Bool:=wS_AugAssign zz fun y1 y2 y3 y4=>wE_Name y1 fun y5 y6=>f y5 y2 y3
theorem v49_k {zz f} {P:Prop} (h:v49 zz f=true) (k:∀x w1 op ee w2,zz=.AugAssign (.Name x w1) op ee w2->f x op ee=true->P):P:=by
 obtain⟨y1,y2,y3,y4,e0,h⟩:=wS_AugAssign_of h
 obtain⟨y5,y6,e1,h⟩:=wE_Name_of h
 exact k y5 y6 y2 y3 y4 (by rw[e0,e1]) h
noncomputable def v50 (zz:Stmt) (f:Expr->List Stmt->List Stmt->Bool):Bool:=wS_If zz fun y1 y2 y3 y4=>f y1 y2 y3
theorem v50_k {zz f} {P:Prop} (h:v50 zz f=true) (k:∀x ss rs w1,zz=.If x ss rs w1->f x ss rs=true->P):P:=by
 obtain⟨y1,y2,y3,y4,e0,h⟩:=wS_If_of h
 exact k y1 y2 y3 y4 (by rw[e0]) h
noncomputable def v51 (zz:Stmt) (f:Expr->List Stmt->Bool):Bool:=wS_While zz fun y1 y2 y3 y4=>w_nil y3 (f y1 y2)
theorem v51_k {zz f} {P:Prop} (h:v51 zz f=true) (k:∀x ss w1,zz=.While x ss [] w1->f x ss=true->P):P:=by
 obtain⟨y1,y2,y3,y4,e0,h⟩:=wS_While_of h
 obtain⟨e1,h⟩:=w_nil_of h
 exact k y1 y2 y4 (by rw[e0,e1]) h
noncomputable def v52 (zz:Stmt) (f:Expr->Expr->List Stmt->Bool):Bool:=wS_For zz fun y1 y2 y3 y4 y5=>w_nil y4 (f y1 y2 y3)
theorem v52_k {zz f} {P:Prop} (h:v52 zz f=true) (k:∀tg iter ss w1,zz=.For tg iter ss [] w1->f tg iter ss=true->P):P:=by
 obtain⟨y1,y2,y3,y4,y5,e0,h⟩:=wS_For_of h
 obtain⟨e1,h⟩:=w_nil_of h
 exact k y1 y2 y3 y5 (by rw[e0,e1]) h
noncomputable def v56 (zz:List Stmt) (f:Bool):Bool:=w_nil zz (f)
theorem v56_k {zz f} {P:Prop} (h:v56 zz f=true) (k:zz=[]->f=true->P):P:=by
 obtain⟨e0,h⟩:=w_nil_of h
 exact k (by rw[e0]) h
noncomputable def v57 (zz:List Stmt) (f:Stmt->List Stmt->Bool):Bool:=w_cons zz fun y1 y2=>f y1 y2
theorem v57_k {zz f} {P:Prop} (h:v57 zz f=true) (k:∀x xs,zz=(x :: xs)->f x xs=true->P):P:=by
 obtain⟨y1,y2,e0,h⟩:=w_cons_of h
 exact k y1 y2 (by rw[e0]) h
noncomputable def v58 (zz:Stmt) (f:Expr->Expr->Operator->Expr->Bool):Bool:=wS_AugAssign zz fun y1 y2 y3 y4=>wE_Subscript y1 fun y5 y6 y7=>f y5 y6 y2 y3
theorem v58_k {zz f} {P:Prop} (h:v58 zz f=true) (k:∀eo ei w1 op ee w2,zz=.AugAssign (.Subscript eo ei w1) op ee w2->f eo ei op ee=true->P):P:=by
 obtain⟨y1,y2,y3,y4,e0,h⟩:=wS_AugAssign_of h
 obtain⟨y5,y6,y7,e1,h⟩:=wE_Subscript_of h
 exact k y5 y6 y7 y2 y3 y4 (by rw[e0,e1]) h
mutual
noncomputable def mE (N B:List Str) (sc:Scope):Ce->Expr->Bool
 | .var i,e=>v1 e fun x=>nameOk N i x&&vis sc x
 | .int n,e=>v2 e fun m=>decide (n=m)
 | .bl b,e=>v3 e fun c=>decide (b=c)
 | .non,e=>v4 e (true)
 | .str x,e=>v5 e fun y=>decide (x=y)
 | .ty n,e=>v1 e fun x=>decide (x=Str.ofString n)&&glb sc x&&typeNames.contains n&&decide (x∈B)
 | .bin op a b,e=>v6 e fun ea op' eb=>decide (op=op')&&mE N B sc a ea&&mE N B sc b eb
 | .neg a,e=>v7 e fun ea=>mE N B sc a ea
 | .not a,e=>v8 e fun ea=>mE N B sc a ea
 | .and a b,e=>vAnd e fun x y=>mE N B sc a x&&mE N B sc b y
 | .or a b,e=>vOr e fun x y=>mE N B sc a x&&mE N B sc b y
 | .cmp op a b,e=>v9 e fun ea op' eb=>decide (op=op')&&mE N B sc a ea&&mE N B sc b eb&&okIter eb
 | .chn op1 op2 a b c,e=>v10 e fun ea o1 o2 eb ec=>decide (op1=o1)&&decide (op2=o2)&&mE N B sc a ea&&mE N B sc b eb&&mE N B sc c ec&&okIter ec
 | .ife q a b,e=>v11 e fun eq ea eb=>mQ N B sc q eq&&mE N B sc a ea&&mE N B sc b eb
 | .tup es,e=>v12 e fun xs=>mA N B sc es xs
 | .lst es,e=>v13 e fun xs=>mA N B sc es xs
 | .idx a b,e=>v14 e fun ea eb=>mE N B sc a ea&&mE N B sc b eb&&notSlice eb
 | .call f es,e=>v16 e fun x e r=>decide (x=f)&&glb sc x&&mA N B sc es (e :: r)&&!(x == ("__debug__":Str))&&!(hat B)&&!(tld B&&decide (bang x∈B))
 | .cl0 f,e=>v80 e fun x=>decide (x=f)&&glb sc x&&!(x == ("__debug__":Str))&&!(hat B)&&!(tld B&&decide (bang x∈B))
 | .blt f es,e=>v16 e fun x e r=>decide (x=bltName f)&&glb sc x&&mA N B sc es (e :: r)&&decide (x∈B)&&(!(hat B) || decide (f=.isinstance))
 | .met m o es,e=>v17 e fun eo nm apos args pos=>decide (nm=metName m)&&mE N B sc o eo&&baseOk eo&&(apos.endLine == pos.line)&&mA N B sc es args&&decide (args.length<28)
 | .din neg a b,e=>v9 e fun ea op' eb=>decide (op'=if neg then .NotIn else .In)&&mE N B sc a ea&&mE N B sc b eb&&okIter eb
 | .dgt a b,e=>v20 e fun eo nm apos y pos=>decide (nm="get")&&mE N B sc a eo&&baseOk eo&&(apos.endLine == pos.line)&&mE N B sc b y&&notStar y
 | .gint x _,e=>v1 e fun y=>decide (y=x)&&glb sc y&&!(y == ("__debug__":Str))
 | .comp elt own t it q .nil,e=>v26 e fun ee tg iter ifs a scope=>!(hat B)&&scOk N sc scope own&&mE N ("~" :: B) scope elt ee&&tOwn own t&&decide (a=0)&&mI N B sc it iter&&zipT it tg&&okIter iter&&mT N ("~" :: B) scope t tg&&mQo N ("~" :: B) scope q ifs
 | .comp elt own t it q (.cons ws t2 it2 q2 .nil),e=>v27 e fun ee tg iter ifs a tg2 iter2 ifs2 a2 scope=>!(hat B)&&scOk N sc scope own&&mE N ("~" :: B) scope elt ee&&tOwn own t&&decide (a=0)&&mI N B sc it iter&&zipT it tg&&okIter iter&&mT N ("~" :: B) scope t tg&&mQo N ("~" :: B) scope q ifs&&
    decide (a2=0)&&mI N ("~" :: B) scope it2 iter2&&zipT it2 tg2&&okIter iter2&&mT N ("~" :: B) scope t2 tg2&&mQo N ("~" :: B) scope q2 ifs2&&tOwn ws t2&&ws.all (fun j=>decide (j∈own))
 | .comp elt own t it q (.cons ws t2 it2 q2 (.cons ws3 t3 it3 q3 .nil)),e=>v28 e fun ee tg iter ifs a tg2 iter2 ifs2 a2 tg3 iter3 ifs3 a3 scope=>!(hat B)&&scOk N sc scope own&&mE N ("~" :: B) scope elt ee&&tOwn own t&&decide (a=0)&&mI N B sc it iter&&zipT it tg&&okIter iter&&mT N ("~" :: B) scope t tg&&mQo N ("~" :: B) scope q ifs&&
    decide (a2=0)&&mI N ("~" :: B) scope it2 iter2&&zipT it2 tg2&&okIter iter2&&mT N ("~" :: B) scope t2 tg2&&mQo N ("~" :: B) scope q2 ifs2&&tOwn ws t2&&ws.all (fun j=>decide (j∈own))&&
    decide (a3=0)&&mI N ("~" :: B) scope it3 iter3&&zipT it3 tg3&&okIter iter3&&mT N ("~" :: B) scope t3 tg3&&mQo N ("~" :: B) scope q3 ifs3&&tOwn ws3 t3&&ws3.all (fun j=>decide (j∈ws))
 | .comp _ _ _ _ _ (.cons _ _ _ _ (.cons _ _ _ _ (.cons _ _ _ _ _))),_=>false
noncomputable def mA (N B:List Str) (sc:Scope):Ces->List Expr->Bool
 | .nil,es=>v29 es (true)
 | .cons e r,es=>v30 es fun x xs=>mE N B sc e x&&notStar x&&mA N B sc r xs
noncomputable def mQ (N B:List Str) (sc:Scope):Cq->Expr->Bool
 | .val e,x=>mE N B sc e x&&plainT x
 | .not q,x=>v8 x fun y=>mQ N B sc q y
 | .and a b,e=>vAnd e fun x y=>mQ N B sc a x&&mQ N B sc b y
 | .or a b,e=>vOr e fun x y=>mQ N B sc a x&&mQ N B sc b y
 | .cmp op a b,e=>v9 e fun ea op' eb=>decide (op=op')&&mE N B sc a ea&&mE N B sc b eb&&okIter eb
 | .chn op1 op2 a b c,e=>v10 e fun ea o1 o2 eb ec=>decide (op1=o1)&&decide (op2=o2)&&mE N B sc a ea&&mE N B sc b eb&&mE N B sc c ec&&okIter ec
 | .din neg a b,e=>v9 e fun ea op' eb=>decide (op'=if neg then .NotIn else .In)&&mE N B sc a ea&&mE N B sc b eb&&okIter eb
noncomputable def mQo (N B:List Str) (sc:Scope):Cqo->List Expr->Bool
 | .none,es=>v29 es (true)
 | .some q,es=>v31 es fun e=>mQ N B sc q e
noncomputable def mO (N B:List Str) (sc:Scope):Co->Option Expr->Bool
 | .none,x=>v32 x (true)
 | .some e,x=>v33 x fun y=>mE N B sc e y
noncomputable def mI (N B:List Str) (sc:Scope):Ci->Expr->Bool
 | .val e,x=>mE N B sc e x
 | .range1 a,x=>v23 x fun n y=>decide (n="range")&&glb sc n&&decide (n∈B)&&mE N B sc a y&&notStar y
 | .range2 a b,x=>v34 x fun n y z=>decide (n="range")&&glb sc n&&decide (n∈B)&&mE N B sc a y&&notStar y&&mE N B sc b z&&notStar z
 | .zip a b,x=>v34 x fun n y z=>decide (n="zip")&&glb sc n&&decide (n∈B)&&mE N B sc a y&&notStar y&&mE N B sc b z&&notStar z
 | .enum a,x=>v23 x fun n y=>decide (n="enumerate")&&glb sc n&&decide (n∈B)&&mE N B sc a y&&notStar y
noncomputable def mT (N B:List Str) (sc:Scope):Ct->Expr->Bool
 | .name i,e=>v1 e fun x=>nameOk N i x&&locb sc x
 | .tup ts,e=>v12 e fun es=>mTs N B sc ts es&&!(hat B)
 | .sub o i,e=>v14 e fun eo ei=>mE N B sc o eo&&mE N B sc i ei&&notSlice ei
noncomputable def mTs (N B:List Str) (sc:Scope):Cts->List Expr->Bool
 | .nil,es=>v29 es (true)
 | .cons t r,es=>v30 es fun x xs=>mT N B sc t x&&notStar x&&mTs N B sc r xs
end
noncomputable def isDcx:Ce->Bool
 |_=>false
mutual
noncomputable def mS (N B:List Str) (sc:Scope):Cs->Stmt->Bool
 | .expr e,s=>v36 s fun x=>mE N B sc e x&&(match e with | .comp ..=>false|_=>true)&&!isDcx e
 | .ret e,s=>v37 s fun x=>mE N B sc e x
 | .asg t e,s=>v39 s fun tg x=>mE N B sc e x&&!isDcx e&&mT N B sc t tg&&notStar tg&&(match tg,x with
   | .Tuple ..,.Tuple vs _ _=>vs.all (foldedForSure 8)
   | .Tuple ..,.ListComp ..=>false
   |_,_=>true)
 | .setc2 i elt own t it q ws t2 it2 q2,s=>v41 s fun y py ee tg iter ifs a tg2 iter2 ifs2 a2 scope=>!(hat B)&&mT N B sc (.name i) (.Name y py)&&scOk N sc scope own&&mE N ("~" :: B) scope elt ee&&tOwn own t&&decide (a=0)&&mI N B sc it iter&&zipT it tg&&okIter iter&&mT N ("~" :: B) scope t tg&&mQo N ("~" :: B) scope q ifs&&
    decide (a2=0)&&mI N ("~" :: B) scope it2 iter2&&zipT it2 tg2&&okIter iter2&&mT N ("~" :: B) scope t2 tg2&&mQo N ("~" :: B) scope q2 ifs2&&tOwn ws t2&&ws.all (fun j=>decide (j∈own))
 | .dctc _ i k v own t it q,s=>v42 s fun y py ke ve tg iter ifs a scope=>!(hat B)&&mT N B sc (.name i) (.Name y py)&&scOk N sc scope own&&mE N ("~" :: B) scope k ke&&mE N ("~" :: B) scope v ve&&tOwn own t&&decide (a=0)&&mI N B sc it iter&&zipT it tg&&okIter iter&&mT N ("~" :: B) scope t tg&&mQo N ("~" :: B) scope q ifs
 | .aug i sub e,s=>v49 s fun x op ee=>nameOk N i x&&locb sc x&&mE N B sc e ee&&decide (op=if sub then .Sub else .Add)
 | .augS o i sub e,s=>v58 s fun eo ei op ee=>mE N B sc o eo&&mE N B sc i ei&&notSlice ei&&mE N B sc e ee&&decide (op=if sub then .Sub else .Add)
 | .ite q a b,s=>v50 s fun x ss rs=>mQ N B sc q x&&mSs N B sc a ss&&mSs N B sc b rs
 | .whl q b,s=>v51 s fun x ss=>mQ N B sc q x&&mSs N B sc b ss
 | .for_ t it b,s=>v52 s fun tg iter ss=>mI N B sc it iter&&zipT it tg&&okIter iter&&mT N B sc t tg&&mSs N B sc b ss&&!(hat B)
noncomputable def mSs (N B:List Str) (sc:Scope):Css->List Stmt->Bool
 | .nil,ss=>v56 ss (true)
 | .cons s r,ss=>v57 ss fun x xs=>mS N B sc s x&&mSs N B sc r xs
end
def PassS (CX:CXT) (X:Cx) (xk:L2.St->XK):Prop:=∀(pins:List (Addr×Obj)) (σ:L2.St) (H:Hp) (s:Shared) (e:Value) (s':Shared),Inv X pins σ H s->CX X.stack H s (xk σ) e s'->X.xe e s'
theorem passS0 {X:Cx} {xk:L2.St->XK}:PassS CX0 X xk:=fun _ _ _ _ _ _ _ h=>h.elim
structure Rok (C:Rc) (B:List Str) (X:Cx) (sc:Scope):Prop where
 hN:X.N=C.N
 nd:C.N.Nodup
 hK:X.K=C.K
 own:PassesOwn (model X.prog X.w) X.A X.env X.xe
 calm:hat B=false->X.calm=true
 hu:X.A.units+64<cLine
 gd:X.A.guards=some []
 loc:∀x,sc.names.lookup x=some .local->X.env.scope.names.lookup x=some .local
 cel:∀x,sc.names.lookup x=some .cell->X.env.scope.names.lookup x=some .cell/\X.fn x=true
 fre:∀x,sc.names.lookup x=some .free->X.env.scope.names.lookup x=some .cell\/X.env.scope.names.lookup x=some .free
 glo:∀x,sc.names.lookup x=some .globalImplicit->X.env.kindOf x=some .globalImplicit
 fn:∀x sp,C.fs x=some sp->hat B=false->(tld B=true->bang x∉B)->∃f fd ps k CX,FnOk X.prog X.w X.K X.mg X.base CX k f fd ps sp/\Room k X.A/\X.mg x=some (.ref f)/\W.keepIn X.K (.ref f)=true/\Binds X.K fd ps []/\(CX=CX0\/CX=CX1 X.prog X.w X.mg/\bang x∈B)/\PassS CX X C.xk
 blt:∀x∈B,X.mg x=none
 mrk:X.mg "~"=none/\X.mg "^"=none/\X.mg "%"=none
 cls:∀c Ca,C.cl c=some Ca->X.mg c=some (.ref Ca)/\W.nsIn X.K mainGlobals c=some (some (.ref Ca))
 fx:tld B=false->FnCx X
 nohat:tld B=false->hat B=false
 xr:tld B=false->pct B=false->∀nm Ca pins σ H s e t,C.cl nm=some Ca->Inv X pins σ H s->H e=none->X.s₀.heap.get? e=none->(∀p∈X.pn++pins,p.1≠e)->s.heap.get? e=some { cls:=.ref Ca,data:=.fields #[.ref t,.none,.none,.none,.bool false,.none] }->C.xk σ (.str nm 0) none H->X.xe (.ref e) s
theorem Rok.hu1 {C:Rc} {B:List Str} {X:Cx} {sc:Scope} (R:Rok C B X sc):X.A.units+1<cLine:=by have:=R.hu;omega
section
variable {C:Rc} {B:List Str} {X:Cx} {sc:Scope}
set_option tactic.hygienic true in
theorem Rok.vis (R:Rok C B X sc) {x:Str} (h:R3.vis sc x=true):Vis X.env.scope x:=by
 unfold R3.vis at h
 split at h
 .rename_i e;exact .inl (R.loc x e)
 .rename_i e;exact .inr (.inl (R.cel x e).1)
 .rename_i e
  rcases R.fre x e with q|q
  .exact .inr (.inl q)
  .exact .inr (.inr q)
 .cases h
set_option tactic.hygienic true in
theorem Rok.locb (R:Rok C B X sc) {x:Str} (h:R3.locb sc x=true):Loc X.env.scope x/\(X.fn x=true\/X.env.scope.names.lookup x=some .local):=by
 unfold R3.locb at h
 split at h
 .rename_i e;exact⟨.inl (R.loc x e),.inr (R.loc x e)⟩
 .rename_i e;exact⟨.inr (R.cel x e).1,.inl (R.cel x e).2⟩
 .cases h
theorem Rok.glb (R:Rok C B X sc) {x:Str} (h:R3.glb sc x=true):Gl X x:=R.glo x (of_decide_eq_true h)
theorem nameOk_of {N:List Str} {i:Nat} {x:Str} (h:nameOk N i x=true):N[i]?=some x/\(x == ("__debug__":Str))=false/\(x == ("__classdict__":Str))=false:=by
 unfold nameOk at h
 simp only[Bool.and_eq_true,decide_eq_true_eq,Bool.not_eq_true']at h
 exact⟨h.1.1,h.1.2,h.2⟩
theorem star_cons {e:Expr} {es:List Expr} {env:Env} (h:notStar e=true):starEach (e :: es) env=(false,eval e env) :: starEach es env:=by
 cases e<;>first|rfl|cases h
theorem mA_star {N B:List Str} {sc:Scope} {env:Env} {pos:Pos}:∀{es:Ces} {xs:List Expr},mA N B sc es xs=true->(backTo pos (starEach xs env)).any (·.1)=false
 | .nil,xs,h=>by
  refine v29_k h fun e0 g=>?_
  clear h
  subst e0
  revert g
  intro h
  rfl
 | .cons e r,xs,h=>by
  refine v30_k h fun x xs e0 g=>?_
  clear h
  subst e0
  revert g
  intro h
  simp only[Bool.and_eq_true]at h
  rw[star_cons h.1.2]
  have ih:=mA_star (env:=env) (pos:=pos) (es:=r) h.2
  exact ih
theorem folded_ok {e:Expr} {env:Env} (h:okIter e=true) (x:Value):foldedSetIterable e env x=pure x:=by
 cases e<;>first|rfl|cases h
theorem marks_ok {op:CmpOp} {e:Expr} (h:okIter e=true):behindInMarks op e=false:=by
 cases e<;>first|rfl|cases h
theorem last_ok {o1 o2:CmpOp} {a e:Expr} (h:okIter e=true):lastMarks [o1,o2] [a,e]=false:=by
 show behindInMarks o2 e=false
 exact marks_ok h
theorem ix_plain {e:Expr} (h:notSlice e=true):PlainIx e:=by
 intro o i
 cases e<;>first|rfl|cases h
theorem base_ok {e:Expr} {f:Str} {env:Env} {w:Sem Value} (h:baseOk e=true):attributeBase e f env w=w:=by
 cases e with
 |Call g args kw pos=>
  cases args with
  |nil=>cases h
  |cons a r=>cases g<;>rfl
 |_=>rfl
theorem plainT_ok {e:Expr} {env:Env} (h:plainT e=true) (w:Sem Value):isTrue e env w=(do let v <- w;standAt e.pos;holding [v] (truthy v)):=by
 cases e with
 |UnaryOp op a p=>cases op<;>first|rfl|cases h
 |_=>first|rfl|cases h
theorem OpR.imp {f:Value->Value->Sem Value} {r r':R2} (h:OpR X f r) (i:∀x y H Q,r' x y H Q->r x y H Q):OpR X f r':=fun pins s σ H x y v u Q I rx ry q=>h pins s σ H x y v u Q I rx ry (i _ _ _ _ q)
theorem CallR.imp {f:Value} {r r':List V->Hp->VK->Prop} (h:CallR X f r) (i:∀xs H Q,r' xs H Q->r xs H Q):CallR X f r':=fun pins s σ H xs us Q I rv q=>h pins s σ H xs us Q I rv (i _ _ _ q)
theorem ixM:IxR X (rIxM X.K):=by
 intro value slice pins s σ H x y v u Q I rx ry q hp
 refine ix_seq value slice pins s σ H x y v u Q I rx ry ?_ hp
 unfold rIxM at q
 split at q
 .obtain⟨z,c,hc,q⟩:=q
  exact .inr (.inr ⟨_,_,c,rfl,rfl,z,hc,q⟩)
 .rcases q with q|q
  .exact .inl q
  .exact .inr (.inl q)
theorem run_at {CX:CXT} {k:Nat} {f:Addr} {fd:FuncData} {ps:List Str} {sp:Sp} {dvs:List V} {ds:List Value} {E:XK} {pins:List (Addr×Obj)} {σ:L2.St} {H:Hp} {s:Shared} {Q:VK} {us:List Value} {vs:List V} (F:FnOk X.prog X.w X.K X.mg X.base CX k f fd ps sp) (hr:Room k X.A) (hb:Binds X.K fd ps ds) (hd:Vals dvs ds)
  (hx:∀e s',CX X.stack H s E e s'->X.xe e s') (I:Inv X pins σ H s) (r:Vals vs us) (h:sp (vs++dvs) H Q E):wpAny (model X.prog X.w) X.A (call (.ref f) us) (EP X pins σ Q) X.xe s:=by
 have r2:=r.append hd
 have hl:(us++ds).length=ps.length:=r2.length ▸ F.len _ _ _ _ h
 have go:=F.run X.A X.stack s H ⟨us,[]⟩ (us++ds) (vs++dvs) Q E hr I.env0 (hb s us I.kIn hl) r2 h
 refine wpAny_call (codeAny_mono go fun r s' hq=>?_)
 match r,hq with
 | .error e,hq=>exact hx e s' hq
 | .ok (.ret u),hq=>exact I.after hq
theorem pe_callS {CX:CXT} {k:Nat} {f:Addr} {fd:FuncData} {ps:List Str} {sp:Sp} {dvs:List V} {ds:List Value} {xk:L2.St->XK} {x:Str} {p pos:Pos} {e:Expr} {es:List Expr} {t:TA} (F:FnOk X.prog X.w X.K X.mg X.base CX k f fd ps sp) (hr:Room k X.A) (hg:Gl X x) (hm:X.mg x=some (.ref f)) (hk:W.keepIn X.K (.ref f)=true) (hb:Binds X.K fd ps ds) (hd:Vals dvs ds) (hx:PassS CX X xk)
  (ha:PA X (e :: es) t) (hdb:(x == ("__debug__":Str))=false) (he:starEach (e :: es) X.env=(false,eval e X.env) :: starEach es X.env) (hpl:(backTo pos (starEach es X.env)).any (·.1)=false):
  PE X (.Call (.Name x p) (e :: es) [] pos) (fun σ H Q=>tCall sp dvs (xk σ) t σ H Q):=by
 intro pins s σ H Q I h
 refine wpAny_Call_Name_kw (ld_glob I hg hm ?_ hdb)
 exact W.callWith_K (h₀:=X.base) I.ok.mod.kin hk (thn (ha pos pins s σ H _ I h) fun us s1 ⟨vs,H1,I1,r,q⟩=>⟨I1.kIn,run_at F hr hb hd (fun e s' c=>hx pins σ H1 s1 e s' I1 c) I1 r q⟩) he hpl
theorem pe_call0S {CX:CXT} {k:Nat} {f:Addr} {fd:FuncData} {ps:List Str} {sp:Sp} {dvs:List V} {ds:List Value} {xk:L2.St->XK} {x:Str} {p pos:Pos} (F:FnOk X.prog X.w X.K X.mg X.base CX k f fd ps sp) (hr:Room k X.A) (hg:Gl X x) (hm:X.mg x=some (.ref f)) (hk:W.keepIn X.K (.ref f)=true) (hb:Binds X.K fd ps ds) (hd:Vals dvs ds) (hx:PassS CX X xk) (hdb:(x == ("__debug__":Str))=false):
  PE X (.Call (.Name x p) [] [] pos) (fun σ H Q=>tCall sp dvs (xk σ) tNil σ H Q):=by
 intro pins s σ H Q I h
 refine wpAny_Call_Name_kw (ld_glob I hg hm ?_ hdb)
 exact W.callWith_K0 I.kIn hk (run_at (us:=[]) F hr hb hd (fun e s' c=>hx pins σ H s e s' I c) I .nil h)
theorem bits100 {a:Int} (h:a.natAbs<2 ^ 100):(Builtin.Int.intBits a:Int)<=100:=by
 unfold Builtin.Int.intBits
 by_cases h0:a.natAbs=0
 .rw[if_pos (by simpa using h0)];decide
 .rw[if_neg (by simpa using h0)]
  have:=(Nat.log2_lt h0).mpr h
  omega
theorem op_shlX {X:Cx}:OpR X (binaryOp .LShift) (rI CShl fun i j=>.int (i*2 ^ j.toNat)):=opI fun _ _ _ _ _ _ _ hc q=>lshift_int hc.1 (by have:=bits100 hc.2.2;have:=hc.2.1;omega) q
theorem bin_ok (op:Operator):OpR X (binaryOp op) (rBin X.K op):=by
 cases op with
 |Add=>
  refine OpR.imp ((op_add.or op_add_str).or (op_cat.or (op_catT.or op_catT0))) fun x y H Q q=>?_
  unfold rBin at q
  dsimp only at q
  split at q
  .exact .inl (.inl ⟨_,_,rfl,rfl,q⟩)
  .exact .inl (.inr ⟨_,_,rfl,rfl,q.1,q.2⟩)
  .exact .inr q
 |Sub=>exact op_sub
 |Mult=>
  refine OpR.imp (op_mulW.or (op_mul_str.or op_rep)) fun x y H Q q=>?_
  unfold rBin at q
  dsimp only at q
  split at q
  .refine .inl ⟨_,_,rfl,rfl,?_,q.2⟩
   rcases q.1 with h|h|h
   .exact CMul.ok (.inl h)
   .exact CMul.ok (.inr h)
   .exact h
  .exact .inr (.inl ⟨_,_,rfl,rfl,q.1,q.2.1,q.2.2.1,q.2.2.2⟩)
  .exact .inr (.inr q)
 |Mod=>exact op_mod
 |FloorDiv=>
  refine OpR.imp (op_fdiv.or op_fdivW) fun x y H Q q=>?_
  obtain⟨i,j,h1,h2,⟨h3,h4⟩,q⟩:=q
  rcases h4 with h4|h4
  .exact .inl ⟨i,j,h1,h2,⟨h3,h4⟩,q⟩
  .exact .inr ⟨i,j,h1,h2,⟨h3,h4⟩,q⟩
 |Pow=>exact op_pow
 |LShift=>exact op_shlX
 |RShift=>exact op_shr
 |MatMult=>exact fun _ _ _ _ _ _ _ _ _ _ _ _ h=>h.elim
 |Div=>exact fun _ _ _ _ _ _ _ _ _ _ _ _ h=>h.elim
 |BitOr=>exact fun _ _ _ _ _ _ _ _ _ _ _ _ h=>h.elim
 |BitXor=>exact fun _ _ _ _ _ _ _ _ _ _ _ _ h=>h.elim
 |BitAnd=>exact op_and1
theorem cmp_ok (hu':X.A.units+64<cLine) (op:CmpOp):OpR X (compareOp op) (rCmp X.K op):=by
 cases op with
 |Eq=>
  refine OpR.imp (op_eq.or ((op_eqL (by omega)).or (op_eqD hu'))) fun x y H Q q=>?_
  unfold rCmp at q
  dsimp only at q
  split at q
  .exact .inr q
  .exact .inl q
 |NotEq=>
  refine OpR.imp (op_ne.or ((op_neL (by omega)).or (op_neD hu'))) fun x y H Q q=>?_
  unfold rCmp at q
  dsimp only at q
  split at q
  .exact .inr q
  .exact .inl q
 |Lt=>exact op_lt
 |LtE=>exact op_le
 |Gt=>
  refine OpR.imp (op_gt.or op_gtS) fun x y H Q q=>?_
  unfold rCmp at q
  dsimp only at q
  split at q
  .exact .inr q
  .exact .inl q
 |GtE=>exact op_ge
 |Is=>
  refine OpR.imp (op_isN.or op_isB) fun x y H Q q=>?_
  unfold rCmp at q
  dsimp only at q
  split at q
  .exact .inr q
  .exact .inl q
 |IsNot=>
  refine OpR.imp (op_notN.or op_isNotB) fun x y H Q q=>?_
  unfold rCmp at q
  dsimp only at q
  split at q
  .exact .inr q
  .exact .inl q
 |In=>
  refine OpR.imp (op_inS.or op_in_seq) fun x y H Q q=>?_
  unfold rCmp at q
  dsimp only at q
  split at q
  .exact .inl q
  .exact .inr q
 |NotIn=>
  refine OpR.imp (op_notInS.or op_notIn_seq) fun x y H Q q=>?_
  unfold rCmp at q
  dsimp only at q
  split at q
  .exact .inl q
  .exact .inr q
inductive BltIs:Bf->Prop where
 |fn (f:Bf) (id:String) (hv:bootBuiltins (bltName f)=some (.builtin id)) (h:∀X:Cx,(X.calm=true\/f=.isinstance)->CallR X (.builtin id) (rBlt X.K f)):BltIs f
 |ty (f:Bf) (T:String) (hv:bootBuiltins (bltName f)=some (.type T)) (h:∀X:Cx,(X.calm=true\/f=.isinstance)->CallR X (.type T) (rBlt X.K f)):BltIs f
theorem blt_is (f:Bf):BltIs f:=by
 cases f with
 |len=>exact .fn _ "len" (by decide +kernel) fun X _=>call_len
 |abs=>exact .fn _ "abs" (by decide +kernel) fun X _=>call_abs
 |int=>
  refine .ty _ "int" (by decide +kernel) fun X _=>CallR.imp call_intB fun xs H Q q=>?_
  unfold rBlt at q
  dsimp only at q
  split at q
  .exact .inl (.inl (.inl ⟨_,rfl,q⟩))
  .exact .inl (.inl (.inr ⟨_,rfl,q⟩))
  .obtain⟨n,h1,h2,q⟩:=q
   exact .inl (.inr ⟨_,n,rfl,h1,h2,q⟩)
  .obtain⟨rfl,n,h1,q⟩:=q
   exact .inr ⟨_,n,rfl,h1,q⟩
  .exact q.elim
 |set=>exact .ty _ "set" (by decide +kernel) fun X c0=>have c:X.calm=true:=c0.resolve_right (fun z=>by cases z);call_setL c
 |isinstance=>exact .fn _ "isinstance" (by decide +kernel) fun X _=>CallR.imp call_isi fun _ _ _ q=>q.resolve_right id
 |all=>exact .fn _ "all" (by decide +kernel) fun X c0=>have c:X.calm=true:=c0.resolve_right (fun z=>by cases z);call_allL c
 |anyI=>exact .fn _ "any" (by decide +kernel) fun X c0=>have c:X.calm=true:=c0.resolve_right (fun z=>by cases z);call_anyI c
 |anyE=>exact .fn _ "any" (by decide +kernel) fun X c0=>have c:X.calm=true:=c0.resolve_right (fun z=>by cases z);call_anyE c
 |minE=>exact .fn _ "min" (by decide +kernel) fun X c0=>have c:X.calm=true:=c0.resolve_right (fun z=>by cases z);call_minE c
 |max=>
  refine .fn _ "max" (by decide +kernel) fun X c0=>have c:X.calm=true:=c0.resolve_right (fun z=>by cases z);CallR.imp ((call_max2 c).or (call_maxL c)) fun xs H Q q=>?_
  unfold rBlt at q
  dsimp only at q
  split at q
  .exact .inl ⟨_,_,rfl,q⟩
  .exact .inr q
 |min=>
  refine .fn _ "min" (by decide +kernel) fun X c0=>have c:X.calm=true:=c0.resolve_right (fun z=>by cases z);CallR.imp ((call_min2 c).or (call_minL c)) fun xs H Q q=>?_
  unfold rBlt at q
  dsimp only at q
  split at q
  .exact .inl ⟨_,_,rfl,q⟩
  .exact .inr q
 |list=>exact .ty _ "list" (by decide +kernel) fun X c0=>have c:X.calm=true:=c0.resolve_right (fun z=>by cases z);call_list_of.or (call_lrg c)
 |range=>exact .ty _ "range" (by decide +kernel) fun X _=>call_rng
 |sum=>exact .fn _ "sum" (by decide +kernel) fun X c0=>have c:X.calm=true:=c0.resolve_right (fun z=>by cases z);call_sumL c
 |tuple=>exact .ty _ "tuple" (by decide +kernel) fun X _=>call_tuple_of
structure MetIs (m:Mf) (id:String):Prop where
 pa:PlainAttrs (metTy m)
 slot:Slot (metTy m) (metName m) id
 ty:typeOf (.builtin id)=pure (.type "method_descriptor")
 h:∀X:Cx,MtR X id (rMet X.K m)
theorem met_is (m:Mf):∃id,MetIs m id:=by
 cases m with
 |append=>exact⟨_,F.plainAttrs_list,F.slot_list_append,F.type_list_append,fun _=>mt_append⟩
 |extend=>exact⟨_,F.plainAttrs_list,F.slot_list_extend,F.type_list_extend,fun _=>mt_extend⟩
 |join=>exact⟨_,F.plainAttrs_str,F.slot_str_join,F.type_str_join,fun _=>mt_join⟩
 |bitlen=>exact⟨_,F.plainAttrs_int,F.slot_int_bit_length,F.type_int_bit_length,fun _=>mt_bitlen⟩
 |popL=>exact⟨_,F.plainAttrs_list,F.slot_list_pop,F.type_list_pop,fun _=>mt_pop⟩
end
theorem scOk_of {N:List Str} {sc scope:Scope} {own:List Nat} (h:scOk N sc scope own=true):scope.kind=.function/\(∀x∈scope.names,x.2=.local->scope.names.lookup x.1=some .local)/\(∀n,(n,NameKind.cell)∈scope.names->scope.names.lookup n=some .cell)/\
  (∀n,(n,NameKind.free)∈scope.names->sc.names.lookup n=some .cell\/sc.names.lookup n=some .free)/\∀(i:Nat) (x:Str),N[i]?=some x->(scope.names.lookup x=some .local\/scope.names.lookup x=some .cell)->i∈own:=by
 unfold scOk at h
 simp only[Bool.and_eq_true,decide_eq_true_eq,List.all_eq_true,Bool.or_eq_true]at h
 obtain⟨⟨hk,hn⟩,ho⟩:=h
 refine⟨hk,fun x hx e=>?_,fun n hn'=>?_,fun n hn'=>?_,fun i x e hx=>?_⟩
 .exact(hn x hx).1.1.resolve_left fun q=>q e
 .exact(hn _ hn').1.2.resolve_left fun q=>q rfl
 .rcases(hn _ hn').2 with(q|q)|q
  .exact absurd rfl q
  .exact .inl q
  .exact .inr q
 .have:=ho i (List.mem_range.mpr (List.getElem?_eq_some_iff.mp e).1)
  rw[e]at this
  simp only[Bool.or_eq_true,Bool.and_eq_true,decide_eq_true_eq]at this
  rcases this with⟨q1,q2⟩|q
  .rcases hx with z|z
   .exact absurd z q1
   .exact absurd z q2
  .exact q
theorem Rok.compSc {C:Rc} {B:List Str} {X:Cx} {sc scope:Scope} {own:List Nat} (R:Rok C B X sc) (h:scOk C.N sc scope own=true):CompSc X scope:=by
 obtain⟨h1,h2,h3,h4,h5⟩:=scOk_of h
 refine⟨h1,h2,h3,fun n hn=>?_⟩
 rcases h4 n hn with q|q
 .exact .inl (R.cel n q).1
 .exact R.fre n q
theorem tld_cons {B:List Str}:tld ("~" :: B)=true:=decide_eq_true (List.mem_cons_self)
theorem Rok.comp {C:Rc} {B:List Str} {X:Cx} {sc scope:Scope} {own:List Nat} (R:Rok C B X sc) (hh:hat B=false) (h:scOk C.N sc scope own=true) (s0:Shared) (H0:Hp) (ex:List Addr):Rok C ("~" :: B) (X.comp scope s0 H0 ex) scope:=by
 refine⟨R.hN,R.nd,R.hK,PassesOwn.never,fun _=>R.calm hh,R.hu,R.gd,fun x e=>lookup_relabel_local e,fun x e=>⟨?_,?_⟩,fun x e=>?_,fun x e=>?_,fun x sp e _ ht=>?_,fun x hx=>?_,R.mrk,R.cls,(fun z=>by rw[tld_cons]at z;cases z),(fun z=>by rw[tld_cons]at z;cases z),(fun z=>by rw[tld_cons]at z;cases z)⟩
 .obtain⟨k',e1,e2⟩:=relabel_lookup' (env:=X.env) e
  rcases e2 with rfl|⟨q,_⟩
  .exact e1
  .cases q
 .exact W.cellsFrom_some _ _ _ (.inl e)
 .obtain⟨k',e1,e2⟩:=relabel_lookup' (env:=X.env) e
  rcases e2 with rfl|⟨_,rfl⟩
  .exact .inr e1
  .exact .inl e1
 .obtain⟨k',e1,e2⟩:=relabel_lookup' (env:=X.env) e
  rcases e2 with rfl|⟨q,_⟩
  .exact e1
  .cases q
 .have hb:bang x∉B:=fun z=>ht tld_cons (List.mem_cons_of_mem _ z)
  obtain⟨f,fd,ps,k,CX,h1,h2,h3,h4,h5,h6,_⟩:=R.fn x sp e hh fun _=>hb
  rcases h6 with rfl|⟨_,z⟩
  .exact⟨f,fd,ps,k,CX0,h1,h2,h3,h4,h5,.inl rfl,passS0⟩
  .exact absurd z hb
 .rcases List.mem_cons.mp hx with rfl|hx
  .exact R.mrk.1
  .exact R.blt x hx
mutual
theorem gmono_of (C:Rc) (own:List Nat):∀(t:Ct),tOwn own t=true->∀(x:V) (σ:L2.St) (H:Hp) (Q Q':L2.St->Hp->Prop),tG C t x σ H Q->(∀σ2 H2,Q σ2 H2->Ext own σ σ2->Q' σ2 H2)->tG C t x σ H Q'
 | .name i,h,x,σ,H,Q,Q',q,m=>by
  obtain⟨q1,q2⟩:=gext_name (of_decide_eq_true (show decide (i∈own)=true from h)) x σ H Q q
  exact m _ _ q1 q2
 | .tup ts,h,x,σ,H,Q,Q',q,m=>by
  replace h:tOwns own ts=true:=h
  obtain⟨a,xs,e,hs,hl,q⟩:=q
  exact⟨a,xs,e,hs,hl,gmonos_of C own ts h xs σ H Q Q' q m⟩
 | .sub _ _,h,_,_,_,_,_,_,_=>no_tt h
theorem gmonos_of (C:Rc) (own:List Nat):∀(ts:Cts),tOwns own ts=true->∀(xs:List V) (σ:L2.St) (H:Hp) (Q Q':L2.St->Hp->Prop),tGs C ts xs σ H Q->(∀σ2 H2,Q σ2 H2->Ext own σ σ2->Q' σ2 H2)->tGs C ts xs σ H Q'
 | .nil,h,xs,σ,H,Q,Q',q,m=>by
  replace q:xs=[]/\Q σ H:=q
  exact And.intro q.1 (m _ _ q.2 Ext.refl)
 | .cons t r,h,xs,σ,H,Q,Q',q,m=>by
  replace h:=band (show(tOwn own t&&tOwns own r)=true from h)
  replace q:∃v vr,xs=v :: vr/\tG C t v σ H fun σ' H'=>tGs C r vr σ' H' Q:=q
  obtain⟨v,vr,e,q⟩:=q
  show ∃v vr,xs=v :: vr/\tG C t v σ H fun σ' H'=>tGs C r vr σ' H' Q'
  exact⟨v,vr,e,gmono_of C own t h.1 v σ H _ _ q fun σ2 H2 q2 x2=>gmonos_of C own r h.2 vr σ2 H2 _ _ q2 fun σ3 H3 q3 x3=>m _ _ q3 (x2.trans x3)⟩
end
theorem gext_of {C:Rc} {own:List Nat} {t:Ct} (h:tOwn own t=true):GExt own (tG C t):=fun x σ H Q q=>gmono_of C own t h x σ H Q _ q fun _ _ q x=>⟨q,x⟩
theorem assign_star:∀{ts:Cts} {es:List Expr} {N B:List Str} {sc:Scope} {env:Env},mTs N B sc ts es=true->(assignEach es env).length=lenTs ts/\(assignEach es env).findIdx? (·.1)=none
 | .nil,es,N,B,sc,env,h=>by
  refine v29_k h fun e0 g=>?_
  clear h
  subst e0
  revert g
  intro h
  exact⟨rfl,rfl⟩
 | .cons t r,es,N,B,sc,env,h=>by
  refine v30_k h fun x xs e0 g=>?_
  clear h
  subst e0
  revert g
  intro h
  simp only[Bool.and_eq_true]at h
  obtain⟨h1,h2⟩:=assign_star (env:=env) h.2
  have e:assignEach (x :: xs) env=(false,assign x env) :: assignEach xs env:=by
   have hs:=h.1.2
   cases x<;>first|rfl|cases hs
  rw[e]
  refine⟨by rw[List.length_cons,h1];rfl,?_⟩
  rw[List.findIdx?_cons,h2]
  rfl
theorem assign_each {x:Expr} {xs:List Expr} {env:Env} (hs:notStar x=true):(assignEach (x :: xs) env).map (·.2)=assign x env :: (assignEach xs env).map (·.2):=by
 cases x<;>first|rfl|cases hs
theorem asg_sub {o i:Expr} {pos:Pos} {env:Env} (h:notSlice i=true) (v:Value):assign (.Subscript o i pos) env v=(do
   let ov <- holding [v] (eval o env)
   let iv <- holding [v,ov] (eval i env)
   standAt pos
   holding [v,ov,iv] (setItem ov iv v)
   release [v,ov,iv] []):=by
 cases i<;>first|rfl|cases h
noncomputable def CompX (C:Rc) (X:Cx) (e:Expr):Ce->Prop
 | .comp elt own t it q r=>∃tg iter ifs nx scope pos,CompIn X e scope tg iter ifs nx (tG C t) (tQo C q) (tR C r (tEmit (tE C elt))) own/\PI X tg iter (tI C it)/\
   eval e X.env=comprehension e scope X.env pos (newList []) false (eval iter X.env)/\(∀u,evalThenUse e X.env u=(do let _ <- comprehension e scope X.env pos (newList []) false (eval iter X.env) (some u)))/\
   ∀y py line,∃b,swapsWith e (some (.Name y py)) line X.env=pure b
 |_=>True
theorem den_nest (P w it D env ee tg iter ifs tg2 iter2 ifs2 scope pos):(model P w).den (.compLoop (.ListComp ee [⟨tg,iter,ifs,0⟩,⟨tg2,iter2,ifs2,0⟩] scope pos) 0 it (.ref D) env)=(turnCode (.ListComp ee [⟨tg,iter,ifs,0⟩,⟨tg2,iter2,ifs2,0⟩] scope pos) 0 tg iter ifs (nestCode (.ListComp ee [⟨tg,iter,ifs,0⟩,⟨tg2,iter2,ifs2,0⟩] scope pos) 0 iter2 (.ref D) env) it (.ref D) env).onRaise (fun x=>do noteFrame x env;theTreesLotGoes x):=by
 show(compTurn _ _ _ _ _).onRaise _=_
 congr 1
 unfold turnCode nestCode
 simp only[bind_assoc,pure_bind]
 rfl
noncomputable def emitD (ke ve:Expr) (D:Addr) (env:Env):Sem Unit:=do
 let kv <- eval ke env
 let vv <- holding [kv] (eval ve env)
 match Value.ref D with
 | .ref d=>do
  standAt { ke.pos with endLine:=ve.pos.endLine,endCol:=ve.pos.endCol }
  holding [kv,vv] (dictSet d kv vv)
 |_=>unsupported "internal:dictcomp"
theorem inv1 {N B:List Str} {sc:Scope} {elt:Ce} {own:List Nat} {t:Ct} {it:Ci} {q:Cqo} {e:Expr} (h:mE N B sc (.comp elt own t it q .nil) e=true):∃ee tg iter ifs scope pos,e=.ListComp ee [⟨tg,iter,ifs,0⟩] scope pos/\
  hat B=false/\scOk N sc scope own=true/\mE N ("~" :: B) scope elt ee=true/\tOwn own t=true/\mI N B sc it iter=true/\zipT it tg=true/\okIter iter=true/\mT N ("~" :: B) scope t tg=true/\mQo N ("~" :: B) scope q ifs=true:=by
 refine v26_k h fun ee tg iter ifs a scope w1 e0 g=>?_
 clear h
 subst e0
 revert g
 intro h
 simp only[Bool.and_eq_true,decide_eq_true_eq,Bool.not_eq_true']at h
 obtain⟨⟨⟨⟨⟨⟨⟨⟨⟨hh,hsc⟩,helt⟩,hown⟩,rfl⟩,h1⟩,h2⟩,h3⟩,h4⟩,h5⟩:=h
 exact⟨_,_,_,_,_,_,rfl,hh,hsc,helt,hown,h1,h2,h3,h4,h5⟩
theorem inv2 {N B:List Str} {sc:Scope} {elt:Ce} {own:List Nat} {t:Ct} {it:Ci} {q:Cqo} {ws:List Nat} {t2:Ct} {it2:Ci} {q2:Cqo} {e:Expr} (h:mE N B sc (.comp elt own t it q (.cons ws t2 it2 q2 .nil)) e=true):
  ∃ee tg iter ifs tg2 iter2 ifs2 scope pos,e=.ListComp ee [⟨tg,iter,ifs,0⟩,⟨tg2,iter2,ifs2,0⟩] scope pos/\
  hat B=false/\scOk N sc scope own=true/\mE N ("~" :: B) scope elt ee=true/\tOwn own t=true/\mI N B sc it iter=true/\zipT it tg=true/\okIter iter=true/\mT N ("~" :: B) scope t tg=true/\mQo N ("~" :: B) scope q ifs=true/\
  mI N ("~" :: B) scope it2 iter2=true/\zipT it2 tg2=true/\okIter iter2=true/\mT N ("~" :: B) scope t2 tg2=true/\mQo N ("~" :: B) scope q2 ifs2=true/\tOwn ws t2=true/\∀j∈ws,j∈own:=by
 refine v27_k h fun ee tg iter ifs a tg2 iter2 ifs2 a2 scope w1 e0 g=>?_
 clear h
 subst e0
 revert g
 intro h
 simp only[Bool.and_eq_true,decide_eq_true_eq,List.all_eq_true,Bool.not_eq_true']at h
 obtain⟨⟨⟨⟨⟨⟨⟨⟨⟨⟨⟨⟨⟨⟨⟨⟨⟨hh,hsc⟩,helt⟩,hown⟩,rfl⟩,h1⟩,h2⟩,h3⟩,h4⟩,h5⟩,rfl⟩,g1⟩,g2⟩,g3⟩,g4⟩,g5⟩,g6⟩,g7⟩:=h
 exact⟨_,_,_,_,_,_,_,_,_,rfl,hh,hsc,helt,hown,h1,h2,h3,h4,h5,g1,g2,g3,g4,g5,g6,g7⟩
theorem den_nest3 (P w it D env ee tg iter ifs tg2 iter2 ifs2 tg3 iter3 ifs3 scope pos):(model P w).den (.compLoop (.ListComp ee [⟨tg,iter,ifs,0⟩,⟨tg2,iter2,ifs2,0⟩,⟨tg3,iter3,ifs3,0⟩] scope pos) 0 it (.ref D) env)=(turnCode (.ListComp ee [⟨tg,iter,ifs,0⟩,⟨tg2,iter2,ifs2,0⟩,⟨tg3,iter3,ifs3,0⟩] scope pos) 0 tg iter ifs (nestCode (.ListComp ee [⟨tg,iter,ifs,0⟩,⟨tg2,iter2,ifs2,0⟩,⟨tg3,iter3,ifs3,0⟩] scope pos) 0 iter2 (.ref D) env) it (.ref D) env).onRaise (fun x=>do noteFrame x env;theTreesLotGoes x):=by
 show(compTurn _ _ _ _ _).onRaise _=_
 congr 1
 unfold turnCode nestCode
 simp only[bind_assoc,pure_bind]
 rfl
theorem den_nest3b (P w it D env ee tg iter ifs tg2 iter2 ifs2 tg3 iter3 ifs3 scope pos):(model P w).den (.compLoop (.ListComp ee [⟨tg,iter,ifs,0⟩,⟨tg2,iter2,ifs2,0⟩,⟨tg3,iter3,ifs3,0⟩] scope pos) 1 it (.ref D) env)=(turnCode (.ListComp ee [⟨tg,iter,ifs,0⟩,⟨tg2,iter2,ifs2,0⟩,⟨tg3,iter3,ifs3,0⟩] scope pos) 1 tg2 iter2 ifs2 (nestCode (.ListComp ee [⟨tg,iter,ifs,0⟩,⟨tg2,iter2,ifs2,0⟩,⟨tg3,iter3,ifs3,0⟩] scope pos) 1 iter3 (.ref D) env) it (.ref D) env).onRaise (fun x=>do noteFrame x env;theTreesLotGoes x):=by
 show(compTurn _ _ _ _ _).onRaise _=_
 congr 1
 unfold turnCode nestCode
 simp only[bind_assoc,pure_bind]
 rfl
theorem inv3 {N B:List Str} {sc:Scope} {elt:Ce} {own:List Nat} {t:Ct} {it:Ci} {q:Cqo} {ws:List Nat} {t2:Ct} {it2:Ci} {q2:Cqo} {ws3:List Nat} {t3:Ct} {it3:Ci} {q3:Cqo} {e:Expr} (h:mE N B sc (.comp elt own t it q (.cons ws t2 it2 q2 (.cons ws3 t3 it3 q3 .nil))) e=true):
  ∃ee tg iter ifs tg2 iter2 ifs2 tg3 iter3 ifs3 scope pos,e=.ListComp ee [⟨tg,iter,ifs,0⟩,⟨tg2,iter2,ifs2,0⟩,⟨tg3,iter3,ifs3,0⟩] scope pos/\
  hat B=false/\scOk N sc scope own=true/\mE N ("~" :: B) scope elt ee=true/\tOwn own t=true/\mI N B sc it iter=true/\zipT it tg=true/\okIter iter=true/\mT N ("~" :: B) scope t tg=true/\mQo N ("~" :: B) scope q ifs=true/\
  (mI N ("~" :: B) scope it2 iter2=true/\zipT it2 tg2=true/\okIter iter2=true/\mT N ("~" :: B) scope t2 tg2=true/\mQo N ("~" :: B) scope q2 ifs2=true/\tOwn ws t2=true/\∀j∈ws,j∈own)/\
  mI N ("~" :: B) scope it3 iter3=true/\zipT it3 tg3=true/\okIter iter3=true/\mT N ("~" :: B) scope t3 tg3=true/\mQo N ("~" :: B) scope q3 ifs3=true/\tOwn ws3 t3=true/\∀j∈ws3,j∈ws:=by
 refine v28_k h fun ee tg iter ifs a tg2 iter2 ifs2 a2 tg3 iter3 ifs3 a3 scope w1 e0 g=>?_
 clear h
 subst e0
 revert g
 intro h
 simp only[Bool.and_eq_true,decide_eq_true_eq,List.all_eq_true,Bool.not_eq_true']at h
 obtain⟨⟨⟨⟨⟨⟨⟨⟨⟨⟨⟨⟨⟨⟨⟨⟨⟨⟨⟨⟨⟨⟨⟨⟨⟨hh,hsc⟩,helt⟩,hown⟩,rfl⟩,h1⟩,h2⟩,h3⟩,h4⟩,h5⟩,rfl⟩,g1⟩,g2⟩,g3⟩,g4⟩,g5⟩,g6⟩,g7⟩,rfl⟩,k1⟩,k2⟩,k3⟩,k4⟩,k5⟩,k6⟩,k7⟩:=h
 exact⟨_,_,_,_,_,_,_,_,_,_,_,_,rfl,hh,hsc,helt,hown,h1,h2,h3,h4,h5,⟨g1,g2,g3,g4,g5,g6,g7⟩,k1,k2,k3,k4,k5,k6,k7⟩
theorem inv4 {N B:List Str} {sc:Scope} {elt:Ce} {own:List Nat} {t:Ct} {it:Ci} {q:Cqo} {ws:List Nat} {t2:Ct} {it2:Ci} {q2:Cqo} {ws3:List Nat} {t3:Ct} {it3:Ci} {q3:Cqo} {ws4:List Nat} {t4:Ct} {it4:Ci} {q4:Cqo} {r4:Cc} {e:Expr} (h:mE N B sc (.comp elt own t it q (.cons ws t2 it2 q2 (.cons ws3 t3 it3 q3 (.cons ws4 t4 it4 q4 r4)))) e=true):False:=by
 exact no_tt h
set_option maxHeartbeats 4000000
mutual
theorem sE0 {C:Rc}:∀(c:Ce) {B:List Str} {X:Cx} {sc:Scope} {e:Expr},Rok C B X sc->mE C.N B sc c e=true->PE X e (tE C c)/\CompX C X e c
 | .var i,B,X,sc,e,R,h=>by
  refine⟨?_,trivial⟩
  refine v1_k h fun x w1 e0 g=>?_
  clear h
  subst e0
  revert g
  intro h
  simp only[Bool.and_eq_true]at h
  obtain⟨h1,h2,h3⟩:=nameOk_of h.1
  rw[show tE C (.var i)=(tVar i) from rfl]
  exact pe_var (by rw[R.hN];exact h1) (R.vis h.2) h2 h3
 | .int n,B,X,sc,e,R,h=>by
  refine⟨?_,trivial⟩
  refine v2_k h fun m w1 w2 e0 g=>?_
  clear h
  subst e0
  revert g
  intro h
  cases of_decide_eq_true h
  rw[show tE C (.int n)=(tC (.int n)) from rfl]
  exact pe_int
 | .bl n,B,X,sc,e,R,h=>by
  refine⟨?_,trivial⟩
  refine v3_k h fun c w1 w2 e0 g=>?_
  clear h
  subst e0
  revert g
  intro h
  cases of_decide_eq_true h
  rw[show tE C (.bl n)=(tC (.bl n)) from rfl]
  exact pe_bl
 | .non,B,X,sc,e,R,h=>by
  refine⟨?_,trivial⟩
  refine v4_k h fun w1 w2 e0 g=>?_
  clear h
  subst e0
  revert g
  intro h
  rw[show tE C .non=(tC .non) from rfl]
  exact pe_non
 | .str n,B,X,sc,e,R,h=>by
  refine⟨?_,trivial⟩
  refine v5_k h fun y w1 w2 e0 g=>?_
  clear h
  subst e0
  revert g
  intro h
  cases of_decide_eq_true h
  rw[show tE C (.str n)=(tC (.str n)) from rfl]
  exact pe_str
 | .ty n,B,X,sc,e,R,h=>by
  refine⟨?_,trivial⟩
  refine v1_k h fun x w1 e0 g=>?_
  clear h
  subst e0
  revert g
  intro h
  simp only[Bool.and_eq_true,decide_eq_true_eq]at h
  obtain⟨⟨⟨rfl,h2⟩,h3⟩,h4⟩:=h
  rw[show tE C (.ty n)=(tC (.ty n)) from rfl]
  have hb:bootBuiltins (Str.ofString n)=some (.type n)/\Str.ofString n≠"__name__"/\(Str.ofString n == ("__debug__":Str))=false:=by
   simp only[typeNames,List.contains_iff_mem,List.mem_cons,List.not_mem_nil,or_false]at h3
   rcases h3 with rfl|rfl|rfl|rfl|rfl|rfl|rfl<;>decide +kernel
  exact pe_bltn (v:=.ty n) (R.glb h2) (R.blt _ h4) hb.1 rfl hb.2.1 hb.2.2
 | .bin op a b,B,X,sc,e,R,h=>by
  refine⟨?_,trivial⟩
  refine v6_k h fun ea op' eb w1 e0 g=>?_
  clear h
  subst e0
  revert g
  intro h
  simp only[Bool.and_eq_true,decide_eq_true_eq]at h
  obtain⟨⟨rfl,h1⟩,h2⟩:=h
  rw[show tE C (.bin op a b)=(tOp (rBin C.K op) (tE C a) (tE C b)) from rfl]
  rw[<- R.hK]
  exact pe_op (bin_ok _) ((sE0 a R h1).1) ((sE0 b R h2).1)
 | .neg a,B,X,sc,e,R,h=>by
  refine⟨?_,trivial⟩
  refine v7_k h fun ea w1 e0 g=>?_
  clear h
  subst e0
  revert g
  intro h
  rw[show tE C (.neg a)=(tUn (rU fun i=>.int (-i)) (tE C a)) from rfl]
  exact pe_un un_neg ((sE0 a R h).1)
 | .not a,B,X,sc,e,R,h=>by
  refine⟨?_,trivial⟩
  refine v8_k h fun ea w1 e0 g=>?_
  clear h
  subst e0
  revert g
  intro h
  rw[show tE C (.not a)=(tNotV (tE C a)) from rfl]
  exact pe_not ((sE0 a R h).1)
 | .and a b,B,X,sc,e,R,h=>by
  refine⟨?_,trivial⟩
  replace h:=vAnd_of h
  rcases h with⟨x,y,pos,rfl,h⟩|⟨x,y,z,r,pos,rfl,h⟩
  .simp only[Bool.and_eq_true]at h
   rw[show tE C (.and a b)=(tAndV (tE C a) (tE C b)) from rfl]
   exact pe_and ((sE0 a R h.1).1) (pe_one ((sE0 b R h.2).1))
  .simp only[Bool.and_eq_true]at h
   rw[show tE C (.and a b)=(tAndV (tE C a) (tE C b)) from rfl]
   exact pe_and ((sE0 a R h.1).1) ((sE0 b R h.2).1)
 | .or a b,B,X,sc,e,R,h=>by
  refine⟨?_,trivial⟩
  replace h:=vOr_of h
  rcases h with⟨x,y,pos,rfl,h⟩|⟨x,y,z,r,pos,rfl,h⟩
  .simp only[Bool.and_eq_true]at h
   rw[show tE C (.or a b)=(tOrV (tE C a) (tE C b)) from rfl]
   exact pe_or ((sE0 a R h.1).1) (pe_one ((sE0 b R h.2).1))
  .simp only[Bool.and_eq_true]at h
   rw[show tE C (.or a b)=(tOrV (tE C a) (tE C b)) from rfl]
   exact pe_or ((sE0 a R h.1).1) ((sE0 b R h.2).1)
 | .cmp op a b,B,X,sc,e,R,h=>by
  refine⟨?_,trivial⟩
  refine v9_k h fun ea op' eb w1 e0 g=>?_
  clear h
  subst e0
  revert g
  intro h
  simp only[Bool.and_eq_true,decide_eq_true_eq]at h
  obtain⟨⟨⟨rfl,h1⟩,h2⟩,h3⟩:=h
  rw[show tE C (.cmp op a b)=(tOp (rCmp C.K op) (tE C a) (tE C b)) from rfl]
  rw[<- R.hK]
  exact pe_cmpR (cmp_ok R.hu _) ((sE0 a R h1).1) ((sE0 b R h2).1) (marks_ok h3)
 | .chn op1 op2 a b c,B,X,sc,e,R,h=>by
  refine⟨?_,trivial⟩
  refine v10_k h fun ea o1 o2 eb ec w1 e0 g=>?_
  clear h
  subst e0
  revert g
  intro h
  simp only[Bool.and_eq_true,decide_eq_true_eq]at h
  obtain⟨⟨⟨⟨⟨rfl,rfl⟩,h1⟩,h2⟩,h3⟩,h4⟩:=h
  rw[show tE C (.chn op1 op2 a b c)=(tChain (rCmp C.K op1) (rCmp C.K op2) (tE C a) (tE C b) (tE C c)) from rfl]
  rw[<- R.hK]
  exact pe_chain (cmp_ok R.hu _) (cmp_ok R.hu _) ((sE0 a R h1).1) ((sE0 b R h2).1) ((sE0 c R h3).1) (last_ok h4)
 | .ife q a b,B,X,sc,e,R,h=>by
  refine⟨?_,trivial⟩
  refine v11_k h fun eq ea eb w1 e0 g=>?_
  clear h
  subst e0
  revert g
  intro h
  simp only[Bool.and_eq_true]at h
  rw[show tE C (.ife q a b)=(tIf (tQ C q) (tE C a) (tE C b)) from rfl]
  exact pe_ifExp (sQ q R h.1.1).1 ((sE0 a R h.1.2).1) ((sE0 b R h.2).1)
 | .tup es,B,X,sc,e,R,h=>by
  refine⟨?_,trivial⟩
  refine v12_k h fun xs w1 w2 e0 g=>?_
  clear h
  subst e0
  revert g
  intro h
  rw[show tE C (.tup es)=(tTup (tA C es)) from rfl]
  exact pe_tup (sA es R h)
 | .lst es,B,X,sc,e,R,h=>by
  refine⟨?_,trivial⟩
  refine v13_k h fun xs w1 e0 g=>?_
  clear h
  subst e0
  revert g
  intro h
  rw[show tE C (.lst es)=(tLst (tA C es)) from rfl]
  exact pe_lst (sA es R h)
 | .idx a b,B,X,sc,e,R,h=>by
  refine⟨?_,trivial⟩
  refine v14_k h fun ea eb w1 e0 g=>?_
  clear h
  subst e0
  revert g
  intro h
  simp only[Bool.and_eq_true]at h
  rw[show tE C (.idx a b)=(tOp (rIxM C.K) (tE C a) (tE C b)) from rfl]
  rw[<- R.hK]
  exact pe_ix ixM ((sE0 a R h.1.1).1) ((sE0 b R h.1.2).1) (ix_plain h.2)
 | .call f es,B,X,sc,e,R,h=>by
  refine⟨?_,trivial⟩
  refine v16_k h fun x w1 e r pos e0 g=>?_
  clear h
  subst e0
  revert g
  intro h
  simp only[Bool.and_eq_true,decide_eq_true_eq,Bool.not_eq_true']at h
  obtain⟨⟨⟨⟨⟨rfl,h1⟩,h2⟩,h3⟩,hh⟩,h6⟩:=h
  rw[show tE C (.call x es)=(fun σ H Q=>match C.fs x with|some sp=>tCall sp [] (C.xk σ) (tA C es) σ H Q|none=>False) from rfl]
  have ht:tld B=true->bang x∉B:=fun t m=>by rw[t,decide_eq_true m]at h6;cases h6
  cases hf:C.fs x with
  |none=>exact fun _ _ _ _ _ _ q=>q.elim
  |some sp=>
   obtain⟨f,fd,ps,k,CX,F,hr,hm,hk,hb,_,hx⟩:=R.fn x sp hf hh ht
   have hs:notStar e=true:=by
    cases es with
    |nil=>exact no_tt h2
    |cons c r=>exact(band (band h2).1).2
   have hp:(backTo pos (starEach r X.env)).any (·.1)=false:=by
    have q:=mA_star (env:=X.env) (pos:=pos) h2
    rw[star_cons hs]at q
    exact q
   exact pe_callS F hr (R.glb h1) hm hk hb .nil hx (sA es R h2) h3 (star_cons hs) hp
 | .cl0 f,B,X,sc,e,R,h=>by
  refine⟨?_,trivial⟩
  refine v80_k h fun x w1 pos e0 g=>?_
  clear h
  subst e0
  revert g
  intro h
  simp only[Bool.and_eq_true,decide_eq_true_eq,Bool.not_eq_true']at h
  obtain⟨⟨⟨⟨rfl,h1⟩,h3⟩,hh⟩,h6⟩:=h
  rw[show tE C (.cl0 x)=(fun σ H Q=>match C.fs x with|some sp=>tCall sp [] (C.xk σ) tNil σ H Q|none=>False) from rfl]
  have ht:tld B=true->bang x∉B:=fun t m=>by rw[t,decide_eq_true m]at h6;cases h6
  cases hf:C.fs x with
  |none=>exact fun _ _ _ _ _ _ q=>q.elim
  |some sp=>
   obtain⟨f,fd,ps,k,CX,F,hr,hm,hk,hb,_,hx⟩:=R.fn x sp hf hh ht
   exact pe_call0S F hr (R.glb h1) hm hk hb .nil hx h3
 | .blt f es,B,X,sc,e,R,h=>by
  refine⟨?_,trivial⟩
  refine v16_k h fun x w1 e r pos e0 g=>?_
  clear h
  subst e0
  revert g
  intro h
  simp only[Bool.and_eq_true,decide_eq_true_eq,Bool.or_eq_true,Bool.not_eq_true']at h
  obtain⟨⟨⟨⟨rfl,h1⟩,h2⟩,h4⟩,h5⟩:=h
  have hcc:X.calm=true\/f=.isinstance:=h5.imp R.calm id
  rw[show tE C (.blt f es)=(tCB (rBlt C.K f) (tA C es)) from rfl]
  have hs:notStar e=true:=by
   cases es with
   |nil=>exact no_tt h2
   |cons c r=>exact(band (band h2).1).2
  have hp:(backTo pos (starEach r X.env)).any (·.1)=false:=by
   have q:=mA_star (env:=X.env) (pos:=pos) h2
   rw[star_cons hs]at q
   exact q
  rw[<- R.hK]
  have hn:bltName f≠"__name__"/\(bltName f == ("__debug__":Str))=false:=by cases f<;>decide +kernel
  cases blt_is f with
  |fn id hv hc=>exact pe_callB (hc X hcc) (R.glb h1) (R.blt _ h4) hv (sA es R h2) hn.1 hn.2 (star_cons hs) hp
  |ty T hv hc=>exact pe_callTy (hc X hcc) (R.glb h1) (R.blt _ h4) hv (sA es R h2) hn.1 hn.2 (star_cons hs) hp
 | .din neg a b,B,X,sc,e,R,h=>by
  refine⟨?_,trivial⟩
  refine v9_k h fun ea op' eb w1 e0 g=>?_
  clear h
  subst e0
  revert g
  intro h
  simp only[Bool.and_eq_true,decide_eq_true_eq]at h
  obtain⟨⟨⟨rfl,h1⟩,h2⟩,h3⟩:=h
  rw[show tE C (.din neg a b)=(tDinB neg (tE C a) (tE C b)) from rfl]
  cases neg with
  |true=>exact pe_cmp (pc_notInX R.hu1 (sE0 a R h1).1 (sE0 b R h2).1) (marks_ok h3)
  |false=>exact pe_cmp (pc_inX R.hu1 (sE0 a R h1).1 (sE0 b R h2).1) (marks_ok h3)
 | .dgt a b,B,X,sc,e,R,h=>by
  refine⟨?_,trivial⟩
  refine v20_k h fun eo nm apos y pos e0 g=>?_
  clear h
  subst e0
  revert g
  intro h
  simp only[Bool.and_eq_true,decide_eq_true_eq]at h
  obtain⟨⟨⟨⟨⟨rfl,h1⟩,h2⟩,h3⟩,h4⟩,h5⟩:=h
  rw[show tE C (.dgt a b)=(tDGetN (tE C a) (tE C b)) from rfl]
  have e2:=star_cons (env:=X.env) (es:=[]) h5
  refine pe_dgetN R.hu1 (sE0 a R h1).1 (sE0 b R h4).1 ⟨base_ok h2,?_,h3,?_⟩
  .rw[e2];rfl
  .rw[e2];rfl
 | .met m o es,B,X,sc,e,R,h=>by
  refine⟨?_,trivial⟩
  refine v17_k h fun eo nm apos args pos e0 g=>?_
  clear h
  subst e0
  revert g
  intro h
  simp only[Bool.and_eq_true,decide_eq_true_eq]at h
  obtain⟨⟨⟨⟨⟨rfl,h1⟩,h2⟩,h3⟩,h4⟩,h5⟩:=h
  rw[show tE C (.met m o es)=(tBM C.K (metTy m) (rMet C.K m) (tE C o) (tA C es)) from rfl]
  rw[<- R.hK]
  obtain⟨id,M⟩:=met_is m
  cases args with
  |nil=>
   cases es with
   |cons c r=>exact no_tt h4
   |nil=>
    exact pe_bm0 M.pa M.slot M.ty (M.h X) ((sE0 o R h1).1) (base_ok h2) h3
  |cons a r=>
   have hs:notStar a=true:=by
    cases es with
    |nil=>exact no_tt h4
    |cons c r=>exact(band (band h4).1).2
   have hq:=mA_star (env:=X.env) (pos:=pos) h4
   have hp:(backTo pos (starEach r X.env)).any (·.1)=false:=by
    rw[star_cons hs]at hq
    exact hq
   refine pe_bm M.pa M.slot M.ty (M.h X) ((sE0 o R h1).1) (sA es R h4) (base_ok h2) ?_ h3 (star_cons hs) hp
   have e1:(backTo pos (starEach (a :: r) X.env)).all (fun x=>!x.1)=true:=by
    rw[List.all_eq_true]
    intro x hx
    rw[List.any_eq_false]at hq
    simpa using hq x hx
   rw[e1]
   show(true&&true&&decide ((a :: r).length+0+0<30))=true
   simp only[Bool.true_and,decide_eq_true_eq]
   omega
 | .gint x n,B,X,sc,e,R,h=>by
  refine⟨?_,trivial⟩
  refine v1_k h fun y w1 e0 g=>?_
  clear h
  subst e0
  revert g
  intro h
  simp only[Bool.and_eq_true,decide_eq_true_eq,Bool.not_eq_true']at h
  obtain⟨⟨rfl,h1⟩,h2⟩:=h
  rw[show tE C (.gint y n)=(tGint C.K y n) from rfl]
  rw[<- R.hK]
  exact pe_gint (R.glb h1) h2
 | .comp elt own t it q .nil,B,X,sc,e,R,h=>by
  have D:CompX C X e (.comp elt own t it q .nil):=by
   obtain⟨ee,tg,iter,ifs,scope,pos,rfl,hh,hsc,helt,hown,h1,h2,h3,h4,h5⟩:=inv1 h
   refine⟨tg,iter,ifs,fun D env=>do let _ <- call (.builtin "list.append") [.ref D,<- eval ee env],scope,_,⟨R.compSc hsc,?_,⟨[],rfl⟩,folded_ok h3,R.calm hh,fun _ _ _=>⟨rfl,rfl⟩,fun _ _ _ _=>⟨rfl,rfl⟩,fun _ _ _ _ _=>rfl,fun _ _ _ _ _=>rfl,gext_of hown,?_⟩,sI it R h1 h2,rfl,fun _=>rfl,fun _ _ _=>⟨_,rfl⟩⟩
   .rw[R.hN];exact(scOk_of hsc).2.2.2.2
   .intro s0 H0 ex D
    have R':=R.comp hh hsc s0 H0 ex
    refine⟨sG t R' h4,sQo q R' h5,[],by simp,?_⟩
    exact run_emit rfl (sE0 elt R' helt).1
  refine⟨?_,D⟩
  obtain⟨tg,iter,ifs,nx,scope,pos,D,hi,he,_⟩:=D
  rw[show tE C (.comp elt own t it q .nil)=(tComp own (tI C it) (tG C t) (tQo C q) (tR C .nil (tEmit (tE C elt)))) from rfl]
  exact pe_comp D hi he
 | .comp elt own t it q (.cons ws t2 it2 q2 .nil),B,X,sc,e,R,h=>by
  have D:CompX C X e (.comp elt own t it q (.cons ws t2 it2 q2 .nil)):=by
   obtain⟨ee,tg,iter,ifs,tg2,iter2,ifs2,scope,pos,rfl,hh,hsc,helt,hown,h1,h2,h3,h4,h5,g1,g2,g3,g4,g5,g6,g7⟩:=inv2 h
   refine⟨tg,iter,ifs,fun D env=>nestCode (.ListComp ee [⟨tg,iter,ifs,0⟩,⟨tg2,iter2,ifs2,0⟩] scope pos) 0 iter2 (.ref D) env,scope,_,⟨R.compSc hsc,?_,⟨_,rfl⟩,folded_ok h3,R.calm hh,fun _ _ _=>⟨rfl,rfl⟩,fun _ _ _ _=>⟨rfl,rfl⟩,fun _ _ _ _ _=>den_nest _ _ _ _ _ _ _ _ _ _ _ _ _ _,fun _ _ _ _ _=>rfl,gext_of hown,?_⟩,sI it R h1 h2,rfl,fun _=>rfl,fun _ _ _=>⟨_,rfl⟩⟩
   .rw[R.hN];exact(scOk_of hsc).2.2.2.2
   .intro s0 H0 ex D
    have R':=R.comp hh hsc s0 H0 ex
    refine⟨sG t R' h4,sQo q R' h5,ws,g7,?_⟩
    exact run_nest (nx:=do let _ <- call (.builtin "list.append") [.ref D,<- eval ee (X.comp scope s0 H0 ex).env]) rfl (R.calm hh) (fun _=>rfl) (fun _=>rfl) (fun _=>rfl) (fun _=>rfl) (fun _=>rfl) (fun _=>rfl) ⟨_,rfl,rfl⟩ (folded_ok g3) (sI it2 R' g1 g2) (sG t2 R' g4) (gext_of g6) (sQo q2 R' g5) (run_emit rfl (sE0 elt R' helt).1) (by simp) isL_data
  refine⟨?_,D⟩
  obtain⟨tg,iter,ifs,nx,scope,pos,D,hi,he,_⟩:=D
  rw[show tE C (.comp elt own t it q (.cons ws t2 it2 q2 .nil))=(tComp own (tI C it) (tG C t) (tQo C q) (tR C (.cons ws t2 it2 q2 .nil) (tEmit (tE C elt)))) from rfl]
  exact pe_comp D hi he
 | .comp elt own t it q (.cons ws t2 it2 q2 (.cons ws3 t3 it3 q3 .nil)),B,X,sc,e,R,h=>by
  have D:CompX C X e (.comp elt own t it q (.cons ws t2 it2 q2 (.cons ws3 t3 it3 q3 .nil))):=by
   obtain⟨ee,tg,iter,ifs,tg2,iter2,ifs2,tg3,iter3,ifs3,scope,pos,rfl,hh,hsc,helt,hown,h1,h2,h3,h4,h5,⟨g1,g2,g3,g4,g5,g6,g7⟩,k1,k2,k3,k4,k5,k6,k7⟩:=inv3 h
   refine⟨tg,iter,ifs,fun D env=>nestCode (.ListComp ee [⟨tg,iter,ifs,0⟩,⟨tg2,iter2,ifs2,0⟩,⟨tg3,iter3,ifs3,0⟩] scope pos) 0 iter2 (.ref D) env,scope,_,⟨R.compSc hsc,?_,⟨_,rfl⟩,folded_ok h3,R.calm hh,fun _ _ _=>⟨rfl,rfl⟩,fun _ _ _ _=>⟨rfl,rfl⟩,fun _ _ _ _ _=>den_nest3 _ _ _ _ _ _ _ _ _ _ _ _ _ _ _ _ _,fun _ _ _ _ _=>rfl,gext_of hown,?_⟩,sI it R h1 h2,rfl,fun _=>rfl,fun _ _ _=>⟨_,rfl⟩⟩
   .rw[R.hN];exact(scOk_of hsc).2.2.2.2
   .intro s0 H0 ex D
    have R':=R.comp hh hsc s0 H0 ex
    refine⟨sG t R' h4,sQo q R' h5,ws,g7,?_⟩
    exact run_nest (d:=0) (nx:=nestCode (.ListComp ee [⟨tg,iter,ifs,0⟩,⟨tg2,iter2,ifs2,0⟩,⟨tg3,iter3,ifs3,0⟩] scope pos) 1 iter3 (.ref D) (X.comp scope s0 H0 ex).env) rfl (R.calm hh) (fun _=>rfl) (fun _=>rfl) (fun _=>rfl) (fun _=>rfl) (fun _=>den_nest3b _ _ _ _ _ _ _ _ _ _ _ _ _ _ _ _ _) (fun _=>rfl) ⟨_,rfl,rfl⟩ (folded_ok g3) (sI it2 R' g1 g2) (sG t2 R' g4) (gext_of g6) (sQo q2 R' g5)
     (run_nest (d:=1) (nx:=do let _ <- call (.builtin "list.append") [.ref D,<- eval ee (X.comp scope s0 H0 ex).env]) rfl (R.calm hh) (fun _=>rfl) (fun _=>rfl) (fun _=>rfl) (fun _=>rfl) (fun _=>rfl) (fun _=>rfl) ⟨_,rfl,rfl⟩ (folded_ok k3) (sI it3 R' k1 k2) (sG t3 R' k4) (gext_of k6) (sQo q3 R' k5) (run_emit rfl (sE0 elt R' helt).1) (by simp) isL_data) k7 isL_data
  refine⟨?_,D⟩
  obtain⟨tg,iter,ifs,nx,scope,pos,D,hi,he,_⟩:=D
  rw[show tE C (.comp elt own t it q (.cons ws t2 it2 q2 (.cons ws3 t3 it3 q3 .nil)))=(tComp own (tI C it) (tG C t) (tQo C q) (tR C (.cons ws t2 it2 q2 (.cons ws3 t3 it3 q3 .nil)) (tEmit (tE C elt)))) from rfl]
  exact pe_comp D hi he
 | .comp elt own t it q (.cons ws t2 it2 q2 (.cons _ _ _ _ (.cons _ _ _ _ _))),B,X,sc,e,R,h=>(inv4 h).elim
termination_by structural c=>c
theorem sA {C:Rc}:∀(es:Ces) {B:List Str} {X:Cx} {sc:Scope} {xs:List Expr},Rok C B X sc->mA C.N B sc es xs=true->PA X xs (tA C es)
 | .nil,B,X,sc,xs,R,h=>by
  refine v29_k h fun e0 g=>?_
  clear h
  subst e0
  revert g
  intro h
  rw[show tA C .nil=(tNil) from rfl]
  exact pa_nil
 | .cons e r,B,X,sc,xs,R,h=>by
  refine v30_k h fun x xs e0 g=>?_
  clear h
  subst e0
  revert g
  intro h
  simp only[Bool.and_eq_true]at h
  rw[show tA C (.cons e r)=(tCons (tE C e) (tA C r)) from rfl]
  exact pa_cons ((sE0 e R h.1.1).1) (sA r R h.2) (star_cons h.1.2)
termination_by structural c=>c
theorem sQ {C:Rc}:∀(q:Cq) {B:List Str} {X:Cx} {sc:Scope} {e:Expr},Rok C B X sc->mQ C.N B sc q e=true->PT X e (tQ C q)/\((∃op vs pos,e=.BoolOp op vs pos)->PW X e (tQ C q))
 | .val c,B,X,sc,e,R,h=>by
  replace h:=band h
  refine⟨?_,fun⟨op,vs,pos,z⟩=>?_⟩
  .rw[show tQ C (.val c)=(fun σ H Q=>tE C c σ H fun x H'=>∃k,TruV C.K x H' k/\Q k H') from rfl]
   rw[<- R.hK]
   exact pt_truth (sE0 c R h.1).1 (plainT_ok h.2)
  .subst z;exact no_tt h.2
 | .din neg a b,B,X,sc,e,R,h=>by
  refine v9_k h fun ea op' eb w1 e0 g=>?_
  clear h
  subst e0
  revert g
  intro h
  simp only[Bool.and_eq_true,decide_eq_true_eq]at h
  obtain⟨⟨⟨rfl,h1⟩,h2⟩,h3⟩:=h
  rw[show tQ C (.din neg a b)=(tTest (tDinB neg (tE C a) (tE C b))) from rfl]
  cases neg with
  |true=>exact⟨pt_cmp (pc_notInX R.hu1 (sE0 a R h1).1 (sE0 b R h2).1) (marks_ok h3),fun⟨op,vs,pos,z⟩=>by cases z⟩
  |false=>exact⟨pt_cmp (pc_inX R.hu1 (sE0 a R h1).1 (sE0 b R h2).1) (marks_ok h3),fun⟨op,vs,pos,z⟩=>by cases z⟩
 | .not q,B,X,sc,e,R,h=>by
  refine v8_k h fun y w1 e0 g=>?_
  clear h
  subst e0
  revert g
  intro h
  rw[show tQ C (.not q)=(tNot (tQ C q)) from rfl]
  exact⟨pt_not (sQ q R h).1,fun⟨op,vs,pos,z⟩=>by cases z⟩
 | .and a b,B,X,sc,e,R,h=>by
  replace h:=vAnd_of h
  rcases h with⟨x,y,pos,rfl,h⟩|⟨x,y,z,r,pos,rfl,h⟩
  .simp only[Bool.and_eq_true]at h
   rw[show tQ C (.and a b)=(tAnd (tQ C a) (tQ C b)) from rfl]
   have w:PW X (.BoolOp .And [x,y] pos) (tAnd (tQ C a) (tQ C b)):=pw_and (sQ a R h.1).1 (pw_and1 (sQ b R h.2).1)
   exact⟨w.pt,fun _=>w⟩
  .simp only[Bool.and_eq_true]at h
   rw[show tQ C (.and a b)=(tAnd (tQ C a) (tQ C b)) from rfl]
   have w:=pw_and (sQ a R h.1).1 ((sQ b R h.2).2 ⟨_,_,_,rfl⟩)
   exact⟨w.pt,fun _=>w⟩
 | .or a b,B,X,sc,e,R,h=>by
  replace h:=vOr_of h
  rcases h with⟨x,y,pos,rfl,h⟩|⟨x,y,z,r,pos,rfl,h⟩
  .simp only[Bool.and_eq_true]at h
   rw[show tQ C (.or a b)=(tOr (tQ C a) (tQ C b)) from rfl]
   have w:PW X (.BoolOp .Or [x,y] pos) (tOr (tQ C a) (tQ C b)):=pw_or (sQ a R h.1).1 (pw_or1 (sQ b R h.2).1)
   exact⟨w.pt,fun _=>w⟩
  .simp only[Bool.and_eq_true]at h
   rw[show tQ C (.or a b)=(tOr (tQ C a) (tQ C b)) from rfl]
   have w:=pw_or (sQ a R h.1).1 ((sQ b R h.2).2 ⟨_,_,_,rfl⟩)
   exact⟨w.pt,fun _=>w⟩
 | .cmp op a b,B,X,sc,e,R,h=>by
  refine v9_k h fun ea op' eb w1 e0 g=>?_
  clear h
  subst e0
  revert g
  intro h
  simp only[Bool.and_eq_true,decide_eq_true_eq]at h
  obtain⟨⟨⟨rfl,h1⟩,h2⟩,h3⟩:=h
  rw[show tQ C (.cmp op a b)=(tTest (tOp (rCmp C.K op) (tE C a) (tE C b))) from rfl]
  rw[<- R.hK]
  exact⟨pt_cmpR (cmp_ok R.hu _) (sE0 a R h1).1 (sE0 b R h2).1 (marks_ok h3),fun⟨op,vs,pos,z⟩=>by cases z⟩
 | .chn op1 op2 a b c,B,X,sc,e,R,h=>by
  refine v10_k h fun ea o1 o2 eb ec w1 e0 g=>?_
  clear h
  subst e0
  revert g
  intro h
  simp only[Bool.and_eq_true,decide_eq_true_eq]at h
  obtain⟨⟨⟨⟨⟨rfl,rfl⟩,h1⟩,h2⟩,h3⟩,h4⟩:=h
  rw[show tQ C (.chn op1 op2 a b c)=(tTest (tChain (rCmp C.K op1) (rCmp C.K op2) (tE C a) (tE C b) (tE C c))) from rfl]
  rw[<- R.hK]
  exact⟨pt_chain (cmp_ok R.hu _) (cmp_ok R.hu _) (sE0 a R h1).1 (sE0 b R h2).1 (sE0 c R h3).1 (last_ok h4),fun⟨op,vs,pos,z⟩=>by cases z⟩
termination_by structural c=>c
theorem sQo {C:Rc}:∀(q:Cqo) {B:List Str} {X:Cx} {sc:Scope} {es:List Expr},Rok C B X sc->mQo C.N B sc q es=true->PTs X es (tQo C q)
 | .none,B,X,sc,es,R,h=>by
  refine v29_k h fun e0 g=>?_
  clear h
  subst e0
  revert g
  intro h
  rw[show tQo C .none=(fun _ H Q=>Q true H) from rfl];exact pts_nil
 | .some q,B,X,sc,es,R,h=>by
  refine v31_k h fun e e0 g=>?_
  clear h
  subst e0
  revert g
  intro h
  rw[show tQo C (.some q)=(tQ C q) from rfl];exact pts_one (sQ q R h).1
termination_by structural c=>c
theorem sO {C:Rc}:∀(o:Co) {B:List Str} {X:Cx} {sc:Scope} {e:Option Expr},Rok C B X sc->mO C.N B sc o e=true->PO X e (tO C o)
 | .none,B,X,sc,e,R,h=>by
  refine v32_k h fun e0 g=>?_
  clear h
  subst e0
  revert g
  intro h
  rw[show tO C .none=(tNoPart) from rfl];exact po_none
 | .some c,B,X,sc,e,R,h=>by
  refine v33_k h fun y e0 g=>?_
  clear h
  subst e0
  revert g
  intro h
  rw[show tO C (.some c)=(tPart (tE C c)) from rfl];exact po_some (sE0 c R h).1
termination_by structural c=>c
theorem sI {C:Rc}:∀(i:Ci) {B:List Str} {X:Cx} {sc:Scope} {x tg:Expr},Rok C B X sc->mI C.N B sc i x=true->zipT i tg=true->PI X tg x (tI C i)
 | .val c,B,X,sc,x,tg,R,h,_=>by
  rw[show tI C (.val c)=(iVal C.K (tE C c)) from rfl]
  rw[<- R.hK]
  exact pi_val (sE0 c R h).1
 | .range1 a,B,X,sc,x,tg,R,h,_=>by
  refine v23_k h fun n w1 y w2 e0 g=>?_
  clear h
  subst e0
  revert g
  intro h
  simp only[Bool.and_eq_true,decide_eq_true_eq]at h
  obtain⟨⟨⟨⟨rfl,h1⟩,h2⟩,h3⟩,h4⟩:=h
  rw[show tI C (.range1 a)=(iRng1 (tCons (tE C a) tNil)) from rfl]
  exact pi_range1 (R.glb h1) (R.blt _ h2) (pa_cons (sE0 a R h3).1 pa_nil (star_cons h4)) (star_cons h4)
 | .range2 a b,B,X,sc,x,tg,R,h,_=>by
  refine v34_k h fun n w1 y z w2 e0 g=>?_
  clear h
  subst e0
  revert g
  intro h
  simp only[Bool.and_eq_true,decide_eq_true_eq]at h
  obtain⟨⟨⟨⟨⟨⟨rfl,h1⟩,h2⟩,h3⟩,h4⟩,h5⟩,h6⟩:=h
  rw[show tI C (.range2 a b)=(iRng2 (tCons (tE C a) (tCons (tE C b) tNil))) from rfl]
  have e2:starEach [_] X.env=[(false,eval _ X.env)]:=star_cons (es:=[]) h6
  exact pi_range2 (R.glb h1) (R.blt _ h2) (pa_cons (sE0 a R h3).1 (pa_cons (sE0 b R h5).1 pa_nil (star_cons h6)) (star_cons h4)) (by rw[star_cons h4,e2]) e2
 | .zip a b,B,X,sc,x,tg,R,h,hz=>by
  refine v34_k h fun n w1 y z w2 e0 g=>?_
  clear h
  subst e0
  revert g
  intro h
  simp only[Bool.and_eq_true,decide_eq_true_eq]at h
  obtain⟨⟨⟨⟨⟨⟨rfl,h1⟩,h2⟩,h3⟩,h4⟩,h5⟩,h6⟩:=h
  rw[show tI C (.zip a b)=(iZip C.K (tCons (tE C a) (tCons (tE C b) tNil))) from rfl]
  rw[<- R.hK]
  have e2:starEach [_] X.env=[(false,eval _ X.env)]:=star_cons (es:=[]) h6
  cases tg with
  |Tuple es k p=>exact pi_zip (R.glb h1) (R.blt _ h2) (pa_cons (sE0 a R h3).1 (pa_cons (sE0 b R h5).1 pa_nil (star_cons h6)) (star_cons h4)) (by rw[star_cons h4,e2]) e2
  |_=>cases hz
 | .enum a,B,X,sc,x,tg,R,h,hz=>by
  refine v23_k h fun n w1 y w2 e0 g=>?_
  clear h
  subst e0
  revert g
  intro h
  simp only[Bool.and_eq_true,decide_eq_true_eq]at h
  obtain⟨⟨⟨⟨rfl,h1⟩,h2⟩,h3⟩,h4⟩:=h
  rw[show tI C (.enum a)=(iEnum C.K (tE C a)) from rfl]
  rw[<- R.hK]
  cases tg with
  |Tuple es k p=>exact pi_enum (R.glb h1) (R.blt _ h2) (pa_cons (sE0 a R h3).1 pa_nil (star_cons h4)) (star_cons h4)
  |_=>cases hz
termination_by structural c=>c
theorem sG {C:Rc}:∀(t:Ct) {B:List Str} {X:Cx} {sc:Scope} {e:Expr},Rok C B X sc->mT C.N B sc t e=true->PG X e (tG C t)
 | .name i,B,X,sc,e,R,h=>by
  refine v1_k h fun x w1 e0 g=>?_
  clear h
  subst e0
  revert g
  intro h
  simp only[Bool.and_eq_true]at h
  obtain⟨h1,h2,h3⟩:=nameOk_of h.1
  obtain⟨h4,h5⟩:=R.locb h.2
  rw[show tG C (.name i)=(gName i) from rfl]
  exact pg_name (by rw[R.hN];exact R.nd) (by rw[R.hN];exact h1) h4 h5
 | .tup ts,B,X,sc,e,R,h=>by
  refine v12_k h fun es w1 w2 e0 g=>?_
  clear h
  subst e0
  revert g
  intro h
  rw[show tG C (.tup ts)=(gSeq C.K (lenTs ts) (tGs C ts)) from rfl]
  rw[<- R.hK]
  simp only[Bool.and_eq_true,Bool.not_eq_true']at h
  exact pg_seq (R.calm h.2) (sGs ts R h.1) (assign_star h.1).1 (assign_star h.1).2
 | .sub o i,B,X,sc,e,R,h=>by
  refine v14_k h fun eo ei w1 e0 g=>?_
  clear h
  subst e0
  revert g
  intro h
  simp only[Bool.and_eq_true]at h
  rw[show tG C (.sub o i)=(gSub (tE C o) (tE C i) rSetL) from rfl]
  exact pg_sub (sE0 o R h.1.1).1 (sE0 i R h.1.2).1 set_list (asg_sub h.2)
termination_by structural c=>c
theorem sGs {C:Rc}:∀(ts:Cts) {B:List Str} {X:Cx} {sc:Scope} {es:List Expr},Rok C B X sc->mTs C.N B sc ts es=true->PGs X es (tGs C ts)
 | .nil,B,X,sc,es,R,h=>by
  refine v29_k h fun e0 g=>?_
  clear h
  subst e0
  revert g
  intro h
  rw[show tGs C .nil=(gNil) from rfl];exact pgs_nil
 | .cons t r,B,X,sc,es,R,h=>by
  refine v30_k h fun x xs e0 g=>?_
  clear h
  subst e0
  revert g
  intro h
  simp only[Bool.and_eq_true]at h
  rw[show tGs C (.cons t r)=(gCons (tG C t) (tGs C r)) from rfl]
  exact pgs_cons (sG t R h.1.1) (sGs r R h.2) (assign_each h.1.2)
termination_by structural c=>c
end
theorem sE {C:Rc} {B:List Str} (c:Ce) {X:Cx} {sc:Scope} {e:Expr} (R:Rok C B X sc) (h:mE C.N B sc c e=true):PE X e (tE C c):=(sE0 c R h).1
end R3
set_option maxHeartbeats 4000000
namespace R3
open PySem PySem.Spec PyProof.Rows L2
noncomputable def noCompX:Expr->Bool
 | .ListComp ..=>false
 | .SetComp ..=>false
 | .DictComp ..=>false
 |_=>true
theorem swaps_no {x tg:Expr} {l:Nat} {env:Env} (h:noCompX x=true):swapsWithSole [tg] x l env=pure false:=by
 cases x<;>first|rfl|cases h
theorem swaps_none {x:Expr} {l:Nat} {env:Env} (h:noCompX x=true):swapsWith x none l env=pure false:=by
 cases x<;>first|rfl|cases h
set_option tactic.hygienic true in
theorem mE_comp {N B:List Str} {sc:Scope} {c:Ce} {x:Expr} (h:mE N B sc c x=true) (hd:isDcx c=false) (hx:noCompX x=false):∃elt own t it q r,c=.comp elt own t it q r/\∃ee gens scope pos,x=.ListComp ee gens scope pos:=by
 cases x<;>first|(cases hx;done)|skip
 .cases c<;>first|(exact no_tt h)|(cases hd;done)|exact⟨_,_,_,_,_,_,rfl,_,_,_,_,rfl⟩
 .cases c<;>first|(exact no_tt h)|(cases hd;done)|(rename_i r;cases r<;>first|(exact no_tt h)|(cases hd;done)|(rename_i r;cases r<;>first|(exact no_tt h)|(cases hd;done)|(rename_i r;cases r<;>exact no_tt h)))
 .cases c<;>first|(exact no_tt h)|(cases hd;done)|(rename_i r;cases r<;>first|(exact no_tt h)|(cases hd;done)|(rename_i r;cases r<;>first|(exact no_tt h)|(cases hd;done)|(rename_i r;cases r<;>exact no_tt h)))
theorem one_assign {tg:Expr} {env:Env} (h:notStar tg=true):(assignEach [tg] env).map (·.2)=[assign tg env]:=by
 cases tg<;>first|rfl|cases h
noncomputable def notPair:Expr->Expr->Bool
 | .Tuple ..,.Tuple ..=>false
 | .List ..,.Tuple ..=>false
 |_,_=>true
theorem swapped_no {tg x:Expr} {env:Env} (h:notPair tg x=true):swappedStores [tg] x env=pure none:=by
 cases tg<;>first|rfl|(cases x<;>first|rfl|cases h)
theorem swapped_fold {tg:Expr} {vs:List Expr} {k:Nat} {pos:Pos} {env:Env} (h:vs.all (foldedForSure 8)=true):swappedStores [tg] (.Tuple vs k pos) env=pure none:=by
 have key:∀ts:List Expr,swappedStores [.Tuple ts 0 pos] (.Tuple vs k pos) env=pure none:=by
  intro ts
  unfold swappedStores
  dsimp only
  split
  .rfl
  .split
   .rfl
   .split
    .rfl
    .rfl
 cases tg<;>first|rfl|exact key _
theorem aug_sub {i:Expr} (h:notSlice i=true) (ov iv new:Value):augStore i ov iv new=(do holding [new,ov,iv] (setItem ov iv new);release [new,ov,iv] [];pure .next):=by
 cases i<;>first|rfl|cases h
theorem mT_list {N B:List Str} {sc:Scope} {t:Ct} {a:List Expr} {p:Pos} (h:mT N B sc t (.List a p)=true):False:=by
 cases t<;>exact no_tt h
section
variable {C:Rc} {B:List Str} {X:Cx} {sc:Scope}
theorem Rok.suite (R:Rok C B X sc) (e:Addr):Rok { C with xk:=fun _=>E0 } ("~" :: "^" :: B) (X.inX e) sc:=by
 have t1:tld ("~" :: "^" :: B)=true:=tld_cons
 have t2:hat ("~" :: "^" :: B)=true:=decide_eq_true (List.mem_cons_of_mem _ List.mem_cons_self)
 refine⟨R.hN,R.nd,R.hK,PassesOwn.never,(fun z=>by rw[t2]at z;cases z),R.hu,R.gd,R.loc,R.cel,R.fre,R.glo,(fun _ _ _ z=>by rw[t2]at z;cases z),fun x hx=>?_,R.mrk,R.cls,(fun z=>by rw[t1]at z;cases z),(fun z=>by rw[t1]at z;cases z),(fun z=>by rw[t1]at z;cases z)⟩
 rcases List.mem_cons.mp hx with rfl|hx
 .exact R.mrk.1
 .rcases List.mem_cons.mp hx with rfl|hx
  .exact R.mrk.2.1
  .exact R.blt x hx
end
set_option maxHeartbeats 4000000
theorem den_nestS (P w it D env ee tg iter ifs tg2 iter2 ifs2 scope pos):(model P w).den (.compLoop (.SetComp ee [⟨tg,iter,ifs,0⟩,⟨tg2,iter2,ifs2,0⟩] scope pos) 0 it (.ref D) env)=(turnCode (.SetComp ee [⟨tg,iter,ifs,0⟩,⟨tg2,iter2,ifs2,0⟩] scope pos) 0 tg iter ifs (nestCode (.SetComp ee [⟨tg,iter,ifs,0⟩,⟨tg2,iter2,ifs2,0⟩] scope pos) 0 iter2 (.ref D) env) it (.ref D) env).onRaise (fun x=>do noteFrame x env;theTreesLotGoes x):=by
 show(compTurn _ _ _ _ _).onRaise _=_
 congr 1
 unfold turnCode nestCode
 simp only[bind_assoc,pure_bind]
 rfl
mutual
theorem sS:∀(c:Cs) {C:Rc} {B:List Str} {X:Cx} {sc:Scope} {s:Stmt},Rok C B X sc->X.env.scope.kind=.function->mS C.N B sc c s=true->PS X s (tS C c)
 | .expr e,C,B,X,sc,s,R,hk,h=>by
  refine v36_k h fun x w1 e0 g=>?_
  clear h
  subst e0
  revert g
  intro h
  obtain⟨hc,hd⟩:=band h
  clear h
  obtain⟨hc,hm⟩:=band hc
  replace hd:isDcx e=false:=by cases z:isDcx e with
   |false=>rfl
   |true=>rw[z]at hd;exact no_tt hd
  rw[show tS C (.expr e)=(tDrop (tE C e)) from rfl]
  refine ps_expr (sE e R hc) (swaps_none ?_)
  cases hx:noCompX x with
  |true=>rfl
  |false=>
   obtain⟨elt,own,t,it,q,r,rfl,_⟩:=mE_comp hc hd hx
   exact no_tt hm
 | .ret e,C,B,X,sc,s,R,hk,h=>by
  refine v37_k h fun x w1 e0 g=>?_
  clear h
  subst e0
  revert g
  intro h
  rw[show tS C (.ret e)=(tRet (tE C e)) from rfl]
  exact ps_ret (sE e R h)
 | .asg t e,C,B,X,sc,s,R,hk,h=>by
  refine v39_k h fun tg x pos e0 g=>?_
  clear h
  subst e0
  revert g
  intro h
  obtain⟨h,h4⟩:=band h
  obtain⟨h,h3⟩:=band h
  obtain⟨h,h2⟩:=band h
  obtain⟨h1,h0⟩:=band h
  replace h0:isDcx e=false:=by cases z:isDcx e with
   |false=>rfl
   |true=>rw[z]at h0;exact no_tt h0
  rw[show tS C (.asg t e)=(tAsg (tE C e) (tG C t)) from rfl]
  have hw:swappedStores [tg] x X.env=pure none:=by
   cases tg with
   |Tuple a b c=>cases x<;>first|exact swapped_no rfl|exact swapped_fold h4|exact no_tt h4
   |List a b=>exact(mT_list h2).elim
   |_=>exact swapped_no rfl
  cases hx:noCompX x with
  |true=>exact ps_asg (sE e R h1) (sG t R h2) (swaps_no hx) hw (one_assign h3)
  |false=>
   obtain⟨elt,own,t',it,q,r,rfl,ee,gens,scope,p2,rfl⟩:=mE_comp h1 h0 hx
   have D:=(sE0 _ R h1).2
   obtain⟨tg',iter,ifs,nx,scope',pos',D,hi,he,hu,hsw⟩:=D
   cases t with
   |name i=>
    cases tg with
    |Name y py=>
     obtain⟨b,hb⟩:=hsw y py pos.line
     cases b with
     |true=>
      replace h2:=band h2
      obtain⟨g1,g2,g3⟩:=nameOk_of h2.1
      obtain⟨g4,g5⟩:=R.locb h2.2
      exact ps_setcomp D hi (by rw[R.hN];exact R.nd) (by rw[R.hN];exact g1) g4 g5 (hu _) hb
     |false=>exact ps_asg (sE _ R h1) (sG _ R h2) hb hw (one_assign h3)
    |_=>exact no_tt h2
   |tup ts=>
    cases tg with
    |Tuple a b c=>exact no_tt h4
    |_=>exact no_tt h2
   |sub o i=>
    cases tg with
    |Subscript a b c=>exact ps_asg (sE _ R h1) (sG _ R h2) rfl hw (one_assign h3)
    |_=>exact no_tt h2
 | .setc2 i elt own t it q ws t2 it2 q2,C,B,X,sc,s,R,hk,h=>by
  refine v41_k h fun y py ee tg iter ifs a tg2 iter2 ifs2 a2 scope p2 pos e0 g=>?_
  clear h
  subst e0
  revert g
  intro h
  simp only[Bool.and_eq_true,decide_eq_true_eq,Bool.not_eq_true',List.all_eq_true]at h
  obtain⟨⟨⟨⟨⟨⟨⟨⟨⟨⟨⟨⟨⟨⟨⟨⟨⟨⟨hh,hnm⟩,hsc⟩,helt⟩,hown⟩,rfl⟩,h1⟩,h2⟩,h3⟩,h4⟩,h5⟩,rfl⟩,f1⟩,f2⟩,f3⟩,f4⟩,f5⟩,f6⟩,f7⟩:=h
  have hnm':=hnm
  replace hnm:=band hnm
  obtain⟨g1,g2,g3⟩:=nameOk_of hnm.1
  obtain⟨g4,g5⟩:=R.locb hnm.2
  rw[show tS C (.setc2 i elt own t it q ws t2 it2 q2)=(tAsg (tSetC own (tI C it) (tG C t) (tQo C q) (tNest (tI C it2) (tClause ws (tG C t2) (tQo C q2) (tEmitS (tE C elt))))) (gName i)) from rfl]
  refine ps_mk (nx:=fun D env=>nestCode (.SetComp ee [⟨tg,iter,ifs,0⟩,⟨tg2,iter2,ifs2,0⟩] scope p2) 0 iter2 (.ref D) env) new_set (fun _=>rfl) new_set0 isS_data set_fin ⟨R.compSc hsc,?_,⟨_,rfl⟩,folded_ok h3,R.calm hh,fun _ _ _=>⟨rfl,rfl⟩,fun _ _ _ _=>⟨rfl,rfl⟩,fun _ _ _ _ _=>den_nestS _ _ _ _ _ _ _ _ _ _ _ _ _ _,fun _ _ _ _ _=>rfl,gext_of hown,?_⟩ (sI it R h1 h2) (by rw[R.hN];exact R.nd) (by rw[R.hN];exact g1) g4 g5 (sG (.name i) R hnm') rfl rfl ⟨_,rfl⟩
  .rw[R.hN];exact(scOk_of hsc).2.2.2.2
  .intro s0 H0 ex D
   have R':=R.comp hh hsc s0 H0 ex
   refine⟨sG t R' h4,sQo q R' h5,ws,f7,?_⟩
   exact run_nest (nx:=do let v <- eval ee (X.comp scope s0 H0 ex).env;standAt ee.pos;let _ <- call (.builtin "set.add") [.ref D,v]) rfl (R.calm hh) (fun _=>rfl) (fun _=>rfl) (fun _=>rfl) (fun _=>rfl) (fun _=>rfl) (fun _=>rfl) ⟨_,rfl,rfl⟩ (folded_ok f3) (sI it2 R' f1 f2) (sG t2 R' f4) (gext_of f6) (sQo q2 R' f5) (run_emitS rfl (sE elt R' helt)) (by simp) isS_data
 | .dctc tup i k v own t it q,C,B,X,sc,s,R,hk,h=>by
  refine v42_k h fun y py ke ve tg iter ifs a scope p2 pos e0 g=>?_
  clear h
  subst e0
  revert g
  intro h
  simp only[Bool.and_eq_true,decide_eq_true_eq,Bool.not_eq_true']at h
  obtain⟨⟨⟨⟨⟨⟨⟨⟨⟨⟨⟨hh,hnm⟩,hsc⟩,hke⟩,hve⟩,hown⟩,rfl⟩,h1⟩,h2⟩,h3⟩,h4⟩,h5⟩:=h
  have hnm':=hnm
  replace hnm:=band hnm
  obtain⟨g1,g2,g3⟩:=nameOk_of hnm.1
  obtain⟨g4,g5⟩:=R.locb hnm.2
  rw[show tS C (.dctc tup i k v own t it q)=(if tup then tAsg (tDctT own (tI C it) (tG C t) (tQo C q) (tE C k) (tE C v)) (gName i)else tAsg (tDctK own (tI C it) (tG C t) (tQo C q) (tE C k) (tE C v)) (gName i)) from rfl]
  cases tup with
  |false=>
   refine ps_mk (Is:=IsDK X.prog X.w) (nx:=fun D env=>emitD ke ve D env) new_dict (fun _=>rfl) new_dictK isDK_data dk_fin ⟨R.compSc hsc,?_,⟨[],rfl⟩,folded_ok h3,R.calm hh,fun _ _ _=>⟨rfl,rfl⟩,fun _ _ _ _=>⟨rfl,rfl⟩,fun _ _ _ _ _=>rfl,fun _ _ _ _ _=>rfl,gext_of hown,?_⟩ (sI it R h1 h2) (by rw[R.hN];exact R.nd) (by rw[R.hN];exact g1) g4 g5 (sG (.name i) R hnm') rfl rfl ⟨_,rfl⟩
   .rw[R.hN];exact(scOk_of hsc).2.2.2.2
   .intro s0 H0 ex D
    have R':=R.comp hh hsc s0 H0 ex
    exact⟨sG t R' h4,sQo q R' h5,[],by simp,run_emitK rfl (sE k R' hke) (sE v R' hve)⟩
  |true=>
   refine ps_mk (Is:=IsDT X.prog X.w) (nx:=fun D env=>emitD ke ve D env) new_dict (fun _=>rfl) new_dictT isDT_data dt_fin ⟨R.compSc hsc,?_,⟨[],rfl⟩,folded_ok h3,R.calm hh,fun _ _ _=>⟨rfl,rfl⟩,fun _ _ _ _=>⟨rfl,rfl⟩,fun _ _ _ _ _=>rfl,fun _ _ _ _ _=>rfl,gext_of hown,?_⟩ (sI it R h1 h2) (by rw[R.hN];exact R.nd) (by rw[R.hN];exact g1) g4 g5 (sG (.name i) R hnm') rfl rfl ⟨_,rfl⟩
   .rw[R.hN];exact(scOk_of hsc).2.2.2.2
   .intro s0 H0 ex D
    have R':=R.comp hh hsc s0 H0 ex
    exact⟨sG t R' h4,sQo q R' h5,[],by simp,run_emitT R'.hu1 rfl (sE k R' hke) (sE v R' hve)⟩
 | .aug i sub e,C,B,X,sc,s,R,hk,h=>by
  refine v49_k h fun x w1 op ee w2 e0 g=>?_
  clear h
  subst e0
  revert g
  intro h
  simp only[Bool.and_eq_true,decide_eq_true_eq]at h
  obtain⟨⟨⟨h1,h2⟩,h3⟩,rfl⟩:=h
  obtain⟨g1,g2,g3⟩:=nameOk_of h1
  obtain⟨g4,g5⟩:=R.locb h2
  rw[show tS C (.aug i sub e)=(tAug i (tE C e) (ipI fun i j=>if sub then i-j else i+j)) from rfl]
  cases sub with
  |true=>exact ps_aug (by rw[R.hN];exact R.nd) (by rw[R.hN];exact g1) g4 (sE e R h3) ip_sub g5
  |false=>exact ps_aug (by rw[R.hN];exact R.nd) (by rw[R.hN];exact g1) g4 (sE e R h3) ip_add g5
 | .augS o i sub e,C,B,X,sc,s,R,hk,h=>by
  refine v58_k h fun eo ei w1 op ee w2 e0 g=>?_
  clear h
  subst e0
  revert g
  intro h
  simp only[Bool.and_eq_true,decide_eq_true_eq]at h
  obtain⟨⟨⟨⟨h1,h2⟩,h3⟩,h4⟩,rfl⟩:=h
  rw[show tS C (.augS o i sub e)=(tAugS (tE C o) (tE C i) (tE C e) (rIxL C.K) (ipI fun i j=>if sub then i-j else i+j) rSetL) from rfl]
  rw[<- R.hK]
  cases sub with
  |true=>exact ps_augS (sE o R h1) (sE i R h2) get_list (sE e R h4) ip_sub set_list (aug_sub h3)
  |false=>exact ps_augS (sE o R h1) (sE i R h2) get_list (sE e R h4) ip_add set_list (aug_sub h3)
 | .ite q a b,C,B,X,sc,s,R,hk,h=>by
  refine v50_k h fun x ss rs w1 e0 g=>?_
  clear h
  subst e0
  revert g
  intro h
  simp only[Bool.and_eq_true]at h
  rw[show tS C (.ite q a b)=(tIfS (tQ C q) (tSs C a) (tSs C b)) from rfl]
  exact ps_if (sQ q R h.1.1).1 (sSs a R hk h.1.2) (sSs b R hk h.2)
 | .whl q b,C,B,X,sc,s,R,hk,h=>by
  refine v51_k h fun x ss w1 e0 g=>?_
  clear h
  subst e0
  revert g
  intro h
  simp only[Bool.and_eq_true]at h
  rw[show tS C (.whl q b)=(tWhile (tQ C q) (tSs C b)) from rfl]
  exact ps_while R.own (sQ q R h.1).1 (sSs b R hk h.2)
 | .for_ t it b,C,B,X,sc,s,R,hk,h=>by
  refine v52_k h fun tg iter ss w1 e0 g=>?_
  clear h
  subst e0
  revert g
  intro h
  simp only[Bool.and_eq_true,Bool.not_eq_true']at h
  obtain⟨⟨⟨⟨⟨h1,h2⟩,h3⟩,h4⟩,h5⟩,hh⟩:=h
  rw[show tS C (.for_ t it b)=(tFor (tI C it) (tG C t) (tSs C b)) from rfl]
  exact ps_for R.own (R.calm hh) (sI it R h1 h2) (sG t R h4) (sSs b R hk h5) (folded_ok h3)
theorem sSs:∀(c:Css) {C:Rc} {B:List Str} {X:Cx} {sc:Scope} {ss:List Stmt},Rok C B X sc->X.env.scope.kind=.function->mSs C.N B sc c ss=true->PSs X ss (tSs C c)
 | .nil,C,B,X,sc,ss,R,hk,h=>by
  refine v56_k h fun e0 g=>?_
  clear h
  subst e0
  revert g
  intro h
  rw[show tSs C .nil=(tNext) from rfl];exact pss_nil
 | .cons c r,C,B,X,sc,ss,R,hk,h=>by
  refine v57_k h fun x xs e0 g=>?_
  clear h
  subst e0
  revert g
  intro h
  simp only[Bool.and_eq_true]at h
  rw[show tSs C (.cons c r)=(tSeq (tS C c) (tSs C r)) from rfl]
  exact pss_cons (sS c R hk h.1) (sSs r R hk h.2)
end
section
variable {P:Program} {w:World} {K:W.Frag} {mg:Str->Option Value} {base:Heap}
structure Ask (P:Program) (w:World) (K:W.Frag) (mg:Str->Option Value) (base:Heap) (k:Nat) (C:Rc):Prop where
 fs:∀y sp',C.fs y=some sp'->∃f' fd' ps',(FnOk P w K mg base CX0 k f' fd' ps' sp'\/FnOk P w K mg base (CX1 P w mg) k f' fd' ps' sp'/\bang y∈C.B)/\mg y=some (.ref f')/\W.keepIn K (.ref f')=true/\Binds K fd' ps' []
 B:∀y∈C.B,mg y=none
 mrk:mg "~"=none/\mg "^"=none/\mg "%"=none
 cl:∀c Ca,C.cl c=some Ca->mg c=some (.ref Ca)/\W.nsIn K mainGlobals c=some (some (.ref Ca))
 nt:tld C.B=false
 nh:hat C.B=false
theorem code_ok {x qual:Str} {st:Stmt} {f:Addr} {fd:FuncData} {ps:List Str} {k:Nat} {sp:Sp} (F:Fun K x qual st f fd) (C:Rc) (S:FnScope C.N ps (defScope st)) (hK:C.K=K) (code:Css) (hm:mSs C.N C.B (defScope st) code (defBody st)=true)
  (len:∀vs H Q E,sp vs H Q E->vs.length=ps.length) (ask:Ask P w K mg base k C) (hxk:C.xk=fun _=>E0)
  (hbody:∀vs H Q E,sp vs H Q E->tSs C code { nx:=fun _ H'=>Q .non H',rt:=Q } (start C.N vs) H):FnOk P w K mg base CX0 (k+1) f fd ps sp:=by
 refine F.ok S len fun cdv A outer s H vs Q E hr h=>⟨_,sSs code (sc:=defScope st) (B:=C.B) ?_ S.kind hm,hbody vs H Q E h⟩
 refine⟨rfl,S.nd,hK.symm,PassesOwn.never,fun _=>rfl,hr.units,hr.gd,fun _ e=>e,fun _ e=>⟨e,rfl⟩,fun _ e=>.inr e,fun _ e=>e,fun y sp' e _ _=>?_,ask.B,ask.mrk,ask.cl,fun _=>⟨rfl,fun _=>rfl,rfl,rfl⟩,fun _=>ask.nh,fun _ _ nm Ca pins σ H s e t _ _ _ _ _ _ z=>?_⟩
 .obtain⟨f',fd',ps',h1,h2,h3,h4⟩:=ask.fs y sp' e
  rcases h1 with h1|⟨h1,hb⟩
  .exact⟨f',fd',ps',k,CX0,h1,hr,h2,h3,h4,.inl rfl,passS0⟩
  .refine⟨f',fd',ps',k,_,h1,hr,h2,h3,h4,.inr ⟨rfl,hb⟩,?_⟩
   rintro pins σ H s e s' I ⟨ea,T,Ca,nm,H',_,_,_,_,_,_,_,_,_,_,_,z⟩
   rw[hxk]at z
   exact z.elim
 .rw[hxk]at z
  exact z.elim
end
def BoxAt (a:Addr) (k:Nat) (h:Heap):Prop:=∃(x y z:Int) (t1 t2 t3:Tok) (n:Nat),h.get? a=some { cls:=.type "list",data:=.seq #[.int x t1,.int y t2,.int z t3] n }/\0<=x/\0<=y/\y<2 ^ 62/\0<=z/\z<=k
noncomputable def BoxO (a:Addr) (k:Nat):HO:=.ext (BoxAt a k)
noncomputable def BoxL (x y z:Int):HO:=.lst [.int x,.int y,.int z]
theorem box_le {a:Addr} {n k:Nat} (e:BoxO a n=BoxO a k):n<=k:=by
 have e1:BoxAt a n=BoxAt a k:=HO.ext.inj e
 let o:Obj:={ cls:=.type "list",data:=.seq #[.int 0 0,.int 0 0,.int n 0] 0 }
 let h0:Heap:={ (default:Heap)with objs:=Array.replicate a default }
 have hs:h0.objs.size=a:=Array.size_replicate
 have g:(h0.push o).get? a=some o:=by
  have:=Heap.get?_push_size h0 (o:=o) rfl
  rw[hs]at this
  exact this
 have q:BoxAt a n (h0.push o):=⟨0,0,n,0,0,0,0,g,by omega,by omega,by decide,by omega,by omega⟩
 rw[e1]at q
 obtain⟨x,y,z,t1,t2,t3,m,g2,_,_,_,_,hz⟩:=q
 rw[g]at g2
 have g3:=Option.some.inj g2
 have g4:(#[.int 0 0,.int 0 0,.int n 0]:Array Value)=#[.int x t1,.int y t2,.int z t3]:=by
  have:o.data=_:=congrArg Obj.data g3
  injection this
 have g6:=congrArg Array.toList g4
 simp only[List.cons.injEq,Value.int.injEq]at g6
 have g5:(n:Int)=z:=g6.2.2.1.1
 omega
theorem box_close {P:Program} {w:World} {H:Hp} {h:Heap} {b:Addr} {x y z:Int} {k:Nat} (hok:HOk P w H h) (e:H b=some (BoxL x y z)) (hx:0<=x) (hy:0<=y) (hy2:y<2 ^ 62) (hz:0<=z) (hk:z<=k):HOk P w (upd H b (BoxO b k)) h:=by
 intro c o ec
 by_cases hc:c=b
 .subst hc
  rw[upd_same]at ec
  cases ec
  obtain⟨_,its,n,rv,g⟩:=(show ObjOk P w H h c (.lst _) from hok c _ e)
  cases rv with
  |cons r1 r=>
   cases r with
   |cons r2 r=>
    cases r with
    |cons r3 r=>
     cases r
     obtain⟨t1,rfl⟩:=r1
     obtain⟨t2,rfl⟩:=r2
     obtain⟨t3,rfl⟩:=r3
     refine⟨⟨x,y,z,t1,t2,t3,n,g,hx,hy,hy2,hz,hk⟩,⟨_,g⟩,fun h1 h2 q kk=>?_⟩
     obtain⟨x,y,z,t1,t2,t3,n,g,r⟩:=q
     exact⟨x,y,z,t1,t2,t3,n,kk _ g,r⟩
 .rw[upd_ne hc]at ec
  have ne:∀d u,H d=some u->(∀xs,u≠.lst xs)->d≠b:=fun d u q nu z=>by subst z;rw[e]at q;cases q;exact nu _ rfl
  exact(hok c o ec).stay (fun _ _ _ q=>q) (fun d q=>by rw[upd_ne (ne d _ q fun _ z=>by cases z)];exact q) fun d xs q=>by rw[upd_ne (ne d _ q fun _ z=>by cases z)];exact q
theorem box_open {P:Program} {w:World} {H:Hp} {h:Heap} {b:Addr} {k:Nat} (hok:HOk P w H h) (e:H b=some (BoxO b k)):∃x y z:Int,0<=x/\0<=y/\y<2 ^ 62/\0<=z/\z<=k/\HOk P w (upd H b (BoxL x y z)) h:=by
 obtain⟨⟨x,y,z,t1,t2,t3,n,g,hx,hy,hy2,hz,hk⟩,_,_⟩:=(show ObjOk P w H h b (.ext _) from hok b _ e)
 refine⟨x,y,z,hx,hy,hy2,hz,hk,fun c o ec=>?_⟩
 by_cases hc:c=b
 .subst hc
  rw[upd_same]at ec
  cases ec
  exact⟨by show 3<=sizeLine;decide,[.int x t1,.int y t2,.int z t3],n,.cons ⟨_,rfl⟩ (.cons ⟨_,rfl⟩ (.cons ⟨_,rfl⟩ .nil)),g⟩
 .rw[upd_ne hc]at ec
  have ne:∀d u,H d=some u->(∀φ,u≠.ext φ)->d≠b:=fun d u q nu z=>by subst z;rw[e]at q;cases q;exact nu _ rfl
  exact(hok c o ec).stay (fun _ _ _ q=>q) (fun d q=>by rw[upd_ne (ne d _ q fun _ z=>by cases z)];exact q) fun d xs q=>by rw[upd_ne (ne d _ q fun _ z=>by cases z)];exact q
theorem un_close {fs ex:List Addr} {H H':Hp} {h h':Heap} {b:Addr} {xs:List V} {o:HO} (u:Un fs ex H H' h h') (e:H' b=some (.lst xs)):Un fs ex H (upd H' b o) h h' where
 keep:=u.keep
 slot:=u.slot
 free:=fun c ob q n hx=>by
  have z:=u.free c ob q n hx
  rw[upd_ne (fun z2=>by subst z2;rw[e]at z;cases z)]
  exact z
 there:=u.there
 tups:=fun c ys q=>by
  have z:=u.tups c ys q
  rw[upd_ne (fun z2=>by subst z2;rw[e]at z;cases z)]
  exact z
 frzs:=fun c ob ys q=>by
  have z:=u.frzs c ob ys q
  rw[upd_ne (fun z2=>by subst z2;rw[e]at z;cases z)]
  exact z
 tbls:=fun c ps q=>by
  obtain⟨m,z⟩:=u.tbls c ps q
  exact⟨m,by rw[upd_ne (fun z2=>by subst z2;rw[e]at z;cases z)];exact z⟩
theorem un_open {fs ex:List Addr} {H H':Hp} {h h':Heap} {b:Addr} {φ:Heap->Prop} {o:HO} (u:Un fs ex (upd H b o) H' h h') (e:H b=some (.ext φ)):Un fs ex H H' h h':=by
 have ne:∀c,H c=none->c≠b:=fun c n z=>by subst z;rw[e]at n;cases n
 have ne2:∀c v,H c=some v->(∀ψ,v≠.ext ψ)->c≠b:=fun c v q nv z=>by subst z;rw[e]at q;cases q;exact nv _ rfl
 exact⟨fun c ob q n=>u.keep c ob q (by rw[upd_ne (ne c n)];exact n),fun c ob q n=>u.slot c ob q (by rw[upd_ne (ne c n)];exact n),fun c ob q n=>u.free c ob q (by rw[upd_ne (ne c n)];exact n),u.there,
  fun c ys q=>u.tups c ys (by rw[upd_ne (ne2 c _ q fun _ z=>by cases z)];exact q),fun c ob ys q=>u.frzs c ob ys (by rw[upd_ne (ne2 c _ q fun _ z=>by cases z)];exact q),fun c ps q=>u.tbls c ps (by rw[upd_ne (ne2 c _ q fun _ z=>by cases z)];exact q)⟩
section
variable {P:Program} {w:World} {K:W.Frag} {mg:Str->Option Value} {base:Heap} {k:Nat} {f:Addr} {fd:FuncData} {ps:List Str} {sp sp':Sp}
def Shut (Q:VK) (v:V) (H:Hp):Prop:=∃b x y z m,H b=some (BoxL x y z)/\0<=x/\0<=y/\y<2 ^ 62/\0<=z/\z<=((m:Nat):Int)/\Q v (upd H b (BoxO b m))
theorem shut_fn (F:FnOk P w K mg base CX0 k f fd ps sp) (h:∀vs H Q E,sp' vs H Q E->sp vs H (Shut Q) E):FnOk P w K mg base CX0 k f fd ps sp':=by
 refine⟨fun vs H Q E q=>F.len vs H _ E (h _ _ _ _ q),fun A outer s H args us vs Q E hr e0 hb hv hs=>?_⟩
 refine codeAny_mono (F.run A outer s H args us vs _ E hr e0 hb hv (h _ _ _ _ hs)) fun r s' hq=>?_
 cases r with
 |error e=>exact hq
 |ok fl=>
  cases fl with
  |next=>exact hq
  |brk=>exact hq
  |cont=>exact hq
  |ret u=>
   obtain⟨v,H',os,bare,un,hok,rv,b,x,y,z,m,eb,hx,hy,hy2,hz,hm,q⟩:=hq
   exact⟨v,_,os,bare,un_close un eb,box_close hok eb hx hy hy2 hz hm,rv,q⟩
theorem open_fn (F:FnOk P w K mg base CX0 k f fd ps sp) (h:∀vs H Q E,sp' vs H Q E->∃b n,H b=some (BoxO b n)/\∀x y z,0<=x->0<=y->y<2 ^ 62->0<=z->z<=((n:Nat):Int)->sp vs (upd H b (BoxL x y z)) Q E) (len:∀vs H Q E,sp' vs H Q E->vs.length=ps.length):FnOk P w K mg base CX0 k f fd ps sp':=by
 refine⟨len,fun A outer s H args us vs Q E hr e0 hb hv hs=>?_⟩
 obtain⟨b,n,eb,hsp⟩:=h _ _ _ _ hs
 obtain⟨x,y,z,hx,hy,hy2,hz,hn,hok⟩:=box_open e0.hok eb
 have ne:∀c,H c=none->c≠b:=fun c n z=>by subst z;rw[eb]at n;cases n
 have e1:Env0 P w K mg base A outer s (upd H b (BoxL x y z)):=⟨e0.frames,e0.mod,fun c o e=>⟨(e0.bs c o e).1,by rw[upd_ne (ne c (e0.bs c o e).2)];exact(e0.bs c o e).2⟩,e0.bsz,e0.funs,fun c hc=>by rw[upd_ne (ne c (e0.frf c hc))];exact e0.frf c hc,hok,e0.bare⟩
 refine codeAny_mono (F.run A outer s _ args us vs Q E hr e1 hb hv (hsp x y z hx hy hy2 hz hn)) fun r s' hq=>?_
 cases r with
 |error e=>exact hq
 |ok fl=>
  cases fl with
  |next=>exact hq
  |brk=>exact hq
  |cont=>exact hq
  |ret u=>
   obtain⟨v,H',os,bare,un,hok,rv,q⟩:=hq
   exact⟨v,H',os,bare,un_open un eb,hok,rv,q⟩
end
structure Go (c:Nat) (H H':Hp):Prop where
 box:∀a n,H a=some (BoxO a n)->∃m,m<=n+c/\H' a=some (BoxO a m)
 oth:∀a o,H a=some o->(∀φ,o≠.ext φ)->H' a=some o
 free:∀a,H' a=none->H a=none
theorem Go.of_same {c:Nat} {H H':Hp} (h:Same H H'):Go c H H':=⟨fun a n e=>⟨n,by omega,h a _ e⟩,fun a o e _=>h a o e,fun a e=>h.free e⟩
theorem Go.trans {c d:Nat} {H H1 H2:Hp} (a:Go c H H1) (b:Go d H1 H2):Go (c+d) H H2:=⟨fun p n e=>by
  obtain⟨m,hm,e1⟩:=a.box p n e
  obtain⟨m',hm',e2⟩:=b.box p m e1
  exact⟨m',by omega,e2⟩,fun p o e no=>b.oth p o (a.oth p o e no) no,fun p e=>a.free p (b.free p e)⟩
theorem Go.mono {c d:Nat} {H H1:Hp} (a:Go c H H1) (h:c<=d):Go d H H1:=⟨fun p n e=>by
  obtain⟨m,hm,e1⟩:=a.box p n e
  exact⟨m,by omega,e1⟩,a.oth,a.free⟩
theorem Go.lst {c:Nat} {H H1:Hp} (a:Go c H H1) {p:Addr} {xs:List V} (e:H p=some (.lst xs)):H1 p=some (.lst xs):=a.oth p _ e fun _ z=>by cases z
theorem Go.tup {c:Nat} {H H1:Hp} (a:Go c H H1) {p:Addr} {xs:List V} (e:H p=some (.tup xs)):H1 p=some (.tup xs):=a.oth p _ e fun _ z=>by cases z
theorem Go.seq {c:Nat} {K:W.Frag} {H H1:Hp} (g:Go c H H1) {a:Addr} {xs:List V} (h:SqL K H a xs):SqL K H1 a xs:=by
 rcases h with(h|⟨o,h⟩)|h
 .exact .inl (.inl (g.lst h))
 .exact .inl (.inr ⟨o,g.oth _ _ h fun _ z=>by cases z⟩)
 .exact .inr h
theorem Go.draw {H:Hp} {b:Addr} {n m:Nat} (e:H b=some (BoxO b n)) (h:m<=n+1) (o:HO):Go 1 H (upd (upd H b o) b (BoxO b m)):=by
 rw[upd_upd]
 refine⟨fun p k q=>?_,fun p u q no=>?_,fun p q=>?_⟩
 .by_cases hp:p=b
  .subst hp
   rw[e]at q
   have:=box_le (Option.some.inj q)
   exact⟨m,by omega,upd_same⟩
  .exact⟨k,by omega,by rw[upd_ne hp];exact q⟩
 .rw[upd_ne]
  .exact q
  .intro z
   subst z
   rw[e]at q
   cases q
   exact no _ rfl
 .by_cases hp:p=b
  .subst hp
   rw[upd_same]at q
   cases q
  .rw[upd_ne hp]at q
   exact q
section
variable {C:Rc} {σ:L2.St} {H:Hp} {Q:VK} {D:Ends} {Qb:Bool->Hp->Prop}
def kV (o:Option (Option V)) (H:Hp) (Q:VK):Prop:=∃v,o=some (some v)/\Q v H
theorem kV_some {v:V}:kV (some (some v)) H Q=Q v H:=propext ⟨fun⟨u,e,q⟩=>by cases e;exact q,fun q=>⟨v,rfl,q⟩⟩
theorem tE_var {i:Nat}:tE C (.var i) σ H Q=kV σ[i]? H Q:=rfl
theorem tE_int {n:Int}:tE C (.int n) σ H Q=Q (.int n) H:=rfl
theorem tE_bl {b:Bool}:tE C (.bl b) σ H Q=Q (.bl b) H:=rfl
theorem tE_non:tE C .non σ H Q=Q .non H:=rfl
theorem tE_str {x:Str}:tE C (.str x) σ H Q=Q (.str x) H:=rfl
theorem tE_ty {x:String}:tE C (.ty x) σ H Q=Q (.ty x) H:=rfl
noncomputable def kB1 (C:Rc) (σ:L2.St) (op:Operator) (b:Ce) (Q:VK):VK:=fun x H=>tE C b σ H fun y H2=>rBin C.K op x y H2 Q
noncomputable def kB2 (C:Rc) (op:Operator) (x:V) (Q:VK):VK:=fun y H=>rBin C.K op x y H Q
theorem tE_bin {op:Operator} {a b:Ce}:tE C (.bin op a b) σ H Q=tE C a σ H (kB1 C σ op b Q):=rfl
theorem kB1_at {op:Operator} {b:Ce} {x:V}:kB1 C σ op b Q x H=tE C b σ H (kB2 C op x Q):=rfl
theorem kB2_at {op:Operator} {x y:V}:kB2 C op x Q y H=rBin C.K op x y H Q:=rfl
noncomputable def kC1 (C:Rc) (σ:L2.St) (op:CmpOp) (b:Ce) (Q:VK):VK:=fun x H=>tE C b σ H fun y H2=>rCmp C.K op x y H2 Q
noncomputable def kC2 (C:Rc) (op:CmpOp) (x:V) (Q:VK):VK:=fun y H=>rCmp C.K op x y H Q
theorem tE_cmp {op:CmpOp} {a b:Ce}:tE C (.cmp op a b) σ H Q=tE C a σ H (kC1 C σ op b Q):=rfl
theorem kC1_at {op:CmpOp} {b:Ce} {x:V}:kC1 C σ op b Q x H=tE C b σ H (kC2 C op x Q):=rfl
theorem kC2_at {op:CmpOp} {x y:V}:kC2 C op x Q y H=rCmp C.K op x y H Q:=rfl
noncomputable def kI1 (C:Rc) (σ:L2.St) (b:Ce) (Q:VK):VK:=fun x H=>tE C b σ H fun y H2=>rIxM C.K x y H2 Q
noncomputable def kI2 (C:Rc) (x:V) (Q:VK):VK:=fun y H=>rIxM C.K x y H Q
theorem tE_idx {a b:Ce}:tE C (.idx a b) σ H Q=tE C a σ H (kI1 C σ b Q):=rfl
theorem kI1_at {b:Ce} {x:V}:kI1 C σ b Q x H=tE C b σ H (kI2 C x Q):=rfl
theorem kI2_at {x y:V}:kI2 C x Q y H=rIxM C.K x y H Q:=rfl
noncomputable def kNeg (Q:VK):VK:=fun x H=>rU (fun i=>.int (-i)) x H Q
theorem tE_neg {a:Ce}:tE C (.neg a) σ H Q=tE C a σ H (kNeg Q):=rfl
theorem kNeg_int {i:Int}:kNeg Q (.int i) H=Q (.int (-i)) H:=propext ⟨fun⟨u,e,q⟩=>by cases e;exact q,fun q=>⟨i,rfl,q⟩⟩
noncomputable def kT (Qb:Bool->Hp->Prop):VK:=fun x H=>∃k,x=.bl k/\Qb k H
theorem kT_bl {k:Bool}:kT Qb (.bl k) H=Qb k H:=propext ⟨fun⟨u,e,q⟩=>by cases e;exact q,fun q=>⟨k,rfl,q⟩⟩
theorem tQ_cmp {op:CmpOp} {a b:Ce}:tQ C (.cmp op a b) σ H Qb=tE C a σ H (kC1 C σ op b (kT Qb)):=rfl
noncomputable def kNotQ (Qb:Bool->Hp->Prop):Bool->Hp->Prop:=fun c H=>Qb (!c) H
theorem tQ_not {q:Cq}:tQ C (.not q) σ H Qb=tQ C q σ H (kNotQ Qb):=rfl
theorem kNotQ_at {c:Bool}:kNotQ Qb c H=Qb (!c) H:=rfl
noncomputable def kAndQ (C:Rc) (σ:L2.St) (b:Cq) (Qb:Bool->Hp->Prop):Bool->Hp->Prop:=fun c H=>if c=true then tQ C b σ H Qb else Qb false H
noncomputable def kOrQ (C:Rc) (σ:L2.St) (b:Cq) (Qb:Bool->Hp->Prop):Bool->Hp->Prop:=fun c H=>if c=true then Qb true H else tQ C b σ H Qb
theorem tQ_and {a b:Cq}:tQ C (.and a b) σ H Qb=tQ C a σ H (kAndQ C σ b Qb):=rfl
theorem tQ_or {a b:Cq}:tQ C (.or a b) σ H Qb=tQ C a σ H (kOrQ C σ b Qb):=rfl
theorem kAndQ_t {b:Cq}:kAndQ C σ b Qb true H=tQ C b σ H Qb:=rfl
theorem kAndQ_f {b:Cq}:kAndQ C σ b Qb false H=Qb false H:=rfl
theorem kOrQ_t {b:Cq}:kOrQ C σ b Qb true H=Qb true H:=rfl
theorem kOrQ_f {b:Cq}:kOrQ C σ b Qb false H=tQ C b σ H Qb:=rfl
variable {K:W.Frag} {i j:Int} {x y:Str}
theorem b_add:rBin K .Add (.int i) (.int j) H Q=Q (.int (i+j)) H:=rfl
theorem b_adds:rBin K .Add (.str x) (.str y) H Q=(x.length+y.length<=sizeLine/\Q (.str (x++y)) H):=rfl
theorem b_sub:rBin K .Sub (.int i) (.int j) H Q=Q (.int (i-j)) H:=propext ⟨fun⟨_,_,e,e',q⟩=>by cases e;cases e';exact q,fun q=>⟨_,_,rfl,rfl,q⟩⟩
theorem b_mul:rBin K .Mult (.int i) (.int j) H Q=(CMulW i j/\Q (.int (i*j)) H):=rfl
theorem b_muls:rBin K .Mult (.str x) (.int j) H Q=(-1000000<=j/\j<=1000000/\x.length*j.toNat<=1000000/\Q (.str (Txt.mul x j)) H):=rfl
theorem b_mod:rBin K .Mod (.int i) (.int j) H Q=(0<j/\Q (.int (i % j)) H):=propext ⟨fun⟨_,_,e,e',c,q⟩=>by cases e;cases e';exact⟨c,q⟩,fun q=>⟨_,_,rfl,rfl,q.1,q.2⟩⟩
theorem b_div:rBin K .FloorDiv (.int i) (.int j) H Q=(CDivW i j/\Q (.int (i / j)) H):=propext ⟨fun⟨_,_,e,e',c,q⟩=>by cases e;cases e';exact⟨c,q⟩,fun q=>⟨_,_,rfl,rfl,q.1,q.2⟩⟩
theorem b_pow:rBin K .Pow (.int i) (.int j) H Q=(CPow i j/\Q (.int (i ^ j.toNat)) H):=propext ⟨fun⟨_,_,e,e',c,q⟩=>by cases e;cases e';exact⟨c,q⟩,fun q=>⟨_,_,rfl,rfl,q.1,q.2⟩⟩
theorem c_lt:rCmp K .Lt (.int i) (.int j) H Q=Q (.bl (decide (i<j))) H:=propext ⟨fun⟨_,_,e,e',q⟩=>by cases e;cases e';exact q,fun q=>⟨_,_,rfl,rfl,q⟩⟩
theorem c_le:rCmp K .LtE (.int i) (.int j) H Q=Q (.bl (decide (i<=j))) H:=propext ⟨fun⟨_,_,e,e',q⟩=>by cases e;cases e';exact q,fun q=>⟨_,_,rfl,rfl,q⟩⟩
theorem c_gt:rCmp K .Gt (.int i) (.int j) H Q=Q (.bl (decide (j<i))) H:=propext ⟨fun⟨_,_,e,e',q⟩=>by cases e;cases e';exact q,fun q=>⟨_,_,rfl,rfl,q⟩⟩
theorem c_ge:rCmp K .GtE (.int i) (.int j) H Q=Q (.bl (decide (j<=i))) H:=propext ⟨fun⟨_,_,e,e',q⟩=>by cases e;cases e';exact q,fun q=>⟨_,_,rfl,rfl,q⟩⟩
theorem c_eq:rCmp K .Eq (.int i) (.int j) H Q=Q (.bl (decide (i=j))) H:=by
 have e:decide (V.int i=V.int j)=decide (i=j):=by simp
 exact propext ⟨fun q=>e ▸ q.2,fun q=>⟨rfl,e.symm ▸ q⟩⟩
theorem c_eqs:rCmp K .Eq (.str x) (.str y) H Q=Q (.bl (decide (x=y))) H:=by
 have e:decide (V.str x=V.str y)=decide (x=y):=by simp
 exact propext ⟨fun q=>e ▸ q.2,fun q=>⟨rfl,e.symm ▸ q⟩⟩
theorem ix_ref {a:Addr}:rIxM K (.ref a) (.int i) H Q=(rIxL K (.ref a) (.int i) H Q\/rIxT K (.ref a) (.int i) H Q):=rfl
noncomputable def kSeq (C:Rc) (r:Css) (D:Ends):Ends:={ D with nx:=tSs C r D }
theorem ss_nil:tSs C .nil D σ H=D.nx σ H:=rfl
theorem ss_cons {s:Cs} {r:Css}:tSs C (.cons s r) D σ H=tS C s (kSeq C r D) σ H:=rfl
theorem seq_nx {r:Css}:(kSeq C r D).nx σ H=tSs C r D σ H:=rfl
theorem seq_rt {r:Css}:(kSeq C r D).rt=D.rt:=rfl
theorem seq_bk {r:Css}:(kSeq C r D).bk=D.bk:=rfl
theorem seq_ct {r:Css}:(kSeq C r D).ct=D.ct:=rfl
theorem s_ret {e:Ce}:tS C (.ret e) D σ H=tE C e σ H D.rt:=rfl
noncomputable def kDrop (D:Ends) (σ:L2.St):VK:=fun _ H=>D.nx σ H
theorem s_expr {e:Ce}:tS C (.expr e) D σ H=tE C e σ H (kDrop D σ):=rfl
theorem kDrop_at {v:V}:kDrop D σ v H=D.nx σ H:=rfl
noncomputable def kSet (i:Nat) (D:Ends) (σ:L2.St):VK:=fun x H=>D.nx (σ.set i (some x)) H
theorem s_set {i:Nat} {e:Ce}:tS C (.asg (.name i) e) D σ H=tE C e σ H (kSet i D σ):=rfl
theorem kSet_at {i:Nat} {v:V}:kSet i D σ v H=D.nx (σ.set i (some v)) H:=rfl
noncomputable def kSub1 (C:Rc) (o i:Ce) (D:Ends) (σ:L2.St):VK:=fun v H=>tE C o σ H fun p H1=>tE C i σ H1 fun k H2=>rSetL p k v H2 fun H3=>D.nx σ H3
noncomputable def kSub2 (C:Rc) (i:Ce) (v:V) (D:Ends) (σ:L2.St):VK:=fun p H1=>tE C i σ H1 fun k H2=>rSetL p k v H2 fun H3=>D.nx σ H3
noncomputable def kSub3 (p v:V) (D:Ends) (σ:L2.St):VK:=fun k H2=>rSetL p k v H2 fun H3=>D.nx σ H3
theorem s_sub {o i e:Ce}:tS C (.asg (.sub o i) e) D σ H=tE C e σ H (kSub1 C o i D σ):=rfl
theorem kSub1_at {o i:Ce} {v:V}:kSub1 C o i D σ v H=tE C o σ H (kSub2 C i v D σ):=rfl
theorem kSub2_at {i:Ce} {v p:V}:kSub2 C i v D σ p H=tE C i σ H (kSub3 p v D σ):=rfl
theorem kSub3_at {v p k:V}:kSub3 p v D σ k H=rSetL p k v H (D.nx σ):=rfl
noncomputable def kIf (C:Rc) (a b:Css) (D:Ends) (σ:L2.St):Bool->Hp->Prop:=fun c H=>if c=true then tSs C a D σ H else tSs C b D σ H
theorem s_if {q:Cq} {a b:Css}:tS C (.ite q a b) D σ H=tQ C q σ H (kIf C a b D σ):=rfl
theorem kIf_t {a b:Css}:kIf C a b D σ true H=tSs C a D σ H:=rfl
theorem kIf_f {a b:Css}:kIf C a b D σ false H=tSs C b D σ H:=rfl
theorem by_dec {p:Prop} [Decidable p] {F:Bool->Hp->Prop} (h1:p->F true H) (h2:¬p->F false H):F (decide p) H:=by
 by_cases h:p
 .rw[decide_eq_true h];exact h1 h
 .rw[decide_eq_false h];exact h2 h
end
section
variable {C:Rc} {σ:L2.St} {H:Hp} {Q:VK} {D:Ends} {Qb:Bool->Hp->Prop} {Qs:List V->Hp->Prop}
noncomputable def kA1 (C:Rc) (σ:L2.St) (r:Ces) (Qs:List V->Hp->Prop):VK:=fun x H=>tA C r σ H fun xs H2=>Qs (x :: xs) H2
noncomputable def kA2 (x:V) (Qs:List V->Hp->Prop):List V->Hp->Prop:=fun xs H=>Qs (x :: xs) H
theorem a_nil:tA C .nil σ H Qs=Qs [] H:=rfl
theorem a_cons {e:Ce} {r:Ces}:tA C (.cons e r) σ H Qs=tE C e σ H (kA1 C σ r Qs):=rfl
theorem kA1_at {r:Ces} {x:V}:kA1 C σ r Qs x H=tA C r σ H (kA2 x Qs):=rfl
theorem kA2_at {x:V} {xs:List V}:kA2 x Qs xs H=Qs (x :: xs) H:=rfl
noncomputable def kTup (Q:VK):List V->Hp->Prop:=fun xs H=>xs.length<=sizeLine/\∀p,H p=none->Q (.ref p) (upd H p (.tup xs))
noncomputable def kLst (Q:VK):List V->Hp->Prop:=fun xs H=>xs.length<=sizeLine/\∀p,H p=none->Q (.ref p) (upd H p (.lst xs))
theorem tE_tup {es:Ces}:tE C (.tup es) σ H Q=tA C es σ H (kTup Q):=rfl
theorem tE_lst {es:Ces}:tE C (.lst es) σ H Q=tA C es σ H (kLst Q):=rfl
theorem kTup_at {xs:List V}:kTup Q xs H=(xs.length<=sizeLine/\∀p,H p=none->Q (.ref p) (upd H p (.tup xs))):=rfl
theorem kLst_at {xs:List V}:kLst Q xs H=(xs.length<=sizeLine/\∀p,H p=none->Q (.ref p) (upd H p (.lst xs))):=rfl
noncomputable def kCall (o:Option Sp) (E:XK) (Q:VK):List V->Hp->Prop:=fun vs H=>match o with
 |some sp=>sp (vs++[]) H Q E
 |none=>False
theorem tE_call {f:Str} {es:Ces} {sp:Sp} (h:C.fs f=some sp):tE C (.call f es) σ H Q=tA C es σ H (kCall (some sp) (C.xk σ) Q):=by
 show(match C.fs f with|some sp=>tCall sp [] (C.xk σ) (tA C es) σ H Q|none=>False)=_
 rw[h]
 rfl
theorem kCall_at {sp:Sp} {E:XK} {vs:List V}:kCall (some sp) E Q vs H=sp vs H Q E:=by
 show sp (vs++[]) H Q E=_
 rw[List.append_nil]
noncomputable def kBlt (C:Rc) (f:Bf) (Q:VK):List V->Hp->Prop:=fun vs H=>rBlt C.K f vs H Q
theorem tE_blt {f:Bf} {es:Ces}:tE C (.blt f es) σ H Q=tA C es σ H (kBlt C f Q):=rfl
theorem kBlt_at {f:Bf} {vs:List V}:kBlt C f Q vs H=rBlt C.K f vs H Q:=rfl
noncomputable def kMet1 (C:Rc) (σ:L2.St) (m:Mf) (es:Ces) (Q:VK):VK:=fun x H=>tyV C.K (metTy m) x H/\tA C es σ H fun xs H2=>rMet C.K m x xs H2 Q
noncomputable def kMet2 (C:Rc) (m:Mf) (x:V) (Q:VK):List V->Hp->Prop:=fun xs H=>rMet C.K m x xs H Q
theorem tE_met {m:Mf} {o:Ce} {es:Ces}:tE C (.met m o es) σ H Q=tE C o σ H (kMet1 C σ m es Q):=rfl
theorem kMet1_at {m:Mf} {es:Ces} {x:V}:kMet1 C σ m es Q x H=(tyV C.K (metTy m) x H/\tA C es σ H (kMet2 C m x Q)):=rfl
theorem kMet2_at {m:Mf} {x:V} {xs:List V}:kMet2 C m x Q xs H=rMet C.K m x xs H Q:=rfl
noncomputable def kIfe (C:Rc) (σ:L2.St) (a b:Ce) (Q:VK):Bool->Hp->Prop:=fun c H=>if c=true then tE C a σ H Q else tE C b σ H Q
theorem tE_ife {q:Cq} {a b:Ce}:tE C (.ife q a b) σ H Q=tQ C q σ H (kIfe C σ a b Q):=rfl
theorem kIfe_t {a b:Ce}:kIfe C σ a b Q true H=tE C a σ H Q:=rfl
theorem kIfe_f {a b:Ce}:kIfe C σ a b Q false H=tE C b σ H Q:=rfl
noncomputable def kNotV (Q:VK):VK:=fun x H=>∃c,x=.bl c/\Q (.bl (!c)) H
theorem tE_not {a:Ce}:tE C (.not a) σ H Q=tE C a σ H (kNotV Q):=rfl
theorem kNotV_bl {c:Bool}:kNotV Q (.bl c) H=Q (.bl (!c)) H:=propext ⟨fun⟨u,e,q⟩=>by cases e;exact q,fun q=>⟨c,rfl,q⟩⟩
noncomputable def kAndV (C:Rc) (σ:L2.St) (b:Ce) (Q:VK):VK:=fun x H=>∃c,x=.bl c/\if c=true then tE C b σ H Q else Q (.bl false) H
noncomputable def kOrV (C:Rc) (σ:L2.St) (b:Ce) (Q:VK):VK:=fun x H=>∃c,x=.bl c/\if c=true then Q (.bl true) H else tE C b σ H Q
theorem tE_and {a b:Ce}:tE C (.and a b) σ H Q=tE C a σ H (kAndV C σ b Q):=rfl
theorem tE_or {a b:Ce}:tE C (.or a b) σ H Q=tE C a σ H (kOrV C σ b Q):=rfl
theorem kAndV_t {b:Ce}:kAndV C σ b Q (.bl true) H=tE C b σ H Q:=propext ⟨fun⟨u,e,q⟩=>by cases e;exact q,fun q=>⟨_,rfl,q⟩⟩
theorem kAndV_f {b:Ce}:kAndV C σ b Q (.bl false) H=Q (.bl false) H:=propext ⟨fun⟨u,e,q⟩=>by cases e;exact q,fun q=>⟨_,rfl,q⟩⟩
theorem kOrV_t {b:Ce}:kOrV C σ b Q (.bl true) H=Q (.bl true) H:=propext ⟨fun⟨u,e,q⟩=>by cases e;exact q,fun q=>⟨_,rfl,q⟩⟩
theorem kOrV_f {b:Ce}:kOrV C σ b Q (.bl false) H=tE C b σ H Q:=propext ⟨fun⟨u,e,q⟩=>by cases e;exact q,fun q=>⟨_,rfl,q⟩⟩
noncomputable def kTru (C:Rc) (Qb:Bool->Hp->Prop):VK:=fun x H=>∃k,TruV C.K x H k/\Qb k H
theorem tQ_val {e:Ce}:tQ C (.val e) σ H Qb=tE C e σ H (kTru C Qb):=rfl
theorem kTru_bl {b:Bool}:kTru C Qb (.bl b) H=Qb b H:=propext ⟨fun⟨u,e,q⟩=>by
  have e:u=b:=e
  subst e
  exact q,fun q=>⟨b,rfl,q⟩⟩
noncomputable def kCut1 (C:Rc) (σ:L2.St) (lo hi:Co) (Q:VK):VK:=fun x H=>tO C lo σ H fun l H2=>tO C hi σ H2 fun u H3=>rSl C.K x l u H3 Q
noncomputable def kCut2 (C:Rc) (σ:L2.St) (hi:Co) (x:V) (Q:VK):Option Int->Hp->Prop:=fun l H=>tO C hi σ H fun u H3=>rSl C.K x l u H3 Q
noncomputable def kCut3 (C:Rc) (x:V) (l:Option Int) (Q:VK):Option Int->Hp->Prop:=fun u H=>rSl C.K x l u H Q
theorem kCut1_at {lo hi:Co} {x:V}:kCut1 C σ lo hi Q x H=tO C lo σ H (kCut2 C σ hi x Q):=rfl
theorem kCut2_at {hi:Co} {x:V} {l:Option Int}:kCut2 C σ hi x Q l H=tO C hi σ H (kCut3 C x l Q):=rfl
theorem kCut3_at {x:V} {l u:Option Int}:kCut3 C x l Q u H=rSl C.K x l u H Q:=rfl
variable {Qo:Option Int->Hp->Prop}
noncomputable def kPart (Qo:Option Int->Hp->Prop):VK:=fun x H=>∃i,x=.int i/\Qo (some i) H
theorem o_none:tO C .none σ H Qo=Qo none H:=rfl
theorem o_some {e:Ce}:tO C (.some e) σ H Qo=tE C e σ H (kPart Qo):=rfl
theorem sl_ref {K:W.Frag} {a:Addr} {l u:Option Int}:rSl K (.ref a) l u H Q=(rSlL K (.ref a) l u H Q\/rSlT K (.ref a) l u H Q\/rSlW K (.ref a) l u H Q):=rfl
noncomputable def kAug (i:Nat) (sub:Bool) (x:V) (D:Ends) (σ:L2.St):VK:=fun y H=>∃a b,x=.int a/\y=.int b/\D.nx (σ.set i (some (.int (if sub then a-b else a+b)))) H
theorem s_aug {i:Nat} {sub:Bool} {e:Ce} {a:Int} (h:σ[i]?=some (some (.int a))):tS C (.aug i sub e) D σ H=tE C e σ H (kAug i sub (.int a) D σ):=by
 show(∃x,σ[i]?=some (some x)/\tE C e σ H fun y H1=>(ipI fun i j=>if sub then i-j else i+j) x y H1 fun z H2=>D.nx (σ.set i (some z)) H2)=_
 rw[h]
 exact propext ⟨fun⟨x,e,q⟩=>by cases e;exact q,fun q=>⟨_,rfl,q⟩⟩
theorem kAug_int {i:Nat} {sub:Bool} {a b:Int}:kAug i sub (.int a) D σ (.int b) H=D.nx (σ.set i (some (.int (if sub then a-b else a+b)))) H:=propext ⟨fun⟨_,_,e,e',q⟩=>by cases e;cases e';exact q,fun q=>⟨_,_,rfl,rfl,q⟩⟩
noncomputable def kPar1 (C:Rc) (σ:L2.St) (i j:Nat) (b:Ce) (D:Ends):VK:=fun v H=>tE C b σ H fun w H1=>D.nx ((σ.set i (some v)).set j (some w)) H1
noncomputable def kPar2 (σ:L2.St) (i j:Nat) (v:V) (D:Ends):VK:=fun w H=>D.nx ((σ.set i (some v)).set j (some w)) H
theorem kPar1_at {i j:Nat} {b:Ce} {v:V}:kPar1 C σ i j b D v H=tE C b σ H (kPar2 σ i j v D):=rfl
theorem kPar2_at {i j:Nat} {v w:V}:kPar2 σ i j v D w H=D.nx ((σ.set i (some v)).set j (some w)) H:=rfl
end
noncomputable def cb (b:Bool):Nat:=if b then 49 else 48
noncomputable def tx (l:List Bool):Str:=⟨(l.map cb).toArray⟩
theorem tx_len {a:List Bool}:(tx a).length=a.length:=by show(a.map cb).toArray.size=_;simp
theorem tx_size {a:List Bool}:(tx a).cps.size=a.length:=by show(a.map cb).toArray.size=_;simp
theorem tx_get {a:List Bool} {i:Nat}:(tx a).cps[i]?=a[i]?.map cb:=by show(a.map cb).toArray[i]?=_;simp
theorem tx_app {a b:List Bool}:tx a++tx b=tx (a++b):=by
 show(⟨(a.map cb).toArray++(b.map cb).toArray⟩:Str)=⟨((a++b).map cb).toArray⟩
 simp
theorem tx_01:(PySem.Str.ofString "01")=tx [false,true]:=by decide +kernel
theorem tx_0:(PySem.Str.ofString "0")=tx [false]:=by decide +kernel
theorem tx_1:(PySem.Str.ofString "1")=tx [true]:=by decide +kernel
theorem tx_nil:(PySem.Str.ofString "")=tx []:=by decide +kernel
theorem tx_int {c:Bool}:PySem.intText? (tx [c])=some (if c then 1 else 0):=by cases c<;>decide +kernel
theorem start_eq {N:List Str} {vs:List V} {n:Nat} (h:N.length=n):L2.start N vs=vs.map some++List.replicate (n-vs.length) none:=by subst h;rfl
section
variable {C:Rc} {σ:L2.St} {H:Hp} {Q:VK} {D:Ends} {Qb:Bool->Hp->Prop}
theorem g_name {i:Nat} {v:V} {R:L2.St->Hp->Prop}:tG C (.name i) v σ H R=R (σ.set i (some v)) H:=rfl
theorem g_tup2 {i j:Nat} {a:Addr} {x y:V} {R:L2.St->Hp->Prop} (h:SqT C.K H a [x,y]) (q:R ((σ.set i (some x)).set j (some y)) H):tG C (.tup (.cons (.name i) (.cons (.name j) .nil))) (.ref a) σ H R:=
 ⟨a,[x,y],rfl,.inl h,rfl,_,_,rfl,_,_,rfl,rfl,q⟩
theorem g_tup3 {i j k:Nat} {a:Addr} {x y z:V} {R:L2.St->Hp->Prop} (h:SqT C.K H a [x,y,z]) (q:R (((σ.set i (some x)).set j (some y)).set k (some z)) H):tG C (.tup (.cons (.name i) (.cons (.name j) (.cons (.name k) .nil)))) (.ref a) σ H R:=
 ⟨a,[x,y,z],rfl,.inl h,rfl,_,_,rfl,_,_,rfl,_,_,rfl,rfl,q⟩
def kFor (C:Rc) (t:Ct) (b:Css) (D:Ends) (σ:L2.St) (J:It) (H1:Hp):Prop:=∃W:Nat->Nat->L2.St->Hp->Prop,(∃m,W 0 m σ H1)/\∀i m σ H,W i m σ H->
 (J.stop i H/\D.nx σ H)\/(J.go i H/\∃N:L2.St->Hp->Prop,(∀σ' H',N σ' H'->∃m',m'<m/\W (i+1) m' σ' H')/\∀x H',J.yld i H x H'->tG C t x σ H' fun σ2 H2=>tSs C b { D with nx:=N,ct:=N,bk:=D.nx } σ2 H2)
theorem s_for {t:Ct} {it:Ci} {b:Css}:tS C (.for_ t it b) D σ H=tI C it σ H (kFor C t b D σ):=rfl
noncomputable def kIv (C:Rc) (R:It->Hp->Prop):VK:=fun x H1=>
 (∃a,x=.ref a/\(∃xs,SqL C.K H1 a xs)/\R (Itl C.K a) H1)\/(∃a,x=.ref a/\(∃xs,SqT C.K H1 a xs)/\R (Itt C.K a) H1)\/∃z,x=.str z/\R (Its z) H1
theorem i_val {e:Ce} {R:It->Hp->Prop}:tI C (.val e) σ H R=tE C e σ H (kIv C R):=rfl
noncomputable def kR1 (R:It->Hp->Prop):VK:=fun x H1=>∃j:Int,x=.int j/\-(2 ^ 62)<=j/\j<2 ^ 62/\R (Itr 0 j.toNat) H1
theorem i_range1 {e:Ce} {R:It->Hp->Prop}:tI C (.range1 e) σ H R=tE C e σ H fun x H1=>∃j:Int,[x]=[.int j]/\-(2 ^ 62)<=j/\j<2 ^ 62/\R (Itr 0 j.toNat) H1:=rfl
theorem i_range1' {e:Ce} {R:It->Hp->Prop}:tI C (.range1 e) σ H R=tE C e σ H (kR1 R):=by
 rw[i_range1]
 congr 1
 funext x H1
 unfold kR1
 simp only[List.cons.injEq,and_true]
noncomputable def kR2b (R:It->Hp->Prop) (x:V):VK:=fun y H1=>∃i j:Int,x=.int i/\y=.int j/\(-(2 ^ 62)<=i/\i<2 ^ 62/\-(2 ^ 62)<=j/\j<2 ^ 62)/\R (Itr i (j-i).toNat) H1
noncomputable def kR2a (C:Rc) (σ:L2.St) (e:Ce) (R:It->Hp->Prop):VK:=fun x H1=>tE C e σ H1 (kR2b R x)
theorem i_range2' {a b:Ce} {R:It->Hp->Prop}:tI C (.range2 a b) σ H R=tE C a σ H (kR2a C σ b R):=by
 show(tE C a σ H fun x H1=>tE C b σ H1 fun y H2=>∃i j:Int,[x,y]=[.int i,.int j]/\(-(2 ^ 62)<=i/\i<2 ^ 62/\-(2 ^ 62)<=j/\j<2 ^ 62)/\R (Itr i (j-i).toNat) H2)=_
 congr 1
 funext x H1
 unfold kR2a
 congr 1
 funext y H2
 unfold kR2b
 simp only[List.cons.injEq,and_true,and_assoc]
theorem kR2a_at {e:Ce} {R:It->Hp->Prop} {x:V}:kR2a C σ e R x H=tE C e σ H (kR2b R x):=rfl
noncomputable def kZ2 (C:Rc) (R:It->Hp->Prop) (x:V):VK:=fun y H1=>∃(k j:Bool) (a b:Addr),x=.ref a/\y=.ref b/\(∃xs,Sq k C.K H1 a xs)/\(∃ys,Sq j C.K H1 b ys)/\R (Itz2 k j C.K a b) H1
noncomputable def kZ1 (C:Rc) (σ:L2.St) (e:Ce) (R:It->Hp->Prop):VK:=fun x H1=>tE C e σ H1 (kZ2 C R x)
theorem i_zip {a b:Ce} {R:It->Hp->Prop}:tI C (.zip a b) σ H R=tE C a σ H (kZ1 C σ b R):=by
 show(tE C a σ H fun x H1=>tE C b σ H1 fun y H2=>∃(k j:Bool) (p q:Addr),[x,y]=[.ref p,.ref q]/\(∃xs,Sq k C.K H2 p xs)/\(∃ys,Sq j C.K H2 q ys)/\R (Itz2 k j C.K p q) H2)=_
 congr 1
 funext x H1
 unfold kZ1
 congr 1
 funext y H2
 unfold kZ2
 simp only[List.cons.injEq,and_true,and_assoc]
theorem kZ1_at {e:Ce} {R:It->Hp->Prop} {x:V}:kZ1 C σ e R x H=tE C e σ H (kZ2 C R x):=rfl
noncomputable def kEn (C:Rc) (R:It->Hp->Prop):VK:=fun x H1=>(∃a,x=.ref a/\(∃xs,SqL C.K H1 a xs)/\R (Ite C.K a) H1)\/(∃z,x=.str z/\R (Iteg z) H1)\/∃a,x=.ref a/\(∃xs,SqT C.K H1 a xs)/\R (Itet C.K a) H1
theorem i_enum {a:Ce} {R:It->Hp->Prop}:tI C (.enum a) σ H R=tE C a σ H (kEn C R):=by
 show(tE C a σ H fun x H1=>∃y,[x]=[y]/\((∃a,y=.ref a/\(∃xs,SqL C.K H1 a xs)/\R (Ite C.K a) H1)\/(∃z,y=.str z/\R (Iteg z) H1)\/∃a,y=.ref a/\(∃xs,SqT C.K H1 a xs)/\R (Itet C.K a) H1))=_
 congr 1
 funext x H1
 unfold kEn
 exact propext ⟨fun⟨y,e,q⟩=>by cases e;exact q,fun q=>⟨x,rfl,q⟩⟩
theorem at_enL {R:It->Hp->Prop} {a:Addr} {xs:List V} (h:SqL C.K H a xs) (q:R (Ite C.K a) H):kEn C R (.ref a) H:=.inl ⟨a,rfl,⟨xs,h⟩,q⟩
theorem at_iv_str {R:It->Hp->Prop} {z:Str} (q:R (Its z) H):kIv C R (.str z) H:=.inr (.inr ⟨z,rfl,q⟩)
theorem at_iv_lst {R:It->Hp->Prop} {a:Addr} {xs:List V} (h:SqL C.K H a xs) (q:R (Itl C.K a) H):kIv C R (.ref a) H:=.inl ⟨a,rfl,⟨xs,h⟩,q⟩
theorem at_iv_tup {R:It->Hp->Prop} {a:Addr} {xs:List V} (h:SqT C.K H a xs) (q:R (Itt C.K a) H):kIv C R (.ref a) H:=.inr (.inl ⟨a,rfl,⟨xs,h⟩,q⟩)
theorem at_r1 {R:It->Hp->Prop} {j:Int} (h0:-(2 ^ 62)<=j) (h1:j<2 ^ 62) (q:R (Itr 0 j.toNat) H):kR1 R (.int j) H:=⟨j,rfl,h0,h1,q⟩
theorem at_r2 {R:It->Hp->Prop} {i j:Int} (h0:-(2 ^ 62)<=i) (h1:i<2 ^ 62) (h2:-(2 ^ 62)<=j) (h3:j<2 ^ 62) (q:R (Itr i (j-i).toNat) H):kR2b R (.int i) (.int j) H:=⟨i,j,rfl,rfl,⟨h0,h1,h2,h3⟩,q⟩
theorem at_zipL {R:It->Hp->Prop} {a b:Addr} {xs ys:List V} (h:SqL C.K H a xs) (h2:SqL C.K H b ys) (q:R (Itz false C.K a b) H):kZ2 C R (.ref a) (.ref b) H:=⟨false,false,a,b,rfl,rfl,⟨xs,h⟩,⟨ys,h2⟩,q⟩
theorem at_zipT {R:It->Hp->Prop} {a b:Addr} {xs ys:List V} (h:SqT C.K H a xs) (h2:SqT C.K H b ys) (q:R (Itz true C.K a b) H):kZ2 C R (.ref a) (.ref b) H:=⟨true,true,a,b,rfl,rfl,⟨xs,h⟩,⟨ys,h2⟩,q⟩
theorem at_zipE {R:It->Hp->Prop} {k j:Bool} {a b:Addr} {xs ys:List V} (h:Sq k C.K H a xs) (h2:Sq j C.K H b ys) (q:R (Itz2 k j C.K a b) H):kZ2 C R (.ref a) (.ref b) H:=⟨k,j,a,b,rfl,rfl,⟨xs,h⟩,⟨ys,h2⟩,q⟩
theorem for_l {a:Addr} {xs:List V} {t:Ct} {b:Css} (Pv:Nat->L2.St->Hp->Prop) (h0:Pv 0 σ H) (hl:∀i σ H,i<=xs.length->Pv i σ H->SqL C.K H a xs)
  (hs:∀i x σ H,xs[i]?=some x->Pv i σ H->tG C t x σ H (tSs C b { D with nx:=Pv (i+1),ct:=Pv (i+1),bk:=D.nx })) (hd:∀σ H,Pv xs.length σ H->D.nx σ H):kFor C t b D σ (Itl C.K a) H:=for_list Pv h0 hl hs hd
theorem for_r {lo:Int} {n:Nat} {t:Ct} {b:Css} (Pv:Nat->L2.St->Hp->Prop) (h0:Pv 0 σ H)
  (hs:∀i σ H,i<n->Pv i σ H->tG C t (.int (lo+i)) σ H (tSs C b { D with nx:=Pv (i+1),ct:=Pv (i+1),bk:=D.nx })) (hd:∀σ H,Pv n σ H->D.nx σ H):kFor C t b D σ (Itr lo n) H:=for_range Pv h0 hs hd
theorem for_e {a:Addr} {xs:List V} {t:Ct} {b:Css} (Pv:Nat->L2.St->Hp->Prop) (h0:Pv 0 σ H) (hl:∀i σ H,i<=xs.length->Pv i σ H->SqL C.K H a xs)
  (hs:∀i x σ H p,xs[i]?=some x->H p=none->Pv i σ H->tG C t (.ref p) σ (upd H p (.tup [.int i,x])) (tSs C b { D with nx:=Pv (i+1),ct:=Pv (i+1),bk:=D.nx })) (hd:∀σ H,Pv xs.length σ H->D.nx σ H):kFor C t b D σ (Ite C.K a) H:=by
 refine⟨fun i m σ H=>m=xs.length-i/\i<=xs.length/\Pv i σ H,⟨xs.length,by simp,Nat.zero_le _,h0⟩,?_⟩
 rintro i m σ H ⟨rfl,hi,p⟩
 have q:=hl i σ H hi p
 by_cases hlt:i<xs.length
 .refine .inr ⟨⟨xs,xs[i],q,by simp[hlt]⟩,Pv (i+1),fun σ' H' p'=>⟨xs.length-(i+1),by omega,rfl,hlt,p'⟩,fun x H' y=>?_⟩
  obtain⟨ad,v,rfl,hn,y,rfl⟩:=y
  exact hs i v σ _ ad (y xs q) hn p
 .have e:i=xs.length:=by omega
  subst e
  exact .inl ⟨⟨xs,q,rfl⟩,hd σ H p⟩
noncomputable def kWhl (C:Rc) (b:Css) (D:Ends) (N:L2.St->Hp->Prop) (σ:L2.St):Bool->Hp->Prop:=fun c H1=>if c=true then ∃N':L2.St->Hp->Prop,(∀σ' H',N' σ' H'->N σ' H')/\tSs C b { D with nx:=N',ct:=N',bk:=D.nx } σ H1 else D.nx σ H1
theorem whl_by {q:Cq} {b:Css} (Pv:Nat->L2.St->Hp->Prop) (m:Nat) (h0:Pv m σ H) (hs:∀m σ H,Pv m σ H->tQ C q σ H (kWhl C b D (fun σ' H'=>∃m',m'<m/\Pv m' σ' H') σ)):tS C (.whl q b) D σ H:=⟨Pv,⟨m,h0⟩,hs⟩
theorem kWhl_t {b:Css} {N:L2.St->Hp->Prop} (h:tSs C b { D with nx:=N,ct:=N,bk:=D.nx } σ H):kWhl C b D N σ true H:=⟨N,fun _ _ q=>q,h⟩
theorem kWhl_f {b:Css} {N:L2.St->Hp->Prop} (h:D.nx σ H):kWhl C b D N σ false H:=by unfold kWhl;rw[if_neg (by decide)];exact h
noncomputable def kPush (xs:List V) (P:List V->Hp->Prop):VK:=fun v H=>xs.length<sizeLine/\P (xs++[v]) H
noncomputable def kCT (C:Rc) (elt:Ce) (xs:List V) (P:List V->Hp->Prop) (σ:L2.St):Bool->Hp->Prop:=fun ok H=>if ok=true then tE C elt σ H (kPush xs P)else P xs H
noncomputable def kCG (C:Rc) (elt:Ce) (q:Cqo) (xs:List V) (P:List V->Hp->Prop):L2.St->Hp->Prop:=fun σ H=>tQo C q σ H (kCT C elt xs P σ)
theorem kCG_n {elt:Ce} {xs:List V} {P:List V->Hp->Prop}:kCG C elt .none xs P σ H=tE C elt σ H (kPush xs P):=rfl
theorem kCG_q {elt:Ce} {q:Cq} {xs:List V} {P:List V->Hp->Prop}:kCG C elt (.some q) xs P σ H=tQ C q σ H (kCT C elt xs P σ):=rfl
theorem kCT_t {elt:Ce} {xs:List V} {P:List V->Hp->Prop}:kCT C elt xs P σ true H=tE C elt σ H (kPush xs P):=rfl
theorem kCT_f {elt:Ce} {xs:List V} {P:List V->Hp->Prop}:kCT C elt xs P σ false H=P xs H:=rfl
theorem kPush_at {xs:List V} {P:List V->Hp->Prop} {v:V}:kPush xs P v H=(xs.length<sizeLine/\P (xs++[v]) H):=rfl
def kNew (Q:VK) (xs:List V) (H2:Hp):Prop:=∀p,H2 p=none->Q (.ref p) (upd H2 p (.lst xs))
def kComp (C:Rc) (elt:Ce) (own:List Nat) (t:Ct) (q:Cqo) (σ:L2.St) (Q:VK) (J:It) (H1:Hp):Prop:=tClause own (tG C t) (tQo C q) (tEmit (tE C elt)) J σ [] H1 (kNew Q)
theorem tE_comp {elt:Ce} {own:List Nat} {t:Ct} {it:Ci} {q:Cqo}:tE C (.comp elt own t it q .nil) σ H Q=tI C it σ H (kComp C elt own t q σ Q):=rfl
theorem comp_by {elt:Ce} {own:List Nat} {t:Ct} {q:Cqo} {J:It} {n:Nat} (Pv:Nat->List V->Hp->Prop) (h0:Pv 0 [] H) (hgo:∀i xs H,i<n->Pv i xs H->J.go i H) (hstop:∀xs H,Pv n xs H->J.stop n H)
  (hs:∀i xs H x H' (R:List V->Hp->Prop),i<n->Pv i xs H->J.yld i H x H'->(∀ys H2,Pv (i+1) ys H2->R ys H2)->tG C t x (clr own σ) H' (kCG C elt q xs R)) (hd:∀xs H,Pv n xs H->kNew Q xs H):kComp C elt own t q σ Q J H:=by
 refine⟨fun i m xs H=>m=n-i/\i<=n/\Pv i xs H,⟨n,by simp,Nat.zero_le _,h0⟩,?_⟩
 rintro i m xs H ⟨rfl,hi,p⟩
 by_cases hlt:i<n
 .refine .inr ⟨hgo i xs H hlt p,fun x H' y=>?_⟩
  exact hs i xs H x H' (fun c H4=>∃m',m'<n-i/\(m'=n-(i+1)/\i+1<=n/\Pv (i+1) c H4)) hlt p y fun ys H2 p2=>⟨n-(i+1),by omega,rfl,hlt,p2⟩
 .have e:i=n:=by omega
  subst e
  exact .inl ⟨hstop xs H p,hd xs H p⟩
theorem comp_l {elt:Ce} {own:List Nat} {t:Ct} {q:Cqo} {a:Addr} {vs:List V} (Pv:Nat->List V->Hp->Prop) (h0:Pv 0 [] H) (hl:∀i xs H,Pv i xs H->SqL C.K H a vs)
  (hs:∀i xs H x (R:List V->Hp->Prop),vs[i]?=some x->Pv i xs H->(∀ys H2,Pv (i+1) ys H2->R ys H2)->tG C t x (clr own σ) H (kCG C elt q xs R)) (hd:∀xs H,Pv vs.length xs H->kNew Q xs H):kComp C elt own t q σ Q (Itl C.K a) H:=
 comp_by (n:=vs.length) Pv h0 (fun i xs H hi p=>⟨vs,vs[i],hl i xs H p,by simp[hi]⟩) (fun xs H p=>⟨vs,hl _ xs H p,Nat.le_refl _⟩) (fun i xs H x H' R hi p y k=>by
  obtain⟨e,y⟩:=y
  subst e
  exact hs i xs H' x R (y vs (hl i xs H' p)) p k) hd
theorem comp_t {elt:Ce} {own:List Nat} {t:Ct} {q:Cqo} {a:Addr} {vs:List V} (Pv:Nat->List V->Hp->Prop) (h0:Pv 0 [] H) (hl:∀i xs H,Pv i xs H->SqT C.K H a vs)
  (hs:∀i xs H x (R:List V->Hp->Prop),vs[i]?=some x->Pv i xs H->(∀ys H2,Pv (i+1) ys H2->R ys H2)->tG C t x (clr own σ) H (kCG C elt q xs R)) (hd:∀xs H,Pv vs.length xs H->kNew Q xs H):kComp C elt own t q σ Q (Itt C.K a) H:=
 comp_by (n:=vs.length) Pv h0 (fun i xs H hi p=>⟨vs,vs[i],hl i xs H p,by simp[hi]⟩) (fun xs H p=>⟨vs,hl _ xs H p,Nat.le_refl _⟩) (fun i xs H x H' R hi p y k=>by
  obtain⟨e,y⟩:=y
  subst e
  exact hs i xs H' x R (y vs (hl i xs H' p)) p k) hd
theorem comp_r {elt:Ce} {own:List Nat} {t:Ct} {q:Cqo} {lo:Int} {n:Nat} (Pv:Nat->List V->Hp->Prop) (h0:Pv 0 [] H)
  (hs:∀i xs H (R:List V->Hp->Prop),i<n->Pv i xs H->(∀ys H2,Pv (i+1) ys H2->R ys H2)->tG C t (.int (lo+i)) (clr own σ) H (kCG C elt q xs R)) (hd:∀xs H,Pv n xs H->kNew Q xs H):kComp C elt own t q σ Q (Itr lo n) H:=
 comp_by (n:=n) Pv h0 (fun i xs H hi p=>hi) (fun xs H p=>Nat.le_refl _) (fun i xs H x H' R hi p y k=>by
  obtain⟨e,rfl⟩:=y
  subst e
  exact hs i xs H' R hi p k) hd
theorem comp_z {elt:Ce} {own:List Nat} {t:Ct} {q:Cqo} {k j:Bool} {a b:Addr} {vs ws:List V} (hw:vs.length=ws.length) (Pv:Nat->List V->Hp->Prop) (h0:Pv 0 [] H) (hl:∀i xs H,Pv i xs H->Sq k C.K H a vs/\Sq j C.K H b ws)
  (hs:∀i xs H x y p (R:List V->Hp->Prop),vs[i]?=some x->ws[i]?=some y->H p=none->Pv i xs H->(∀ys H2,Pv (i+1) ys H2->R ys H2)->tG C t (.ref p) (clr own σ) (upd H p (.tup [x,y])) (kCG C elt q xs R)) (hd:∀xs H,Pv vs.length xs H->kNew Q xs H):kComp C elt own t q σ Q (Itz2 k j C.K a b) H:=
 comp_by (n:=vs.length) Pv h0 (fun i xs H hi p=>⟨vs,ws,vs[i],ws[i],(hl i xs H p).1,(hl i xs H p).2,by simp[hi],by simp[hw ▸ hi]⟩) (fun xs H p=>⟨vs,ws,(hl _ xs H p).1,(hl _ xs H p).2,.inl (Nat.le_refl _)⟩) (fun i xs H x H' R hi p y kk=>by
  obtain⟨ad,u,v,rfl,hn,y1,y2,rfl⟩:=y
  exact hs i xs H u v ad R (y1 vs (hl i xs H p).1) (y2 ws (hl i xs H p).2) hn p kk) hd
end
section
variable {C:Rc} {K:W.Frag} {σ:L2.St} {H:Hp} {Q:VK} {D:Ends} {Qb:Bool->Hp->Prop}
theorem call_e {f:Str} {es:Ces} {sp:Sp} (h:C.fs f=some sp) (q:tA C es σ H (kCall (some sp) (C.xk σ) Q)):tE C (.call f es) σ H Q:=by
 rw[tE_call h]
 exact q
theorem at_lenL {a:Addr} {xs:List V} (h:SqL K H a xs) (q:Q (.int xs.length) H):rBlt K .len [.ref a] H Q:=⟨_,_,rfl,.inl ⟨xs,h,rfl⟩,q⟩
theorem at_lenT {a:Addr} {xs:List V} (h:SqT K H a xs) (q:Q (.int xs.length) H):rBlt K .len [.ref a] H Q:=⟨_,_,rfl,.inr ⟨xs,h,rfl⟩,q⟩
theorem bl_abs {i:Int}:rBlt K .abs [.int i] H Q=Q (.int (if i<0 then -i else i)) H:=propext ⟨fun⟨u,e,q⟩=>by cases e;exact q,fun q=>⟨_,rfl,q⟩⟩
theorem bl_int_int {i:Int}:rBlt K .int [.int i] H Q=Q (.int i) H:=rfl
theorem bl_int_bl {k:Bool}:rBlt K .int [.bl k] H Q=Q (.int (if k then 1 else 0)) H:=rfl
theorem bl_int_tx {c:Bool}:rBlt K .int [.str (tx [c])] H Q=Q (.int (if c then 1 else 0)) H:=propext ⟨fun⟨n,e,_,q⟩=>by rw[tx_int]at e;cases e;exact q,fun q=>⟨_,tx_int,by rw[tx_len,List.length_singleton];decide,q⟩⟩
theorem bl_max2 {i j:Int}:rBlt K .max [.int i,.int j] H Q=Q (.int (if j > i then j else i)) H:=rfl
theorem bl_min2 {i j:Int}:rBlt K .min [.int i,.int j] H Q=Q (.int (if j<i then j else i)) H:=rfl
theorem at_max {a:Addr} {ns:List Int} (h:SqL K H a (ns.map V.int)) (hn:ns≠[]) (q:∀M,M∈ns->(∀b∈ns,b<=M)->Q (.int M) H):rBlt K .max [.ref a] H Q:=⟨a,ns,rfl,h,hn,fun M h1 h2=>q M h1 h2⟩
theorem at_all {a:Addr} {bs:List Bool} (h:SqL K H a (bs.map V.bl)) (q:Q (.bl (bs.all id)) H):rBlt K .all [.ref a] H Q:=⟨a,bs,rfl,h,q⟩
theorem at_isi {x:V} {T c:String} (h:tyName H x=some T) (hT:T∈tyKnown) (hc:c∈["bool","int","str","list","tuple","dict"]) (q:Q (.bl (isT T c)) H):rBlt K .isinstance [x,.ty c] H Q:=.inl (.inl ⟨x,T,c,rfl,h,hT,hc,q⟩)
theorem at_isi2 {x:V} {T c d:String} {p:Addr} (h:tyName H x=some T) (hT:T∈tyKnown) (hp:H p=some (.tup [.ty c,.ty d])) (hc:c∈["bool","int","str","list","tuple","dict"]) (hd:d∈["bool","int","str","list","tuple","dict"]) (q:Q (.bl (isT T c || isT T d)) H):rBlt K .isinstance [x,.ref p] H Q:=
 .inl <| .inr ⟨x,T,p,[c,d],rfl,h,hT,hp,fun e he=>by
  simp only[List.mem_cons,List.not_mem_nil,or_false]at he
  rcases he with rfl|rfl
  .exact hc
  .exact hd,by simpa using q⟩
theorem at_ixL {a:Addr} {xs:List V} {i:Int} {v:V} (h:SqL K H a xs) (e:atI xs i=some v) (q:Q v H):rIxL K (.ref a) (.int i) H Q\/rIxT K (.ref a) (.int i) H Q:=.inl ⟨a,xs,i,v,rfl,rfl,h,e,q⟩
theorem at_ixT {a:Addr} {xs:List V} {i:Int} {v:V} (h:SqT K H a xs) (e:atI xs i=some v) (q:Q v H):rIxL K (.ref a) (.int i) H Q\/rIxT K (.ref a) (.int i) H Q:=.inr ⟨a,xs,i,v,rfl,rfl,h,e,q⟩
theorem at_twoT {a:Addr} {u v:V} {k:Bool} (h:SqT K H a [u,v]) (q:Q (if k then v else u) H):rIxL K (.ref a) (.int (if k then 1 else 0)) H Q\/rIxT K (.ref a) (.int (if k then 1 else 0)) H Q:=by
 refine at_ixT h ?_ q
 cases k<;>rfl
theorem b_addtx {x y:List Bool}:rBin K .Add (.str (tx x)) (.str (tx y)) H Q=(x.length+y.length<=sizeLine/\Q (.str (tx (x++y))) H):=by
 rw[b_adds,tx_len,tx_len,tx_app]
theorem c_eqV {x y:V} (h:scal x y=true):rCmp K .Eq x y H Q=Q (.bl (decide (x=y))) H:=by
 have e:rCmp K .Eq x y H Q=rEq x y H Q:=by
  unfold rCmp
  dsimp only
  split
  .cases h
  .rfl
 rw[e]
 exact propext ⟨fun⟨_,q⟩=>q,fun q=>⟨h,q⟩⟩
theorem at_eqL {a b:Addr} {xs ys:List V} (h:SqL K H a xs) (h2:SqL K H b ys) (he:xs.length=ys.length->LEq xs ys) (q:Q (.bl (decide (xs=ys))) H):rCmp K .Eq (.ref a) (.ref b) H Q:=.inl ⟨a,b,xs,ys,rfl,rfl,h,h2,he,q⟩
theorem at_range1 {j:Int} (q:∀p,H p=none->Q (.ref p) (upd H p (.rng 0 j))):rBlt K .range [.int j] H Q:=⟨0,j,.inr ⟨rfl,rfl⟩,q⟩
theorem at_listR {r:Addr} {i j:Int} (h:H r=some (.rng i j)) (h1:-(2 ^ 62)<=i) (h2:i<2 ^ 62) (h3:-(2 ^ 62)<=j) (h4:j<2 ^ 62) (hz:(j-i).toNat<=sizeLine) (q:∀p,H p=none->Q (.ref p) (upd H p (.lst (rgs i (j-i).toNat)))):rBlt K .list [.ref r] H Q:=.inr ⟨r,i,j,rfl,h,⟨h1,h2,h3,h4⟩,hz,q⟩
theorem at_listL {a:Addr} {xs:List V} (h:SqL K H a xs) (q:∀p,H p=none->Q (.ref p) (upd H p (.lst xs))):rBlt K .list [.ref a] H Q:=.inl ⟨a,xs,rfl,.inl h,q⟩
theorem at_listT {a:Addr} {xs:List V} (h:SqT K H a xs) (q:∀p,H p=none->Q (.ref p) (upd H p (.lst xs))):rBlt K .list [.ref a] H Q:=.inl ⟨a,xs,rfl,.inr h,q⟩
theorem at_tupL {a:Addr} {xs:List V} (h:SqL K H a xs) (q:∀p,H p=none->Q (.ref p) (upd H p (.tup xs))):rBlt K .tuple [.ref a] H Q:=⟨a,xs,rfl,.inl ⟨h,q⟩⟩
theorem c_eqb {x y:Bool}:rCmp K .Eq (.bl x) (.bl y) H Q=Q (.bl (x == y)) H:=by
 rw[c_eqV rfl]
 cases x<;>cases y<;>rfl
theorem c_neb {x y:Bool}:rCmp K .NotEq (.bl x) (.bl y) H Q=Q (.bl (x != y)) H:=by
 have e:rCmp K .NotEq (.bl x) (.bl y) H Q=Q (.bl (!decide (V.bl x=V.bl y))) H:=propext ⟨fun⟨_,q⟩=>q,fun q=>⟨rfl,q⟩⟩
 rw[e]
 cases x<;>cases y<;>rfl
theorem c_is {x:V}:rCmp K .Is x .non H Q=Q (.bl (decide (x=.non))) H:=propext ⟨fun⟨_,q⟩=>q,fun q=>⟨rfl,q⟩⟩
theorem c_isnot {x:V}:rCmp K .IsNot x .non H Q=Q (.bl (!decide (x=.non))) H:=propext ⟨fun⟨_,q⟩=>q,fun q=>⟨rfl,q⟩⟩
noncomputable def kG (C:Rc) (t:Ct) (D:Ends) (σ:L2.St):VK:=fun v H=>tG C t v σ H D.nx
theorem s_asg {t:Ct} {e:Ce}:tS C (.asg t e) D σ H=tE C e σ H (kG C t D σ):=rfl
theorem kG_tup2 {i j:Nat} {a:Addr} {x y:V} (h:SqT C.K H a [x,y]) (q:D.nx ((σ.set i (some x)).set j (some y)) H):kG C (.tup (.cons (.name i) (.cons (.name j) .nil))) D σ (.ref a) H:=g_tup2 h q
theorem kG_tup3 {i j k:Nat} {a:Addr} {x y z:V} (h:SqT C.K H a [x,y,z]) (q:D.nx (((σ.set i (some x)).set j (some y)).set k (some z)) H):kG C (.tup (.cons (.name i) (.cons (.name j) (.cons (.name k) .nil)))) D σ (.ref a) H:=g_tup3 h q
theorem tE_cl0 {f:Str}:tE C (.cl0 f) σ H Q=tE C (.call f .nil) σ H Q:=rfl
theorem tE_gint {x:Str} {n:Int}:tE C (.gint x n) σ H Q=((∃t,W.nsIn C.K mainGlobals x=some (some (.int n t)))/\Q (.int n) H):=rfl
theorem at_app {a:Addr} {xs:List V} {y:V} (h:H a=some (.lst xs)) (hz:xs.length<sizeLine) (q:Q .non (upd H a (.lst (xs++[y])))):rMet K .append (.ref a) [y] H Q:=⟨a,xs,y,rfl,rfl,h,hz,q⟩
theorem tyL {a:Addr} {xs:List V} {m:Mf} (h:H a=some (.lst xs)) (hm:metTy m="list"):tyV K (metTy m) (.ref a) H:=.inl ⟨hm,xs,SqL.of h⟩
theorem at_cat {a b:Addr} {xs zs:List V} (h:H a=some (.lst xs)) (h2:H b=some (.lst zs)) (hz:xs.length+zs.length<=sizeLine) (q:∀p,H p=none->Q (.ref p) (upd H p (.lst (xs++zs)))):rBin K .Add (.ref a) (.ref b) H Q:=.inl ⟨a,b,xs,zs,rfl,rfl,h,h2,hz,q⟩
theorem same_new {H:Hp} {p:Addr} (h:H p=none) (o:HO):Same H (upd H p o):=fun b u q=>by rw[upd_ne (ne_of_none q h)];exact q
theorem lt_of_get {α:Type} {l:List α} {i:Nat} {c:α} (hc:l[i]?=some c):i<l.length:=by
 rcases Nat.lt_or_ge i l.length with h|h
 .exact h
 .rw[List.getElem?_eq_none_iff.mpr h]at hc;cases hc
noncomputable def kDx2 (x:V) (Q:VK):VK:=fun y H=>∃a v,x=.ref a/\DGet H a y (some v)/\Q v H
noncomputable def kDx1 (C:Rc) (σ:L2.St) (b:Ce) (Q:VK):VK:=fun x H=>tE C b σ H (kDx2 x Q)
theorem kDx1_at {b:Ce} {x:V}:kDx1 C σ b Q x H=tE C b σ H (kDx2 x Q):=rfl
end
end R3
namespace R3
open PySem PySem.Spec PyProof.Rows L2 PySem.Builtin PySem.Builtin.Str
section
variable {K:W.Frag} {H:Hp} {Q:VK}
end
section
variable {C:Rc} {K:W.Frag} {σ:L2.St} {H:Hp} {Q:VK} {D:Ends} {Qb:Bool->Hp->Prop} {i j:Int}
theorem b_shl:rBin K .LShift (.int i) (.int j) H Q=(CShl i j/\Q (.int (i*2 ^ j.toNat)) H):=propext ⟨fun⟨_,_,e,e',c,q⟩=>by cases e;cases e';exact⟨c,q⟩,fun q=>⟨_,_,rfl,rfl,q.1,q.2⟩⟩
theorem b_shr:rBin K .RShift (.int i) (.int j) H Q=(0<=j/\Q (.int (i / 2 ^ j.toNat)) H):=propext ⟨fun⟨_,_,e,e',c,q⟩=>by cases e;cases e';exact⟨c,q⟩,fun q=>⟨_,_,rfl,rfl,q.1,q.2⟩⟩
theorem m_bitlen:rMet K .bitlen (.int i) [] H Q=Q (.int (Builtin.Int.intBits i)) H:=propext ⟨fun⟨a,e1,e2,q⟩=>by cases e1;exact q,fun q=>⟨_,rfl,rfl,q⟩⟩
theorem at_truL {a:Addr} {xs:List V} (h:SqL C.K H a xs) (q:Qb (!xs.isEmpty) H):kTru C Qb (.ref a) H:=⟨_,.inl ⟨xs,h,rfl⟩,q⟩
theorem asg_via {i:Nat} {e:Ce} {r:Css} (h:∀K:VK,(∀v H',tSs C r D (σ.set i (some v)) H'->K v H')->tE C e σ H K):tSs C (.cons (.asg (.name i) e) r) D σ H:=h _ fun _ _ q=>q
theorem s_via {s:Cs} {r:Css} (h:∀N:L2.St->Hp->Prop,(∀σ' H',tSs C r D σ' H'->N σ' H')->tS C s { D with nx:=N } σ H):tSs C (.cons s r) D σ H:=h _ fun _ _ q=>q
noncomputable def kR3c (R:It->Hp->Prop) (x y:V):VK:=fun z H1=>∃i j c:Int,x=.int i/\y=.int j/\z=.int c/\(-(2 ^ 60)<=i/\i<2 ^ 60/\-(2 ^ 60)<=j/\j<2 ^ 60/\(0<c/\c<2 ^ 29\/c=-1))/\R (Itc i c (rStep i j c)) H1
noncomputable def kR3b (C:Rc) (σ:L2.St) (e:Ce) (R:It->Hp->Prop) (x:V):VK:=fun y H1=>tE C e σ H1 (kR3c R x y)
noncomputable def kR3a (C:Rc) (σ:L2.St) (e e':Ce) (R:It->Hp->Prop):VK:=fun x H1=>tE C e σ H1 (kR3b C σ e' R x)
theorem kR3a_at {e e':Ce} {R:It->Hp->Prop} {x:V}:kR3a C σ e e' R x H=tE C e σ H (kR3b C σ e' R x):=rfl
theorem kR3b_at {e:Ce} {R:It->Hp->Prop} {x y:V}:kR3b C σ e R x y H=tE C e σ H (kR3c R x y):=rfl
def kIn2 (C:Rc) (elt:Ce) (ws:List Nat) (t2:Ct) (q2:Cqo) (xs:List V) (P:List V->Hp->Prop) (σ:L2.St) (J:It) (H1:Hp):Prop:=tClause ws (tG C t2) (tQo C q2) (tEmit (tE C elt)) J σ xs H1 P
noncomputable def kCT2 (C:Rc) (elt:Ce) (ws:List Nat) (t2:Ct) (it2:Ci) (q2:Cqo) (xs:List V) (P:List V->Hp->Prop) (σ:L2.St):Bool->Hp->Prop:=fun ok H=>if ok=true then tI C it2 σ H (kIn2 C elt ws t2 q2 xs P σ)else P xs H
noncomputable def kCG2 (C:Rc) (elt:Ce) (q:Cqo) (ws:List Nat) (t2:Ct) (it2:Ci) (q2:Cqo) (xs:List V) (P:List V->Hp->Prop):L2.St->Hp->Prop:=fun σ H=>tQo C q σ H (kCT2 C elt ws t2 it2 q2 xs P σ)
theorem kCG2_n {elt:Ce} {ws:List Nat} {t2:Ct} {it2:Ci} {q2:Cqo} {xs:List V} {P:List V->Hp->Prop}:kCG2 C elt .none ws t2 it2 q2 xs P σ H=tI C it2 σ H (kIn2 C elt ws t2 q2 xs P σ):=rfl
theorem kCG2_q {elt:Ce} {q:Cq} {ws:List Nat} {t2:Ct} {it2:Ci} {q2:Cqo} {xs:List V} {P:List V->Hp->Prop}:kCG2 C elt (.some q) ws t2 it2 q2 xs P σ H=tQ C q σ H (kCT2 C elt ws t2 it2 q2 xs P σ):=rfl
theorem kCT2_t {elt:Ce} {ws:List Nat} {t2:Ct} {it2:Ci} {q2:Cqo} {xs:List V} {P:List V->Hp->Prop}:kCT2 C elt ws t2 it2 q2 xs P σ true H=tI C it2 σ H (kIn2 C elt ws t2 q2 xs P σ):=rfl
theorem kCT2_f {elt:Ce} {ws:List Nat} {t2:Ct} {it2:Ci} {q2:Cqo} {xs:List V} {P:List V->Hp->Prop}:kCT2 C elt ws t2 it2 q2 xs P σ false H=P xs H:=rfl
def kComp2 (C:Rc) (elt:Ce) (own:List Nat) (t:Ct) (q:Cqo) (ws:List Nat) (t2:Ct) (it2:Ci) (q2:Cqo) (σ:L2.St) (Q:VK) (J:It) (H1:Hp):Prop:=tClause own (tG C t) (tQo C q) (tNest (tI C it2) (tClause ws (tG C t2) (tQo C q2) (tEmit (tE C elt)))) J σ [] H1 (kNew Q)
theorem tE_comp2 {elt:Ce} {own:List Nat} {t:Ct} {it:Ci} {q:Cqo} {ws:List Nat} {t2:Ct} {it2:Ci} {q2:Cqo}:tE C (.comp elt own t it q (.cons ws t2 it2 q2 .nil)) σ H Q=tI C it σ H (kComp2 C elt own t q ws t2 it2 q2 σ Q):=rfl
theorem comp2_by {elt:Ce} {own:List Nat} {t:Ct} {q:Cqo} {ws:List Nat} {t2:Ct} {it2:Ci} {q2:Cqo} {J:It} {n:Nat} (Pv:Nat->List V->Hp->Prop) (h0:Pv 0 [] H) (hgo:∀i xs H,i<n->Pv i xs H->J.go i H) (hstop:∀xs H,Pv n xs H->J.stop n H)
  (hs:∀i xs H x H' (R:List V->Hp->Prop),i<n->Pv i xs H->J.yld i H x H'->(∀ys H2,Pv (i+1) ys H2->R ys H2)->tG C t x (clr own σ) H' (kCG2 C elt q ws t2 it2 q2 xs R)) (hd:∀xs H,Pv n xs H->kNew Q xs H):kComp2 C elt own t q ws t2 it2 q2 σ Q J H:=by
 refine⟨fun i m xs H=>m=n-i/\i<=n/\Pv i xs H,⟨n,by simp,Nat.zero_le _,h0⟩,?_⟩
 rintro i m xs H ⟨rfl,hi,p⟩
 by_cases hlt:i<n
 .refine .inr ⟨hgo i xs H hlt p,fun x H' y=>?_⟩
  exact hs i xs H x H' (fun c H4=>∃m',m'<n-i/\(m'=n-(i+1)/\i+1<=n/\Pv (i+1) c H4)) hlt p y fun ys H2 p2=>⟨n-(i+1),by omega,rfl,hlt,p2⟩
 .have e:i=n:=by omega
  subst e
  exact .inl ⟨hstop xs H p,hd xs H p⟩
theorem in2_by {elt:Ce} {ws:List Nat} {t2:Ct} {q2:Cqo} {xs:List V} {P:List V->Hp->Prop} {J:It} {n:Nat} (Pv:Nat->List V->Hp->Prop) (h0:Pv 0 xs H) (hgo:∀i xs H,i<n->Pv i xs H->J.go i H) (hstop:∀xs H,Pv n xs H->J.stop n H)
  (hs:∀i xs H x H' (R:List V->Hp->Prop),i<n->Pv i xs H->J.yld i H x H'->(∀ys H2,Pv (i+1) ys H2->R ys H2)->tG C t2 x (clr ws σ) H' (kCG C elt q2 xs R)) (hd:∀xs H,Pv n xs H->P xs H):kIn2 C elt ws t2 q2 xs P σ J H:=by
 refine⟨fun i m xs H=>m=n-i/\i<=n/\Pv i xs H,⟨n,by simp,Nat.zero_le _,h0⟩,?_⟩
 rintro i m xs H ⟨rfl,hi,p⟩
 by_cases hlt:i<n
 .refine .inr ⟨hgo i xs H hlt p,fun x H' y=>?_⟩
  exact hs i xs H x H' (fun c H4=>∃m',m'<n-i/\(m'=n-(i+1)/\i+1<=n/\Pv (i+1) c H4)) hlt p y fun ys H2 p2=>⟨n-(i+1),by omega,rfl,hlt,p2⟩
 .have e:i=n:=by omega
  subst e
  exact .inl ⟨hstop xs H p,hd xs H p⟩
theorem comp2_l {elt:Ce} {own:List Nat} {t:Ct} {q:Cqo} {ws:List Nat} {t2:Ct} {it2:Ci} {q2:Cqo} {a:Addr} {vs:List V} (Pv:Nat->List V->Hp->Prop) (h0:Pv 0 [] H) (hl:∀i xs H,Pv i xs H->SqL C.K H a vs)
  (hs:∀i xs H x (R:List V->Hp->Prop),vs[i]?=some x->Pv i xs H->(∀ys H2,Pv (i+1) ys H2->R ys H2)->tG C t x (clr own σ) H (kCG2 C elt q ws t2 it2 q2 xs R)) (hd:∀xs H,Pv vs.length xs H->kNew Q xs H):kComp2 C elt own t q ws t2 it2 q2 σ Q (Itl C.K a) H:=
 comp2_by (n:=vs.length) Pv h0 (fun i xs H hi p=>⟨vs,vs[i],hl i xs H p,by simp[hi]⟩) (fun xs H p=>⟨vs,hl _ xs H p,Nat.le_refl _⟩) (fun i xs H x H' R hi p y k=>by
  obtain⟨e,y⟩:=y
  subst e
  exact hs i xs H' x R (y vs (hl i xs H' p)) p k) hd
theorem in2_tx {elt:Ce} {ws:List Nat} {t2:Ct} {q2:Cqo} {xs:List V} {P:List V->Hp->Prop} {l:List Bool} (Pv:Nat->List V->Hp->Prop) (h0:Pv 0 xs H)
  (hs:∀i xs H c (R:List V->Hp->Prop),l[i]?=some c->Pv i xs H->(∀ys H2,Pv (i+1) ys H2->R ys H2)->tG C t2 (.str (tx [c])) (clr ws σ) H (kCG C elt q2 xs R)) (hd:∀xs H,Pv l.length xs H->P xs H):kIn2 C elt ws t2 q2 xs P σ (Its (tx l)) H:=
 in2_by (n:=l.length) Pv h0 (fun i xs H hi p=>by show i<(tx l).cps.size;rw[tx_size];exact hi) (fun xs H p=>by show(tx l).cps.size<=l.length;rw[tx_size];exact Nat.le_refl _) (fun i xs H x H' R hi p y k=>by
  obtain⟨e,c,hc,rfl⟩:=y
  subst e
  rw[tx_get,List.getElem?_eq_getElem hi]at hc
  cases hc
  exact hs i xs H' l[i] R (List.getElem?_eq_getElem hi) p k) hd
end
section
variable {C:Rc} {σ:L2.St} {H:Hp} {Q:VK} {D:Ends}
structure ClsG (C:Rc) (r:Str) (Cr:Addr) (L:List Str):Prop where
 own:C.cl r=some Cr
 e:∃Ce,C.cl "RunError"=some Ce/\W.exmOne C.K (.ref Cr) (.ref Ce)=some true
 ex:W.excIn C.K Cr bmV "ValueError.__new__"=true
 x:XCls C.K Cr
 kv:W.kitOne C.K (.ref Cr) (.type "ValueError")=some true
 k:∀c∈L,∃Cc,C.cl c=some Cc/\W.kitOne C.K (.ref Cr) (.ref Cc)=some (decide (c=r))
end
noncomputable def fsOf (l:List (Str×Sp)) (y:Str):Option Sp:=l.lookup y
theorem lookup_here {x:Str} {s:Sp} {l:List (Str×Sp)}:fsOf ((x,s) :: l) x=some s:=by unfold fsOf;simp
theorem lookup_skip {x y:Str} {s:Sp} {l:List (Str×Sp)} (h:(y == x)=false):fsOf ((x,s) :: l) y=fsOf l y:=by
 unfold fsOf
 rw[List.lookup_cons,h]
theorem lookup_mem {y:Str} {s:Sp}:∀{l:List (Str×Sp)},fsOf l y=some s->(y,s)∈l
 | [],h=>by cases h
 |(x,t) :: l,h=>by
  unfold fsOf at h
  rw[List.lookup_cons]at h
  cases e:y == x with
  |true=>
   rw[e]at h
   cases h
   rw[eq_of_beq e]
   exact List.mem_cons_self ..
  |false=>
   rw[e]at h
   exact List.mem_cons_of_mem _ (lookup_mem h)
theorem hfs_of {P:Program} {w:World} {K:W.Frag} {mg:Str->Option Value} {base:Heap} {k:Nat} {l:List (Str×Sp)} (h:∀p∈l,∃f' fd' ps',FnOk P w K mg base CX0 k f' fd' ps' p.2/\mg p.1=some (.ref f')/\W.keepIn K (.ref f')=true/\Binds K fd' ps' []):
  ∀y sp',fsOf l y=some sp'->∃f' fd' ps',FnOk P w K mg base CX0 k f' fd' ps' sp'/\mg y=some (.ref f')/\W.keepIn K (.ref f')=true/\Binds K fd' ps' []:=fun y sp' e=>h (y,sp') (lookup_mem e)
theorem code_ok0 {P:Program} {w:World} {K:W.Frag} {mg:Str->Option Value} {base:Heap} {x qual:Str} {st:Stmt} {f:Addr} {fd:FuncData} {ps:List Str} {k:Nat} {sp:Sp} (F:Fun K x qual st f fd) (C:Rc) (S:FnScope C.N ps (defScope st)) (hK:C.K=K) (code:Css) (hm:mSs C.N C.B (defScope st) code (defBody st)=true)
  (len:∀vs H Q E,sp vs H Q E->vs.length=ps.length)
  (hfs:∀y sp',C.fs y=some sp'->∃f' fd' ps',FnOk P w K mg base CX0 k f' fd' ps' sp'/\mg y=some (.ref f')/\W.keepIn K (.ref f')=true/\Binds K fd' ps' []) (hB:∀y∈C.B,mg y=none) (hmk:mg "~"=none/\mg "^"=none/\mg "%"=none) (nt:tld C.B=false) (nh:hat C.B=false) (hxk:C.xk=fun _=>E0) (hcl:C.cl=fun _=>none)
  (hbody:∀vs H Q E,sp vs H Q E->tSs C code { nx:=fun _ H'=>Q .non H',rt:=Q } (start C.N vs) H):FnOk P w K mg base CX0 (k+1) f fd ps sp:=
 code_ok F C S hK code hm len ⟨fun y sp' e=>by
  obtain⟨f',fd',ps',h1,h2⟩:=hfs y sp' e
  exact⟨f',fd',ps',.inl h1,h2⟩,hB,hmk,(fun c Ca e=>by rw[hcl]at e;cases e),nt,nh⟩ hxk hbody
theorem mC {α:Type} {P:α->Prop} {a:α} {l:List α} (h:P a/\∀x∈l,P x):∀x∈a :: l,P x:=List.forall_mem_cons.mpr h
theorem mN {α:Type} {P:α->Prop}:∀x∈([]:List α),P x:=fun y hy=>absurd hy List.not_mem_nil
theorem len0 {α:Type} {P:List α->Prop} (h:P []):∀us:List α,us.length=0->P us
 | [],_=>h
theorem len1 {α:Type} {P:List α->Prop} (h:∀x0,P [x0]):∀us:List α,us.length=1->P us
 | [x0],_=>h x0
theorem len2 {α:Type} {P:List α->Prop} (h:∀x0 x1,P [x0,x1]):∀us:List α,us.length=2->P us
 | [x0,x1],_=>h x0 x1
theorem len3 {α:Type} {P:List α->Prop} (h:∀x0 x1 x2,P [x0,x1,x2]):∀us:List α,us.length=3->P us
 | [x0,x1,x2],_=>h x0 x1 x2
theorem len4 {α:Type} {P:List α->Prop} (h:∀x0 x1 x2 x3,P [x0,x1,x2,x3]):∀us:List α,us.length=4->P us
 | [x0,x1,x2,x3],_=>h x0 x1 x2 x3
theorem len5 {α:Type} {P:List α->Prop} (h:∀x0 x1 x2 x3 x4,P [x0,x1,x2,x3,x4]):∀us:List α,us.length=5->P us
 | [x0,x1,x2,x3,x4],_=>h x0 x1 x2 x3 x4
noncomputable def kRestT {α:Type} (rest:TL α) (b:α) (P:α->Hp->Prop) (σ:L2.St):Bool->Hp->Prop:=fun ok H=>if ok=true then rest σ b H P else P b H
noncomputable def kRest {α:Type} (tc:TT) (rest:TL α) (b:α) (P:α->Hp->Prop):L2.St->Hp->Prop:=fun σ H=>tc σ H (kRestT rest b P σ)
def kCl {α:Type} (own:List Nat) (g:TG) (tc:TT) (rest:TL α) (σ:L2.St) (a:α) (N:α->Hp->Prop) (J:It) (H:Hp):Prop:=tClause own g tc rest J σ a H N
section
variable {C:Rc} {σ:L2.St} {H:Hp} {Q:VK} {D:Ends} {α:Type}
theorem kRest_n {rest:TL α} {b:α} {P:α->Hp->Prop}:kRest (tQo C .none) rest b P σ H=rest σ b H P:=rfl
theorem kRest_q {q:Cq} {rest:TL α} {b:α} {P:α->Hp->Prop}:kRest (tQo C (.some q)) rest b P σ H=tQ C q σ H (kRestT rest b P σ):=rfl
theorem kRestT_t {rest:TL α} {b:α} {P:α->Hp->Prop}:kRestT rest b P σ true H=rest σ b H P:=rfl
theorem kRestT_f {rest:TL α} {b:α} {P:α->Hp->Prop}:kRestT rest b P σ false H=P b H:=rfl
theorem cl_by {own:List Nat} {g:TG} {tc:TT} {rest:TL α} {J:It} {a:α} {N:α->Hp->Prop} {n:Nat} (Pv:Nat->α->Hp->Prop) (h0:Pv 0 a H) (hgo:∀i b H,i<n->Pv i b H->J.go i H) (hstop:∀b H,Pv n b H->J.stop n H)
  (hs:∀i b H x H' (R:α->Hp->Prop),i<n->Pv i b H->J.yld i H x H'->(∀c H2,Pv (i+1) c H2->R c H2)->g x (clr own σ) H' (kRest tc rest b R)) (hd:∀b H,Pv n b H->N b H):kCl own g tc rest σ a N J H:=by
 refine⟨fun i m b H=>m=n-i/\i<=n/\Pv i b H,⟨n,by simp,Nat.zero_le _,h0⟩,?_⟩
 rintro i m b H ⟨rfl,hi,p⟩
 by_cases hlt:i<n
 .refine .inr ⟨hgo i b H hlt p,fun x H' y=>?_⟩
  exact hs i b H x H' (fun c H4=>∃m',m'<n-i/\(m'=n-(i+1)/\i+1<=n/\Pv (i+1) c H4)) hlt p y fun ys H2 p2=>⟨n-(i+1),by omega,rfl,hlt,p2⟩
 .have e:i=n:=by omega
  subst e
  exact .inl ⟨hstop b H p,hd b H p⟩
theorem cl_l {own:List Nat} {g:TG} {tc:TT} {rest:TL α} {b0:α} {N:α->Hp->Prop} {a:Addr} {vs:List V} (Pv:Nat->α->Hp->Prop) (h0:Pv 0 b0 H) (hl:∀i b H,Pv i b H->SqL C.K H a vs)
  (hs:∀i b H x (R:α->Hp->Prop),vs[i]?=some x->Pv i b H->(∀c H2,Pv (i+1) c H2->R c H2)->g x (clr own σ) H (kRest tc rest b R)) (hd:∀b H,Pv vs.length b H->N b H):kCl own g tc rest σ b0 N (Itl C.K a) H:=
 cl_by (n:=vs.length) Pv h0 (fun i xs H hi p=>⟨vs,vs[i],hl i xs H p,by simp[hi]⟩) (fun xs H p=>⟨vs,hl _ xs H p,Nat.le_refl _⟩) (fun i xs H x H' R hi p y k=>by
  obtain⟨e,y⟩:=y
  subst e
  exact hs i xs H' x R (y vs (hl i xs H' p)) p k) hd
theorem cl_t {own:List Nat} {g:TG} {tc:TT} {rest:TL α} {b0:α} {N:α->Hp->Prop} {a:Addr} {vs:List V} (Pv:Nat->α->Hp->Prop) (h0:Pv 0 b0 H) (hl:∀i b H,Pv i b H->SqT C.K H a vs)
  (hs:∀i b H x (R:α->Hp->Prop),vs[i]?=some x->Pv i b H->(∀c H2,Pv (i+1) c H2->R c H2)->g x (clr own σ) H (kRest tc rest b R)) (hd:∀b H,Pv vs.length b H->N b H):kCl own g tc rest σ b0 N (Itt C.K a) H:=
 cl_by (n:=vs.length) Pv h0 (fun i xs H hi p=>⟨vs,vs[i],hl i xs H p,by simp[hi]⟩) (fun xs H p=>⟨vs,hl _ xs H p,Nat.le_refl _⟩) (fun i xs H x H' R hi p y k=>by
  obtain⟨e,y⟩:=y
  subst e
  exact hs i xs H' x R (y vs (hl i xs H' p)) p k) hd
theorem cl_e {own:List Nat} {g:TG} {tc:TT} {rest:TL α} {b0:α} {N:α->Hp->Prop} {a:Addr} {vs:List V} (Pv:Nat->α->Hp->Prop) (h0:Pv 0 b0 H) (hl:∀i b H,Pv i b H->SqL C.K H a vs)
  (hs:∀i b H x p (R:α->Hp->Prop),vs[i]?=some x->H p=none->Pv i b H->(∀c H2,Pv (i+1) c H2->R c H2)->g (.ref p) (clr own σ) (upd H p (.tup [.int i,x])) (kRest tc rest b R)) (hd:∀b H,Pv vs.length b H->N b H):kCl own g tc rest σ b0 N (Ite C.K a) H:=
 cl_by (n:=vs.length) Pv h0 (fun i xs H hi p=>⟨vs,vs[i],hl i xs H p,by simp[hi]⟩) (fun xs H p=>⟨vs,hl _ xs H p,rfl⟩) (fun i xs H x H' R hi p y k=>by
  obtain⟨ad,v,rfl,hn,y,rfl⟩:=y
  exact hs i xs H v ad R (y vs (hl i xs H p)) hn p k) hd
theorem cl_r {own:List Nat} {g:TG} {tc:TT} {rest:TL α} {b0:α} {N:α->Hp->Prop} {lo:Int} {n:Nat} (Pv:Nat->α->Hp->Prop) (h0:Pv 0 b0 H)
  (hs:∀i b H (R:α->Hp->Prop),i<n->Pv i b H->(∀c H2,Pv (i+1) c H2->R c H2)->g (.int (lo+i)) (clr own σ) H (kRest tc rest b R)) (hd:∀b H,Pv n b H->N b H):kCl own g tc rest σ b0 N (Itr lo n) H:=
 cl_by (n:=n) Pv h0 (fun i xs H hi p=>hi) (fun xs H p=>Nat.le_refl _) (fun i xs H x H' R hi p y k=>by
  obtain⟨e,rfl⟩:=y
  subst e
  exact hs i xs H' R hi p k) hd
theorem tE_compN {elt:Ce} {own:List Nat} {t:Ct} {it:Ci} {q:Cqo} {ws:List Nat} {t2:Ct} {it2:Ci} {q2:Cqo} {r:Cc}:tE C (.comp elt own t it q (.cons ws t2 it2 q2 r)) σ H Q=tI C it σ H (kCl own (tG C t) (tQo C q) (tR C (.cons ws t2 it2 q2 r) (tEmit (tE C elt))) σ [] (kNew Q)):=rfl
theorem tR_cons {ws:List Nat} {t:Ct} {it:Ci} {q:Cqo} {r:Cc} {em:TL (List V)} {b:List V} {P:List V->Hp->Prop}:tR C (.cons ws t it q r) em σ b H P=tI C it σ H (kCl ws (tG C t) (tQo C q) (tR C r em) σ b P):=rfl
theorem tR_nil {em:TL (List V)} {b:List V} {P:List V->Hp->Prop}:tR C .nil em σ b H P=em σ b H P:=rfl
theorem emit_at {elt:Ce} {b:List V} {P:List V->Hp->Prop}:tEmit (tE C elt) σ b H P=tE C elt σ H (kPush b P):=rfl
noncomputable def kAddS (b:(Option Int->Bool)×Nat) (P:(Option Int->Bool)×Nat->Hp->Prop):VK:=fun v H=>∃k,v=kO k/\b.2<4000/\P (fun j=>b.1 j || decide (j=k),b.2+1) H
theorem emitS_at {elt:Ce} {b:(Option Int->Bool)×Nat} {P:(Option Int->Bool)×Nat->Hp->Prop}:tEmitS (tE C elt) σ b H P=tE C elt σ H (kAddS b P):=rfl
theorem nest_at {it:Ci} {own:List Nat} {g:TG} {tc:TT} {rest:TL α} {b:α} {P:α->Hp->Prop}:tNest (tI C it) (tClause own g tc rest) σ b H P=tI C it σ H (kCl own g tc rest σ b P):=rfl
noncomputable def kSetD (i:Nat) (D:Ends) (σ:L2.St):(Option Int->Bool)×Nat->Hp->Prop:=fun a H2=>True/\∀p,H2 p=none->D.nx (σ.set i (some (.ref p))) (upd H2 p (SetO p a.1 a.2))
theorem s_setc2 {i:Nat} {elt:Ce} {own:List Nat} {t:Ct} {it:Ci} {q:Cqo} {ws:List Nat} {t2:Ct} {it2:Ci} {q2:Cqo}:tS C (.setc2 i elt own t it q ws t2 it2 q2) D σ H=tI C it σ H (kCl own (tG C t) (tQo C q) (tNest (tI C it2) (tClause ws (tG C t2) (tQo C q2) (tEmitS (tE C elt)))) σ (fun _=>false,0) (kSetD i D σ)):=rfl
theorem at_set {K:W.Frag} {a:Addr} {ns:List Int} (h:SqL K H a (ns.map V.int)) (hl:ns.length<=3999) (q:∀p,H p=none->Q (.ref p) (upd H p (SetO p (inL ns) ns.length))):rBlt K .set [.ref a] H Q:=⟨a,ns,rfl,h,hl,q⟩
noncomputable def kDctD (i:Nat) (D:Ends) (σ:L2.St):List (Key×V)->Hp->Prop:=fun a H2=>True/\∀p,H2 p=none->D.nx (σ.set i (some (.ref p))) (upd H2 p (.dK a))
noncomputable def kDctE (i:Nat) (D:Ends) (σ:L2.St):KTL->Hp->Prop:=fun a H2=>okT a H2/\∀p,H2 p=none->D.nx (σ.set i (some (.ref p))) (upd H2 p (.dT (plT a)))
theorem s_dctcK {i:Nat} {k v:Ce} {own:List Nat} {t:Ct} {it:Ci} {q:Cqo}:tS C (.dctc false i k v own t it q) D σ H=tI C it σ H (kCl own (tG C t) (tQo C q) (tEmitK (tE C k) (tE C v)) σ [] (kDctD i D σ)):=rfl
theorem s_dctcT {i:Nat} {k v:Ce} {own:List Nat} {t:Ct} {it:Ci} {q:Cqo}:tS C (.dctc true i k v own t it q) D σ H=tI C it σ H (kCl own (tG C t) (tQo C q) (tEmitT (tE C k) (tE C v)) σ [] (kDctE i D σ)):=rfl
noncomputable def kEK2 (a:List (Key×V)) (P:List (Key×V)->Hp->Prop) (y:V):VK:=fun v H2=>∃k,y=L2.kV k/\a.length<sizeLine/\P (putK a k v) H2
noncomputable def kEK1 (C:Rc) (σ:L2.St) (v:Ce) (a:List (Key×V)) (P:List (Key×V)->Hp->Prop):VK:=fun y H1=>tE C v σ H1 (kEK2 a P y)
theorem emitK_at {k v:Ce} {a:List (Key×V)} {P:List (Key×V)->Hp->Prop}:tEmitK (tE C k) (tE C v) σ a H P=tE C k σ H (kEK1 C σ v a P):=rfl
theorem kEK1_at {v:Ce} {a:List (Key×V)} {P:List (Key×V)->Hp->Prop} {y:V}:kEK1 C σ v a P y H=tE C v σ H (kEK2 a P y):=rfl
noncomputable def kET2 (a:KTL) (P:KTL->Hp->Prop) (y:V):VK:=fun v H2=>∃(k:List Key) (b:Addr),y=.ref b/\H2 b=some (.tup (k.map L2.kV))/\okT a H2/\(∀x∈a,x.1≠k)/\a.length<sizeLine/\P (a++[(k,b,v)]) H2
noncomputable def kET1 (C:Rc) (σ:L2.St) (v:Ce) (a:KTL) (P:KTL->Hp->Prop):VK:=fun y H1=>tE C v σ H1 (kET2 a P y)
theorem emitT_at {k v:Ce} {a:KTL} {P:KTL->Hp->Prop}:tEmitT (tE C k) (tE C v) σ a H P=tE C k σ H (kET1 C σ v a P):=rfl
theorem kET1_at {v:Ce} {a:KTL} {P:KTL->Hp->Prop} {y:V}:kET1 C σ v a P y H=tE C v σ H (kET2 a P y):=rfl
noncomputable def kInX2 (neg:Bool) (y:V) (Q:VK):VK:=fun x H2=>(∃a o,x=.ref a/\DGet H2 a y o/\Q (.bl (if neg then !o.isSome else o.isSome)) H2)\/rInO neg y x H2 Q
noncomputable def kInX1 (C:Rc) (σ:L2.St) (neg:Bool) (b:Ce) (Q:VK):VK:=fun y H1=>tE C b σ H1 (kInX2 neg y Q)
theorem tE_din {neg:Bool} {a b:Ce}:tE C (.din neg a b) σ H Q=tE C a σ H (kInX1 C σ neg b Q):=rfl
theorem tQ_din {neg:Bool} {a b:Ce} {Qb:Bool->Hp->Prop}:tQ C (.din neg a b) σ H Qb=tE C a σ H (kInX1 C σ neg b (kT Qb)):=rfl
theorem kInX1_at {neg:Bool} {b:Ce} {y:V}:kInX1 C σ neg b Q y H=tE C b σ H (kInX2 neg y Q):=rfl
theorem at_inO {neg:Bool} {k:Option Int} {y:V} {p:Addr} {S:Option Int->Bool} {n:Nat} (hy:y=kO k) (h:H p=some (SetO p S n)) (q:Q (.bl (if neg then !(S k)else S k)) H):kInX2 neg y Q (.ref p) H:=.inr ⟨k,p,S,n,hy,rfl,h,q⟩
noncomputable def kGet2 (a:Addr) (Q:VK):VK:=fun y H2=>(∃o,DGet H2 a y o/\Q (o.getD .non) H2)\/(y=.non/\NoN H2 a/\Q .non H2)
noncomputable def kGet1 (C:Rc) (σ:L2.St) (b:Ce) (Q:VK):VK:=fun x H1=>∃a,x=.ref a/\IsD H1 a/\tE C b σ H1 (kGet2 a Q)
theorem tE_dgt {a b:Ce}:tE C (.dgt a b) σ H Q=tE C a σ H (kGet1 C σ b Q):=rfl
noncomputable def kGetD3 (a:Addr) (y:V) (Q:VK):VK:=fun z H3=>∃o,DGet H3 a y o/\Q (o.getD z) H3
noncomputable def kGetD2 (C:Rc) (σ:L2.St) (c:Ce) (a:Addr) (Q:VK):VK:=fun y H2=>tE C c σ H2 (kGetD3 a y Q)
theorem kGetD2_at {c:Ce} {a:Addr} {y:V}:kGetD2 C σ c a Q y H=tE C c σ H (kGetD3 a y Q):=rfl
theorem at_get1 {b:Ce} {p:Addr} (h:IsD H p) (q:tE C b σ H (kGet2 p Q)):kGet1 C σ b Q (.ref p) H:=⟨p,rfl,h,q⟩
theorem at_get2 {p:Addr} {y:V} {o:Option V} (h:DGet H p y o) (q:Q (o.getD .non) H):kGet2 p Q y H:=.inl ⟨o,h,q⟩
theorem at_getN {p:Addr} (h:NoN H p) (q:Q .non H):kGet2 p Q .non H:=.inr ⟨rfl,h,q⟩
end
section
variable {C:Rc} {σ:L2.St} {H:Hp} {Q:VK} {Qb:Bool->Hp->Prop}
noncomputable def kW1 (C:Rc) (σ:L2.St) (k:Zf) (b:Ce) (Q:VK):VK:=fun x H=>tE C b σ H fun y H'=>rZf k x y H' Q
noncomputable def kW2 (k:Zf) (x:V) (Q:VK):VK:=fun y H=>rZf k x y H Q
theorem kW1_at {k:Zf} {b:Ce} {x:V}:kW1 C σ k b Q x H=tE C b σ H (kW2 k x Q):=rfl
theorem at_pop {K:W.Frag} {a:Addr} {xs:List V} {y:V} (h:H a=some (.lst (xs++[y]))) (q:Q y (upd H a (.lst xs))):rMet K .popL (.ref a) [] H Q:=⟨a,xs++[y],y,rfl,rfl,h,by simp,by simpa using q⟩
theorem at_anyI {K:W.Frag} {a:Addr} {ns:List Int} (h:SqL K H a (ns.map V.int)) (q:Q (.bl (ns.any fun n=>n != 0)) H):rBlt K .anyI [.ref a] H Q:=⟨a,ns,rfl,h,q⟩
theorem at_anyE {K:W.Frag} {a:Addr} {ns:List Int} (h:SqE K H a (ns.map V.int)) (q:Q (.bl (ns.any fun n=>n != 0)) H):rBlt K .anyE [.ref a] H Q:=⟨a,ns,rfl,h,q⟩
theorem at_minE {K:W.Frag} {a:Addr} {ns:List Int} (h:SqE K H a (ns.map V.int)) (hn:ns≠[]) (q:∀M,M∈ns->(∀b∈ns,M<=b)->Q (.int M) H):rBlt K .minE [.ref a] H Q:=⟨a,ns,rfl,h,hn,fun M h1 h2=>q M h1 h2⟩
section
variable {D:Ends}
noncomputable def kAg3 (x y z:V) (sub:Bool) (D:Ends) (σ:L2.St):VK:=fun w H4=>ipI (fun i j=>if sub then i-j else i+j) z w H4 fun u H5=>rSetL x y u H5 fun H6=>D.nx σ H6
noncomputable def kAg2 (C:Rc) (e:Ce) (sub:Bool) (x:V) (D:Ends) (σ:L2.St):VK:=fun y H2=>rIxL C.K x y H2 fun z H3=>tE C e σ H3 (kAg3 x y z sub D σ)
noncomputable def kAg1 (C:Rc) (i:Ce) (sub:Bool) (e:Ce) (D:Ends) (σ:L2.St):VK:=fun x H1=>tE C i σ H1 (kAg2 C e sub x D σ)
theorem s_augS {o i e:Ce} {sub:Bool}:tS C (.augS o i sub e) D σ H=tE C o σ H (kAg1 C i sub e D σ):=rfl
theorem kAg1_at {i e:Ce} {sub:Bool} {x:V}:kAg1 C i sub e D σ x H=tE C i σ H (kAg2 C e sub x D σ):=rfl
theorem at_ag {a:Addr} {xs:List V} {k:Int} {z:V} {e:Ce} {sub:Bool} (h:H a=some (.lst xs)) (hk:atI xs k=some z) (q:tE C e σ H (kAg3 (.ref a) (.int k) z sub D σ)):kAg2 C e sub (.ref a) D σ (.int k) H:=⟨a,xs,k,z,rfl,rfl,SqL.of h,hk,q⟩
theorem at_agS {a:Addr} {xs:List V} {k m n:Int} {j:Nat} {sub:Bool} (h:H a=some (.lst xs)) (hj:ixN xs.length k=some j) (q:D.nx σ (upd H a (.lst (xs.set j (.int (if sub then m-n else m+n)))))):kAg3 (.ref a) (.int k) (.int m) sub D σ (.int n) H:=⟨m,n,rfl,rfl,a,xs,k,j,rfl,rfl,h,hj,q⟩
noncomputable def kDp3 (x v:V) (D:Ends) (σ:L2.St):VK:=fun y H3=>∃a H4,x=.ref a/\DPut H3 a y v H4/\D.nx σ H4
noncomputable def kDp2 (C:Rc) (i:Ce) (v:V) (D:Ends) (σ:L2.St):VK:=fun x H2=>tE C i σ H2 (kDp3 x v D σ)
noncomputable def kDp1 (C:Rc) (o i:Ce) (D:Ends) (σ:L2.St):VK:=fun v H1=>tE C o σ H1 (kDp2 C i v D σ)
theorem kDp1_at {o i:Ce} {v:V}:kDp1 C o i D σ v H=tE C o σ H (kDp2 C i v D σ):=rfl
theorem kDp2_at {i:Ce} {v x:V}:kDp2 C i v D σ x H=tE C i σ H (kDp3 x v D σ):=rfl
end
end
noncomputable def All2 {α β:Type} (R:α->β->Prop):List α->List β->Prop
 | [],[]=>True
 |a :: as,b :: bs=>R a b/\All2 R as bs
 |_,_=>False
section
variable {α β:Type} {R S:α->β->Prop}
theorem All2.mono (h:∀a b,R a b->S a b):∀{as:List α} {bs:List β},All2 R as bs->All2 S as bs
 | [],[],_=>trivial
 |_ :: _,_ :: _,q=>⟨h _ _ q.1,All2.mono h q.2⟩
 | [],_ :: _,q=>q.elim
 |_ :: _,[],q=>q.elim
theorem All2.len:∀{as:List α} {bs:List β},All2 R as bs->as.length=bs.length
 | [],[],_=>rfl
 |_ :: _,_ :: _,q=>by simp[All2.len q.2]
 | [],_ :: _,q=>q.elim
 |_ :: _,[],q=>q.elim
theorem All2.app:∀{as cs:List α} {bs ds:List β},All2 R as bs->All2 R cs ds->All2 R (as++cs) (bs++ds)
 | [],_,[],_,_,q=>q
 |_ :: _,_,_ :: _,_,p,q=>⟨p.1,All2.app p.2 q⟩
 | [],_,_ :: _,_,p,_=>p.elim
 |_ :: _,_,[],_,p,_=>p.elim
theorem All2.snoc {a:α} {b:β} {as:List α} {bs:List β} (h:All2 R as bs) (r:R a b):All2 R (as++[a]) (bs++[b]):=h.app ⟨r,trivial⟩
theorem All2.get:∀{as:List α} {bs:List β} {i:Nat} {b:β},All2 R as bs->bs[i]?=some b->∃a,as[i]?=some a/\R a b
 | [],[],_,_,_,e=>by cases e
 |a :: _,_ :: _,0,_,q,e=>by cases e;exact⟨a,rfl,q.1⟩
 |_ :: as,_ :: bs,i+1,b,q,e=>by
  obtain⟨a,h1,h2⟩:=All2.get (i:=i) (b:=b) q.2 (by simpa using e)
  exact⟨a,by simpa using h1,h2⟩
 | [],_ :: _,_,_,q,_=>q.elim
 |_ :: _,[],_,_,q,_=>q.elim
theorem All2.getL:∀{as:List α} {bs:List β} {i:Nat} {a:α},All2 R as bs->as[i]?=some a->∃b,bs[i]?=some b/\R a b
 | [],[],_,_,_,e=>by cases e
 |_ :: _,b :: _,0,_,q,e=>by cases e;exact⟨b,rfl,q.1⟩
 |_ :: as,_ :: bs,i+1,a,q,e=>by
  obtain⟨b,h1,h2⟩:=All2.getL (i:=i) (a:=a) q.2 (by simpa using e)
  exact⟨b,by simpa using h1,h2⟩
 | [],_ :: _,_,_,q,_=>q.elim
 |_ :: _,[],_,_,q,_=>q.elim
end
end R3
namespace PySem
namespace Ts
open SetTable
noncomputable def u (x:Nat):Nat->Nat
 |0=>x
 |n+1=>5*u x n+1
end Ts
end PySem
namespace PySem
namespace Ts
open SetTable
noncomputable def nxt (m:Nat) (p:Probe):Probe:=if p.more > 0 then { p with j:=p.j+1,more:=p.more-1 } else
 { p with j:=(leap m p.i p.perturb).1,more:=runEnd m (leap m p.i p.perturb).1-(leap m p.i p.perturb).1,i:=(leap m p.i p.perturb).1,perturb:=(leap m p.i p.perturb).2 }
noncomputable def Pj (m:Nat) (h:Int):Nat->Probe
 |0=>{ j:=bits h % (m+1),more:=runEnd m (bits h % (m+1))-bits h % (m+1),i:=bits h % (m+1),perturb:=bits h,dummy:=none }
 |n+1=>nxt m (Pj m h n)
noncomputable def Lp (m:Nat) (h:Int):Nat->Nat×Nat
 |0=>(bits h % (m+1),bits h)
 |l+1=>leap m (Lp m h l).1 (Lp m h l).2
noncomputable def mo (m i:Nat):Nat:=runEnd m i-i
noncomputable def sg (m:Nat) (h:Int):Nat->Nat
 |0=>0
 |l+1=>sg m h l+mo m (Lp m h l).1+1
theorem least {P:Nat->Prop} {n:Nat} (h:P n):∃m,m<=n/\P m/\∀i,i<m->¬P i:=by
 induction n using Nat.strongRecOn with
 |ind n ih=>
  by_cases q:∃i,i<n/\P i
  .obtain⟨i,hi,pi⟩:=q
   obtain⟨m,h1,h2,h3⟩:=ih i hi pi
   exact⟨m,by omega,h2,h3⟩
  .exact⟨n,Nat.le_refl _,h,fun i hi pi=>q ⟨i,hi,pi⟩⟩
structure TabOk (t:SetTable) (es:Array (Int×Value)):Prop where
 rise:Rsn t.place
 le:∀p∈t.place.toList,p<=t.mask
 size:t.place.size=es.size
 dum:t.dummies=#[]
 pow:∃k,t.mask+1=2 ^ k
 room:t.place.size<=t.mask
 met:∀q∈t.place.toList.zip es.toList,∃n,(Pj t.mask q.2.1 n).j=q.1/\∀n',n'<n->(Pj t.mask q.2.1 n').j∈t.place.toList
end Ts
end PySem
section
open PySem PySem.Spec PyProof.Rows L2 R3
local macro_rules | `(tactic| walk_at "y") => `(tactic| try walk_at "sy")
set_option hygiene false in
local macro_rules | `(tactic| walk_at "sy") => `(tactic| simp only [kW1_at, kDp1_at, kDp2_at, s_augS, kAg1_at, tE_compN, tR_cons, tR_nil, emit_at, tE_din, tQ_din, kInX1_at, tE_dgt, kGetD2_at, s_setc2, s_dctcK, s_dctcT, emitS_at, nest_at, emitK_at, kEK1_at, emitT_at, kET1_at, kRest_n, kRest_q, kRestT_t, kRestT_f, tE_var, tE_int, tE_bl, tE_non, tE_str, tE_ty, tE_bin, kB1_at, kB2_at, tE_cmp, kC1_at, kC2_at, tE_idx, kI1_at, kI2_at, tE_neg, kNeg_int, kT_bl, tQ_cmp, tQ_not, kNotQ_at, tQ_and, tQ_or, kAndQ_t, kAndQ_f, kOrQ_t, kOrQ_f, b_shl, b_shr, m_bitlen, kR3a_at, kR3b_at, kCG2_n, kCG2_q, kCT2_t, kCT2_f, tE_comp2, b_add, b_addtx, b_sub, b_mul, b_muls, b_mod, b_div, b_pow, c_lt, c_le, c_gt, c_ge, c_eq, c_eqs, c_eqb, c_neb, kDx1_at, c_is, c_isnot, ix_ref, ss_nil, ss_cons, seq_nx, seq_rt, seq_bk, seq_ct, s_ret, s_expr, kDrop_at, s_set, kSet_at, s_sub, kSub1_at, kSub2_at, kSub3_at, s_if, kIf_t, kIf_f, kV_some, kA1_at, kA2_at, a_nil, a_cons, tE_tup, tE_lst, kTup_at, kLst_at, kCall_at, tE_blt, kBlt_at, tE_met, kMet1_at, kMet2_at, tE_ife, kIfe_t, kIfe_f, tE_not, kNotV_bl, tE_and, tE_or, kAndV_t, kAndV_f, kOrV_t, kOrV_f, tQ_val, kTru_bl, kCut1_at, kCut2_at, kCut3_at, o_none, o_some, sl_ref, kAug_int, kPar1_at, kPar2_at, bl_abs, bl_int_int, bl_int_bl, bl_int_tx, bl_max2, bl_min2, tx_01, tx_0, tx_1, tx_nil, s_for, i_val, i_range1', i_range2', kR2a_at, i_zip, kZ1_at, i_enum, g_name, tE_comp, kCG_n, kCG_q, kCT_t, kCT_f, kPush_at, clr, List.foldl_cons, List.foldl_nil, L2.start, List.map_cons, List.map_nil, List.length_cons, List.length_nil, List.cons_append, List.nil_append, List.replicate, Nat.reduceSub, Nat.reduceAdd, List.set_cons_zero, List.set_cons_succ, List.getElem?_cons_zero, List.getElem?_cons_succ, reduceCtorEq, decide_true, decide_false, eq_self, Bool.not_true, Bool.not_false, bne_self_eq_false, BEq.rfl])
namespace LW
open PySem PySem.Spec PyProof.Rows L2 R3
noncomputable def c_cell_at:Css:=(.cons (.ite (.cmp .Lt (.var 1) (.blt .len (.cons (.var 0) .nil))) (.cons (.ret (.idx (.var 0) (.var 1)))
  .nil) .nil)
  (.cons (.ret (.int 0))
  .nil))
noncomputable def c_box:Css:=(.cons (.asg (.name 2) (.call "_law_cell_at" (.cons (.var 0) (.cons (.var 1) .nil))))
  (.cons (.ret (.lst (.cons (.bin .Mult (.blt .abs (.cons (.var 2) .nil)) (.blt .int (.cons (.cmp .GtE (.blt .abs (.cons (.var 2) .nil)) (.bin .Pow (.int 10) (.int 18))) .nil))) (.cons (.bin .Add (.bin .Add (.bin .Mod (.var 2) (.int 2305843009213693951)) (.bin .Mult (.int 39373) (.var 1))) (.int 17)) (.cons (.int 0) .nil)))))
  .nil))
noncomputable def c_take:Css:=(.cons (.ite (.cmp .Gt (.idx (.var 0) (.int 0)) (.int 0)) (.cons (.asg (.name 2) (.bin .Mod (.idx (.var 0) (.int 0)) (.var 1)))
  (.cons (.asg (.sub (.var 0) (.int 0)) (.bin .FloorDiv (.idx (.var 0) (.int 0)) (.var 1)))
  (.cons (.ret (.var 2))
  .nil))) .nil)
  (.cons (.asg (.sub (.var 0) (.int 2)) (.bin .Add (.idx (.var 0) (.int 2)) (.int 1)))
  (.cons (.asg (.name 3) (.bin .Mod (.bin .Mult (.bin .Add (.idx (.var 0) (.int 1)) (.bin .Mult (.int 48271) (.idx (.var 0) (.int 2)))) (.bin .Add (.int 39373) (.idx (.var 0) (.int 2)))) (.int 2147483647)))
  (.cons (.asg (.name 4) (.bin .Mod (.bin .Mult (.bin .Add (.var 3) (.idx (.var 0) (.int 2))) (.bin .Add (.bin .Mod (.var 3) (.int 40009)) (.int 7))) (.int 2147483629)))
  (.cons (.ret (.bin .Mod (.bin .FloorDiv (.bin .Mod (.bin .Add (.bin .Mult (.var 4) (.int 48271)) (.var 3)) (.int 2147483587)) (.int 64)) (.var 1)))
  .nil)))))
noncomputable def c_same:Css:=(.cons (.ite (.val (.blt .isinstance (.cons (.var 1) (.cons (.tup (.cons (.ty "list") (.cons (.ty "tuple") .nil))) .nil)))) (.cons (.ite (.or (.cmp .NotEq (.blt .isinstance (.cons (.var 0) (.cons (.ty "list") .nil))) (.blt .isinstance (.cons (.var 1) (.cons (.ty "list") .nil)))) (.cmp .NotEq (.blt .isinstance (.cons (.var 0) (.cons (.ty "tuple") .nil))) (.blt .isinstance (.cons (.var 1) (.cons (.ty "tuple") .nil))))) (.cons (.ret (.bl false))
  .nil) .nil)
  (.cons (.ret (.and (.cmp .Eq (.blt .len (.cons (.var 0) .nil)) (.blt .len (.cons (.var 1) .nil))) (.blt .all (.cons (.comp (.call "_law_same" (.cons (.var 2) (.cons (.var 3) .nil))) [2,3] (.tup (.cons (.name 2) (.cons (.name 3) .nil))) (.zip (.var 0) (.var 1)) .none .nil) .nil))))
  .nil)) .nil)
  (.cons (.ite (.or (.cmp .Is (.var 1) .non) (.val (.blt .isinstance (.cons (.var 1) (.cons (.ty "str") .nil))))) (.cons (.ret (.and (.cmp .Eq (.var 0) (.var 1)) (.cmp .Eq (.blt .isinstance (.cons (.var 0) (.cons (.ty "str") .nil))) (.blt .isinstance (.cons (.var 1) (.cons (.ty "str") .nil))))))
  .nil) .nil)
  (.cons (.ite (.val (.blt .isinstance (.cons (.var 1) (.cons (.ty "bool") .nil)))) (.cons (.ret (.and (.blt .isinstance (.cons (.var 0) (.cons (.ty "bool") .nil))) (.cmp .Eq (.var 0) (.var 1))))
  .nil) .nil)
  (.cons (.ret (.and (.blt .isinstance (.cons (.var 0) (.cons (.ty "int") .nil))) (.and (.not (.blt .isinstance (.cons (.var 0) (.cons (.ty "bool") .nil)))) (.cmp .Eq (.var 0) (.var 1)))))
  .nil))))
def spCell (K:W.Frag):Sp:=fun vs H Q _=>∃(a:Addr) (ns:List Int) (k:Int),vs=[.ref a,.int k]/\SqL K H a (ns.map V.int)/\0<=k/\∀c:Int,Q (.int c) H
theorem atI_ints {ns:List Int} {k:Int} (h0:0<=k) (h1:k<ns.length):∃c:Int,atI (ns.map V.int) k=some (.int c):=by
 obtain⟨j,rfl⟩:=Int.eq_ofNat_of_zero_le h0
 have hk:j<ns.length:=by omega
 exact⟨ns[j],atI_nat (by rw[List.getElem?_map,List.getElem?_eq_getElem hk];rfl)⟩
theorem body_cell {C:Rc} (hN:C.N.length=2):∀vs H Q E,spCell C.K vs H Q E->tSs C c_cell_at { nx:=fun _ H'=>Q .non H',rt:=Q } (L2.start C.N vs) H:=by
 intro vs H Q E h
 obtain⟨a,ns,k,rfl,hs,hk,q⟩:=h
 rw[start_eq hN]
 unfold c_cell_at
 walk_at "y"
 refine at_lenL hs ?_
 rw[List.length_map]
 walk_at "y"
 refine by_dec (fun c=>?_) fun _=>?_
 .obtain⟨v,hv⟩:=atI_ints hk c
  walk_at "y"
  exact at_ixL hs hv (q v)
 .walk_at "y"
  exact q 0
def spBox0 (K:W.Frag):Sp:=fun vs H Q _=>∃(a:Addr) (ns:List Int) (k:Int),vs=[.ref a,.int k]/\SqL K H a (ns.map V.int)/\0<=k/\k<=1000/\∀(p:Addr) (x y:Int),H p=none->0<=x->0<=y->y<2 ^ 62->Q (.ref p) (upd H p (BoxL x y 0))
theorem body_box {C:Rc} (hN:C.N.length=3) (hf:C.fs "_law_cell_at"=some (spCell C.K)):∀vs H Q E,spBox0 C.K vs H Q E->tSs C c_box { nx:=fun _ H'=>Q .non H',rt:=Q } (L2.start C.N vs) H:=by
 intro vs H Q E h
 obtain⟨a,ns,k,rfl,hs,hk,hk2,q⟩:=h
 rw[start_eq hN]
 unfold c_box
 walk_at "y"
 refine call_e hf ?_
 walk_at "y"
 refine⟨a,ns,k,rfl,hs,hk,fun c=>?_⟩
 walk_at "y"
 have hm0:0<=c % 2305843009213693951:=Int.emod_nonneg _ (by decide)
 have hm1:c % 2305843009213693951<2305843009213693951:=Int.emod_lt_of_pos _ (by decide)
 refine⟨⟨by decide,by decide,by decide⟩,?_,by decide,.inl ⟨by decide,by decide⟩,by decide,fun p hp=>q p _ _ hp ?_ ?_ ?_⟩
 .refine .inr (.inl ⟨?_,?_⟩)<;>split<;>split<;>decide
 .split<;>split<;>omega
 .omega
 .omega
section
variable {K:W.Frag} {H:Hp} {b:Addr} {x y z:Int} {Q:VK}
theorem ix0 (h:H b=some (BoxL x y z)) (q:Q (.int x) H):rIxL K (.ref b) (.int 0) H Q\/rIxT K (.ref b) (.int 0) H Q:=.inl ⟨b,_,0,_,rfl,rfl,SqL.of h,rfl,q⟩
theorem ix1 (h:H b=some (BoxL x y z)) (q:Q (.int y) H):rIxL K (.ref b) (.int 1) H Q\/rIxT K (.ref b) (.int 1) H Q:=.inl ⟨b,_,1,_,rfl,rfl,SqL.of h,rfl,q⟩
theorem ix2 (h:H b=some (BoxL x y z)) (q:Q (.int z) H):rIxL K (.ref b) (.int 2) H Q\/rIxT K (.ref b) (.int 2) H Q:=.inl ⟨b,_,2,_,rfl,rfl,SqL.of h,rfl,q⟩
theorem st0 {u:Int} {Q:Hp->Prop} (h:H b=some (BoxL x y z)) (q:Q (upd H b (BoxL u y z))):rSetL (.ref b) (.int 0) (.int u) H Q:=⟨b,_,0,0,rfl,rfl,h,rfl,q⟩
theorem st2 {u:Int} {Q:Hp->Prop} (h:H b=some (BoxL x y z)) (q:Q (upd H b (BoxL x y u))):rSetL (.ref b) (.int 2) (.int u) H Q:=⟨b,_,2,2,rfl,rfl,h,rfl,q⟩
end
def spTake0:Sp:=fun vs H Q _=>∃(b:Addr) (x y z m:Int),vs=[.ref b,.int m]/\H b=some (BoxL x y z)/\0<=x/\0<=y/\y<2 ^ 62/\0<=z/\z<=2 ^ 40/\0<m/\m<4611686018427387904/\
 ∀(r x' z':Int),0<=r->r<m->0<=x'->0<=z'->z'<=z+1->Q (.int r) (upd H b (BoxL x' y z'))
theorem body_take {C:Rc} (hN:C.N.length=5):∀vs H Q E,spTake0 vs H Q E->tSs C c_take { nx:=fun _ H'=>Q .non H',rt:=Q } (L2.start C.N vs) H:=by
 intro vs H Q E h
 obtain⟨b,x,y,z,m,rfl,hb,hx,hy,hy2,hz,hz2,hm,hm2,q⟩:=h
 rw[start_eq hN]
 unfold c_take
 walk_at "sy"
 refine ix0 hb ?_
 walk_at "sy"
 refine by_dec (fun c=>?_) fun _=>?_
 .walk_at "sy"
  refine ix0 hb ?_
  walk_at "sy"
  refine⟨hm,?_⟩
  refine ix0 hb ?_
  walk_at "sy"
  refine⟨⟨hm,.inr (Nat.lt_of_lt_of_le ((Nat.log2_lt (by omega)).mpr (show m.natAbs<2 ^ 62 by omega)) (by decide))⟩,st0 hb ?_⟩
  walk_at "sy"
  exact q _ _ _ (Int.emod_nonneg _ (by omega)) (Int.emod_lt_of_pos _ hm) (Int.ediv_nonneg hx (by omega)) hz (by omega)
 .walk_at "sy"
  refine ix2 hb ?_
  walk_at "sy"
  refine st2 hb ?_
  have hb':upd H b (BoxL x y (z+1)) b=some (BoxL x y (z+1)):=upd_same
  walk_at "sy"
  refine ix1 hb' ?_
  walk_at "sy"
  refine ix2 hb' ?_
  walk_at "sy"
  refine⟨.inl ⟨by decide,by decide⟩,?_⟩
  refine ix2 hb' ?_
  walk_at "sy"
  refine⟨.inr (.inl ⟨by omega,by omega⟩),by decide,?_⟩
  refine ix2 hb' ?_
  walk_at "sy"
  generalize (y+48271*(z+1))*(39373+(z+1)) % 2147483647=once
  have ho0:0<=once % 40009:=Int.emod_nonneg _ (by decide)
  have ho1:once % 40009<40009:=Int.emod_lt_of_pos _ (by decide)
  refine⟨by decide,.inr (.inl ⟨by omega,by omega⟩),by decide,.inr (.inl ⟨by decide,by decide⟩),by decide,⟨by decide,by decide⟩,hm,?_⟩
  exact q _ _ _ (Int.emod_nonneg _ (by omega)) (Int.emod_lt_of_pos _ hm) hx (by omega) (by omega)
def spTake:Sp:=fun vs H Q _=>∃(b:Addr) (n:Nat) (m:Int),vs=[.ref b,.int m]/\H b=some (BoxO b n)/\n<=2 ^ 40/\0<m/\m<4611686018427387904/\∀(r:Int) (H':Hp),0<=r->r<m->Go 1 H H'->Q (.int r) H'
theorem take_fn {P:Program} {w:World} {K:W.Frag} {mg:Str->Option Value} {base:Heap} {k:Nat} {f:Addr} {fd:FuncData} {ps:List Str} (hp:ps.length=2) (F:FnOk P w K mg base CX0 k f fd ps spTake0):FnOk P w K mg base CX0 k f fd ps spTake:=by
 refine open_fn (shut_fn (sp':=fun vs H Q E=>spTake0 vs H (Shut Q) E) F fun _ _ _ _ h=>h) (fun vs H Q E h=>?_) fun vs H Q E h=>?_
 .obtain⟨b,n,m,rfl,hb,hn,hm,hm2,q⟩:=h
  refine⟨b,n,hb,fun x y z hx hy hy2 hz hzn=>⟨b,x,y,z,m,rfl,upd_same,hx,hy,hy2,hz,by omega,hm,hm2,fun r x' z' h1 h2 h3 h4 h5=>?_⟩⟩
  refine⟨b,x',y,z',n+1,upd_same,h3,hy,hy2,h4,by omega,?_⟩
  refine q r _ h1 h2 ?_
  rw[upd_upd]
  exact Go.draw hb (Nat.le_refl _) _
 .obtain⟨b,n,m,rfl,_⟩:=h
  rw[hp]
  rfl
def spBox (K:W.Frag):Sp:=fun vs H Q _=>∃(a:Addr) (ns:List Int) (k:Int),vs=[.ref a,.int k]/\SqL K H a (ns.map V.int)/\0<=k/\k<=1000/\∀(p:Addr),H p=none->Q (.ref p) (upd H p (BoxO p 0))
theorem box_fn {P:Program} {w:World} {K:W.Frag} {mg:Str->Option Value} {base:Heap} {k:Nat} {f:Addr} {fd:FuncData} {ps:List Str} (F:FnOk P w K mg base CX0 k f fd ps (spBox0 K)):FnOk P w K mg base CX0 k f fd ps (spBox K):=by
 refine shut_fn F fun vs H Q E h=>?_
 obtain⟨a,ns,k,rfl,hs,h0,h1,q⟩:=h
 refine⟨a,ns,k,rfl,hs,h0,h1,fun p x y hp hx hy hy2=>⟨p,x,y,0,0,upd_same,hx,hy,hy2,by omega,by omega,?_⟩⟩
 rw[upd_upd]
 exact q p hp
theorem _root_.R3.Go.boxed {c n:Nat} {H H':Hp} {b:Addr} (g:Go c H H') (h:H b=some (BoxO b n)) (hn:n+c<=2 ^ 40):∃m,H' b=some (BoxO b m)/\m<=n+c/\m<=2 ^ 40:=by
 obtain⟨m,hm,e⟩:=g.box b n h
 exact⟨m,e,hm,by omega⟩
noncomputable def Sc:V->Bool
 | .non=>true
 | .bl _=>true
 | .int _=>true
 | .str _=>true
 |_=>false
noncomputable def Eqv (H:Hp):Nat->V->V->Prop
 |0,v,w=>v=w/\Sc v=true
 |n+1,v,w=>(v=w/\Sc v=true)\/∃a b xs ys,v=.ref a/\w=.ref b/\((H a=some (.lst xs)/\H b=some (.lst ys))\/(H a=some (.tup xs)/\H b=some (.tup ys)))/\xs.length<=sizeLine/\xs.length=ys.length/\∀(i:Nat) x y,xs[i]?=some x->ys[i]?=some y->Eqv H n x y
theorem Eqv.mono {H H':Hp} (s:Same H H'):∀{n:Nat} {v w:V},Eqv H n v w->Eqv H' n v w
 |0,_,_,h=>h
 |n+1,v,w,h=>by
  rcases h with h|⟨a,b,xs,ys,rfl,rfl,hab,hz,hl,he⟩
  .exact .inl h
  .refine .inr ⟨a,b,xs,ys,rfl,rfl,?_,hz,hl,fun i x y h1 h2=>Eqv.mono s (he i x y h1 h2)⟩
   rcases hab with⟨h1,h2⟩|⟨h1,h2⟩
   .exact .inl ⟨s _ _ h1,s _ _ h2⟩
   .exact .inr ⟨s _ _ h1,s _ _ h2⟩
theorem Eqv.int {H:Hp} {n:Nat} {i:Int}:Eqv H n (.int i) (.int i):=by
 cases n
 .exact⟨rfl,rfl⟩
 .exact .inl ⟨rfl,rfl⟩
def spSame (n:Nat):Sp:=fun vs H Q _=>∃v w,vs=[v,w]/\Eqv H n v w/\∀H',Same H H'->Q (.bl true) H'
section
variable {K:W.Frag} {H:Hp} {Q:VK}
theorem isi1 {x:V} {T c:String} {k:Bool} (h:tyName H x=some T) (hk:isT T c=k) (hT:T∈tyKnown) (hc:c∈["bool","int","str","list","tuple","dict"]) (q:Q (.bl k) H):rBlt K .isinstance [x,.ty c] H Q:=at_isi h hT hc (by rw[hk];exact q)
theorem isi2 {x:V} {T c d:String} {p:Addr} {k:Bool} (h:tyName H x=some T) (hp:H p=some (.tup [.ty c,.ty d])) (hk:(isT T c || isT T d)=k) (hT:T∈tyKnown) (hc:c∈["bool","int","str","list","tuple","dict"]) (hd:d∈["bool","int","str","list","tuple","dict"]) (q:Q (.bl k) H):rBlt K .isinstance [x,.ref p] H Q:=at_isi2 h hT hp hc hd (by rw[hk];exact q)
theorem eq_self_at {x:V} (h:scal x x=true) (q:Q (.bl true) H):rCmp K .Eq x x H Q:=by
 rw[c_eqV h,decide_eq_true rfl]
 exact q
end
theorem body_same {C:Rc} {n:Nat} (hN:C.N.length=4) (hS:∀m,n=m+1->C.fs "_law_same"=some (spSame m)):∀vs H Q E,spSame n vs H Q E->tSs C c_same { nx:=fun _ H'=>Q .non H',rt:=Q } (L2.start C.N vs) H:=by
 intro vs H Q E h
 obtain⟨v,w,rfl,he,q⟩:=h
 rw[start_eq hN]
 unfold c_same
 have hcase:(v=w/\Sc v=true)\/∃m a b xs ys,n=m+1/\v=.ref a/\w=.ref b/\((H a=some (.lst xs)/\H b=some (.lst ys))\/(H a=some (.tup xs)/\H b=some (.tup ys)))/\xs.length<=sizeLine/\xs.length=ys.length/\∀(i:Nat) x y,xs[i]?=some x->ys[i]?=some y->Eqv H m x y:=by
  cases n with
  |zero=>exact .inl he
  |succ m=>
   rcases he with h|⟨a,b,xs,ys,h⟩
   .exact .inl h
   .exact .inr ⟨m,a,b,xs,ys,rfl,h⟩
 walk_at "sy"
 refine⟨by decide,fun p hp=>?_⟩
 have sp:=same_new hp (.tup [.ty "list",.ty "tuple"])
 have hpp:upd H p (.tup [.ty "list",.ty "tuple"]) p=some (.tup [.ty "list",.ty "tuple"]):=upd_same
 generalize upd H p (.tup [.ty "list",.ty "tuple"])=H1 at sp hpp ⊢
 rcases hcase with⟨rfl,hsc⟩|⟨m,a,b,xs,ys,rfl,rfl,rfl,hab,hz,hl,hel⟩
 .cases v with
  |byt _=>cases hsc
  |flt _=>cases hsc
  |ref _=>cases hsc
  |ty _=>cases hsc
  |non=>
   refine isi2 (T:="NoneType") rfl hpp (k:=false) rfl (by decide) (by decide) (by decide) ?_
   walk_at "sy"
   refine eq_self_at rfl ?_
   walk_at "sy"
   refine isi1 (T:="NoneType") rfl (k:=false) rfl (by decide) (by decide) ?_
   walk_at "sy"
   refine isi1 (T:="NoneType") rfl (k:=false) rfl (by decide) (by decide) ?_
   walk_at "sy"
   exact q H1 sp
  |bl c=>
   refine isi2 (T:="bool") rfl hpp (k:=false) rfl (by decide) (by decide) (by decide) ?_
   walk_at "sy"
   refine isi1 (T:="bool") rfl (k:=false) rfl (by decide) (by decide) ?_
   walk_at "sy"
   refine isi1 (T:="bool") rfl (k:=true) rfl (by decide) (by decide) ?_
   walk_at "sy"
   refine isi1 (T:="bool") rfl (k:=true) rfl (by decide) (by decide) ?_
   walk_at "sy"
   exact q H1 sp
  |int i=>
   refine isi2 (T:="int") rfl hpp (k:=false) rfl (by decide) (by decide) (by decide) ?_
   walk_at "sy"
   refine isi1 (T:="int") rfl (k:=false) rfl (by decide) (by decide) ?_
   walk_at "sy"
   refine isi1 (T:="int") rfl (k:=false) rfl (by decide) (by decide) ?_
   walk_at "sy"
   refine isi1 (T:="int") rfl (k:=true) rfl (by decide) (by decide) ?_
   walk_at "sy"
   refine isi1 (T:="int") rfl (k:=false) rfl (by decide) (by decide) ?_
   walk_at "sy"
   exact q H1 sp
  |str x=>
   refine isi2 (T:="str") rfl hpp (k:=false) rfl (by decide) (by decide) (by decide) ?_
   walk_at "sy"
   refine isi1 (T:="str") rfl (k:=true) rfl (by decide) (by decide) ?_
   walk_at "sy"
   refine isi1 (T:="str") rfl (k:=true) rfl (by decide) (by decide) ?_
   walk_at "sy"
   refine isi1 (T:="str") rfl (k:=true) rfl (by decide) (by decide) ?_
   walk_at "sy"
   exact q H1 sp
 .have fin:∀(J:Bool),(Sq J C.K H1 a xs/\Sq J C.K H1 b ys)->(∀H',Same H1 H'->Sq J C.K H' a xs/\Sq J C.K H' b ys) ->
    kComp C (.call "_law_same" (.cons (.var 2) (.cons (.var 3) .nil))) [2,3] (.tup (.cons (.name 2) (.cons (.name 3) .nil))) .none [some (.ref a),some (.ref b),none,none] (kA1 C [some (.ref a),some (.ref b),none,none] .nil (kBlt C .all Q)) (Itz J C.K a b) H1:=by
   intro J h0 hk
   refine comp_z hl (fun i zs H'=>zs=List.replicate i (.bl true)/\Same H1 H') ⟨rfl,Same.refl _⟩ (fun i zs H' p=>hk H' p.2) ?_ ?_
   .rintro i zs H' x y p R hx hy hp' ⟨rfl,s⟩ hR
    refine g_tup2 (SqT.of upd_same) ?_
    walk_at "sy"
    refine call_e (hS m rfl) ?_
    walk_at "sy"
    have s2:=s.trans (same_new hp' (.tup [x,y]))
    refine⟨x,y,rfl,(hel i x y hx hy).mono (sp.trans s2),fun H2 s3=>?_⟩
    walk_at "sy"
    have hi:i<xs.length:=by
     rcases Nat.lt_or_ge i xs.length with h|h
     .exact h
     .rw[List.getElem?_eq_none_iff.mpr h]at hx;cases hx
    refine⟨by rw[List.length_replicate];omega,hR _ _ ⟨?_,s2.trans s3⟩⟩
    rw[List.replicate_succ',List.append_cancel_left_eq]
   .rintro zs H' ⟨rfl,s⟩ p hp'
    walk_at "sy"
    have e:List.replicate xs.length (V.bl true)=(List.replicate xs.length true).map V.bl:=by simp
    refine at_all (bs:=List.replicate xs.length true) (SqL.of (by rw[<- e];exact upd_same)) ?_
    rw[show(List.replicate xs.length true).all id=true by simp]
    exact q _ ((sp.trans s).trans (same_new hp' _))
  rcases hab with⟨ha,hb⟩|⟨ha,hb⟩
  .have ha1:=sp _ _ ha
   have hb1:=sp _ _ hb
   have ta:tyName H1 (.ref a)=some "list":=by simp only[tyName,ha1]
   have tb:tyName H1 (.ref b)=some "list":=by simp only[tyName,hb1]
   refine isi2 tb hpp (k:=true) rfl (by decide) (by decide) (by decide) ?_
   walk_at "sy"
   refine isi1 ta (k:=true) rfl (by decide) (by decide) ?_
   walk_at "sy"
   refine isi1 tb (k:=true) rfl (by decide) (by decide) ?_
   walk_at "sy"
   refine isi1 ta (k:=false) rfl (by decide) (by decide) ?_
   walk_at "sy"
   refine isi1 tb (k:=false) rfl (by decide) (by decide) ?_
   walk_at "sy"
   refine at_lenL (SqL.of ha1) ?_
   walk_at "sy"
   refine at_lenL (SqL.of hb1) ?_
   rw[hl]
   walk_at "sy"
   exact at_zipL (SqL.of ha1) (SqL.of hb1) (fin false ⟨SqL.of ha1,SqL.of hb1⟩ fun H' s=>⟨SqL.of (s _ _ ha1),SqL.of (s _ _ hb1)⟩)
  .have ha1:=sp _ _ ha
   have hb1:=sp _ _ hb
   have ta:tyName H1 (.ref a)=some "tuple":=by simp only[tyName,ha1]
   have tb:tyName H1 (.ref b)=some "tuple":=by simp only[tyName,hb1]
   refine isi2 tb hpp (k:=true) rfl (by decide) (by decide) (by decide) ?_
   walk_at "sy"
   refine isi1 ta (k:=false) rfl (by decide) (by decide) ?_
   walk_at "sy"
   refine isi1 tb (k:=false) rfl (by decide) (by decide) ?_
   walk_at "sy"
   refine isi1 ta (k:=true) rfl (by decide) (by decide) ?_
   walk_at "sy"
   refine isi1 tb (k:=true) rfl (by decide) (by decide) ?_
   walk_at "sy"
   refine at_lenT (SqT.of ha1) ?_
   walk_at "sy"
   refine at_lenT (SqT.of hb1) ?_
   rw[hl]
   walk_at "sy"
   exact at_zipT (SqT.of ha1) (SqT.of hb1) (fin true ⟨SqT.of ha1,SqT.of hb1⟩ fun H' s=>⟨SqT.of (s _ _ ha1),SqT.of (s _ _ hb1)⟩)
end LW
namespace LW
open PySem PySem.Spec PyProof.Rows L2 R3
noncomputable abbrev Rm:=Option Nat×Option Nat
noncomputable def oV:Option Nat->V
 |none=>.non
 |some n=>.int n
def Tp (H H':Hp):Prop:=∀a xs,H a=some (.tup xs)->H' a=some (.tup xs)
theorem _root_.R3.Go.tp {c:Nat} {H H':Hp} (g:Go c H H'):Tp H H':=fun a xs h=>g.tup h
theorem tp_same {H H':Hp} (s:Same H H'):Tp H H':=fun a xs h=>s _ _ h
def IsRoom (H:Hp) (v:V) (r:Rm):Prop:=∃p,v=.ref p/\H p=some (.tup [oV r.1,oV r.2])
theorem IsRoom.mono {H H':Hp} {v:V} {r:Rm} (t:Tp H H') (h:IsRoom H v r):IsRoom H' v r:=by
 obtain⟨p,e,h⟩:=h
 exact⟨p,e,t _ _ h⟩
noncomputable def Rooms (H:Hp):List V->List Rm->Prop
 | [],[]=>True
 |v :: vs,r :: rs=>IsRoom H v r/\Rooms H vs rs
 |_,_=>False
theorem Rooms.mono {H H':Hp} (t:Tp H H'):∀{vs:List V} {M:List Rm},Rooms H vs M->Rooms H' vs M
 | [],[],_=>trivial
 |v :: vs,r :: rs,h=>⟨h.1.mono t,Rooms.mono t h.2⟩
 | [],_ :: _,h=>h.elim
 |_ :: _,[],h=>h.elim
theorem Rooms.len {H:Hp}:∀{vs:List V} {M:List Rm},Rooms H vs M->vs.length=M.length
 | [],[],_=>rfl
 |v :: vs,r :: rs,h=>by simp[Rooms.len h.2]
 | [],_ :: _,h=>h.elim
 |_ :: _,[],h=>h.elim
theorem Rooms.snoc {H:Hp} {v:V} {r:Rm} (hr:IsRoom H v r):∀{vs:List V} {M:List Rm},Rooms H vs M->Rooms H (vs++[v]) (M++[r])
 | [],[],_=>⟨hr,trivial⟩
 |v :: vs,r :: rs,h=>⟨h.1,Rooms.snoc hr h.2⟩
 | [],_ :: _,h=>h.elim
 |_ :: _,[],h=>h.elim
theorem Rooms.get {H:Hp}:∀{vs:List V} {M:List Rm} {i:Nat} {r:Rm},Rooms H vs M->M[i]?=some r->∃p,vs[i]?=some (.ref p)/\H p=some (.tup [oV r.1,oV r.2])
 | [],[],i,r,_,e=>by cases e
 |v :: vs,r :: rs,0,r',h,e=>by
  cases e
  obtain⟨p,rfl,hp⟩:=h.1
  exact⟨p,rfl,hp⟩
 |v :: vs,r :: rs,i+1,r',h,e=>Rooms.get (i:=i) h.2 (by simpa using e)
 | [],_ :: _,_,_,h,_=>h.elim
 |_ :: _,[],_,_,h,_=>h.elim
def IsM (H:Hp) (a:Addr) (M:List Rm):Prop:=∃vs,H a=some (.tup vs)/\Rooms H vs M
theorem IsM.mono {H H':Hp} {a:Addr} {M:List Rm} (t:Tp H H') (h:IsM H a M):IsM H' a M:=by
 obtain⟨vs,h1,h2⟩:=h
 exact⟨vs,t _ _ h1,h2.mono t⟩
def OkR (N:Nat) (r:Rm):Prop:=(∀n,r.1=some n->n<N)/\∀n,r.2=some n->n<N
def OkM (M:List Rm):Prop:=∀r∈M,OkR M.length r
theorem at_rep {K:W.Frag} {H:Hp} {Q:VK} {a:Addr} {xs:List V} {k:Nat} (h:H a=some (.lst xs)) (hk:k<=1000) (hz:xs.length*k<=sizeLine) (q:∀p,H p=none->Q (.ref p) (upd H p (.lst (List.replicate k xs).flatten))):rBin K .Mult (.ref a) (.int k) H Q:=by
 refine⟨a,k,xs,rfl,rfl,h,by omega,by omega,by simpa using hz,fun p hp=>?_⟩
 rw[Int.toNat_natCast]
 exact q p hp
noncomputable def nV (n:Nat):V:=.int n
end LW
namespace SR
open PySem PySem.Spec PyProof.Rows L2 R3 LW
section
variable {K:W.Frag} {H:Hp} {Q:VK}
end
theorem small16 {n:Nat} (h:n<=1000):n<=sizeLine:=Nat.le_of_lt (small1000 h)
noncomputable def tn (l:List Bool) (n:Nat):List Bool:=(l.take n).map (!·)++l.drop n
end SR
namespace CK
open PySem PySem.Spec PyProof.Rows L2 R3 LW SR
noncomputable def c_p_is_number:Css:=(.cons (.ret (.and (.blt .isinstance (.cons (.var 0) (.cons (.ty "int") .nil))) (.not (.blt .isinstance (.cons (.var 0) (.cons (.ty "bool") .nil))))))
  .nil)
noncomputable def c_p_is_within:Css:=(.cons (.ret (.and (.call "is_number" (.cons (.var 0) .nil)) (.chn .LtE .LtE (.var 1) (.var 0) (.var 2))))
  .nil)
noncomputable def c_p_is_pair:Css:=(.cons (.ret (.and (.blt .isinstance (.cons (.var 0) (.cons (.ty "tuple") .nil))) (.cmp .Eq (.blt .len (.cons (.var 0) .nil)) (.int 2))))
  .nil)
noncomputable def c_p_is_listed:Css:=(.cons (.ret (.blt .isinstance (.cons (.var 0) (.cons (.tup (.cons (.ty "list") (.cons (.ty "tuple") .nil))) .nil))))
  .nil)
noncomputable def c_p_are_numbers:Css:=(.cons (.ret (.and (.call "is_listed" (.cons (.var 0) .nil)) (.and (.cmp .Eq (.blt .len (.cons (.var 0) .nil)) (.var 1)) (.blt .all (.cons (.comp (.call "is_number" (.cons (.var 2) .nil)) [2] (.name 2) (.val (.var 0)) .none .nil) .nil)))))
  .nil)
noncomputable def c_p_is_lead:Css:=(.cons (.ret (.or (.cmp .Is (.var 0) .non) (.call "is_within" (.cons (.var 0) (.cons (.int 0) (.cons (.bin .Sub (.var 1) (.int 1)) .nil))))))
  .nil)
noncomputable def c_p_is_room:Css:=(.cons (.ret (.and (.call "is_pair" (.cons (.var 0) .nil)) (.and (.call "is_lead" (.cons (.idx (.var 0) (.int 0)) (.cons (.var 1) .nil))) (.call "is_lead" (.cons (.idx (.var 0) (.int 1)) (.cons (.var 1) .nil))))))
  .nil)
noncomputable def c_p_is_machine:Css:=(.cons (.ite (.not (.val (.blt .isinstance (.cons (.var 0) (.cons (.ty "tuple") .nil))))) (.cons (.ret (.bl false))
  .nil) .nil)
  (.cons (.ret (.blt .all (.cons (.comp (.call "is_room" (.cons (.var 1) (.cons (.blt .len (.cons (.var 0) .nil)) .nil))) [1] (.name 1) (.val (.var 0)) .none .nil) .nil)))
  .nil))
theorem ty_same {H H':Hp} (s:Same H H') {v:V} {T:String} (h:tyName H v=some T):tyName H' v=some T:=by
 cases v with
 |ref a=>
  simp only[tyName]at h ⊢
  cases e:H a with
  |none=>rw[e]at h;cases h
  |some o=>rw[e]at h;rw[s _ _ e];exact h
 |_=>exact h
def Val (H:Hp) (v:V):Prop:=(∃i,v=.int i)\/((∀i,v≠.int i)/\∃T∈["NoneType","bool","str","list","tuple"],tyName H v=some T)
theorem Val.mono {H H':Hp} (s:Same H H') {v:V} (h:Val H v):Val H' v:=by
 rcases h with h|⟨h0,T,hT,h⟩
 .exact .inl h
 .exact .inr ⟨h0,T,hT,ty_same s h⟩
noncomputable def isN:V->Bool
 | .int _=>true
 |_=>false
theorem isN_no {v:V} (h:∀i,v≠.int i):isN v=false:=by
 cases v with
 |int i=>exact absurd rfl (h i)
 |_=>rfl
def spIsNum:Sp:=fun vs H Q _=>∃v,vs=[v]/\Val H v/\Q (.bl (isN v)) H
theorem body_isnum {C:Rc} (hN:C.N.length=1):∀vs H Q E,spIsNum vs H Q E->tSs C c_p_is_number { nx:=fun _ H'=>Q .non H',rt:=Q } (L2.start C.N vs) H:=by
 intro vs H Q E h
 obtain⟨v,rfl,hv,q⟩:=h
 rw[start_eq hN]
 unfold c_p_is_number
 walk_at "y"
 rcases hv with⟨i,rfl⟩|⟨h0,T,hT,hv⟩
 .refine isi1 (T:="int") rfl (k:=true) rfl (by decide) (by decide) ?_
  walk_at "y"
  refine isi1 (T:="int") rfl (k:=false) rfl (by decide) (by decide) ?_
  walk_at "y"
  exact q
 .rw[isN_no h0]at q
  simp only[List.mem_cons,List.not_mem_nil,or_false]at hT
  rcases hT with rfl|rfl|rfl|rfl|rfl
  .refine isi1 hv (k:=false) rfl (by decide) (by decide) ?_
   walk_at "y"
   exact q
  .refine isi1 hv (k:=true) rfl (by decide) (by decide) ?_
   walk_at "y"
   refine isi1 hv (k:=true) rfl (by decide) (by decide) ?_
   walk_at "y"
   exact q
  .refine isi1 hv (k:=false) rfl (by decide) (by decide) ?_
   walk_at "y"
   exact q
  .refine isi1 hv (k:=false) rfl (by decide) (by decide) ?_
   walk_at "y"
   exact q
  .refine isi1 hv (k:=false) rfl (by decide) (by decide) ?_
   walk_at "y"
   exact q
def spWithin:Sp:=fun vs H Q _=>∃(i lo hi:Int),vs=[.int i,.int lo,.int hi]/\lo<=i/\i<=hi/\Q (.bl true) H
def spPair:Sp:=fun vs H Q _=>∃p x y,vs=[.ref p]/\H p=some (.tup [x,y])/\Q (.bl true) H
theorem body_pair {C:Rc} (hN:C.N.length=1):∀vs H Q E,spPair vs H Q E->tSs C c_p_is_pair { nx:=fun _ H'=>Q .non H',rt:=Q } (L2.start C.N vs) H:=by
 intro vs H Q E h
 obtain⟨p,x,y,rfl,hp,q⟩:=h
 rw[start_eq hN]
 unfold c_p_is_pair
 walk_at "y"
 refine isi1 (T:="tuple") (by simp only[tyName,hp]) (k:=true) rfl (by decide) (by decide) ?_
 walk_at "y"
 refine at_lenT (SqT.of hp) ?_
 walk_at "y"
 exact q
def spLead:Sp:=fun vs H Q _=>∃(o:Option Nat) (N:Nat),vs=[oV o,.int N]/\(∀x,o=some x->x<N)/\Q (.bl true) H
def spRoom:Sp:=fun vs H Q _=>∃(p:Addr) (r:Rm) (N:Nat),vs=[.ref p,.int N]/\H p=some (.tup [oV r.1,oV r.2])/\OkR N r/\Q (.bl true) H
theorem body_room {C:Rc} (hN:C.N.length=2) (hP:C.fs "is_pair"=some spPair) (hL:C.fs "is_lead"=some spLead):∀vs H Q E,spRoom vs H Q E->tSs C c_p_is_room { nx:=fun _ H'=>Q .non H',rt:=Q } (L2.start C.N vs) H:=by
 intro vs H Q E h
 obtain⟨p,r,N,rfl,hp,hr,q⟩:=h
 rw[start_eq hN]
 unfold c_p_is_room
 walk_at "y"
 refine call_e hP ?_
 walk_at "y"
 refine⟨p,_,_,rfl,hp,?_⟩
 walk_at "y"
 refine call_e hL ?_
 walk_at "y"
 refine at_ixT (SqT.of hp) (v:=oV r.1) rfl ?_
 walk_at "y"
 refine⟨r.1,N,rfl,hr.1,?_⟩
 walk_at "y"
 refine call_e hL ?_
 walk_at "y"
 refine at_ixT (SqT.of hp) (v:=oV r.2) rfl ?_
 walk_at "y"
 refine⟨r.2,N,rfl,hr.2,?_⟩
 walk_at "y"
 exact q
def spIsM:Sp:=fun vs H Q _=>∃(a:Addr) (M:List Rm),vs=[.ref a]/\IsM H a M/\OkM M/\M.length<=500/\∀H',Same H H'->Q (.bl true) H'
theorem body_isM {C:Rc} (hN:C.N.length=2) (hR:C.fs "is_room"=some spRoom):∀vs H Q E,spIsM vs H Q E->tSs C c_p_is_machine { nx:=fun _ H'=>Q .non H',rt:=Q } (L2.start C.N vs) H:=by
 intro vs H Q E h
 obtain⟨a,M,rfl,hM,hO,hl,q⟩:=h
 obtain⟨mv,hmv,hmr⟩:=id hM
 have hml:=hmr.len
 rw[start_eq hN]
 unfold c_p_is_machine
 walk_at "y"
 refine isi1 (T:="tuple") (by simp only[tyName,hmv]) (k:=true) rfl (by decide) (by decide) ?_
 walk_at "y"
 refine at_iv_tup (SqT.of hmv) (comp_t (vs:=mv) (fun i xs H'=>xs=(List.replicate i true).map V.bl/\i<=M.length/\H'=H) ⟨rfl,Nat.zero_le _,rfl⟩ (fun i xs H' pv=>SqT.of (by rw[pv.2.2];exact hmv)) ?_ ?_)
 .rintro i xs H' x R hx ⟨rfl,hi,rfl⟩ hR'
  have hi':i<M.length:=by rw[<- hml];exact lt_of_get hx
  obtain⟨pr,epr,hpr⟩:=hmr.get (List.getElem?_eq_getElem hi')
  rw[hx]at epr
  cases epr
  walk_at "y"
  refine call_e hR ?_
  walk_at "y"
  refine at_lenT (SqT.of hmv) ?_
  walk_at "y"
  refine⟨pr,M[i],M.length,by rw[hml],hpr,hO _ (List.getElem_mem hi'),?_⟩
  walk_at "y"
  refine⟨by rw[List.length_map,List.length_replicate];exact small1000 (by omega),hR' _ _ ⟨?_,by omega,rfl⟩⟩
  rw[List.replicate_succ',List.map_append]
  rfl
 .rintro xs H' ⟨rfl,_,rfl⟩ p hp
  walk_at "y"
  refine at_all (SqL.of upd_same) ?_
  have e:(List.replicate mv.length true).all id=true:=by simp
  rw[e]
  exact q _ (same_new hp _)
def Lt (H:Hp) (a:Addr) (vs:List V):Prop:=H a=some (.lst vs)\/H a=some (.tup vs)
theorem Lt.mono {H H':Hp} (s:Same H H') {a:Addr} {vs:List V} (h:Lt H a vs):Lt H' a vs:=by
 rcases h with h|h
 .exact .inl (s _ _ h)
 .exact .inr (s _ _ h)
theorem iv_lt {C:Rc} {elt:Ce} {own:List Nat} {t:Ct} {q:Cqo} {σ:L2.St} {H:Hp} {Q:VK} {a:Addr} {vs:List V} (hk:Lt H a vs) (Pv:Nat->List V->Hp->Prop) (h0:Pv 0 [] H) (hl:∀i xs H',Pv i xs H'->Same H H')
  (hs:∀i xs H x (R:List V->Hp->Prop),vs[i]?=some x->Pv i xs H->(∀ys H2,Pv (i+1) ys H2->R ys H2)->tG C t x (clr own σ) H (kCG C elt q xs R)) (hd:∀xs H,Pv vs.length xs H->kNew Q xs H):kIv C (kComp C elt own t q σ Q) (.ref a) H:=by
 rcases hk with hk|hk
 .exact at_iv_lst (SqL.of hk) (comp_l Pv h0 (fun i xs H' p=>SqL.of (hl i xs H' p _ _ hk)) hs hd)
 .exact at_iv_tup (SqT.of hk) (comp_t Pv h0 (fun i xs H' p=>SqT.of (hl i xs H' p _ _ hk)) hs hd)
theorem len_lt {K:W.Frag} {H:Hp} {Q:VK} {a:Addr} {vs:List V} (hk:Lt H a vs) (q:Q (.int vs.length) H):rBlt K .len [.ref a] H Q:=by
 rcases hk with hk|hk
 .exact at_lenL (SqL.of hk) q
 .exact at_lenT (SqT.of hk) q
theorem list_lt {K:W.Frag} {H:Hp} {Q:VK} {a:Addr} {vs:List V} (hk:Lt H a vs) (q:∀p,H p=none->Q (.ref p) (upd H p (.lst vs))):rBlt K .list [.ref a] H Q:=by
 rcases hk with hk|hk
 .exact at_listL (SqL.of hk) q
 .exact at_listT (SqT.of hk) q
theorem Lt.ty {H:Hp} {a:Addr} {vs:List V} (hk:Lt H a vs):∃T,tyName H (.ref a)=some T/\(T="list"\/T="tuple"):=by
 rcases hk with hk|hk
 .exact⟨"list",by simp only[tyName,hk],.inl rfl⟩
 .exact⟨"tuple",by simp only[tyName,hk],.inr rfl⟩
noncomputable def Tl (H:Hp) (v:V):Option (List V)->Prop
 |some vs=>∃a,v=.ref a/\Lt H a vs/\(∀x∈vs,Val H x)/\vs.length<=61
 |none=>∃T∈["NoneType","bool","int","str"],tyName H v=some T
theorem Tl.mono {H H':Hp} (s:Same H H') {v:V} {o:Option (List V)} (h:Tl H v o):Tl H' v o:=by
 cases o with
 |none=>
  obtain⟨T,hT,h⟩:=h
  exact⟨T,hT,ty_same s h⟩
 |some vs=>
  obtain⟨a,e,h1,h2,h3⟩:=h
  exact⟨a,e,h1.mono s,fun x hx=>(h2 x hx).mono s,h3⟩
theorem at_listed {K:W.Frag} {H:Hp} {Q:VK} {v:V} {o:Option (List V)} {p:Addr} (h:Tl H v o) (hp:H p=some (.tup [.ty "list",.ty "tuple"])) (q:Q (.bl o.isSome) H):rBlt K .isinstance [v,.ref p] H Q:=by
 cases o with
 |none=>
  obtain⟨T,hT,h⟩:=h
  simp only[List.mem_cons,List.not_mem_nil,or_false]at hT
  rcases hT with rfl|rfl|rfl|rfl<;>exact isi2 h hp (k:=false) rfl (by decide) (by decide) (by decide) q
 |some vs=>
  obtain⟨a,rfl,h1,_⟩:=h
  obtain⟨T,hT,h⟩:=h1.ty
  rcases h with rfl|rfl<;>exact isi2 hT hp (k:=true) rfl (by decide) (by decide) (by decide) q
def spLsd:Sp:=fun vs H Q _=>∃v o,vs=[v]/\Tl H v o/\∀H',Same H H'->Q (.bl o.isSome) H'
theorem body_lsd {C:Rc} (hN:C.N.length=1):∀vs H Q E,spLsd vs H Q E->tSs C c_p_is_listed { nx:=fun _ H'=>Q .non H',rt:=Q } (L2.start C.N vs) H:=by
 intro vs H Q E h
 obtain⟨v,o,rfl,hv,q⟩:=h
 rw[start_eq hN]
 unfold c_p_is_listed
 walk_at "y"
 refine⟨by decide,fun p hp=>?_⟩
 have s:=same_new hp (.tup [.ty "list",.ty "tuple"])
 exact at_listed (hv.mono s) upd_same (q _ s)
noncomputable def arN (n:Int):Option (List V)->Bool
 |some vs=>decide ((vs.length:Int)=n)&&vs.all isN
 |none=>false
def spAreN:Sp:=fun vs H Q _=>∃v n o,vs=[v,.int n]/\Tl H v o/\∀H',Same H H'->Q (.bl (arN n o)) H'
theorem body_areN {C:Rc} (hN:C.N.length=3) (hL:C.fs "is_listed"=some spLsd) (hI:C.fs "is_number"=some spIsNum):∀vs H Q E,spAreN vs H Q E->tSs C c_p_are_numbers { nx:=fun _ H'=>Q .non H',rt:=Q } (L2.start C.N vs) H:=by
 intro vs H Q E h
 obtain⟨v,n,o,rfl,hv,q⟩:=h
 rw[start_eq hN]
 unfold c_p_are_numbers
 walk_at "y"
 refine call_e hL ?_
 walk_at "y"
 refine⟨v,o,rfl,hv,fun H1 s1=>?_⟩
 have hv1:=hv.mono s1
 cases o with
 |none=>
  simp only[Option.isSome]
  walk_at "y"
  exact q H1 s1
 |some vs=>
  obtain⟨a,rfl,hk,hvs,hz⟩:=hv1
  simp only[Option.isSome]
  walk_at "y"
  refine len_lt hk ?_
  walk_at "y"
  simp only[arN]at q
  by_cases hn:(vs.length:Int)=n
  .rw[decide_eq_true hn,Bool.true_and]at q
   rw[decide_eq_true hn]
   walk_at "y"
   refine iv_lt hk (fun i xs H'=>xs=((vs.take i).map isN).map V.bl/\i<=vs.length/\H'=H1) ⟨rfl,Nat.zero_le _,rfl⟩ (fun i xs H' pv=>by rw[pv.2.2];exact Same.refl _) ?_ ?_
   .rintro i xs H' x R hx ⟨rfl,hi,rfl⟩ hR
    have hi':=lt_of_get hx
    walk_at "y"
    refine call_e hI ?_
    walk_at "y"
    refine⟨x,rfl,hvs x (List.mem_of_getElem? hx),?_⟩
    walk_at "y"
    refine⟨by simp;exact small1000 (by omega),hR _ _ ⟨?_,by omega,rfl⟩⟩
    rw[List.take_succ,hx,List.map_append,List.map_append]
    rfl
   .rintro xs H' ⟨rfl,_,rfl⟩ p hp
    walk_at "y"
    refine at_all (SqL.of upd_same) ?_
    rw[List.take_length]
    rw[show(vs.map isN).all id=vs.all isN by rw[List.all_map];rfl]
    exact q _ (s1.trans (same_new hp _))
  .rw[decide_eq_false hn,Bool.false_and]at q
   rw[decide_eq_false hn]
   walk_at "y"
   exact q H1 s1
end CK
namespace LW
open PySem PySem.Spec PyProof.Rows L2 R3
noncomputable def stp (M:List Rm) (r:Nat) (c:Bool):Option Nat:=match M[r]? with
 |some rm=>if c then rm.2 else rm.1
 |none=>none
theorem stp_lt {M:List Rm} (hM:OkM M) {r:Nat} {c:Bool} {n:Nat} (h:stp M r c=some n):n<M.length:=by
 unfold stp at h
 cases e:M[r]? with
 |none=>rw[e]at h;cases h
 |some rm=>
  rw[e]at h
  have:=hM rm (List.mem_of_getElem? e)
  cases c
  .exact this.1 n h
  .exact this.2 n h
theorem lead_at {C:Rc} {H:Hp} {a:Addr} {M:List Rm} {r:Nat} {c:Bool} {Q:VK} (hM:IsM H a M) (hr:r<M.length) (q:∀p,(∀Q':VK,Q' (oV (stp M r c)) H->rIxL C.K (.ref p) (.int (if c then 1 else 0)) H Q'\/rIxT C.K (.ref p) (.int (if c then 1 else 0)) H Q')->Q (.ref p) H):rIxL C.K (.ref a) (.int r) H Q\/rIxT C.K (.ref a) (.int r) H Q:=by
 obtain⟨vs,ha,hv⟩:=hM
 obtain⟨p,hp,hpt⟩:=hv.get (List.getElem?_eq_getElem hr)
 refine at_ixT (SqT.of ha) (v:=.ref p) (atI_nat hp) (q p fun Q' q'=>?_)
 refine at_twoT (SqT.of hpt) ?_
 have e:stp M r c=if c then M[r].2 else M[r].1:=by unfold stp;rw[List.getElem?_eq_getElem hr]
 rw[e]at q'
 cases c<;>exact q'
end LW
namespace LW
open PySem PySem.Spec PyProof.Rows L2 R3
noncomputable def c_p_behind_bit:Css:=(.cons (.asg (.name 4) (.idx (.idx (.var 0) (.var 2)) (.blt .int (.cons (.var 3) .nil))))
  (.cons (.ret (.ife (.cmp .Is (.var 4) .non) (.int 0) (.idx (.var 1) (.var 4))))
  .nil))
noncomputable def c_p_way_sums:Css:=(.cons (.ret (.comp (.bin .Add (.call "behind_bit" (.cons (.var 0) (.cons (.var 1) (.cons (.var 2) (.cons (.str "0") .nil))))) (.call "behind_bit" (.cons (.var 0) (.cons (.var 1) (.cons (.var 2) (.cons (.str "1") .nil)))))) [2] (.name 2) (.range1 (.blt .len (.cons (.var 0) .nil))) .none .nil))
  .nil)
noncomputable def ow (f:Nat->Nat):Option Nat->Nat
 |none=>0
 |some m=>f m
noncomputable def wy (M:List Rm) (g:Option Nat):Nat->Nat->Nat
 |0,r=>if g=none\/g=some r then 1 else 0
 |n+1,r=>ow (wy M g n) (stp M r false)+ow (wy M g n) (stp M r true)
noncomputable def oi (ns:List Int):Option Nat->Int
 |none=>0
 |some m=>ns.getD m 0
noncomputable def wsL (M:List Rm) (ns:List Int) (k:Nat):List Int:=(List.range k).map fun r=>oi ns (stp M r false)+oi ns (stp M r true)
def spBehind (K:W.Frag):Sp:=fun vs H Q _=>∃(a b:Addr) (M:List Rm) (r:Nat) (c:Bool) (ns:List Int),vs=[.ref a,.ref b,.int r,.str (tx [c])]/\IsM H a M/\OkM M/\r<M.length/\SqL K H b (ns.map V.int)/\ns.length=M.length/\Q (.int (oi ns (stp M r c))) H
theorem body_behind {C:Rc} (hN:C.N.length=5):∀vs H Q E,spBehind C.K vs H Q E->tSs C c_p_behind_bit { nx:=fun _ H'=>Q .non H',rt:=Q } (L2.start C.N vs) H:=by
 intro vs H Q E h
 obtain⟨a,b,M,r,c,ns,rfl,hM,hO,hr,hb,hl,q⟩:=h
 rw[start_eq hN]
 unfold c_p_behind_bit
 walk_at "sy"
 refine lead_at (c:=c) hM hr fun p hp=>?_
 walk_at "y"
 refine hp _ ?_
 cases e:stp M r c with
 |none=>
  rw[e]at q
  simp only[oV]
  walk_at "y"
  exact q
 |some m=>
  rw[e]at q
  have hm:=stp_lt hO e
  simp only[oV]
  walk_at "y"
  refine at_ixL hb (v:=.int (ns.getD m 0)) (atI_nat ?_) q
  rw[List.getElem?_map,List.getElem?_eq_getElem (by omega)]
  simp[List.getD_eq_getElem?_getD,(by omega:m<ns.length)]
def spWaySums (K:W.Frag):Sp:=fun vs H Q _=>∃(a b:Addr) (M:List Rm) (ns:List Int),vs=[.ref a,.ref b]/\IsM H a M/\OkM M/\M.length<=500/\SqL K H b (ns.map V.int)/\ns.length=M.length/\∀p,H p=none->Q (.ref p) (upd H p (.lst ((wsL M ns M.length).map V.int)))
theorem body_way_sums {C:Rc} (hN:C.N.length=3) (hB:C.fs "behind_bit"=some (spBehind C.K)):∀vs H Q E,spWaySums C.K vs H Q E->tSs C c_p_way_sums { nx:=fun _ H'=>Q .non H',rt:=Q } (L2.start C.N vs) H:=by
 intro vs H Q E h
 obtain⟨a,b,M,ns,rfl,hM,hO,hM5,hb,hl,q⟩:=h
 rw[start_eq hN]
 unfold c_p_way_sums
 obtain⟨rv,ha,hrv⟩:=id hM
 walk_at "sy"
 refine at_lenT (SqT.of ha) ?_
 rw[hrv.len]
 refine at_r1 (by omega) (by omega) (comp_r (fun i xs H'=>H'=H/\xs=(wsL M ns i).map V.int) ⟨rfl,rfl⟩ ?_ ?_)
 .rintro i xs H' R hi ⟨rfl,rfl⟩ hR
  rw[show(0:Int)+(i:Int)=(i:Int) by omega]
  have hi':i<M.length:=by omega
  walk_at "y"
  refine call_e hB ?_
  walk_at "y"
  refine⟨a,b,M,i,false,ns,rfl,hM,hO,hi',hb,hl,?_⟩
  walk_at "y"
  refine call_e hB ?_
  walk_at "y"
  refine⟨a,b,M,i,true,ns,rfl,hM,hO,hi',hb,hl,?_⟩
  walk_at "y"
  refine⟨by rw[List.length_map];unfold wsL;simp;exact small1000 (by omega),hR _ _ ⟨rfl,?_⟩⟩
  unfold wsL
  rw[List.range_succ,List.map_append,List.map_append]
  rfl
 .rintro xs H' ⟨rfl,rfl⟩ p hp
  exact q p hp
end LW
namespace LW
open PySem PySem.Spec PyProof.Rows L2 R3
noncomputable def sg (N:Nat) (f:Nat->Nat):Nat:=((List.range N).map f).sum
noncomputable abbrev Tb:=Nat->Nat->Nat
noncomputable def mm (N:Nat) (A B:Tb):Tb:=fun i j=>sg N fun k=>A i k*B k j
noncomputable def Ad (M:List Rm):Tb:=fun i j=>(if stp M i false=some j then 1 else 0)+(if stp M i true=some j then 1 else 0)
noncomputable def pw (M:List Rm):Nat->Tb
 |0=>fun i j=>if i=j then 1 else 0
 |n+1=>mm M.length (Ad M) (pw M n)
end LW
namespace RW
open PySem PySem.Spec PyProof.Rows L2 R3 LW SR
noncomputable def ob (f:Nat->List (List Bool)) (b:Bool):Option Nat->List (List Bool)
 |none=>[]
 |some m=>(f m).map (b :: ·)
noncomputable def rws (M:List Rm) (g:Option Nat):Nat->Nat->List (List Bool)
 |0,r=>if g=none\/g=some r then[[]]else[]
 |n+1,r=>ob (rws M g n) false (stp M r false)++ob (rws M g n) true (stp M r true)
theorem door_get {M:List Rm} {r:Nat} {x:Rm} (h:M[r]?=some x):stp M r false=x.1/\stp M r true=x.2:=by
 unfold LW.stp
 rw[h]
 exact⟨rfl,rfl⟩
theorem okm_lt {M:List Rm} (hM:OkM M) {r:Nat} {x:Rm} (h:M[r]?=some x):(∀m,x.1=some m->m<M.length)/\∀m,x.2=some m->m<M.length:=by
 obtain⟨e1,e2⟩:=door_get h
 exact⟨fun m z=>stp_lt hM (r:=r) (c:=false) (by rw[e1];exact z),fun m z=>stp_lt hM (r:=r) (c:=true) (by rw[e2];exact z)⟩
noncomputable def od (f:Nat->Int):Option Nat->Int
 |none=>0
 |some m=>f m
theorem sum_doors {C:Rc} {σ:L2.St} {H:Hp} {Q:VK} {p:Addr} {x:Rm} {idx:Ce} {j k:Nat} (f:Nat->Int) (hp:H p=some (.tup [oV x.1,oV x.2])) (hσ:σ[k]?=some (some (.ref p)))
  (hj:∀v:V,((clr [j] σ).set j (some v))[j]?=some (some v)) (hi:∀m (P:VK),(x.1=some m\/x.2=some m)->P (.int (f m)) H->tE C idx ((clr [j] σ).set j (some (.int m))) H P)
  (q:∀H',Same H H'->Q (.int (od f x.1+od f x.2)) H'):tE C (.blt .sum (.cons (.comp idx [j] (.name j) (.val (.var k)) (.some (.cmp .IsNot (.var j) .non)) .nil) .nil)) σ H Q:=by
 simp only[tE_blt,a_cons,tE_comp,i_val,tE_var,hσ,kV_some]
 refine at_iv_tup (SqT.of hp) (comp_t (vs:=[oV x.1,oV x.2]) (fun i xs H'=>H'=H/\∃ns:List Int,xs=ns.map V.int/\ns.length<=i/\(i=0->ns.sum=0)/\(i=1->ns.sum=od f x.1)/\(i=2->ns.sum=od f x.1+od f x.2)) ⟨rfl,[],rfl,Nat.le_refl _,fun _=>rfl,(fun h=>absurd h (by decide)),(fun h=>absurd h (by decide))⟩ (fun i xs H' w=>by rw[w.1];exact SqT.of hp) ?_ ?_)
 .rintro i xs H' v R hv ⟨rfl,ns,rfl,hn,h0,h1,h2⟩ hR
  have step:∀o:Option Nat,v=oV o->(∀m,o=some m->x.1=some m\/x.2=some m)->(∀s:Int,s=ns.sum+od f o->(i+1=1->s=od f x.1)/\(i+1=2->s=od f x.1+od f x.2))->i<2->tG C (.name j) v (clr [j] σ) H' (kCG C idx (.some (.cmp .IsNot (.var j) .non)) (ns.map V.int) R):=by
   rintro o rfl ho hs hi2
   rw[g_name,kCG_q]
   simp only[tQ_cmp,tE_var,hj,kV_some,kC1_at,tE_non,kC2_at,c_isnot,kT_bl]
   cases o with
   |none=>
    rw[show(!decide (oV (none:Option Nat)=V.non))=false from rfl,kCT_f]
    obtain⟨e1,e2⟩:=hs ns.sum (by simp[od])
    exact hR _ _ ⟨rfl,ns,rfl,by omega,fun h=>by omega,e1,e2⟩
   |some m=>
    have e:(!decide (oV (some m)=V.non))=true:=by simp[oV]
    rw[e,kCT_t]
    refine hi m _ (ho m rfl) ?_
    obtain⟨e1,e2⟩:=hs (ns++[f m]).sum (by simp[od])
    exact⟨by rw[List.length_map];exact small1000 (by omega),hR _ _ ⟨rfl,ns++[f m],by simp,by simp;omega,fun h=>by omega,e1,e2⟩⟩
  match i,hv with
  |0,hv=>
   cases hv
   exact step x.1 rfl (fun m h=>.inl h) (fun s e=>⟨fun _=>by rw[e,h0 rfl];omega,fun h=>by omega⟩) (by omega)
  |1,hv=>
   cases hv
   exact step x.2 rfl (fun m h=>.inr h) (fun s e=>⟨fun h=>by omega,fun _=>by rw[e,h1 rfl]⟩) (by omega)
  |i+2,hv=>cases hv
 .rintro xs H' ⟨rfl,ns,rfl,hn,h0,h1,h2⟩ p2 hp2
  simp only[kA1_at,a_nil,kA2_at,kBlt_at]
  refine⟨p2,ns,rfl,SqL.of upd_same,?_⟩
  rw[h2 rfl]
  exact q _ (same_new hp2 _)
noncomputable def ext (M:List Rm) (g:Option Nat) (k:Nat) (w:List Bool×Nat):List (List Bool):=(rws M g k w.2).map (w.1++·)
end RW
namespace TM
open PySem PySem.Spec PyProof.Rows L2 R3 LW
noncomputable def c_p_lasting:Css:=(.cons (.asg (.name 2) (.blt .set (.cons (.var 1) .nil)))
  (.cons (.setc2 3 (.var 5) [4,5] (.name 4) (.val (.var 1)) .none [5] (.name 5) (.val (.idx (.var 0) (.var 4))) .none)
  (.cons (.ret (.comp (.var 4) [4] (.name 4) (.val (.var 1)) (.some (.and (.din false (.var 4) (.var 3)) (.or (.din false (.idx (.idx (.var 0) (.var 4)) (.int 0)) (.var 2)) (.din false (.idx (.idx (.var 0) (.var 4)) (.int 1)) (.var 2))))) .nil))
  .nil)))
noncomputable def c_p_part_of:Css:=(.cons (.dctc false 2 (.var 4) (.var 3) [3,4] (.tup (.cons (.name 3) (.cons (.name 4) .nil))) (.enum (.var 1)) .none)
  (.cons (.ret (.blt .tuple (.cons (.comp (.tup (.cons (.dgt (.var 2) (.idx (.idx (.var 0) (.var 4)) (.int 0))) (.cons (.dgt (.var 2) (.idx (.idx (.var 0) (.var 4)) (.int 1))) .nil))) [4] (.name 4) (.val (.var 1)) .none .nil) .nil)))
  .nil))
noncomputable def c_p_trimmed:Css:=(.cons (.asg (.name 1) (.blt .list (.cons (.blt .range (.cons (.blt .len (.cons (.var 0) .nil)) .nil)) .nil)))
  (.cons (.asg (.name 2) (.call "lasting" (.cons (.var 0) (.cons (.var 1) .nil))))
  (.cons (.whl (.cmp .Lt (.blt .len (.cons (.var 2) .nil)) (.blt .len (.cons (.var 1) .nil))) (.cons (.asg (.name 1) (.var 2))
  (.cons (.asg (.name 2) (.call "lasting" (.cons (.var 0) (.cons (.var 1) .nil))))
  .nil)))
  (.cons (.ret (.tup (.cons (.call "part_of" (.cons (.var 0) (.cons (.var 1) .nil))) (.cons (.var 1) .nil))))
  .nil))))
noncomputable def oI (o:Option Nat):Option Int:=o.map Int.ofNat
theorem oV_kO {o:Option Nat}:oV o=kO (oI o):=by cases o<;>rfl
theorem oI_inj {a b:Option Nat} (h:oI a=oI b):a=b:=by
 cases a<;>cases b<;>simp[oI]at h ⊢
 omega
noncomputable def fs1 (M:List Rm) (r:Nat):Option Nat:=(M[r]?.getD (none,none)).1
noncomputable def fs2 (M:List Rm) (r:Nat):Option Nat:=(M[r]?.getD (none,none)).2
theorem room_ix {C:Rc} {H:Hp} {a:Addr} {M:List Rm} {r:Nat} {Q:VK} (hM:IsM H a M) (hr:r<M.length) (q:∀p,H p=some (.tup [oV (fs1 M r),oV (fs2 M r)])->Q (.ref p) H):rIxL C.K (.ref a) (.int r) H Q\/rIxT C.K (.ref a) (.int r) H Q:=by
 obtain⟨vs,ha,hv⟩:=hM
 obtain⟨p,hp,hpt⟩:=hv.get (List.getElem?_eq_getElem hr)
 refine at_ixT (SqT.of ha) (v:=.ref p) (atI_nat hp) (q p ?_)
 unfold fs1 fs2
 rw[List.getElem?_eq_getElem hr]
 exact hpt
noncomputable def ldS (M:List Rm) (rs:List Nat):Option Int->Bool:=fun k=>rs.any fun r=>decide (k=oI (fs1 M r)) || decide (k=oI (fs2 M r))
theorem ldS_snoc {M:List Rm} {rs:List Nat} {r:Nat}:ldS M (rs++[r])=fun k=>(ldS M rs k || decide (k=oI (fs1 M r))) || decide (k=oI (fs2 M r)):=by
 funext k
 unfold ldS
 rw[List.any_append]
 simp[Bool.or_assoc]
noncomputable def inR (rs:List Nat) (o:Option Nat):Bool:=match o with
 |some n=>rs.contains n
 |none=>false
theorem inL_oI {rs:List Nat} {o:Option Nat}:inL (rs.map Int.ofNat) (oI o)=inR rs o:=by
 cases o with
 |none=>rfl
 |some n=>
  show(rs.map Int.ofNat).contains (Int.ofNat n)=rs.contains n
  induction rs with
  |nil=>rfl
  |cons a rs ih=>
   rw[List.map_cons,List.contains_cons,List.contains_cons,ih]
   congr 1
   by_cases h:n=a
   .subst h;simp
   .rw[beq_eq_false_iff_ne.mpr h,beq_eq_false_iff_ne.mpr (fun z=>h (Int.ofNat.inj z))]
noncomputable def lastR (M:List Rm) (rs:List Nat) (r:Nat):Bool:=ldS M rs (some (r:Int))&&(inR rs (fs1 M r) || inR rs (fs2 M r))
noncomputable def lst (M:List Rm) (rs:List Nat):List Nat:=rs.filter (lastR M rs)
theorem nV_ints {rs:List Nat}:(rs.map Int.ofNat).map V.int=rs.map nV:=by rw[List.map_map];rfl
def spLast:Sp:=fun vs H Q _=>∃(a l:Addr) (M:List Rm) (rs:List Nat),vs=[.ref a,.ref l]/\IsM H a M/\H l=some (.lst (rs.map nV))/\(∀r∈rs,r<M.length)/\rs.length<=500/\∀(p:Addr) (H':Hp),H p=none->Same H H'->H' p=some (.lst ((lst M rs).map nV))->Q (.ref p) H'
theorem body_last {C:Rc} (hN:C.N.length=6):∀vs H Q E,spLast vs H Q E->tSs C c_p_lasting { nx:=fun _ H'=>Q .non H',rt:=Q } (L2.start C.N vs) H:=by
 intro vs H Q E h
 obtain⟨a,l,M,rs,rfl,hM,hl,hrs,hlen,q⟩:=h
 rw[start_eq hN]
 unfold c_p_lasting
 walk_at "y"
 refine at_set (ns:=rs.map Int.ofNat) (SqL.of (by rw[nV_ints];exact hl)) (by rw[List.length_map];omega) fun p hp=>?_
 have s1:=same_new hp (SetO p (inL (rs.map Int.ofNat)) (rs.map Int.ofNat).length)
 have hp1:upd H p (SetO p (inL (rs.map Int.ofNat)) (rs.map Int.ofNat).length) p=some (SetO p (inL (rs.map Int.ofNat)) (rs.map Int.ofNat).length):=upd_same
 generalize upd H p (SetO p (inL (rs.map Int.ofNat)) (rs.map Int.ofNat).length)=H1 at s1 hp1 ⊢
 have hl1:=s1 _ _ hl
 have hM1:=hM.mono (tp_same s1)
 walk_at "y"
 refine at_iv_lst (SqL.of hl1) (cl_l (vs:=rs.map nV) (fun i b H'=>b.1=ldS M (rs.take i)/\b.2=2*i/\H'=H1) ⟨rfl,rfl,rfl⟩ (fun i b H' pv=>SqL.of (by rw[pv.2.2];exact hl1)) ?_ ?_)
 .rintro i ⟨S,n⟩ H' x R hx ⟨hS,hn,hH⟩ hR
  subst hH
  rw[List.getElem?_map]at hx
  cases er:rs[i]? with
  |none=>rw[er]at hx;cases hx
  |some r=>
  rw[er]at hx
  cases hx
  have hi:=lt_of_get er
  have hrM:=hrs r (List.mem_of_getElem? er)
  dsimp only at hS hn
  subst hS hn
  simp only[nV]
  walk_at "y"
  refine room_ix hM1 hrM fun pr hpr=>?_
  walk_at "y"
  refine at_iv_tup (SqT.of hpr) (cl_t (vs:=[oV (fs1 M r),oV (fs2 M r)]) (fun j b H''=>b.1=(fun k=>(if j=0 then ldS M (rs.take i) k else if j=1 then(ldS M (rs.take i) k || decide (k=oI (fs1 M r)))else(ldS M (rs.take i) k || decide (k=oI (fs1 M r))) || decide (k=oI (fs2 M r))))/\b.2=2*i+j/\H''=H') ⟨rfl,rfl,rfl⟩ (fun j b H' pv=>SqT.of (by rw[pv.2.2];exact hpr)) ?_ ?_)
  .rintro j ⟨S,n⟩ H' x R2 hx ⟨hS,hn,rfl⟩ hR2
   dsimp only at hS hn
   subst hS hn
   have hj:j=0\/j=1:=by
    have:=lt_of_get hx
    simp only[List.length_cons,List.length_nil]at this
    omega
   rcases hj with rfl|rfl
   .simp only[List.getElem?_cons_zero,Option.some.injEq]at hx
    subst hx
    walk_at "y"
    refine⟨oI (fs1 M r),oV_kO,by omega,hR2 _ _ ⟨?_,rfl,rfl⟩⟩
    funext k
    simp
   .simp only[List.getElem?_cons_succ,List.getElem?_cons_zero,Option.some.injEq]at hx
    subst hx
    walk_at "y"
    refine⟨oI (fs2 M r),oV_kO,by omega,hR2 _ _ ⟨?_,rfl,rfl⟩⟩
    funext k
    simp
  .rintro⟨S,n⟩ H' ⟨hS,hn,rfl⟩
   dsimp only at hS hn
   subst hS hn
   refine hR _ _ ⟨?_,by simp;omega,rfl⟩
   rw[show rs.take (i+1)=rs.take i++[r] by rw[List.take_succ,er];rfl,ldS_snoc]
   rfl
 .rintro⟨S,n⟩ H' ⟨hS,hn,rfl⟩
  dsimp only at hS hn
  rw[List.length_map,List.take_length]at hS
  subst hS
  refine⟨trivial,fun p2 hp2=>?_⟩
  dsimp only
  have s2:=same_new hp2 (SetO p2 (ldS M rs) n)
  have hp22:upd H' p2 (SetO p2 (ldS M rs) n) p2=some (SetO p2 (ldS M rs) n):=upd_same
  generalize upd H' p2 (SetO p2 (ldS M rs) n)=H2 at s2 hp22 ⊢
  have hl2:=s2 _ _ hl1
  have hp12:=s2 _ _ hp1
  have hM2:=hM1.mono (tp_same s2)
  walk_at "y"
  refine at_iv_lst (SqL.of hl2) (comp_l (vs:=rs.map nV) (fun i xs H'=>xs=((rs.take i).filter (lastR M rs)).map nV/\H'=H2) ⟨rfl,rfl⟩ (fun i xs H' pv=>SqL.of (by rw[pv.2];exact hl2)) ?_ ?_)
  .rintro i xs H' x R hx ⟨rfl,rfl⟩ hR
   rw[List.getElem?_map]at hx
   cases er:rs[i]? with
   |none=>rw[er]at hx;cases hx
   |some r=>
   rw[er]at hx
   cases hx
   have hi:=lt_of_get er
   have hrM:=hrs r (List.mem_of_getElem? er)
   have et:(rs.take (i+1)).filter (lastR M rs)=(rs.take i).filter (lastR M rs)++[r].filter (lastR M rs):=by rw[List.take_succ,er,List.filter_append];rfl
   have hfl:((rs.take i).filter (lastR M rs)).length<=500:=Nat.le_trans (List.length_filter_le ..) (by rw[List.length_take];omega)
   have yes:lastR M rs r=true->R (((rs.take i).filter (lastR M rs)).map nV++[nV r]) H':=fun h=>hR _ _ ⟨by rw[et,List.filter_cons,if_pos h,List.map_append];rfl,rfl⟩
   have no:lastR M rs r=false->R (((rs.take i).filter (lastR M rs)).map nV) H':=fun h=>hR _ _ ⟨by rw[et,List.filter_cons,if_neg (by rw[h];decide)];simp,rfl⟩
   have e1:=inL_oI (rs:=rs) (o:=fs1 M r)
   have e2:=inL_oI (rs:=rs) (o:=fs2 M r)
   unfold lastR at yes no
   simp only[nV]at yes ⊢
   walk_at "y"
   refine at_inO (k:=some (r:Int)) rfl hp22 ?_
   simp only[Bool.false_eq_true,if_false]
   cases hld:ldS M rs (some (r:Int))with
   |false=>
    rw[hld]at no
    walk_at "y"
    exact no rfl
   |true=>
    rw[hld]at yes no
    walk_at "y"
    refine room_ix hM2 hrM fun pr hpr=>?_
    walk_at "y"
    refine at_ixT (SqT.of hpr) (v:=oV (fs1 M r)) rfl ?_
    walk_at "y"
    refine at_inO oV_kO hp12 ?_
    simp only[Bool.false_eq_true,if_false]
    rw[e1]
    cases h1:inR rs (fs1 M r)with
    |true=>
     rw[h1]at yes
     walk_at "y"
     exact⟨by rw[List.length_map];exact small1000 (by omega),yes rfl⟩
    |false=>
     rw[h1]at yes no
     walk_at "y"
     refine room_ix hM2 hrM fun pr hpr=>?_
     walk_at "y"
     refine at_ixT (SqT.of hpr) (v:=oV (fs2 M r)) rfl ?_
     walk_at "y"
     refine at_inO oV_kO hp12 ?_
     simp only[Bool.false_eq_true,if_false]
     rw[e2]
     cases h2:inR rs (fs2 M r)with
     |true=>
      rw[h2]at yes
      walk_at "y"
      exact⟨by rw[List.length_map];exact small1000 (by omega),yes rfl⟩
     |false=>
      rw[h2]at no
      walk_at "y"
      exact no rfl
  .rintro xs H' ⟨rfl,rfl⟩ p3 hp3
   rw[List.length_map,List.take_length]
   have hfin:upd H' p3 (.lst ((rs.filter (lastR M rs)).map nV)) p3=some (.lst ((lst M rs).map nV)):=upd_same
   exact q p3 _ ((s1.trans s2).free hp3) (s1.trans (s2.trans (same_new hp3 _))) hfin
theorem hash_small {i:Nat} (h:i<=1000):hashInt (i:Int)=i:=by
 unfold hashInt rawHash
 have e:(((i:Int).natAbs:Nat):Int) % ((2 ^ 61-1:Nat):Int)=i:=by
  rw[Int.natAbs_natCast]
  exact Int.emod_eq_of_lt (by omega) (Int.ofNat_lt.mpr (show i<2 ^ 61-1 by omega))
 dsimp only
 rw[e]
 have h1:¬((i:Int)<0):=by omega
 have h2:((i:Int) == -1)=false:=by rw[beq_eq_false_iff_ne];omega
 simp only[h1,if_false,h2,Bool.false_eq_true]
def TbK (n m:Nat) (kvs:List (Key×V)):Prop:=∀kv∈kvs,∃r j:Nat,kv=(.inl (r:Int),.int j)/\r<n/\j<m
theorem TbK.non {H:Hp} {p:Addr} {n m:Nat} {kvs:List (Key×V)} (h:TbK n m kvs) (hn:n<=1000) (hp:H p=some (.dK kvs)):NoN H p:=.inl ⟨kvs,hp,fun kv hkv=>by
 obtain⟨r,j,rfl,hr,_⟩:=h kv hkv
 exact⟨r,rfl,by rw[hash_small (by omega)];show(r:Int)≠0xFCA86420;omega⟩⟩
theorem lst_le {M:List Rm} {rs:List Nat}:(lst M rs).length<=rs.length:=List.length_filter_le ..
theorem lst_mem {M:List Rm} {rs:List Nat} {r:Nat} (h:r∈lst M rs):r∈rs:=(List.mem_filter.mp h).1
theorem rgs_nV {n:Nat}:rgs 0 n=(List.range n).map nV:=by
 unfold rgs
 apply List.map_congr_left
 intro k _
 show V.int (0+(k:Int))=V.int k
 rw[Int.zero_add]
end TM
namespace BD
open PySem PySem.Spec PyProof.Rows L2 R3 LW TM
noncomputable def c_p_rooms_in_bounds:Css:=(.cons (.asg (.tup (.cons (.name 1) (.cons (.name 2) (.cons (.name 3) (.cons (.name 4) (.cons (.name 5) .nil)))))) (.var 0))
  (.cons (.asg (.name 6) (.ife (.cmp .Is (.var 5) .non) (.lst (.cons (.int 0) .nil)) (.blt .list (.cons (.blt .range (.cons (.bin .Add (.var 5) (.int 1)) .nil)) .nil))))
  (.cons (.ret (.comp (.tup (.cons (.var 7) (.cons (.var 9) (.cons (.var 10) .nil)))) [7,8,9,10] (.tup (.cons (.name 7) (.cons (.name 8) .nil))) (.val (.tup (.cons (.tup (.cons (.int 0) (.cons (.var 2) .nil))) (.cons (.tup (.cons (.int 1) (.cons (.var 4) .nil))) .nil)))) .none (.cons [9,10] (.name 9) (.range2 (.int 1) (.bin .Add (.var 8) (.int 1))) .none (.cons [10] (.name 10) (.val (.var 6)) .none .nil))))
  .nil)))
noncomputable def c_p_room_behind:Css:=(.cons (.asg (.tup (.cons (.name 3) (.cons (.name 4) (.cons (.name 5) (.cons (.name 6) (.cons (.name 7) .nil)))))) (.var 0))
  (.cons (.asg (.tup (.cons (.name 8) (.cons (.name 9) (.cons (.name 10) .nil)))) (.var 1))
  (.cons (.ite (.cmp .IsNot (.var 7) .non) (.cons (.aug 10 false (.ife (.cmp .Eq (.var 2) (.int 1)) (.int 1) (.neg (.int 1))))
  .nil) .nil)
  (.cons (.ite (.cmp .Eq (.var 2) (.var 8)) (.cons (.ret (.tup (.cons (.var 2) (.cons (.bin .Add (.var 9) (.int 1)) (.cons (.var 10) .nil)))))
  .nil) .nil)
  (.cons (.ite (.cmp .Lt (.var 9) (.ife (.cmp .Eq (.var 8) (.int 1)) (.var 5) (.var 3))) (.cons (.ret .non)
  .nil) .nil)
  (.cons (.ret (.tup (.cons (.var 2) (.cons (.int 1) (.cons (.var 10) .nil)))))
  .nil))))))
noncomputable def c_p_machine_in_bounds:Css:=(.cons (.dctc true 2 (.var 4) (.var 3) [3,4] (.tup (.cons (.name 3) (.cons (.name 4) .nil))) (.enum (.var 1)) .none)
  (.cons (.ret (.blt .tuple (.cons (.comp (.tup (.cons (.dgt (.var 2) (.call "room_behind" (.cons (.var 0) (.cons (.var 4) (.cons (.int 0) .nil))))) (.cons (.dgt (.var 2) (.call "room_behind" (.cons (.var 0) (.cons (.var 4) (.cons (.int 1) .nil))))) .nil))) [4] (.name 4) (.val (.var 1)) .none .nil) .nil)))
  .nil))
noncomputable def c_p_machine_of:Css:=(.cons (.asg (.tup (.cons (.name 1) (.cons (.name 2) .nil))) (.call "trimmed" (.cons (.call "machine_in_bounds" (.cons (.var 0) (.cons (.call "rooms_in_bounds" (.cons (.var 0) .nil)) .nil))) .nil)))
  (.cons (.ret (.var 1))
  .nil))
structure IsB (H:Hp) (p:Addr) (l0 h0 l1 h1:Nat) (sp:Option Nat):Prop where
 at':H p=some (.tup [nV l0,nV h0,nV l1,nV h1,oV sp])
 b0:h0<=8
 b1:h1<=8
 bs:∀s,sp=some s->s<=16
theorem IsB.mono {H H':Hp} {p:Addr} {l0 h0 l1 h1:Nat} {sp:Option Nat} (h:IsB H p l0 h0 l1 h1 sp) (t:Tp H H'):IsB H' p l0 h0 l1 h1 sp:=⟨t _ _ h.at',h.b0,h.b1,h.bs⟩
theorem g_tup5 {C:Rc} {H:Hp} {σ:L2.St} {i j k m n:Nat} {a:Addr} {x y z u v:V} {R:L2.St->Hp->Prop} (h:SqT C.K H a [x,y,z,u,v]) (q:R (((((σ.set i (some x)).set j (some y)).set k (some z)).set m (some u)).set n (some v)) H):tG C (.tup (.cons (.name i) (.cons (.name j) (.cons (.name k) (.cons (.name m) (.cons (.name n) .nil)))))) (.ref a) σ H R:=
 ⟨a,[x,y,z,u,v],rfl,.inl h,rfl,_,_,rfl,_,_,rfl,_,_,rfl,_,_,rfl,_,_,rfl,rfl,q⟩
noncomputable abbrev K3:=Nat×Nat×Nat
def IsK3 (H:Hp) (v:V) (k:K3):Prop:=∃p,v=.ref p/\H p=some (.tup [nV k.1,nV k.2.1,nV k.2.2])
theorem IsK3.mono {H H':Hp} (s:Same H H') {v:V} {k:K3} (h:IsK3 H v k):IsK3 H' v k:=by
 obtain⟨p,e,hp⟩:=h
 exact⟨p,e,s _ _ hp⟩
noncomputable def r1 (lv:List Nat) (b pl:Nat):List K3:=lv.map fun l=>(b,pl,l)
noncomputable def r2 (lv:List Nat) (b:Nat) (h:Nat):List K3:=(List.range h).flatMap fun j=>r1 lv b (j+1)
noncomputable def rk (lv:List Nat) (h0 h1:Nat):List K3:=r2 lv 0 h0++r2 lv 1 h1
noncomputable def lvs:Option Nat->List Nat
 |none=>[0]
 |some s=>List.range (s+1)
theorem r2_succ {lv:List Nat} {b h:Nat}:r2 lv b (h+1)=r2 lv b h++r1 lv b (h+1):=by
 unfold r2
 rw[List.range_succ,List.flatMap_append]
 simp
theorem r2_len {lv:List Nat} {b:Nat}:∀{h},(r2 lv b h).length=h*lv.length
 |0=>by rw[Nat.zero_mul];rfl
 |h+1=>by rw[r2_succ,List.length_append,r2_len,Nat.add_mul,Nat.one_mul];unfold r1;rw[List.length_map]
theorem r2_mem {lv:List Nat} {b h:Nat} {k:K3}:k∈r2 lv b h->k.1=b/\1<=k.2.1/\k.2.1<=h/\k.2.2∈lv:=by
 unfold r2 r1
 intro hk
 obtain⟨j,hj,hk⟩:=List.mem_flatMap.mp hk
 obtain⟨l,hl,rfl⟩:=List.mem_map.mp hk
 have:=List.mem_range.mp hj
 exact⟨rfl,by show 1<=j+1;omega,by show j+1<=h;omega,hl⟩
theorem nd_map {α β:Type} {f:α->β} (hf:∀x y,f x=f y->x=y):∀{l:List α},l.Nodup->(l.map f).Nodup
 | [],_=>List.nodup_nil
 |a :: l,h=>by
  rw[List.nodup_cons]at h
  rw[List.map_cons,List.nodup_cons]
  refine⟨fun z=>?_,nd_map hf h.2⟩
  obtain⟨x,hx,e⟩:=List.mem_map.mp z
  rw[hf _ _ e]at hx
  exact h.1 hx
theorem r2_nd {lv:List Nat} (hl:lv.Nodup) {b:Nat}:∀{h},(r2 lv b h).Nodup
 |0=>List.nodup_nil
 |h+1=>by
  rw[r2_succ,List.nodup_append]
  refine⟨r2_nd hl,nd_map (fun x y e=>by injection e with _ e;injection e) hl,fun x hx y hy e=>?_⟩
  subst e
  have h1:=(r2_mem hx).2.2.1
  unfold r1 at hy
  obtain⟨l,_,rfl⟩:=List.mem_map.mp hy
  have:h+1<=h:=h1
  omega
theorem rk_nd {lv:List Nat} (hl:lv.Nodup) {h0 h1:Nat}:(rk lv h0 h1).Nodup:=by
 unfold rk
 rw[List.nodup_append]
 refine⟨r2_nd hl,r2_nd hl,fun x hx y hy e=>?_⟩
 subst e
 have a:=(r2_mem hx).1
 have b:=(r2_mem hy).1
 omega
theorem lvs_nd {sp:Option Nat}:(lvs sp).Nodup:=by
 cases sp with
 |none=>exact List.nodup_cons.mpr ⟨List.not_mem_nil,List.nodup_nil⟩
 |some s=>exact List.nodup_range
theorem lvs_ok {sp:Option Nat} (h:∀s,sp=some s->s<=16):(lvs sp).length<=17/\∀l∈lvs sp,l<=16:=by
 cases sp with
 |none=>exact⟨by decide,fun l hl=>by have:l=0:=(by simpa[lvs]using hl);omega⟩
 |some s=>
  have:=h s rfl
  refine⟨by show(List.range (s+1)).length<=17;rw[List.length_range];omega,fun l hl=>?_⟩
  have:=List.mem_range.mp (show l∈List.range (s+1) from hl)
  omega
theorem rk_ok {sp:Option Nat} {h0 h1:Nat} (hs:∀s,sp=some s->s<=16) (a0:h0<=8) (a1:h1<=8):(rk (lvs sp) h0 h1).length<=272/\∀k∈rk (lvs sp) h0 h1,k.1<2/\k.2.1<9/\k.2.2<17:=by
 obtain⟨h,hm⟩:=lvs_ok hs
 constructor
 .unfold rk
  rw[List.length_append,r2_len,r2_len]
  have e0:h0*(lvs sp).length<=8*17:=Nat.mul_le_mul a0 h
  have e1:h1*(lvs sp).length<=8*17:=Nat.mul_le_mul a1 h
  omega
 .intro k hk
  unfold rk at hk
  rcases List.mem_append.mp hk with hk|hk
  .obtain⟨e,_,e2,e3⟩:=r2_mem hk
   have:=hm _ e3
   omega
  .obtain⟨e,_,e2,e3⟩:=r2_mem hk
   have:=hm _ e3
   omega
def spRIn:Sp:=fun vs H Q _=>∃(bd:Addr) (l0 h0 l1 h1:Nat) (sp:Option Nat),vs=[.ref bd]/\IsB H bd l0 h0 l1 h1 sp/\∀(p:Addr) (xs:List V) (H':Hp),Same H H'->H' p=some (.lst xs)->All2 (IsK3 H') xs (rk (lvs sp) h0 h1)->Q (.ref p) H'
theorem all3_mono {H H':Hp} (s:Same H H') {xs:List V} {ks:List K3} (h:All2 (IsK3 H) xs ks):All2 (IsK3 H') xs ks:=h.mono fun _ _ z=>z.mono s
theorem body_rin {C:Rc} (hN:C.N.length=11):∀vs H Q E,spRIn vs H Q E->tSs C c_p_rooms_in_bounds { nx:=fun _ H'=>Q .non H',rt:=Q } (L2.start C.N vs) H:=by
 intro vs H Q E h
 obtain⟨bd,l0,h0,l1,h1,sp,rfl,hB,q⟩:=h
 rw[start_eq hN]
 unfold c_p_rooms_in_bounds
 walk_at "y"
 rw[s_asg]
 walk_at "y"
 refine g_tup5 (C:=C) (SqT.of hB.at') ?_
 simp only[seq_nx,List.set_cons_zero,List.set_cons_succ]
 obtain⟨hlv,hlm⟩:=lvs_ok hB.bs
 refine asg_via fun K hK=>?_
 have rest:∀(pl:Addr) (H1:Hp),Same H H1->H1 pl=some (.lst ((lvs sp).map nV))->K (.ref pl) H1:=by
  intro pl H1 s1 hpl
  refine hK _ _ ?_
  walk_at "y"
  refine⟨by show 2<=sizeLine;decide,fun q0 hq0=>?_⟩
  have t0:=same_new hq0 (.tup [.int 0,nV h0])
  have e0:upd H1 q0 (.tup [.int 0,nV h0]) q0=some (.tup [.int 0,nV h0]):=upd_same
  generalize upd H1 q0 (.tup [.int 0,nV h0])=H2 at t0 e0 ⊢
  walk_at "y"
  refine⟨by show 2<=sizeLine;decide,fun q1 hq1=>?_⟩
  have t1:=same_new hq1 (.tup [.int 1,nV h1])
  have e1:upd H2 q1 (.tup [.int 1,nV h1]) q1=some (.tup [.int 1,nV h1]):=upd_same
  generalize upd H2 q1 (.tup [.int 1,nV h1])=H3 at t1 e1 ⊢
  walk_at "y"
  refine⟨by show 2<=sizeLine;decide,fun q2 hq2=>?_⟩
  have t2:=same_new hq2 (.tup [.ref q0,.ref q1])
  have e2:upd H3 q2 (.tup [.ref q0,.ref q1]) q2=some (.tup [.ref q0,.ref q1]):=upd_same
  generalize upd H3 q2 (.tup [.ref q0,.ref q1])=H4 at t2 e2 ⊢
  have s4:Same H1 H4:=t0.trans (t1.trans t2)
  have e04:=t2 _ _ (t1 _ _ e0)
  have e14:=t2 _ _ e1
  have hpl4:=s4 _ _ hpl
  have hrk:=(rk_ok hB.bs hB.b0 hB.b1 (h0:=h0) (h1:=h1)).1
  refine at_iv_tup (SqT.of e2) (cl_t (vs:=[.ref q0,.ref q1]) (fun i xs H'=>Same H4 H'/\All2 (IsK3 H') xs (if i=0 then[]else if i=1 then r2 (lvs sp) 0 h0 else rk (lvs sp) h0 h1)) ⟨Same.refl _,trivial⟩ (fun i xs H' pv=>SqT.of (pv.1 _ _ e2)) ?_ ?_)
  .rintro i xs H5 x R hx ⟨s5,hA⟩ hR
   have hi2:i=0\/i=1:=by
    have:=lt_of_get hx
    simp only[List.length_cons,List.length_nil]at this
    omega
   obtain⟨qq,b,hh,rfl,hqq,hh8,pre,hpre,hpost,hb⟩:∃(qq:Addr) (b hh:Nat),x=.ref qq/\H5 qq=some (.tup [.int b,nV hh])/\hh<=8/\∃pre,All2 (IsK3 H5) xs pre/\(∀ys H6,Same H4 H6->All2 (IsK3 H6) ys (pre++r2 (lvs sp) b hh)->R ys H6)/\(pre++r2 (lvs sp) b hh).length<=272:=by
    rcases hi2 with rfl|rfl
    .cases hx
     refine⟨q0,0,h0,rfl,s5 _ _ e04,hB.b0,[],hA,fun ys H6 s6 h6=>hR _ _ ⟨s6,h6⟩,?_⟩
     rw[List.nil_append]
     unfold rk at hrk
     rw[List.length_append]at hrk
     omega
    .cases hx
     exact⟨q1,1,h1,rfl,s5 _ _ e14,hB.b1,r2 (lvs sp) 0 h0,hA,fun ys H6 s6 h6=>hR _ _ ⟨s6,h6⟩,hrk⟩
   refine g_tup2 (C:=C) (SqT.of hqq) ?_
   simp only[nV]
   walk_at "y"
   rw[List.length_append,r2_len]at hb
   have hap:=hpre.len
   refine at_r2 (by omega) (by omega) (by omega) (by omega) (cl_r (n:=((hh:Int)+1-1).toNat) (fun j ys H6=>Same H4 H6/\All2 (IsK3 H6) ys (pre++r2 (lvs sp) b j)) ⟨s5,by simpa[r2]using hpre⟩ ?_ ?_)
   .rintro j ys H6 R2 hj ⟨s6,h6⟩ hR2
    have hjh:j<hh:=by omega
    have hjl:j*(lvs sp).length+(lvs sp).length<=hh*(lvs sp).length:=by
     have:=Nat.mul_le_mul_right (lvs sp).length hjh
     rw[Nat.succ_mul]at this
     exact this
    walk_at "y"
    refine at_iv_lst (SqL.of (s6 _ _ hpl4)) (cl_l (vs:=(lvs sp).map nV) (fun m zs H7=>Same H4 H7/\All2 (IsK3 H7) zs (pre++r2 (lvs sp) b j++r1 ((lvs sp).take m) b (j+1))) ⟨s6,by simpa[r1]using h6⟩ (fun m zs H7 pv=>SqL.of (pv.1 _ _ hpl4)) ?_ ?_)
    .rintro m zs H7 x R3 hx ⟨s7,h7⟩ hR3
     rw[List.getElem?_map]at hx
     cases er:(lvs sp)[m]? with
     |none=>rw[er]at hx;cases hx
     |some lv=>
     rw[er]at hx
     cases hx
     have hm:=lt_of_get er
     have h7l:=h7.len
     rw[List.length_append,List.length_append,r2_len]at h7l
     unfold r1 at h7l
     rw[List.length_map,List.length_take]at h7l
     simp only[nV]
     walk_at "y"
     refine⟨by show 3<=sizeLine;decide,fun q8 hq8=>?_⟩
     have t8:=same_new hq8 (.tup [.int b,.int (1+j),.int lv])
     have e8:upd H7 q8 (.tup [.int b,.int (1+j),.int lv]) q8=some (.tup [nV b,nV (j+1),nV lv]):=by
      rw[upd_same]
      show some (HO.tup [.int b,.int (1+(j:Int)),.int lv])=some (HO.tup [.int b,.int ((j+1:Nat):Int),.int lv])
      rw[show(1:Int)+j=((j+1:Nat):Int) by omega]
     generalize upd H7 q8 (.tup [.int b,.int (1+j),.int lv])=H8 at t8 e8 ⊢
     refine⟨small1000 (by omega),hR3 _ _ ⟨s7.trans t8,?_⟩⟩
     rw[show r1 ((lvs sp).take (m+1)) b (j+1)=r1 ((lvs sp).take m) b (j+1)++[(b,j+1,lv)] by unfold r1;rw[List.take_succ,er,List.map_append];rfl,<- List.append_assoc]
     exact(all3_mono t8 h7).snoc ⟨q8,rfl,e8⟩
    .rintro zs H7 ⟨s7,h7⟩
     rw[List.length_map,List.take_length,List.append_assoc,<- r2_succ]at h7
     exact hR2 _ _ ⟨s7,h7⟩
   .rintro ys H6 ⟨s6,h6⟩
    rw[show((hh:Int)+1-1).toNat=hh by omega]at h6
    exact hpost ys H6 s6 h6
  .rintro xs H5 ⟨s5,hA⟩ p9 hp9
   have s9:=same_new hp9 (.lst xs)
   exact q p9 xs _ (s1.trans (s4.trans (s5.trans s9))) upd_same (all3_mono s9 hA)
 walk_at "y"
 cases sp with
 |none=>
  simp only[oV]
  walk_at "y"
  refine⟨by decide,fun pl hpl=>?_⟩
  exact rest pl _ (same_new hpl _) upd_same
 |some s=>
  have hs:=hB.bs s rfl
  simp only[oV]
  walk_at "y"
  refine at_range1 fun pr hpr=>?_
  walk_at "y"
  refine at_listR upd_same (by omega) (by omega) (by omega) (by omega) (Nat.le_of_lt (small1000 (by omega))) fun pl hpl=>?_
  rw[show((s:Int)+1-0).toNat=s+1 by omega,rgs_nV]
  exact rest pl _ ((same_new hpr _).trans (same_new hpl _)) upd_same
theorem hash3:∀b:Fin 2,∀p:Fin 9,∀l:Fin 17,reduceHash (Builtin.Tuple.tupleHashOf [hashInt (b.val:Int),hashInt (p.val:Int),hashInt (l.val:Int)])≠NH:=by decide +kernel
noncomputable def kI (k:K3):List Int:=[(k.1:Int),(k.2.1:Int),(k.2.2:Int)]
noncomputable def kK (k:K3):List Key:=(kI k).map Key.inl
theorem kK_inj {a b:K3} (h:kK a=kK b):a=b:=by
 obtain⟨a1,a2,a3⟩:=a
 obtain⟨b1,b2,b3⟩:=b
 unfold kK kI at h
 simp only[List.map_cons,List.map_nil,List.cons.injEq,Key.inl.injEq,and_true]at h
 obtain⟨h1,h2,h3⟩:=h
 rw[show a1=b1 by omega,show a2=b2 by omega,show a3=b3 by omega]
theorem kK_kV {k:K3}:(kK k).map L2.kV=[nV k.1,nV k.2.1,nV k.2.2]:=rfl
theorem nd_take {ks:List K3} {i:Nat} {k:K3} (h:ks.Nodup) (hk:ks[i]?=some k):k∉ks.take i:=by
 intro hm
 have hi:=lt_of_get hk
 have e:ks=ks.take i++k :: ks.drop (i+1):=by
  have h1:=List.take_append_drop i ks
  rw[List.drop_eq_getElem_cons hi]at h1
  rw[List.getElem?_eq_getElem hi]at hk
  rw[Option.some.inj hk]at h1
  exact h1.symm
 rw[e,List.nodup_append]at h
 exact h.2.2 k hm k List.mem_cons_self rfl
theorem take_snoc {ks:List K3} {i:Nat} {k:K3} (hk:ks[i]?=some k):ks.take (i+1)=ks.take i++[k]:=by rw[List.take_succ,hk];rfl
def TbT (ks:List K3) (m:Nat) (a:KTL):Prop:=∀x∈a,∃(k:K3) (j:Nat),k∈ks/\x.1=kK k/\x.2.2=.int j/\j<m
theorem TbT.non {H:Hp} {p:Addr} {ks:List K3} {m:Nat} {a:KTL} (h:TbT ks m a) (hk:∀k∈ks,k.1<2/\k.2.1<9/\k.2.2<17) (hp:H p=some (.dT (plT a))):NoN H p:=.inr ⟨plT a,hp,fun kv hkv=>by
 obtain⟨x,hx,rfl⟩:=List.mem_map.mp hkv
 obtain⟨k,j,hks,e,_⟩:=h x hx
 obtain⟨h1,h2,h3⟩:=hk k hks
 exact⟨kI k,e,hash3 ⟨k.1,h1⟩ ⟨k.2.1,h2⟩ ⟨k.2.2,h3⟩⟩⟩
end BD
namespace BE
open PySem PySem.Spec PyProof.Rows L2 R3 LW TM BD
noncomputable def lvl (sp:Option Nat) (lv c:Nat):Int:=match sp with
 |none=>lv
 |some _=>(lv:Int)+if c=1 then 1 else -1
noncomputable def bh (l0 l1:Nat) (sp:Option Nat) (k:K3) (c:Nat):Option (List Int):=
 if c=k.1 then some [(c:Int),(k.2.1:Int)+1,lvl sp k.2.2 c]else if k.2.1<(if k.1=1 then l1 else l0)then none else some [(c:Int),1,lvl sp k.2.2 c]
def spRBx:Sp:=fun vs H Q _=>∃(bd rm:Addr) (l0 h0 l1 h1:Nat) (sp:Option Nat) (k:K3) (c:Nat),vs=[.ref bd,.ref rm,.int c]/\IsB H bd l0 h0 l1 h1 sp/\H rm=some (.tup [nV k.1,nV k.2.1,nV k.2.2])/\(bh l0 l1 sp k c=none->∀H',Same H H'->Q .non H')/\∀z,bh l0 l1 sp k c=some z->∀(p:Addr) (H':Hp),Same H H'->H' p=some (.tup (z.map V.int))->Q (.ref p) H'
theorem body_rbx {C:Rc} (hN:C.N.length=11):∀vs H Q E,spRBx vs H Q E->tSs C c_p_room_behind { nx:=fun _ H'=>Q .non H',rt:=Q } (L2.start C.N vs) H:=by
 intro vs H Q E h
 obtain⟨bd,rm,l0,h0,l1,h1,sp,⟨b,pl,lv⟩,c,rfl,hB,hrm,q1,q2⟩:=h
 rw[start_eq hN]
 unfold c_p_room_behind
 walk_at "y"
 rw[s_asg]
 walk_at "y"
 refine g_tup5 (C:=C) (SqT.of hB.at') ?_
 walk_at "y"
 rw[s_asg]
 walk_at "y"
 refine kG_tup3 (SqT.of hrm) ?_
 simp only[nV,seq_nx,List.set_cons_zero,List.set_cons_succ]
 refine s_via fun N hNx=>?_
 have rest:∀lev:Int,lvl sp lv c=lev->N [some (.ref bd),some (.ref rm),some (.int c),some (.int l0),some (.int h0),some (.int l1),some (.int h1),some (oV sp),some (.int b),some (.int pl),some (.int lev)] H:=by
  intro lev hlev
  refine hNx _ _ ?_
  have e:bh l0 l1 sp (b,pl,lv) c=if c=b then some [(c:Int),(pl:Int)+1,lev]else if pl<(if b=1 then l1 else l0)then none else some [(c:Int),1,lev]:=by
   unfold bh
   rw[<- hlev]
  walk_at "y"
  refine by_dec (fun hq=>?_) fun hq=>?_
  .have hq:c=b:=by omega
   walk_at "y"
   refine⟨by show 3<=sizeLine;decide,fun p hp=>?_⟩
   exact q2 _ (by rw[e,if_pos hq]) p _ (same_new hp _) upd_same
  have hq:¬c=b:=by omega
  walk_at "y"
  refine by_dec (fun hb=>?_) fun hb=>?_
  .have hb:b=1:=by omega
   walk_at "y"
   refine by_dec (fun hq2=>?_) fun hq2=>?_
   .walk_at "y"
    exact q1 (by rw[e,if_neg hq,if_pos hb,if_pos (by omega)]) _ (Same.refl _)
   .walk_at "y"
    refine⟨by show 3<=sizeLine;decide,fun p hp=>?_⟩
    exact q2 _ (by rw[e,if_neg hq,if_pos hb,if_neg (by omega)]) p _ (same_new hp _) upd_same
  .have hb:¬b=1:=by omega
   walk_at "y"
   refine by_dec (fun hq2=>?_) fun hq2=>?_
   .walk_at "y"
    exact q1 (by rw[e,if_neg hq,if_neg hb,if_pos (by omega)]) _ (Same.refl _)
   .walk_at "y"
    refine⟨by show 3<=sizeLine;decide,fun p hp=>?_⟩
    exact q2 _ (by rw[e,if_neg hq,if_neg hb,if_neg (by omega)]) p _ (same_new hp _) upd_same
 cases sp with
 |none=>
  simp only[oV]
  walk_at "y"
  exact rest _ rfl
 |some s=>
  simp only[oV]
  walk_at "y"
  rw[s_aug (a:=(lv:Int)) rfl]
  walk_at "y"
  refine by_dec (fun hq=>?_) fun hq=>?_
  .walk_at "y"
   exact rest _ (by show(lv:Int)+(if c=1 then 1 else -1)=_;(rw[if_pos (by omega)]<;>rfl))
  .walk_at "y"
   exact rest _ (by show(lv:Int)+(if c=1 then 1 else -1)=_;(rw[if_neg (by omega)]<;>rfl))
noncomputable def ixK (ks:List K3) (z:Option (List Int)):Option Nat:=match z with
 |none=>none
 |some z=>ks.findIdx? fun k=>decide (kI k=z)
noncomputable def plN (ks:List K3) (m:Nat):List (List Key×V):=(List.range m).map fun i:Nat=>(kK (ks[i]?.getD (0,0,0)),V.int i)
theorem plN_succ {ks:List K3} {m:Nat} {k:K3} (h:ks[m]?=some k):plN ks (m+1)=plN ks m++[(kK k,V.int m)]:=by
 unfold plN
 rw[List.range_succ,List.map_append]
 simp[h]
theorem ix_none {ks:List K3} {z:List Int} (h:∀k∈ks,kI k≠z):ixK ks (some z)=none:=by
 show ks.findIdx? _=none
 rw[List.findIdx?_eq_none_iff]
 intro k hk
 exact decide_eq_false (h k hk)
theorem ix_some {ks:List K3} {z:List Int} {i:Nat} {k:K3} (hn:ks.Nodup) (hk:ks[i]?=some k) (hz:kI k=z):ixK ks (some z)=some i:=by
 show ks.findIdx? _=some i
 have hi:=lt_of_get hk
 rw[List.findIdx?_eq_some_iff_getElem]
 refine⟨hi,?_,fun j hj=>?_⟩
 .rw[List.getElem?_eq_getElem hi]at hk
  rw[Option.some.inj hk]
  exact decide_eq_true hz
 .have hjl:j<ks.length:=by omega
  intro hd
  have hd:=of_decide_eq_true hd
  have e:kK ks[j]=kK k:=by unfold kK;rw[hd,hz]
  have e2:=kK_inj e
  have h1:ks[j]?=some k:=by rw[List.getElem?_eq_getElem hjl,e2]
  have:=nd_take hn hk
  exact this (List.mem_of_getElem? (l:=ks.take i) (i:=j) (by rw[List.getElem?_take,if_pos hj];exact h1))
theorem inl_inj:∀{a b:List Int},(a.map Key.inl:List Key)=b.map Key.inl->a=b
 | [],[],_=>rfl
 | [],_ :: _,h=>by cases h
 |_ :: _,[],h=>by cases h
 |x :: a,y :: b,h=>by
  rw[List.map_cons,List.map_cons]at h
  injection h with h1 h2
  injection h1 with h1
  rw[h1,inl_inj h2]
theorem plN_val {ks:List K3} (hn:ks.Nodup) (z:List Int):(valV (plN ks ks.length) (z.map Key.inl)).getD .non=oV (ixK ks (some z)):=by
 have e0:valV (plN ks ks.length) (z.map Key.inl)=((List.range ks.length).find? fun i=>decide (kK (ks[i]?.getD (0,0,0))=z.map Key.inl)).map fun i:Nat=>V.int (i:Int):=by
  unfold valV plN
  rw[List.find?_map,Option.map_map]
  rfl
 rw[e0]
 cases e:(List.range ks.length).find? fun i=>decide (kK (ks[i]?.getD (0,0,0))=z.map Key.inl)with
 |none=>
  rw[List.find?_eq_none]at e
  rw[ix_none fun k hk hz=>?_]
  .rfl
  .obtain⟨i,hi⟩:=List.getElem?_of_mem hk
   refine e i (List.mem_range.mpr (lt_of_get hi)) (decide_eq_true ?_)
   rw[hi]
   show(kI k).map Key.inl=_
   rw[hz]
 |some i=>
  have h0:=List.find?_some e
  have h1:=of_decide_eq_true h0
  have h2:=List.mem_range.mp (List.mem_of_find?_eq_some e)
  have h3:ks[i]?=some ks[i]:=List.getElem?_eq_getElem h2
  rw[h3]at h1
  rw[ix_some hn h3 (inl_inj h1)]
  rfl
noncomputable def mx (l0 l1:Nat) (sp:Option Nat) (ks:List K3) (k:K3):Rm:=(ixK ks (bh l0 l1 sp k 0),ixK ks (bh l0 l1 sp k 1))
def spMInx:Sp:=fun vs H Q _=>∃(bd l:Addr) (l0 h0 l1 h1:Nat) (sp:Option Nat) (xs:List V),vs=[.ref bd,.ref l]/\IsB H bd l0 h0 l1 h1 sp/\H l=some (.lst xs)/\All2 (IsK3 H) xs (rk (lvs sp) h0 h1)/\∀(p:Addr) (H':Hp),Same H H'->IsM H' p ((rk (lvs sp) h0 h1).map (mx l0 l1 sp (rk (lvs sp) h0 h1)))->Q (.ref p) H'
theorem body_minx {C:Rc} (hN:C.N.length=5) (hR:C.fs "room_behind"=some spRBx):∀vs H Q E,spMInx vs H Q E->tSs C c_p_machine_in_bounds { nx:=fun _ H'=>Q .non H',rt:=Q } (L2.start C.N vs) H:=by
 intro vs H Q E h
 obtain⟨bd,l,l0,h0,l1,h1,sp,xs,rfl,hB,hl,hA,q⟩:=h
 rw[start_eq hN]
 unfold c_p_machine_in_bounds
 obtain⟨hrl,hrb⟩:=rk_ok hB.bs hB.b0 hB.b1 (h0:=h0) (h1:=h1)
 have hnd:=rk_nd (lvs_nd (sp:=sp)) (h0:=h0) (h1:=h1)
 generalize hks:rk (lvs sp) h0 h1=ks at hA q hrl hrb hnd
 have hxl:=hA.len
 walk_at "y"
 refine at_enL (SqL.of hl) (cl_e (vs:=xs) (fun i b H'=>i<=ks.length/\plT b=plN ks i/\TbT (ks.take i) ks.length b/\okT b H'/\b.length=i/\Same H H') ⟨Nat.zero_le _,rfl,fun x h=>absurd h List.not_mem_nil,fun x h=>absurd h List.not_mem_nil,rfl,Same.refl _⟩ (fun i b H' pv=>SqL.of (pv.2.2.2.2.2 _ _ hl)) ?_ ?_)
 .rintro i b H1 x p R hx hp ⟨_,hpl,hb,hok,hbl,s1⟩ hR'
  obtain⟨k,hk,pk,rfl,hpk⟩:=hA.getL hx
  have hi:=lt_of_get hk
  refine g_tup2 (SqT.of upd_same) ?_
  have t2:=same_new hp (.tup [.int i,.ref pk])
  have s2:=s1.trans t2
  generalize upd H1 p (.tup [.int i,.ref pk])=H2 at t2 s2 ⊢
  have ok2:okT b H2:=fun y hy=>t2 _ _ (hok y hy)
  walk_at "y"
  refine⟨kK k,pk,rfl,by rw[kK_kV];exact s2 _ _ hpk,ok2,fun y hy e=>?_,small1000 (by omega),hR' _ _ ⟨hi,?_,fun y hy=>?_,fun y hy=>?_,by simp[hbl],s2⟩⟩
  .obtain⟨k',j,hk',e',_⟩:=hb y hy
   have ek:k'=k:=kK_inj (e'.symm.trans e)
   subst ek
   exact nd_take hnd hk hk'
  .rw[plN_succ hk,<- hpl]
   unfold plT
   rw[List.map_append]
   rfl
  .rw[take_snoc hk]
   rcases List.mem_append.mp hy with hy|hy
   .obtain⟨k',j,hk',e'⟩:=hb y hy
    exact⟨k',j,List.mem_append_left _ hk',e'⟩
   .have:y=(kK k,pk,V.int i):=by simpa using hy
    subst this
    exact⟨k,i,List.mem_append_right _ (List.mem_singleton.mpr rfl),rfl,rfl,hi⟩
  .rcases List.mem_append.mp hy with hy|hy
   .exact ok2 y hy
   .have:y=(kK k,pk,V.int i):=by simpa using hy
    subst this
    show H2 pk=some (.tup ((kK k).map L2.kV))
    rw[kK_kV]
    exact s2 _ _ hpk
 .rintro a H1 ⟨_,hpl,hb,hok,hal,s1⟩
  rw[hxl,List.take_length]at hb
  rw[hxl]at hpl
  refine⟨hok,fun p hp=>?_⟩
  have s2:=s1.trans (same_new hp (.dT (plT a)))
  have hp2:upd H1 p (.dT (plT a)) p=some (.dT (plT a)):=upd_same
  generalize upd H1 p (.dT (plT a))=H2 at s2 hp2 ⊢
  have get0:∀{H3:Hp} {Q':VK},Same H2 H3->Q' (oV (ixK ks none)) H3->kGet2 p Q' .non H3:=fun s3 q'=>at_getN (hb.non hrb (s3 _ _ hp2)) q'
  have get1:∀{H3:Hp} {Q':VK} {pz:Addr} {z:List Int},Same H2 H3->H3 pz=some (.tup (z.map V.int))->Q' (oV (ixK ks (some z))) H3->kGet2 p Q' (.ref pz) H3:=by
   intro H3 Q' pz z s3 hz q'
   refine at_get2 (DGet.t (k:=z.map Key.inl) (s3 _ _ hp2) (by rw[hz,List.map_map];rfl)) ?_
   rw[hpl,plN_val hnd]
   exact q'
  walk_at "y"
  refine at_iv_lst (SqL.of (s2 _ _ hl)) (comp_l (vs:=xs) (fun i ys H'=>i<=ks.length/\Rooms H' ys ((ks.take i).map (mx l0 l1 sp ks))/\Same H2 H') ⟨Nat.zero_le _,trivial,Same.refl _⟩ (fun i ys H' pv=>SqL.of (pv.2.2 _ _ (s2 _ _ hl))) ?_ ?_)
  .rintro i ys H3 x R hx ⟨_,hR',s3⟩ hRR
   obtain⟨k,hk,pk,rfl,hpk⟩:=hA.getL hx
   have hi:=lt_of_get hk
   have s23:=s2.trans s3
   walk_at "y"
   refine at_get1 (.inr ⟨plT a,.inl (s3 _ _ hp2)⟩) ?_
   refine call_e hR ?_
   walk_at "y"
   have half:∀(H4:Hp),Same H3 H4->kA1 C (List.set (clr [4] [some (.ref bd),some (.ref l),some (.ref p),none,none]) 4 (some (.ref pk))) (.cons (.dgt (.var 2) (.call "room_behind" (.cons (.var 0) (.cons (.var 4) (.cons (.int 1) .nil))))) .nil) (kTup (kPush ys R)) (oV (ixK ks (bh l0 l1 sp k 0))) H4:=by
    intro H4 s34
    have s4:=s3.trans s34
    walk_at "y"
    refine at_get1 (.inr ⟨plT a,.inl (s4 _ _ hp2)⟩) ?_
    refine call_e hR ?_
    walk_at "y"
    have second:∀(H5:Hp),Same H4 H5->kA1 C (List.set (clr [4] [some (.ref bd),some (.ref l),some (.ref p),none,none]) 4 (some (.ref pk))) .nil (kA2 (oV (ixK ks (bh l0 l1 sp k 0))) (kTup (kPush ys R))) (oV (ixK ks (bh l0 l1 sp k 1))) H5:=by
     intro H5 s45
     walk_at "y"
     refine⟨by show 2<=sizeLine;decide,fun p6 hp6=>?_⟩
     have s6:=same_new hp6 (.tup [oV (ixK ks (bh l0 l1 sp k 0)),oV (ixK ks (bh l0 l1 sp k 1))])
     have h6:upd H5 p6 (.tup [oV (ixK ks (bh l0 l1 sp k 0)),oV (ixK ks (bh l0 l1 sp k 1))]) p6=some (.tup [oV (ixK ks (bh l0 l1 sp k 0)),oV (ixK ks (bh l0 l1 sp k 1))]):=upd_same
     generalize upd H5 p6 (.tup [oV (ixK ks (bh l0 l1 sp k 0)),oV (ixK ks (bh l0 l1 sp k 1))])=H6 at s6 h6 ⊢
     have hyl:=hR'.len
     rw[List.length_map,List.length_take]at hyl
     refine⟨small1000 (by omega),hRR _ _ ⟨hi,?_,(s4.trans s45).trans s6⟩⟩
     rw[take_snoc hk,List.map_append]
     exact(hR'.mono (tp_same (s34.trans (s45.trans s6)))).snoc ⟨p6,rfl,h6⟩
    refine⟨bd,pk,l0,h0,l1,h1,sp,k,1,rfl,hB.mono (tp_same (s2.trans s4)),(s2.trans s4) _ _ hpk,fun e H5 s45=>get0 (s4.trans s45) (by rw[<- e];exact second H5 s45),fun z e pz H5 s45 hz=>get1 (s4.trans s45) hz (by rw[<- e];exact second H5 s45)⟩
   refine⟨bd,pk,l0,h0,l1,h1,sp,k,0,rfl,hB.mono (tp_same s23),s23 _ _ hpk,fun e H4 s34=>get0 (s3.trans s34) (by rw[<- e];exact half H4 s34),fun z e pz H4 s34 hz=>get1 (s3.trans s34) hz (by rw[<- e];exact half H4 s34)⟩
  .rintro ys H3 ⟨_,hR',s3⟩ p5 hp5
   rw[hxl,List.take_length]at hR'
   walk_at "y"
   have h5:upd H3 p5 (.lst ys) p5=some (.lst ys):=upd_same
   have s5:=same_new hp5 (.lst ys)
   generalize upd H3 p5 (.lst ys)=H5 at h5 s5 ⊢
   refine at_tupL (SqL.of h5) fun p6 hp6=>?_
   have s6:=same_new hp6 (.tup ys)
   exact q p6 _ (s2.trans (s3.trans (s5.trans s6))) ⟨ys,upd_same,hR'.mono (tp_same (s5.trans s6))⟩
def Sus (M:List Rm) (S:List Nat):Prop:=∀r∈S,r<M.length/\(∃r'∈S,fs1 M r'=some r\/fs2 M r'=some r)/\∃r'∈S,fs1 M r=some r'\/fs2 M r=some r'
theorem sus_last {M:List Rm} {S rs:List Nat} (h:Sus M S) (hs:∀r∈S,r∈rs):∀r∈S,r∈lst M rs:=by
 intro r hr
 obtain⟨_,⟨r1,hr1,e1⟩,⟨r2,hr2,e2⟩⟩:=h r hr
 refine List.mem_filter.mpr ⟨hs r hr,?_⟩
 unfold lastR
 rw[Bool.and_eq_true]
 constructor
 .unfold ldS
  rw[List.any_eq_true]
  refine⟨r1,hs r1 hr1,?_⟩
  rw[Bool.or_eq_true]
  rcases e1 with e|e
  .left;rw[e];exact decide_eq_true rfl
  .right;rw[e];exact decide_eq_true rfl
 .rw[Bool.or_eq_true]
  rcases e2 with e|e
  .left;rw[e];exact List.contains_iff_mem.mpr (hs r2 hr2)
  .right;rw[e];exact List.contains_iff_mem.mpr (hs r2 hr2)
end BE
namespace K31
open PySem PySem.Spec PyProof.Rows L2 R3 LW
noncomputable def c_p_are_sizes:Css:=(.cons (.ret (.and (.call "is_number" (.cons (.var 0) .nil)) (.and (.call "is_number" (.cons (.var 1) .nil)) (.and (.cmp .GtE (.var 0) (.int 0)) (.cmp .GtE (.var 1) (.int 0))))))
  .nil)
noncomputable def c_p_walk_sums:Css:=(.cons (.asg (.name 3) (.blt .list (.cons (.var 1) .nil)))
  (.cons (.for_ (.name 4) (.range1 (.var 2)) (.cons (.asg (.name 3) (.call "way_sums" (.cons (.var 0) (.cons (.var 3) .nil))))
  .nil))
  (.cons (.ret (.var 3))
  .nil)))
noncomputable def c_p_are_below:Css:=(.cons (.ret (.blt .all (.cons (.comp (.cmp .LtE (.met .bitlen (.var 2) .nil) (.var 1)) [2] (.name 2) (.val (.var 0)) .none .nil) .nil)))
  .nil)
noncomputable def c_p_too_little:Css:=(.cons (.asg (.name 4) (.comp (.int 1) [5] (.name 5) (.val (.var 0)) .none .nil))
  (.cons (.for_ (.name 6) (.range2 (.int 1) (.bin .Add (.var 3) (.int 1))) (.cons (.asg (.name 4) (.call "walk_sums" (.cons (.var 0) (.cons (.var 4) (.cons (.var 2) .nil)))))
  (.cons (.ite (.val (.call "are_below" (.cons (.var 4) (.cons (.bin .Mult (.var 1) (.var 6)) .nil)))) (.cons (.ret (.tup (.cons (.var 6) (.cons (.var 4) .nil))))
  .nil) .nil)
  .nil)))
  (.cons (.ret .non)
  .nil)))
noncomputable def c_p_shows_too_little:Css:=(.cons (.ite (.not (.and (.val (.call "is_machine" (.cons (.var 0) .nil))) (.val (.call "are_sizes" (.cons (.var 1) (.cons (.var 2) .nil)))))) (.cons (.ret (.bl false))
  .nil) .nil)
  (.cons (.ite (.not (.and (.val (.call "is_within" (.cons (.var 3) (.cons (.int 1) (.cons (.gint "LAST_PAPER" 400) .nil))))) (.val (.call "are_numbers" (.cons (.var 4) (.cons (.blt .len (.cons (.var 0) .nil)) .nil)))))) (.cons (.ret (.bl false))
  .nil) .nil)
  (.cons (.ret (.and (.cmp .Eq (.blt .list (.cons (.var 4) .nil)) (.call "walk_sums" (.cons (.var 0) (.cons (.comp (.int 1) [5] (.name 5) (.val (.var 0)) .none .nil) (.cons (.bin .Mult (.var 2) (.var 3)) .nil))))) (.call "are_below" (.cons (.var 4) (.cons (.bin .Mult (.var 1) (.var 3)) .nil)))))
  .nil)))
open SR CK RW TM BD BE
noncomputable def wN (M:List Rm) (n:Nat):List Nat:=(List.range M.length).map (wy M none n)
theorem wN_len {M:List Rm} {n:Nat}:(wN M n).length=M.length:=by unfold wN;simp
theorem wN0 {M:List Rm}:wN M 0=List.replicate M.length 1:=by
 apply List.ext_getElem?
 intro i
 unfold wN
 rw[List.getElem?_map]
 by_cases h:i<M.length
 .rw[List.getElem?_range h,List.getElem?_replicate,if_pos h]
  rfl
 .rw[List.getElem?_eq_none (by simpa using h),List.getElem?_replicate,if_neg h]
  rfl
def spWalk:Sp:=fun vs H Q _=>∃(a b:Addr) (M:List Rm) (n q:Nat),vs=[.ref a,.ref b,.int q]/\IsM H a M/\OkM M/\M.length<=500/\q<=900/\H b=some (.lst ((wN M n).map nV))/\∀p H',H p=none->Same H H'->H' p=some (.lst ((wN M (n+q)).map nV))->Q (.ref p) H'
noncomputable def bel (b:Nat) (ns:List Nat):Bool:=ns.all fun c=>decide (c<2 ^ b)
theorem bits_le {c p:Nat}:decide (((Builtin.Int.intBits (c:Int):Nat):Int)<=(p:Int))=decide (c<2 ^ p):=by
 unfold Builtin.Int.intBits
 rw[Int.natAbs_natCast]
 by_cases hc:c=0
 .subst hc
  have:=Nat.two_pow_pos p
  simp[this]
 .rw[if_neg (by simpa using hc)]
  apply decide_eq_decide.mpr
  rw[<- Nat.log2_lt hc]
  omega
def spBelow:Sp:=fun vs H Q _=>∃(c:Addr) (ns:List Nat) (b:Nat),vs=[.ref c,.int b]/\Lt H c (ns.map nV)/\ns.length<=900/\∀H',Same H H'->Q (.bl (bel b ns)) H'
theorem body_below {C:Rc} (hN:C.N.length=3):∀vs H Q E,spBelow vs H Q E->tSs C c_p_are_below { nx:=fun _ H'=>Q .non H',rt:=Q } (L2.start C.N vs) H:=by
 intro vs H Q E h
 obtain⟨c,ns,b,rfl,hc,hl,q⟩:=h
 rw[start_eq hN]
 unfold c_p_are_below
 walk_at "y"
 refine iv_lt hc (fun i xs H'=>i<=ns.length/\xs=((ns.take i).map fun c=>decide (c<2 ^ b)).map V.bl/\H'=H) ⟨Nat.zero_le _,rfl,rfl⟩ (fun i xs H' pv=>by rw[pv.2.2];exact Same.refl _) ?_ ?_
 .rintro i xs H' x R hx ⟨_,rfl,rfl⟩ hR
  rw[List.getElem?_map]at hx
  obtain⟨n,hn,rfl⟩:=Option.map_eq_some_iff.mp hx
  have hi:=lt_of_get hn
  simp only[nV]
  walk_at "y"
  refine⟨rfl,?_⟩
  walk_at "y"
  rw[bits_le]
  refine⟨by rw[List.length_map,List.length_map,List.length_take];exact small1000 (by omega),hR _ _ ⟨hi,?_,rfl⟩⟩
  rw[List.take_succ,hn,List.map_append,List.map_append]
  rfl
 .rintro xs H' ⟨_,rfl,rfl⟩ p hp
  walk_at "y"
  refine at_all (SqL.of upd_same) ?_
  rw[List.length_map,List.take_length,show(ns.map fun c=>decide (c<2 ^ b)).all id=bel b ns by unfold bel;rw[List.all_map];rfl]
  exact q _ (same_new hp _)
noncomputable def okm (M:List Rm) (p q m:Nat):Bool:=bel (p*m) (wN M (q*m))
def Hit (M:List Rm) (p q most:Nat) (o:Option Nat):Prop:=(o=none/\∀j,j<most->okm M p q (j+1)=false)\/∃i,i<most/\o=some (i+1)/\okm M p q (i+1)=true/\∀j,j<i->okm M p q (j+1)=false
theorem Hit.eq {M:List Rm} {p q most:Nat} {o o':Option Nat} (h:Hit M p q most o) (h':Hit M p q most o'):o=o':=by
 rcases h with⟨rfl,h⟩|⟨i,hi,rfl,h1,h2⟩
 .rcases h' with⟨rfl,_⟩|⟨i',hi',rfl,h1',_⟩
  .rfl
  .rw[h i' hi']at h1';cases h1'
 .rcases h' with⟨rfl,h'⟩|⟨i',hi',rfl,h1',h2'⟩
  .rw[h' i hi]at h1;cases h1
  .rcases Nat.lt_trichotomy i i' with h|h|h
   .rw[h2' i h]at h1;cases h1
   .rw[h]
   .rw[h2 i' h]at h1';cases h1'
noncomputable def Res (H0 H:Hp) (M:List Rm) (q:Nat) (v:V):Option Nat->Prop
 |none=>v=.non
 |some m=>∃t c,v=.ref t/\H t=some (.tup [.int m,.ref c])/\H0 c=none/\H c=some (.lst ((wN M (q*m)).map nV))
def spTL:Sp:=fun vs H Q _=>∃(a:Addr) (M:List Rm) (p q most:Nat),vs=[.ref a,.int p,.int q,.int most]/\IsM H a M/\OkM M/\M.length<=100/\p<=8/\q<=8/\most<=100/\∀v o H',Same H H'->Hit M p q most o->Res H H' M q v o->Q v H'
theorem ones_of {M:List Rm} {i:Nat}:(List.replicate i 1:List Nat).map nV++[V.int 1]=(List.replicate (i+1) 1).map nV:=by
 rw[List.replicate_succ',List.map_append]
 rfl
def spSizes:Sp:=fun vs H Q _=>∃(p q:Nat),vs=[.int p,.int q]/\Q (.bl true) H
theorem body_sizes {C:Rc} (hN:C.N.length=2) (hI:C.fs "is_number"=some spIsNum):∀vs H Q E,spSizes vs H Q E->tSs C c_p_are_sizes { nx:=fun _ H'=>Q .non H',rt:=Q } (L2.start C.N vs) H:=by
 intro vs H Q E h
 obtain⟨p,q',rfl,q⟩:=h
 rw[start_eq hN]
 unfold c_p_are_sizes
 walk_at "y"
 refine call_e hI ?_
 walk_at "y"
 refine⟨_,rfl,.inl ⟨p,rfl⟩,?_⟩
 simp only[isN]
 walk_at "y"
 refine call_e hI ?_
 walk_at "y"
 refine⟨_,rfl,.inl ⟨q',rfl⟩,?_⟩
 simp only[isN]
 walk_at "y"
 rw[decide_eq_true (show(0:Int)<=p by omega)]
 walk_at "y"
 rw[decide_eq_true (show(0:Int)<=q' by omega)]
 exact q
theorem nV_inj:∀{a b:List Nat},a.map nV=b.map nV->a=b
 | [],[],_=>rfl
 | [],_ :: _,h=>by cases h
 |_ :: _,[],h=>by cases h
 |x :: a,y :: b,h=>by
  rw[List.map_cons,List.map_cons]at h
  injection h with h1 h2
  injection h1 with h1
  rw[nV_inj h2,show x=y by omega]
theorem leq_nV {a b:List Nat}:LEq (a.map nV) (b.map nV):=by
 intro i x y hx hy
 rw[List.getElem?_map]at hx hy
 obtain⟨m,_,rfl⟩:=Option.map_eq_some_iff.mp hx
 obtain⟨n,_,rfl⟩:=Option.map_eq_some_iff.mp hy
 exact .inl ⟨rfl,fun b z=>by cases z⟩
def spShow:Sp:=fun vs H Q _=>∃(a c:Addr) (M:List Rm) (p q m:Nat) (ns:List Nat),vs=[.ref a,.int p,.int q,.int m,.ref c]/\IsM H a M/\OkM M/\M.length<=60/\p<=8/\q<=8/\1<=m/\m<=100/\Lt H c (ns.map nV)/\ns.length<=60/\∀H',Same H H'->Q (.bl (decide (ns=wN M (q*m))&&bel (p*m) ns)) H'
structure FsShow (C:Rc):Prop where
 isM:C.fs "is_machine"=some spIsM
 sizes:C.fs "are_sizes"=some spSizes
 within:C.fs "is_within"=some spWithin
 areN:C.fs "are_numbers"=some spAreN
 walk:C.fs "walk_sums"=some spWalk
 below:C.fs "are_below"=some spBelow
def spAsked:Sp:=fun vs H Q _=>∃(b:Addr) (n:Nat),vs=[.ref b]/\H b=some (BoxO b n)/\n<=2 ^ 37/\∀(t a:Addr) (M:List Rm) (p q:Nat) (H':Hp),Go 1100 H H'->H' t=some (.tup [.ref a,.int p,.int q])->IsM H' a M->OkM M->1<=M.length->M.length<=12->1<=p->p<=4->1<=q->q<=8->p<=q->Q (.ref t) H'
def spDueW:Sp:=fun vs H Q _=>∃(a:Addr) (M:List Rm) (p q most:Nat),vs=[.ref a,.int p,.int q,.int most]/\IsM H a M/\OkM M/\1<=M.length/\M.length<=100/\p<=8/\q<=8/\most<=100/\∀v o H',Same H H'->Hit M p q most o->Res H H' M q v o->Q v H'
theorem max_bel {ns:List Nat} {b:Nat} {m:Int} (hm:m∈ns.map fun n:Nat=>(n:Int)) (hle:∀x∈ns.map fun n:Nat=>(n:Int),x<=m):decide (m<((2 ^ b:Nat):Int))=bel b ns:=by
 rw[Bool.eq_iff_iff,decide_eq_true_eq]
 unfold bel
 rw[List.all_eq_true]
 constructor
 .intro h x hx
  have:=hle x (List.mem_map.mpr ⟨x,hx,rfl⟩)
  exact decide_eq_true (by omega)
 .intro h
  obtain⟨x,hx,rfl⟩:=List.mem_map.mp hm
  have:=of_decide_eq_true (h x hx)
  omega
theorem eqv_nl {H:Hp} {a b:Addr} {ns:List Nat} (ha:H a=some (.lst (ns.map nV))) (hb:H b=some (.lst (ns.map nV))) (hz:ns.length<=900):Eqv H 1 (.ref a) (.ref b):=by
 refine .inr ⟨_,_,_,_,rfl,rfl,.inl ⟨ha,hb⟩,by rw[List.length_map];exact Nat.le_of_lt (small1000 (by omega)),rfl,fun i x y f1 f2=>?_⟩
 rw[f1]at f2
 cases f2
 rw[List.getElem?_map]at f1
 obtain⟨n,_,rfl⟩:=Option.map_eq_some_iff.mp f1
 exact Eqv.int
theorem eqv_mn {H:Hp} {t t' a b:Addr} {m:Int} {ns:List Nat} (h1:H t=some (.tup [.int m,.ref a])) (h2:H t'=some (.tup [.int m,.ref b])) (ha:H a=some (.lst (ns.map nV))) (hb:H b=some (.lst (ns.map nV))) (hz:ns.length<=900):Eqv H 2 (.ref t) (.ref t'):=by
 refine .inr ⟨_,_,_,_,rfl,rfl,.inr ⟨h1,h2⟩,by show 2<=sizeLine;decide,rfl,fun i x y e1 e2=>?_⟩
 match i,e1,e2 with
 |0,e1,e2=>cases e1;cases e2;exact Eqv.int
 |1,e1,e2=>cases e1;cases e2;exact eqv_nl ha hb hz
structure FsRight (C:Rc):Prop where
 take:C.fs "_law_take"=some spTake
 asked:C.fs "_law_asked"=some spAsked
 due:C.fs "_law_due"=some spDueW
 tl:C.fs "too_little"=some spTL
 same:C.fs "_law_same"=some (spSame 2)
 shows:C.fs "shows_too_little"=some spShow
end K31
namespace K30
open PySem PySem.Spec PyProof.Rows L2 R3 LW
noncomputable def c_p_walks_from:Css:=(.cons (.asg (.name 3) (.lst (.cons (.tup (.cons (.str "") (.cons (.var 1) .nil))) .nil)))
  (.cons (.for_ (.name 4) (.range1 (.var 2)) (.cons (.asg (.name 3) (.comp (.tup (.cons (.bin .Add (.var 5) (.var 7)) (.cons (.idx (.idx (.var 0) (.var 6)) (.blt .int (.cons (.var 7) .nil))) .nil))) [5,6,7] (.tup (.cons (.name 5) (.cons (.name 6) .nil))) (.val (.var 3)) .none (.cons [7] (.name 7) (.val (.str "01")) (.some (.cmp .IsNot (.idx (.idx (.var 0) (.var 6)) (.blt .int (.cons (.var 7) .nil))) .non)) .nil)))
  .nil))
  (.cons (.ret (.var 3))
  .nil)))
noncomputable def c_p_powered:Css:=(.cons (.ret (.comp (.call "walks_from" (.cons (.var 0) (.cons (.var 2) (.cons (.var 1) .nil)))) [2] (.name 2) (.range1 (.blt .len (.cons (.var 0) .nil))) .none .nil))
  .nil)
noncomputable def c_p_walks_to:Css:=(.cons (.asg (.name 2) (.comp (.lst .nil) [3] (.name 3) (.val (.var 0)) .none .nil))
  (.cons (.for_ (.tup (.cons (.name 3) (.cons (.name 4) .nil))) (.enum (.call "powered" (.cons (.var 0) (.cons (.var 1) .nil)))) (.cons (.for_ (.tup (.cons (.name 5) (.cons (.name 6) .nil))) (.val (.var 4)) (.cons (.expr (.met .append (.idx (.var 2) (.var 6)) (.cons (.var 3) .nil)))
  .nil))
  .nil))
  (.cons (.ret (.var 2))
  .nil)))
noncomputable def c_p_greatest_within:Css:=(.cons (.asg (.name 4) (.blt .list (.cons (.var 3) .nil)))
  (.cons (.asg (.name 5) (.call "walk_sums" (.cons (.var 0) (.cons (.var 4) (.cons (.var 2) .nil)))))
  (.cons (.asg (.name 6) (.call "walks_to" (.cons (.var 0) (.cons (.var 2) .nil))))
  (.cons (.asg (.name 7) (.blt .list (.cons (.blt .range (.cons (.blt .len (.cons (.var 0) .nil)) .nil)) .nil)))
  (.cons (.whl (.val (.var 7)) (.cons (.asg (.name 8) (.met .popL (.var 7) .nil))
  (.cons (.asg (.name 9) (.bin .Sub (.idx (.var 4) (.var 8)) (.bin .RShift (.idx (.var 5) (.var 8)) (.var 1))))
  (.cons (.ite (.cmp .Gt (.var 9) (.int 0)) (.cons (.augS (.var 4) (.var 8) true (.var 9))
  (.cons (.for_ (.name 10) (.val (.idx (.var 6) (.var 8))) (.cons (.augS (.var 5) (.var 10) true (.var 9))
  .nil))
  (.cons (.expr (.met .extend (.var 7) (.cons (.idx (.var 6) (.var 8)) .nil)))
  .nil))) .nil)
  .nil))))
  (.cons (.ret (.var 4))
  .nil))))))
noncomputable def c_p_enough:Css:=(.cons (.asg (.name 4) (.call "greatest_within" (.cons (.var 0) (.cons (.var 1) (.cons (.var 2) (.cons (.comp (.var 3) [5] (.name 5) (.val (.var 0)) .none .nil) .nil))))))
  (.cons (.ret (.ife (.val (.blt .anyI (.cons (.var 4) .nil))) (.var 4) .non))
  .nil))
open SR CK RW TM BD BE K31
noncomputable def dr (M:List Rm) (r:Nat):List Nat:=(LW.stp M r false).toList++(LW.stp M r true).toList
noncomputable def en (M:List Rm):Nat->Nat->List Nat
 |0,r=>[r]
 |n+1,r=>(en M n r).flatMap (dr M)
noncomputable def ss (M:List Rm) (n:Nat) (w:Nat->Nat) (r:Nat):Nat:=((en M n r).map w).sum
noncomputable def st1 (M:List Rm) (w:Nat->Nat) (r:Nat):Nat:=ow w (LW.stp M r false)+ow w (LW.stp M r true)
theorem ow_sum {w:Nat->Nat} {o:Option Nat}:ow w o=(o.toList.map w).sum:=by cases o<;>simp[ow]
theorem st1_eq {M:List Rm} {w:Nat->Nat} {r:Nat}:st1 M w r=((dr M r).map w).sum:=by
 unfold st1 dr
 rw[List.map_append,List.sum_append,ow_sum,ow_sum]
theorem sum_flat (f:Nat->List Nat) (w:Nat->Nat):∀l:List Nat,((l.flatMap f).map w).sum=(l.map fun e=>((f e).map w).sum).sum
 | []=>rfl
 |x :: l=>by rw[List.flatMap_cons,List.map_append,List.sum_append,List.map_cons,List.sum_cons,sum_flat f w l]
theorem ss_succ {M:List Rm} {n:Nat} {w:Nat->Nat} {r:Nat}:ss M (n+1) w r=ss M n (st1 M w) r:=by
 unfold ss
 rw[show en M (n+1) r=(en M n r).flatMap (dr M) from rfl,sum_flat]
 congr 1
 exact List.map_congr_left fun e _=>st1_eq.symm
noncomputable def it (M:List Rm) (w:Nat->Nat):Nat->Nat->Nat
 |0=>w
 |n+1=>st1 M (it M w n)
theorem it_succ {M:List Rm}:∀{n:Nat} {w:Nat->Nat},it M w (n+1)=it M (st1 M w) n
 |0,w=>rfl
 |n+1,w=>by
  show st1 M (it M w (n+1))=st1 M (it M (st1 M w) n)
  rw[it_succ]
theorem it_ss {M:List Rm}:∀{n:Nat} {w:Nat->Nat} {r:Nat},it M w n r=ss M n w r
 |0,w,r=>by unfold ss en;simp[it]
 |n+1,w,r=>by rw[it_succ,it_ss,ss_succ]
theorem dr_lt {M:List Rm} (hO:OkM M) {r e:Nat} (h:e∈dr M r):e<M.length:=by
 unfold dr at h
 rcases List.mem_append.mp h with h|h
 .exact LW.stp_lt hO (Option.mem_toList.mp h)
 .exact LW.stp_lt hO (Option.mem_toList.mp h)
theorem dr_len {M:List Rm} {r:Nat}:(dr M r).length<=2:=by
 unfold dr
 cases LW.stp M r false<;>cases LW.stp M r true<;>simp
theorem en_lt {M:List Rm} (hO:OkM M):∀{n r e:Nat},r<M.length->e∈en M n r->e<M.length
 |0,r,e,hr,h=>by
  rw[List.mem_singleton.mp h]
  exact hr
 |n+1,r,e,hr,h=>by
  obtain⟨x,_,hx⟩:=List.mem_flatMap.mp h
  exact dr_lt hO hx
theorem flat_len {f:Nat->List Nat} {k:Nat} (h:∀e,(f e).length<=k):∀l:List Nat,(l.flatMap f).length<=l.length*k
 | []=>Nat.zero_le _
 |x :: l=>by
  rw[List.flatMap_cons,List.length_append,List.length_cons,Nat.succ_mul]
  have:=h x
  have:=flat_len h l
  omega
theorem en_len {M:List Rm} {r:Nat}:∀{n:Nat},(en M n r).length<=2 ^ n
 |0=>Nat.le_refl _
 |n+1=>by
  have h1:=flat_len (f:=dr M) (k:=2) (fun _=>dr_len) (en M n r)
  have h2:=en_len (M:=M) (r:=r) (n:=n)
  show((en M n r).flatMap (dr M)).length<=_
  rw[Nat.pow_succ]
  exact Nat.le_trans h1 (Nat.mul_le_mul_right 2 h2)
theorem sum_le:∀{l:List Nat} {u w:Nat->Nat},(∀e∈l,u e<=w e)->(l.map u).sum<=(l.map w).sum
 | [],_,_,_=>Nat.le_refl _
 |x :: l,u,w,h=>by
  rw[List.map_cons,List.map_cons,List.sum_cons,List.sum_cons]
  have:=h x (by simp)
  have:=sum_le (l:=l) (u:=u) (w:=w) fun e he=>h e (by simp[he])
  omega
theorem ss_le {M:List Rm} (hO:OkM M) {n r:Nat} {u w:Nat->Nat} (hr:r<M.length) (h:∀e,e<M.length->u e<=w e):ss M n u r<=ss M n w r:=sum_le fun e he=>h e (en_lt hO hr he)
theorem sum_mul {c:Nat} {w:Nat->Nat}:∀l:List Nat,(l.map fun e=>c*w e).sum=c*(l.map w).sum
 | []=>rfl
 |x :: l=>by rw[List.map_cons,List.map_cons,List.sum_cons,List.sum_cons,sum_mul l,Nat.mul_add]
theorem ss_mul {M:List Rm} {n r c:Nat} {w:Nat->Nat}:ss M n (fun e=>c*w e) r=c*ss M n w r:=sum_mul _
noncomputable def less (w:Nat->Nat) (a l:Nat):Nat->Nat:=fun e=>if e=a then w e-l else w e
theorem sum_less {w:Nat->Nat} {a k:Nat} (hl:k<=w a):∀l:List Nat,(l.map w).sum=(l.map (less w a k)).sum+k*l.count a
 | []=>rfl
 |x :: l=>by
  rw[List.map_cons,List.map_cons,List.sum_cons,List.sum_cons,sum_less hl l,List.count_cons]
  by_cases h:x=a
  .subst h
   rw[if_pos (by simp)]
   have:less w x k x=w x-k:=by unfold less;rw[if_pos rfl]
   rw[this,Nat.mul_add]
   omega
  .rw[if_neg (by simpa using h),Nat.add_zero]
   have:less w a k x=w x:=by unfold less;rw[if_neg h]
   rw[this]
   omega
theorem ss_less {M:List Rm} {n r:Nat} {w:Nat->Nat} {a k:Nat} (hl:k<=w a):ss M n w r=ss M n (less w a k) r+k*(en M n r).count a:=sum_less hl _
def Okw (M:List Rm) (p q:Nat) (u:Nat->Nat):Prop:=∀r,r<M.length->u r*2 ^ p<=ss M q u r
def Up (M:List Rm) (m:Nat) (u:Nat->Nat):Prop:=∀r,r<M.length->u r<=m
structure Gr (M:List Rm) (p q m:Nat) (w:Nat->Nat):Prop where
 up:Up M m w
 ok:Okw M p q w
 top:∀u,Up M m u->Okw M p q u->∀r,r<M.length->u r<=w r
noncomputable def wL (M:List Rm) (w:Nat->Nat):List Nat:=(List.range M.length).map w
theorem wL_len {M:List Rm} {w:Nat->Nat}:(wL M w).length=M.length:=by unfold wL;simp
theorem wL_get {M:List Rm} {w:Nat->Nat} {r:Nat} (h:r<M.length):(wL M w)[r]?=some (w r):=by
 unfold wL
 rw[List.getElem?_map,List.getElem?_range h]
 rfl
theorem wL_at {M:List Rm} {w:Nat->Nat} {r:Nat} (h:r<M.length):atI ((wL M w).map nV) (r:Int)=some (.int (w r)):=atI_nat (by rw[List.getElem?_map,wL_get h];rfl)
theorem wL_set {M:List Rm} {w:Nat->Nat} {r k:Nat}:((wL M w).map nV).set r (.int (w r-k:Nat))=(wL M (less w r k)).map nV:=by
 apply List.ext_getElem?
 intro i
 unfold wL
 rw[List.getElem?_set,List.getElem?_map,List.getElem?_map,List.getElem?_map,List.getElem?_map,List.length_map,List.length_map,List.length_range]
 by_cases hi:i<M.length
 .rw[List.getElem?_range hi]
  by_cases h:r=i
  .subst h
   rw[if_pos rfl,if_pos hi]
   show _=some (nV (less w r k r))
   unfold less
   rw[if_pos rfl]
   rfl
  .rw[if_neg h]
   show _=some (nV (less w r k i))
   unfold less
   rw[if_neg (fun z=>h z.symm)]
   rfl
 .rw[List.getElem?_eq_none (by simpa using hi)]
  by_cases h:r=i
  .rw[if_pos h,if_neg (by rw[h];exact hi)]
   rfl
  .rw[if_neg h]
   rfl
theorem wsL_wL {M:List Rm} (hO:OkM M) {w:Nat->Nat}:(wsL M ((wL M w).map fun n:Nat=>(n:Int)) M.length).map V.int=(wL M (st1 M w)).map nV:=by
 unfold wsL
 have e:∀r c,oi ((wL M w).map fun n:Nat=>(n:Int)) (LW.stp M r c)=((ow w (LW.stp M r c):Nat):Int):=by
  intro r c
  cases e:LW.stp M r c with
  |none=>rfl
  |some m=>
   show((wL M w).map fun n:Nat=>(n:Int)).getD m 0=_
   rw[List.getD_eq_getElem?_getD,List.getElem?_map,wL_get (LW.stp_lt hO e)]
   rfl
 show _=((List.range M.length).map (st1 M w)).map nV
 rw[List.map_map,List.map_map]
 apply List.map_congr_left
 intro r _
 show V.int (oi _ (LW.stp M r false)+oi _ (LW.stp M r true))=V.int _
 rw[e,e]
 show V.int _=V.int ((ow w (LW.stp M r false)+ow w (LW.stp M r true):Nat):Int)
 rw[Int.natCast_add]
theorem nV_int {ns:List Nat}:ns.map nV=(ns.map fun n:Nat=>(n:Int)).map V.int:=by
 rw[List.map_map]
 rfl
def IsE (n:Nat) (H:Hp) (v:V) (e:Nat):Prop:=∃q b,v=.ref q/\b.length=n/\H q=some (.tup [.str (tx b),.int e])
theorem isE_mono {n:Nat} {H H':Hp} (s:Same H H') {v:V} {e:Nat} (h:IsE n H v e):IsE n H' v e:=by
 obtain⟨q,b,h1,h2,h3⟩:=h
 exact⟨q,b,h1,h2,s _ _ h3⟩
noncomputable def sb (M:List Rm) (e:Nat) (c:Bool):List Nat:=(LW.stp M e c).toList
theorem sb_len {M:List Rm} {e:Nat} {c:Bool}:(sb M e c).length<=1:=by
 unfold sb
 cases LW.stp M e c<;>simp
def spWF:Sp:=fun vs H Q _=>∃(a:Addr) (M:List Rm) (n r:Nat),vs=[.ref a,.int r,.int n]/\IsM H a M/\OkM M/\M.length<=100/\n<=8/\r<M.length/\∀(l:Addr) (ws:List V) (H':Hp),H l=none->Same H H'->H' l=some (.lst ws)->All2 (IsE n H') ws (en M n r)->Q (.ref l) H'
theorem en_small {M:List Rm} {n r:Nat} (h:n<=8):(en M n r).length<=256:=Nat.le_trans en_len (Nat.pow_le_pow_right (by decide) h)
theorem body_wf {C:Rc} (hN:C.N.length=8):∀vs H Q E,spWF vs H Q E->tSs C c_p_walks_from { nx:=fun _ H'=>Q .non H',rt:=Q } (L2.start C.N vs) H:=by
 intro vs H Q E h
 obtain⟨a,M,n,r,rfl,hM,hO,hM1,hn,hr,q⟩:=h
 rw[start_eq hN]
 unfold c_p_walks_from
 walk_at "y"
 refine⟨by decide,fun t0 ht0=>?_⟩
 have s0:=same_new ht0 (.tup [.str (tx []),.int r])
 have ht0':upd H t0 (.tup [.str (tx []),.int r]) t0=some (.tup [.str (tx []),.int r]):=upd_same
 generalize upd H t0 (.tup [.str (tx []),.int r])=H0 at s0 ht0' ⊢
 refine⟨by decide,fun l0 hl0=>?_⟩
 have s1:=same_new hl0 (.lst [.ref t0])
 have hl1:upd H0 l0 (.lst [.ref t0]) l0=some (.lst [.ref t0]):=upd_same
 generalize upd H0 l0 (.lst [.ref t0])=H1 at s1 hl1 ⊢
 walk_at "y"
 refine at_r1 (by omega) (by omega) (for_r (fun i σ H'=>i<=n/\Same H H'/\∃d ws,(∃x4 x5 x6 x7,σ=[some (.ref a),some (.int r),some (.int n),some (.ref d),x4,x5,x6,x7])/\H d=none/\H' d=some (.lst ws)/\All2 (IsE i H') ws (en M i r)) ⟨Nat.zero_le _,s0.trans s1,l0,_,⟨_,_,_,_,rfl⟩,s0.free hl0,hl1,⟨⟨t0,[],rfl,rfl,s1 _ _ ht0'⟩,trivial⟩⟩ ?_ ?_)
 .rintro i σ H4 hi ⟨_,s4,d',ws',⟨x4,x5,x6,x7,rfl⟩,_,hd4,hws4⟩
  have hi:i<n:=by omega
  have hwl:=hws4.len
  have hlen:=en_small (M:=M) (n:=i) (r:=r) (by omega)
  have hlen1:=en_small (M:=M) (n:=i+1) (r:=r) (by omega)
  walk_at "y"
  refine at_iv_lst (SqL.of hd4) (comp2_l (vs:=ws') (fun j xs H'=>Same H4 H'/\All2 (IsE (i+1) H') xs (((en M i r).take j).flatMap (dr M))) ⟨Same.refl _,trivial⟩ (fun j xs H' w=>SqL.of (w.1 _ _ hd4)) ?_ ?_)
  .rintro j xs H5 v R hv ⟨s5,hA5⟩ hR
   have hj:=lt_of_get hv
   obtain⟨e,hej,qv,b,rfl,hbl,hqv⟩:=hws4.getL hv
   have hqv5:=s5 _ _ hqv
   have he:=en_lt hO hr (List.mem_of_getElem? hej)
   have hpre:(((en M i r).take j).flatMap (dr M)).length<=256*2:=by
    have h1:=flat_len (f:=dr M) (k:=2) (fun _=>dr_len) ((en M i r).take j)
    have h2:((en M i r).take j).length<=256:=by rw[List.length_take];omega
    omega
   refine g_tup2 (SqT.of hqv5) ?_
   walk_at "y"
   refine at_iv_str (in2_tx (l:=[false,true]) (fun t ys H'=>Same H4 H'/\All2 (IsE (i+1) H') ys (((en M i r).take j).flatMap (dr M)++((if 0<t then sb M e false else[])++(if 1<t then sb M e true else[])))) ⟨s5,by simpa using hA5⟩ ?_ ?_)
   .rintro t ys H6 c R2 hc ⟨s6,hA6⟩ hR2
    have htc:t=if c then 1 else 0:=by
     match t,hc with
     |0,hc=>cases hc;rfl
     |1,hc=>cases hc;rfl
     |t+2,hc=>cases hc
    have after:∀xs:List Nat,xs=(((en M i r).take j).flatMap (dr M)++((if 0<t then sb M e false else[])++(if 1<t then sb M e true else[])))++sb M e c->xs=((en M i r).take j).flatMap (dr M)++((if 0<t+1 then sb M e false else[])++(if 1<t+1 then sb M e true else[])):=by
     rintro xs rfl
     cases c with
     |false=>rw[htc];simp
     |true=>rw[htc];simp
    have hyl:ys.length<sizeLine:=by
     have:=hA6.len
     rw[List.length_append,List.length_append]at this
     have b1:(if 0<t then sb M e false else[]).length<=1:=by split<;>simp[sb_len]
     have b2:(if 1<t then sb M e true else[]).length<=1:=by split<;>simp[sb_len]
     exact small1000 (by omega)
    have hM6:=hM.mono (tp_same (s4.trans s6))
    walk_at "y"
    refine lead_at (c:=c) hM6 he fun pr2 hpr2=>?_
    walk_at "y"
    refine hpr2 _ ?_
    cases hs:LW.stp M e c with
    |none=>
     simp only[oV]
     walk_at "y"
     refine hR2 _ _ ⟨s6,?_⟩
     rw[<- after _ rfl]
     have:sb M e c=[]:=by unfold sb;rw[hs];rfl
     rw[this,List.append_nil]
     exact hA6
    |some m=>
     simp only[oV]
     walk_at "y"
     refine⟨show b.length+1<=sizeLine from small16 (by omega),?_⟩
     refine lead_at (c:=c) hM6 he fun pr3 hpr3=>?_
     walk_at "y"
     refine hpr3 _ ?_
     rw[hs]
     simp only[oV]
     walk_at "y"
     refine⟨by decide,fun p7 hp7=>?_⟩
     walk_at "y"
     refine⟨hyl,hR2 _ _ ⟨s6.trans (same_new hp7 _),?_⟩⟩
     rw[<- after _ rfl]
     have:sb M e c=[m]:=by unfold sb;rw[hs];rfl
     rw[this]
     exact All2.snoc (hA6.mono fun v w h=>isE_mono (same_new hp7 _) h) ⟨p7,b++[c],rfl,by simp[hbl],upd_same⟩
   .rintro ys H6 ⟨s6,hA6⟩
    refine hR _ _ ⟨s6,?_⟩
    rw[List.take_succ,hej,List.flatMap_append]
    simpa[dr,sb]using hA6
  .rintro xs H5 ⟨s5,hA5⟩ p5 hp5
   rw[hwl,List.take_length]at hA5
   walk_at "y"
   exact⟨hi,s4.trans (s5.trans (same_new hp5 _)),p5,xs,⟨_,_,_,_,rfl⟩,s4.free (s5.free hp5),upd_same,hA5.mono fun v w h=>isE_mono (same_new hp5 _) h⟩
 .rintro σ H4 ⟨_,s4,d',ws',⟨x4,x5,x6,x7,rfl⟩,hd0,hd4,hws4⟩
  rw[show((n:Int)).toNat=n by omega]at hws4
  walk_at "y"
  exact q d' ws' H4 hd0 s4 hd4 hws4
def IsWL (M:List Rm) (n:Nat) (H0 H:Hp) (v:V) (r:Nat):Prop:=∃l ws,v=.ref l/\H0 l=none/\H l=some (.lst ws)/\All2 (IsE n H) ws (en M n r)
theorem isWL_mono {M:List Rm} {n:Nat} {H0 H H':Hp} (s:Same H H') {v:V} {r:Nat} (h:IsWL M n H0 H v r):IsWL M n H0 H' v r:=by
 obtain⟨l,ws,h1,h0,h2,h3⟩:=h
 exact⟨l,ws,h1,h0,s _ _ h2,h3.mono fun v e h=>isE_mono s h⟩
def spPw:Sp:=fun vs H Q _=>∃(a:Addr) (M:List Rm) (n:Nat),vs=[.ref a,.int n]/\IsM H a M/\OkM M/\M.length<=100/\n<=8/\∀(l:Addr) (ws:List V) (H':Hp),H l=none->Same H H'->H' l=some (.lst ws)->All2 (IsWL M n H H') ws (List.range M.length)->Q (.ref l) H'
theorem body_pw {C:Rc} (hN:C.N.length=3) (hW:C.fs "walks_from"=some spWF):∀vs H Q E,spPw vs H Q E->tSs C c_p_powered { nx:=fun _ H'=>Q .non H',rt:=Q } (L2.start C.N vs) H:=by
 intro vs H Q E h
 obtain⟨a,M,n,rfl,hM,hO,hM1,hn,q⟩:=h
 rw[start_eq hN]
 unfold c_p_powered
 obtain⟨mv,hmv,hmr⟩:=id hM
 have hml:=hmr.len
 walk_at "y"
 refine at_lenT (SqT.of hmv) ?_
 rw[hml]
 refine at_r1 (by omega) (by omega) (comp_r (fun i xs H'=>i<=M.length/\Same H H'/\All2 (IsWL M n H H') xs (List.range i)) ⟨Nat.zero_le _,Same.refl _,trivial⟩ ?_ ?_)
 .rintro i xs H1 R hi ⟨_,s1,hA⟩ hR
  have hi:i<M.length:=by omega
  rw[Int.zero_add]
  walk_at "y"
  refine call_e hW ?_
  walk_at "y"
  refine⟨a,M,n,i,rfl,hM.mono (tp_same s1),hO,hM1,hn,hi,fun l ws H2 hl s2 hl2 hws=>?_⟩
  have:=hA.len
  rw[List.length_range]at this
  walk_at "y"
  refine⟨small1000 (by omega),hR _ _ ⟨hi,s1.trans s2,?_⟩⟩
  rw[List.range_succ]
  exact All2.snoc (hA.mono fun v r h=>isWL_mono s2 h) ⟨l,ws,rfl,s1.free hl,hl2,hws⟩
 .rintro xs H1 ⟨_,s1,hA⟩ p hp
  rw[show((M.length:Int)).toNat=M.length by omega]at hA
  walk_at "y"
  exact q p xs _ (s1.free hp) (s1.trans (same_new hp _)) upd_same (hA.mono fun v r h=>isWL_mono (same_new hp _) h)
noncomputable def sl (M:List Rm) (q i e:Nat):List Nat:=(List.range i).flatMap fun r=>List.replicate ((en M q r).count e) r
theorem sl_succ {M:List Rm} {q i e:Nat}:sl M q (i+1) e=sl M q i e++List.replicate ((en M q i).count e) i:=by
 unfold sl
 rw[List.range_succ,List.flatMap_append]
 simp
theorem sl_len {M:List Rm} {q e:Nat} (hq:q<=8) {i:Nat}:(sl M q i e).length<=i*256:=by
 unfold sl
 have:=flat_len (f:=fun r=>List.replicate ((en M q r).count e) r) (k:=256) (fun r=>by rw[List.length_replicate];exact Nat.le_trans List.count_le_length (en_small hq)) (List.range i)
 rw[List.length_range]at this
 exact this
theorem sl_mem {M:List Rm} {q i e x:Nat} (h:x∈sl M q i e):x<i:=by
 unfold sl at h
 obtain⟨r,hr,hx⟩:=List.mem_flatMap.mp h
 rw[(List.mem_replicate.mp hx).2]
 exact List.mem_range.mp hr
theorem sl_count {M:List Rm} {q e r:Nat}:∀{i:Nat},(sl M q i e).count r=if r<i then(en M q r).count e else 0
 |0=>by simp[sl]
 |i+1=>by
  rw[sl_succ,List.count_append,sl_count,List.count_replicate]
  by_cases h2:r=i
  .subst h2
   simp
  .have h3:(i == r)=false:=by simpa using fun z=>h2 z.symm
   rw[h3]
   by_cases h:r<i
   .have:r<i+1:=by omega
    simp[h,this]
   .have:¬r<i+1:=by omega
    simp[h,this]
structure Srs (H0 H:Hp) (S:Addr) (As:List Addr) (L:Nat->List Nat):Prop where
 top:H S=some (.lst (As.map V.ref))
 nd:As.Nodup
 out:S∉As
 free:∀x∈As,H0 x=none
 own:∀e x,As[e]?=some x->H x=some (.lst ((L e).map nV))
theorem Srs.mono {H0 H H':Hp} {S:Addr} {As:List Addr} {L:Nat->List Nat} (h:Srs H0 H S As L) (s:Same H H'):Srs H0 H' S As L:=⟨s _ _ h.top,h.nd,h.out,h.free,fun e x hx=>s _ _ (h.own e x hx)⟩
def But (As:List Addr) (H H':Hp):Prop:=∀x u,H x=some u->x∉As->H' x=some u
theorem nodup_get {As:List Addr} (h:As.Nodup) {i j:Nat} {x:Addr} (hi:As[i]?=some x) (hj:As[j]?=some x):i=j:=by
 have h1:=lt_of_get hi
 have h2:=lt_of_get hj
 rw[List.getElem?_eq_getElem h1]at hi
 rw[List.getElem?_eq_getElem h2]at hj
 exact(List.getElem_inj h).mp ((Option.some.inj hi).trans (Option.some.inj hj).symm)
theorem Srs.put {H0 H:Hp} {S:Addr} {As:List Addr} {L L':Nat->List Nat} (s:Srs H0 H S As L) {e:Nat} {x:Addr} (hx:As[e]?=some x) (hL:∀e',e'≠e->L' e'=L e'):Srs H0 (upd H x (.lst ((L' e).map nV))) S As L':=by
 have hm:=List.mem_of_getElem? hx
 refine⟨?_,s.nd,s.out,s.free,fun e' x' hx'=>?_⟩
 .rw[upd_ne (fun z=>s.out (by rw[z];exact hm))]
  exact s.top
 .by_cases h:e'=e
  .subst h
   rw[hx]at hx'
   cases hx'
   exact upd_same
  .rw[upd_ne (fun z=>h (nodup_get s.nd (by rw[<- z];exact hx') hx)),hL e' h]
   exact s.own e' x' hx'
def spWT:Sp:=fun vs H Q _=>∃(a:Addr) (M:List Rm) (q:Nat),vs=[.ref a,.int q]/\IsM H a M/\OkM M/\M.length<=100/\q<=8/\∀(S:Addr) (As:List Addr) (H':Hp),H S=none->Same H H'->As.length=M.length->Srs H H' S As (sl M q M.length)->Q (.ref S) H'
theorem count_take {l:List Nat} {k e x:Nat} (h:l[k]?=some x):(l.take (k+1)).count e=(l.take k).count e+if x=e then 1 else 0:=by
 rw[List.take_succ,h,List.count_append]
 congr 1
 simp[List.count_cons]
theorem body_wt {C:Rc} (hN:C.N.length=7) (hP:C.fs "powered"=some spPw):∀vs H Q E,spWT vs H Q E->tSs C c_p_walks_to { nx:=fun _ H'=>Q .non H',rt:=Q } (L2.start C.N vs) H:=by
 intro vs H Q E h
 obtain⟨a,M,q',rfl,hM,hO,hM1,hq,q⟩:=h
 rw[start_eq hN]
 unfold c_p_walks_to
 obtain⟨mv,hmv,hmr⟩:=id hM
 have hml:=hmr.len
 walk_at "y"
 refine at_iv_tup (SqT.of hmv) (comp_t (fun i xs H'=>i<=mv.length/\Same H H'/\∃As:List Addr,xs=As.map V.ref/\As.length=i/\As.Nodup/\∀x∈As,H x=none/\H' x=some (.lst [])) ⟨Nat.zero_le _,Same.refl _,[],rfl,rfl,List.nodup_nil,fun x hx=>by cases hx⟩ (fun i xs H' pv=>SqT.of (pv.2.1 _ _ hmv)) ?_ ?_)
 .rintro i xs H' x R hx ⟨_,s1,As,rfl,hAl,hnd,hA⟩ hR
  have hi:=lt_of_get hx
  walk_at "y"
  refine⟨by decide,fun p hp=>?_⟩
  walk_at "y"
  refine⟨by rw[List.length_map];exact small1000 (by omega),hR _ _ ⟨hi,s1.trans (same_new hp _),As++[p],by rw[List.map_append];rfl,by rw[List.length_append,hAl];rfl,?_,fun x hx=>?_⟩⟩
  .rw[List.nodup_append]
   refine⟨hnd,by simp,fun x hx y hy=>?_⟩
   rw[List.mem_singleton.mp hy]
   rintro rfl
   rw[(hA x hx).2]at hp
   cases hp
  .rcases List.mem_append.mp hx with hx|hx
   .exact⟨(hA x hx).1,same_new hp _ _ _ (hA x hx).2⟩
   .rw[List.mem_singleton.mp hx]
    exact⟨s1.free hp,upd_same⟩
 rintro xs H1 ⟨_,s1,As,rfl,hAl,hnd,hA⟩ S hS
 have hS0:=s1.free hS
 have sr:Srs H (upd H1 S (.lst (As.map V.ref))) S As (sl M q' 0):=by
  refine⟨upd_same,hnd,fun m=>?_,fun x hx=>(hA x hx).1,fun e x hx=>?_⟩
  .have:=(hA S m).2
   rw[hS]at this
   cases this
  .have hm:=List.mem_of_getElem? hx
   rw[upd_ne (ne_of_none (hA x hm).2 hS),(hA x hm).2]
   rfl
 have s2:=s1.trans (same_new hS (.lst (As.map V.ref)))
 generalize upd H1 S (.lst (As.map V.ref))=H2 at sr s2 ⊢
 rw[hml]at hAl
 walk_at "y"
 refine call_e hP ?_
 walk_at "y"
 refine⟨a,M,q',rfl,hM.mono (tp_same s2),hO,hM1,hq,fun W ws H3 hW0 s3 hW hws=>?_⟩
 have hwl:=hws.len
 rw[List.length_range]at hwl
 have hAs:∀x∈As,∃u,H2 x=some u:=fun x hx=>by
  obtain⟨e,he⟩:=List.getElem?_of_mem hx
  exact⟨_,sr.own e x he⟩
 have hout:∀x,H2 x=none->x∉As:=fun x h m=>by
  obtain⟨u,hu⟩:=hAs x m
  rw[h]at hu
  cases hu
 have hSA:∀H',But As H3 H'->Same H H':=fun H' b x u e=>b x u (s3 _ _ (s2 _ _ e)) fun m=>by rw[sr.free x m]at e;cases e
 refine at_enL (SqL.of hW) (for_e (xs:=ws) (fun i σ H'=>i<=M.length/\(∃x3 x4 x5 x6,σ=[some (.ref a),some (.int q'),some (.ref S),x3,x4,x5,x6])/\But As H3 H'/\Srs H H' S As (sl M q' i)) ⟨Nat.zero_le _,⟨_,_,_,_,rfl⟩,fun x u e _=>e,⟨s3 _ _ sr.top,sr.nd,sr.out,sr.free,fun e x hx=>s3 _ _ (sr.own e x hx)⟩⟩ (fun i σ H' _ pv=>SqL.of (pv.2.2.1 _ _ hW (hout W hW0))) ?_ ?_)
 .rintro i x σ H4 p hx hp ⟨_,⟨x3,x4,x5,x6,rfl⟩,b4,sr4⟩
  have hi:=lt_of_get hx
  rw[hwl]at hi
  obtain⟨r,hr,l,ws',rfl,hl0,hl3,hE⟩:=hws.getL hx
  rw[List.getElem?_range hi]at hr
  cases hr
  have hel:=hE.len
  have hen:=en_small (M:=M) (n:=q') (r:=i) hq
  have s5:=same_new hp (.tup [.int i,.ref l])
  have hp5:upd H4 p (.tup [.int i,.ref l]) p=some (.tup [.int i,.ref l]):=upd_same
  generalize upd H4 p (.tup [.int i,.ref l])=H5 at s5 hp5 ⊢
  have b5:But As H3 H5:=fun x u e m=>s5 _ _ (b4 x u e m)
  have sr5:=sr4.mono s5
  refine g_tup2 (SqT.of hp5) ?_
  walk_at "y"
  refine at_iv_lst (SqL.of (b5 _ _ hl3 (hout l hl0))) (for_l (xs:=ws') (fun k σ H'=>k<=ws'.length/\(∃x5 x6,σ=[some (.ref a),some (.int q'),some (.ref S),some (.int i),some (.ref l),x5,x6])/\But As H3 H'/\Srs H H' S As (fun e=>sl M q' i e++List.replicate (((en M q' i).take k).count e) i)) ⟨Nat.zero_le _,⟨_,_,rfl⟩,b5,?_⟩ (fun k σ H' _ pv=>SqL.of (pv.2.2.1 _ _ hl3 (hout l hl0))) ?_ ?_)
  .have e:(fun e=>sl M q' i e++List.replicate (((en M q' i).take 0).count e) i)=sl M q' i:=by
    funext e
    simp
   rw[e]
   exact sr5
  .rintro k v σ H6 hv ⟨_,⟨y5,y6,rfl⟩,b6,sr6⟩
   have hk:=lt_of_get hv
   obtain⟨e,hek,qv,b,rfl,_,hqv⟩:=hE.getL hv
   have he:=en_lt hO hi (List.mem_of_getElem? hek)
   have hqA:qv∉As:=fun m=>by
    obtain⟨j,hj⟩:=List.getElem?_of_mem m
    have:=s3 _ _ (sr.own j qv hj)
    rw[hqv]at this
    cases this
   obtain⟨xA,hxA⟩:∃xA,As[e]?=some xA:=⟨_,List.getElem?_eq_getElem (by omega)⟩
   have hmA:=List.mem_of_getElem? hxA
   refine g_tup2 (SqT.of (b6 _ _ hqv hqA)) ?_
   walk_at "y"
   refine at_ixL (SqL.of sr6.top) (v:=.ref xA) (atI_nat (by rw[List.getElem?_map,hxA];rfl)) ?_
   walk_at "y"
   have hown:=sr6.own e xA hxA
   have hz:((sl M q' i e++List.replicate (((en M q' i).take k).count e) i).map nV).length<sizeLine:=by
    have h1:=sl_len (M:=M) (e:=e) hq (i:=i)
    have h2:((en M q' i).take k).count e<=256:=Nat.le_trans List.count_le_length (by rw[List.length_take];omega)
    rw[List.length_map,List.length_append,List.length_replicate]
    have h3:i*256<=100*256:=Nat.mul_le_mul_right 256 (by omega)
    show _<2 ^ 24
    omega
   refine⟨tyL hown rfl,at_app hown hz ?_⟩
   have hput:=sr6.put (L':=fun e'=>sl M q' i e'++List.replicate (((en M q' i).take (k+1)).count e') i) hxA (fun e' he'=>by rw[count_take hek,if_neg (fun z=>he' z.symm),Nat.add_zero])
   have e1:((sl M q' i e++List.replicate (((en M q' i).take (k+1)).count e) i).map nV)=(sl M q' i e++List.replicate (((en M q' i).take k).count e) i).map nV++[.int i]:=by
    rw[count_take hek,if_pos rfl,List.replicate_succ',<- List.append_assoc,List.map_append]
    rfl
   rw[e1]at hput
   exact⟨hk,⟨_,_,rfl⟩,fun x u hx m=>by
    rw[upd_ne (fun z=>m (by rw[z];exact hmA))]
    exact b6 x u hx m,hput⟩
  .rintro σ H6 ⟨_,⟨y5,y6,rfl⟩,b6,sr6⟩
   have e:(fun e=>sl M q' i e++List.replicate (((en M q' i).take ws'.length).count e) i)=sl M q' (i+1):=by
    funext e
    rw[hel,List.take_length,sl_succ]
   rw[e]at sr6
   exact⟨hi,⟨_,_,_,_,rfl⟩,b6,sr6⟩
 .rintro σ H4 ⟨_,⟨x3,x4,x5,x6,rfl⟩,b4,sr4⟩
  rw[hwl]at sr4
  walk_at "y"
  exact q S As H4 hS0 (hSA H4 b4) hAl sr4
def spWalkG:Sp:=fun vs H Q _=>∃(a b:Addr) (M:List Rm) (w:Nat->Nat) (q:Nat),vs=[.ref a,.ref b,.int q]/\IsM H a M/\OkM M/\M.length<=500/\q<=900/\Lt H b ((wL M w).map nV)/\∀p H',H p=none->Same H H'->H' p=some (.lst ((wL M (it M w q)).map nV))->Q (.ref p) H'
theorem body_walkG {C:Rc} (hN:C.N.length=5) (hW:C.fs "way_sums"=some (spWaySums C.K)):∀vs H Q E,spWalkG vs H Q E->tSs C c_p_walk_sums { nx:=fun _ H'=>Q .non H',rt:=Q } (L2.start C.N vs) H:=by
 intro vs H Q E h
 obtain⟨a,b,M,w,q',rfl,hM,hO,hM5,hq,hb,q⟩:=h
 rw[start_eq hN]
 unfold c_p_walk_sums
 walk_at "y"
 refine list_lt hb fun c hc=>?_
 have s1:=same_new hc (.lst ((wL M w).map nV))
 have hc1:upd H c (.lst ((wL M w).map nV)) c=some (.lst ((wL M w).map nV)):=upd_same
 generalize upd H c (.lst ((wL M w).map nV))=H1 at s1 hc1 ⊢
 walk_at "y"
 refine at_r1 (by omega) (by omega) (for_r (fun i σ H2=>(∃c x4,σ=[some (.ref a),some (.ref b),some (.int q'),some (.ref c),x4]/\H c=none/\H2 c=some (.lst ((wL M (it M w i)).map nV)))/\Same H H2) ⟨⟨c,_,rfl,hc,hc1⟩,s1⟩ ?_ ?_)
 .rintro i σ H2 hi ⟨⟨c2,x4,rfl,hc0,hc2⟩,s2⟩
  walk_at "y"
  refine call_e hW ?_
  walk_at "y"
  refine⟨a,c2,M,(wL M (it M w i)).map fun n:Nat=>(n:Int),rfl,hM.mono (tp_same s2),hO,hM5,SqL.of (by rw[hc2,nV_int]),by rw[List.length_map,wL_len],fun p hp=>?_⟩
  rw[wsL_wL hO]
  walk_at "y"
  exact⟨⟨p,_,rfl,s2.free hp,upd_same⟩,s2.trans (same_new hp _)⟩
 .rintro σ H2 ⟨⟨c2,x4,rfl,hc0,hc2⟩,s2⟩
  rw[show((q':Int)).toNat=q' by omega]at hc2
  walk_at "y"
  exact q c2 H2 hc0 s2 hc2
noncomputable def tot (M:List Rm) (w:Nat->Nat):Nat:=((List.range M.length).map w).sum
theorem tot_less {M:List Rm} {w:Nat->Nat} {r k:Nat} (hr:r<M.length) (hk:k<=w r):tot M w=tot M (less w r k)+k:=by
 unfold tot
 rw[sum_less hk,List.count_range,if_pos hr,Nat.mul_one]
structure Jn (M:List Rm) (p q m:Nat) (w:Nat->Nat) (wt:List Nat):Prop where
 up:Up M m w
 top:∀u,Up M m u->Okw M p q u->∀r,r<M.length->u r<=w r
 ok:∀r,r<M.length->r∉wt->w r*2 ^ p<=ss M q w r
 lt:∀r∈wt,r<M.length
theorem Jn.fin {M:List Rm} {p q m:Nat} {w:Nat->Nat} (h:Jn M p q m w []):Gr M p q m w:=⟨h.up,fun r hr=>h.ok r hr (by simp),h.top⟩
theorem Jn.keep {M:List Rm} {p q m:Nat} {w:Nat->Nat} {wt:List Nat} {r:Nat} (h:Jn M p q m w (wt++[r])) (hr:w r<=ss M q w r / 2 ^ p):Jn M p q m w wt:=by
 refine⟨h.up,h.top,fun x hx hn=>?_,fun x hx=>h.lt x (by simp[hx])⟩
 by_cases e:x=r
 .subst e
  exact(Nat.le_div_iff_mul_le (Nat.two_pow_pos p)).mp hr
 .exact h.ok x hx (by simp[hn,e])
theorem ss_same {M:List Rm} {q r a k:Nat} {w:Nat->Nat} (hk:k<=w a) (hr:r<M.length) (h:r∉sl M q M.length a):ss M q (less w a k) r=ss M q w r:=by
 have e:=ss_less (M:=M) (n:=q) (r:=r) hk
 have c:(en M q r).count a=0:=by
  have:=sl_count (M:=M) (q:=q) (e:=a) (r:=r) (i:=M.length)
  rw[if_pos hr]at this
  rw[<- this]
  exact List.count_eq_zero.mpr h
 rw[c]at e
 omega
theorem Jn.lose {M:List Rm} {p q m:Nat} {w:Nat->Nat} {wt:List Nat} {r:Nat} (hO:OkM M) (h:Jn M p q m w (wt++[r])) (hr:ss M q w r / 2 ^ p<w r):Jn M p q m (less w r (w r-ss M q w r / 2 ^ p)) (wt++sl M q M.length r):=by
 have hrn:=h.lt r (by simp)
 have hk:w r-ss M q w r / 2 ^ p<=w r:=Nat.sub_le _ _
 have hle:∀x,less w r (w r-ss M q w r / 2 ^ p) x<=w x:=fun x=>by unfold less;split<;>omega
 have hat:less w r (w r-ss M q w r / 2 ^ p) r=ss M q w r / 2 ^ p:=by unfold less;rw[if_pos rfl];omega
 refine⟨fun x hx=>Nat.le_trans (hle x) (h.up x hx),fun u hu ho x hx=>?_,fun x hx hn=>?_,fun x hx=>?_⟩
 .by_cases e:x=r
  .subst e
   rw[hat,Nat.le_div_iff_mul_le (Nat.two_pow_pos p)]
   exact Nat.le_trans (ho x hx) (ss_le hO hx (h.top u hu ho))
  .unfold less
   rw[if_neg e]
   exact h.top u hu ho x hx
 .rw[List.mem_append,not_or]at hn
  rw[ss_same hk hx hn.2]
  by_cases e:x=r
  .subst e
   rw[hat]
   exact Nat.div_mul_le_self _ _
  .unfold less
   rw[if_neg e]
   exact h.ok x hx (by simp[hn.1,e])
 .rcases List.mem_append.mp hx with hx|hx
  .exact h.lt x (by simp[hx])
  .exact sl_mem hx
noncomputable def sf (M:List Rm) (q:Nat) (w:Nat->Nat) (a k j:Nat):Nat->Nat:=fun r=>ss M q w r-k*((sl M q M.length a).take j).count r
theorem sf_step {M:List Rm} {q:Nat} {w:Nat->Nat} {a k j x:Nat} (h:(sl M q M.length a)[j]?=some x):less (sf M q w a k j) x k=sf M q w a k (j+1):=by
 funext r
 unfold less sf
 rw[count_take h]
 by_cases e:r=x
 .subst e
  rw[if_pos rfl,if_pos rfl,Nat.mul_add,Nat.mul_one,Nat.sub_sub]
 .rw[if_neg e,if_neg (fun z=>e z.symm),Nat.add_zero]
theorem sf_ge {M:List Rm} {q:Nat} {w:Nat->Nat} {a k j x:Nat} (hk:k<=w a) (h:(sl M q M.length a)[j]?=some x):k<=sf M q w a k j x:=by
 have hx:=sl_mem (List.mem_of_getElem? h)
 have e:=ss_less (M:=M) (n:=q) (r:=x) hk
 have c:=sl_count (M:=M) (q:=q) (e:=a) (r:=x) (i:=M.length)
 rw[if_pos hx]at c
 have c1:=count_take (e:=x) h
 rw[if_pos rfl]at c1
 have c2:((sl M q M.length a).take (j+1)).count x<=(sl M q M.length a).count x:=List.Sublist.count_le x (List.take_sublist _ _)
 unfold sf
 have h3:k*(((sl M q M.length a).take j).count x+1)<=k*(en M q x).count a:=Nat.mul_le_mul_left k (by omega)
 rw[Nat.mul_add,Nat.mul_one]at h3
 omega
theorem sf_end {M:List Rm} {q:Nat} {w:Nat->Nat} {a k:Nat} (hk:k<=w a):wL M (sf M q w a k (sl M q M.length a).length)=wL M (ss M q (less w a k)):=by
 unfold wL
 apply List.map_congr_left
 intro r hr
 have hr:=List.mem_range.mp hr
 unfold sf
 rw[List.take_length,sl_count,if_pos hr,ss_less hk,Nat.add_sub_cancel]
theorem ixN_of {n j:Nat} (h:j<n):ixN n (j:Int)=some j:=by
 unfold ixN
 rw[if_pos (by omega),if_pos (by omega)]
 simp
theorem sum_const {m:Nat}:∀l:List Nat,(l.map fun _=>m).sum=l.length*m
 | []=>by simp
 |x :: l=>by rw[List.map_cons,List.sum_cons,sum_const l,List.length_cons,Nat.succ_mul,Nat.add_comm]
theorem tot_const {M:List Rm} {m:Nat}:tot M (fun _=>m)=M.length*m:=by
 unfold tot
 rw[sum_const,List.length_range]
theorem rgs0 {n:Nat}:rgs 0 n=(List.range n).map nV:=by
 unfold rgs
 apply List.map_congr_left
 intro i _
 show V.int _=V.int _
 rw[Int.zero_add]
def spGW:Sp:=fun vs H Q _=>∃(a b:Addr) (M:List Rm) (p q m:Nat),vs=[.ref a,.int p,.int q,.ref b]/\IsM H a M/\OkM M/\M.length<=16/\p<=8/\q<=8/\M.length*m<=3000/\H b=some (.lst ((wL M fun _=>m).map nV))/\∀(c:Addr) (w:Nat->Nat) (H':Hp),H c=none->Same H H'->H' c=some (.lst ((wL M w).map nV))->Gr M p q m w->Q (.ref c) H'
theorem body_gw {C:Rc} (hN:C.N.length=11) (hWs:C.fs "walk_sums"=some spWalkG) (hWt:C.fs "walks_to"=some spWT):∀vs H Q E,spGW vs H Q E->tSs C c_p_greatest_within { nx:=fun _ H'=>Q .non H',rt:=Q } (L2.start C.N vs) H:=by
 intro vs H Q E h
 obtain⟨a,b,M,p,q',m,rfl,hM,hO,hM1,hp,hq,hm,hb,q⟩:=h
 rw[start_eq hN]
 unfold c_p_greatest_within
 walk_at "y"
 refine at_listL (SqL.of hb) fun c hc=>?_
 have s1:=same_new hc (.lst ((wL M fun _=>m).map nV))
 have hc1:upd H c (.lst ((wL M fun _=>m).map nV)) c=some (.lst ((wL M fun _=>m).map nV)):=upd_same
 generalize upd H c (.lst ((wL M fun _=>m).map nV))=H1 at s1 hc1 ⊢
 walk_at "y"
 refine call_e hWs ?_
 walk_at "y"
 refine⟨a,c,M,fun _=>m,q',rfl,hM.mono (tp_same s1),hO,by omega,by omega,.inl hc1,fun d H2 hd0 s2 hd=>?_⟩
 rw[show wL M (it M (fun _=>m) q')=wL M (ss M q' fun _=>m) by unfold wL;exact List.map_congr_left fun r _=>it_ss]at hd
 have hc2:=s2 _ _ hc1
 have s02:=s1.trans s2
 walk_at "y"
 refine call_e hWt ?_
 walk_at "y"
 refine⟨a,M,q',rfl,hM.mono (tp_same s02),hO,by omega,hq,fun S As H3 hS0 s3 hAl sr=>?_⟩
 obtain⟨mv,hmv,hmr⟩:=id (hM.mono (tp_same (s02.trans s3)))
 have hml:=hmr.len
 walk_at "y"
 refine at_lenT (SqT.of hmv) ?_
 rw[hml]
 walk_at "y"
 refine at_range1 fun pr hpr=>?_
 walk_at "y"
 refine at_listR upd_same (by omega) (by omega) (by omega) (by omega) (Nat.le_of_lt (small1000 (by omega))) fun T hT=>?_
 rw[show((M.length:Int)-0).toNat=M.length by omega,rgs0]
 have s4:=same_new hpr (.rng 0 M.length)
 generalize upd H3 pr (.rng 0 M.length)=H4 at s4 hT ⊢
 have s5:=same_new hT (.lst ((List.range M.length).map nV))
 have hT5:upd H4 T (.lst ((List.range M.length).map nV)) T=some (.lst ((List.range M.length).map nV)):=upd_same
 have s24:=s3.trans s4
 have nT:∀x u,H4 x=some u->x≠T:=fun x u e=>ne_of_none e hT
 generalize upd H4 T (.lst ((List.range M.length).map nV))=H5 at s5 hT5 ⊢
 have hc4:=s24 _ _ hc2
 have hd4:=s24 _ _ hd
 have hcd:c≠d:=ne_of_none hc1 hd0
 have hcT:=nT c _ hc4
 have hdT:=nT d _ hd4
 have sr4:=sr.mono s4
 have hSn:S≠c/\S≠d/\S≠T:=⟨(ne_of_none hc2 hS0).symm,(ne_of_none hd hS0).symm,nT S _ sr4.top⟩
 have hAn:∀x∈As,x≠c/\x≠d/\x≠T:=fun x hx=>by
  have h0:=sr.free x hx
  obtain⟨e,he⟩:=List.getElem?_of_mem hx
  exact⟨(ne_of_none hc2 h0).symm,(ne_of_none hd h0).symm,nT x _ (sr4.own e x he)⟩
 have sr5:=sr4.mono s5
 have hd0':=s1.free hd0
 have hT0:=s02.free (s24.free hT)
 have back:∀H',But [c,d,T] H5 H'->Same H H':=fun H' b x u e=>b x u ((s02.trans (s24.trans s5)) _ _ e) (by
  simp only[List.mem_cons,List.not_mem_nil,or_false,not_or]
  exact⟨ne_of_none e hc,ne_of_none e hd0',ne_of_none e hT0⟩)
 have stays:∀H',But [c,d,T] H5 H'->H' S=some (.lst (As.map V.ref))/\∀e x,As[e]?=some x->H' x=some (.lst ((sl M q' M.length e).map nV)):=fun H' b=>⟨b _ _ sr5.top (by simp only[List.mem_cons,List.not_mem_nil,or_false,not_or];exact hSn),fun e x he=>b _ _ (sr5.own e x he) (by simp only[List.mem_cons,List.not_mem_nil,or_false,not_or];exact hAn x (List.mem_of_getElem? he))⟩
 have K0:∀e,(sl M q' M.length e).length<=4096:=fun e=>Nat.le_trans (sl_len hq) (Nat.mul_le_mul_right 256 hM1)
 walk_at "y"
 refine whl_by (fun N σ H'=>∃w wt x8 x9 x10,N=wt.length+4097*tot M w/\σ=[some (.ref a),some (.int p),some (.int q'),some (.ref b),some (.ref c),some (.ref d),some (.ref S),some (.ref T),x8,x9,x10]/\Jn M p q' m w wt/\H' c=some (.lst ((wL M w).map nV))/\H' d=some (.lst ((wL M (ss M q' w)).map nV))/\H' T=some (.lst (wt.map nV))/\wt.length+4096*tot M w<=16+4096*3000/\But [c,d,T] H5 H') _ ⟨fun _=>m,List.range M.length,_,_,_,rfl,rfl,⟨fun _ _=>Nat.le_refl _,fun u hu _ r hr=>hu r hr,fun r hr hn=>absurd (List.mem_range.mpr hr) hn,fun r hr=>List.mem_range.mp hr⟩,s5 _ _ hc4,s5 _ _ hd4,hT5,?_,fun x u e _=>e⟩ ?_
 .rw[List.length_range,tot_const]
  have:=hm
  omega
 rintro N σ H6 ⟨w,wt,x8,x9,x10,rfl,rfl,J,hc6,hd6,hT6,hz,b6⟩
 walk_at "y"
 refine at_truL (SqL.of hT6) ?_
 rcases List.eq_nil_or_concat wt with rfl|⟨wt',r,rfl⟩
 .refine kWhl_f ?_
  walk_at "y"
  exact q c w H6 hc (back H6 b6) hc6 J.fin
 .rw[List.concat_eq_append]at hT6 J hz ⊢
  have e0:(!(((wt'++[r]).map nV)).isEmpty)=true:=by simp
  rw[e0]
  refine kWhl_t ?_
  have hr:=J.lt r (by simp)
  rw[List.length_append,List.length_singleton]at hz
  walk_at "y"
  refine⟨tyL hT6 rfl,?_⟩
  refine at_pop (xs:=wt'.map nV) (y:=.int r) (by rw[hT6,List.map_append];rfl) ?_
  have hc7:upd H6 T (.lst (wt'.map nV)) c=some (.lst ((wL M w).map nV)):=by rw[upd_ne hcT];exact hc6
  have hd7:upd H6 T (.lst (wt'.map nV)) d=some (.lst ((wL M (ss M q' w)).map nV)):=by rw[upd_ne hdT];exact hd6
  have hT7:upd H6 T (.lst (wt'.map nV)) T=some (.lst (wt'.map nV)):=upd_same
  have b7:But [c,d,T] H5 (upd H6 T (.lst (wt'.map nV))):=fun x u e n=>by
   rw[upd_ne (fun z=>n (by simp[z]))]
   exact b6 x u e n
  generalize upd H6 T (.lst (wt'.map nV))=H7 at hc7 hd7 hT7 b7 ⊢
  walk_at "y"
  refine at_ixL (SqL.of hc7) (wL_at hr) ?_
  walk_at "y"
  refine at_ixL (SqL.of hd7) (wL_at hr) ?_
  walk_at "y"
  refine⟨by omega,?_⟩
  have ediv:((ss M q' w r:Nat):Int) / 2 ^ ((p:Int)).toNat=((ss M q' w r / 2 ^ p:Nat):Int):=by
   rw[show((p:Int)).toNat=p by omega,Int.natCast_ediv,Int.natCast_pow]
   rfl
  rw[ediv]
  walk_at "y"
  refine by_dec (fun hl=>?_) fun hl=>?_
  .have hlt:ss M q' w r / 2 ^ p<w r:=by omega
   have hk:w r-ss M q' w r / 2 ^ p<=w r:=Nat.sub_le _ _
   have hJ:=J.lose hO hlt
   have htot:=tot_less (M:=M) hr hk
   have hk1:1<=w r-ss M q' w r / 2 ^ p:=by omega
   rw[show((w r:Nat):Int)-((ss M q' w r / 2 ^ p:Nat):Int)=((w r-ss M q' w r / 2 ^ p:Nat):Int) by omega]
   generalize w r-ss M q' w r / 2 ^ p=k at hk hJ htot hk1 ⊢
   walk_at "y"
   refine at_ag hc7 (wL_at hr) ?_
   walk_at "y"
   refine at_agS hc7 (ixN_of (by rw[List.length_map,wL_len];exact hr)) ?_
   rw[if_pos rfl,show((w r:Nat):Int)-(k:Int)=((w r-k:Nat):Int) by omega,wL_set]
   have hc8:upd H7 c (.lst ((wL M (less w r k)).map nV)) c=some (.lst ((wL M (less w r k)).map nV)):=upd_same
   have hd8:upd H7 c (.lst ((wL M (less w r k)).map nV)) d=some (.lst ((wL M (sf M q' w r k 0)).map nV)):=by
    rw[upd_ne hcd.symm,hd7]
    have e:sf M q' w r k 0=ss M q' w:=by
     funext x
     unfold sf
     simp
    rw[e]
   have hT8:upd H7 c (.lst ((wL M (less w r k)).map nV)) T=some (.lst (wt'.map nV)):=by rw[upd_ne hcT.symm];exact hT7
   have b8:But [c,d,T] H5 (upd H7 c (.lst ((wL M (less w r k)).map nV))):=fun x u e n=>by
    rw[upd_ne (fun z=>n (by simp[z]))]
    exact b7 x u e n
   generalize upd H7 c (.lst ((wL M (less w r k)).map nV))=H8 at hc8 hd8 hT8 b8 ⊢
   obtain⟨xA,hxA⟩:∃xA,As[r]?=some xA:=⟨_,List.getElem?_eq_getElem (by omega)⟩
   walk_at "y"
   refine at_ixL (SqL.of (stays H8 b8).1) (v:=.ref xA) (atI_nat (by rw[List.getElem?_map,hxA];rfl)) ?_
   refine at_iv_lst (SqL.of ((stays H8 b8).2 r xA hxA)) (for_l (xs:=(sl M q' M.length r).map nV) (fun j σ H'=>j<=(sl M q' M.length r).length/\(∃x10,σ=[some (.ref a),some (.int p),some (.int q'),some (.ref b),some (.ref c),some (.ref d),some (.ref S),some (.ref T),some (.int r),some (.int k),x10])/\H' c=some (.lst ((wL M (less w r k)).map nV))/\H' d=some (.lst ((wL M (sf M q' w r k j)).map nV))/\H' T=some (.lst (wt'.map nV))/\But [c,d,T] H5 H') ⟨Nat.zero_le _,⟨_,rfl⟩,hc8,hd8,hT8,b8⟩ (fun j σ H' _ pv=>SqL.of ((stays H' pv.2.2.2.2.2).2 r xA hxA)) ?_ ?_)
   .rintro j v σ H9 hv ⟨_,⟨y10,rfl⟩,hc9,hd9,hT9,b9⟩
    rw[List.getElem?_map]at hv
    obtain⟨x,hx,rfl⟩:=Option.map_eq_some_iff.mp hv
    have hxl:=sl_mem (List.mem_of_getElem? hx)
    have hge:=sf_ge (w:=w) hk hx
    have hj:=lt_of_get hx
    simp only[nV]
    walk_at "y"
    refine at_ag hd9 (wL_at hxl) ?_
    walk_at "y"
    refine at_agS hd9 (ixN_of (by rw[List.length_map,wL_len];exact hxl)) ?_
    rw[if_pos rfl,show((sf M q' w r k j x:Nat):Int)-(k:Int)=((sf M q' w r k j x-k:Nat):Int) by omega,wL_set,sf_step hx]
    refine⟨hj,⟨_,rfl⟩,by rw[upd_ne hcd];exact hc9,upd_same,by rw[upd_ne hdT.symm];exact hT9,fun y u e n=>?_⟩
    rw[upd_ne (fun z=>n (by simp[z]))]
    exact b9 y u e n
   .rintro σ H9 ⟨_,⟨y10,rfl⟩,hc9,hd9,hT9,b9⟩
    rw[List.length_map,sf_end hk]at hd9
    walk_at "y"
    refine⟨tyL hT9 rfl,at_ixL (SqL.of (stays H9 b9).1) (v:=.ref xA) (atI_nat (by rw[List.getElem?_map,hxA];rfl)) ?_⟩
    walk_at "y"
    have hL:=K0 r
    have hz2:wt'.length+(sl M q' M.length r).length<=2 ^ 24:=by omega
    refine⟨T,xA,_,_,rfl,rfl,hT9,(stays H9 b9).2 r xA hxA,by rw[List.length_map,List.length_map];exact hz2,?_⟩
    rw[<- List.map_append]
    refine⟨_,?_,less w r k,wt'++sl M q' M.length r,_,_,_,rfl,rfl,hJ,by rw[upd_ne hcT];exact hc9,by rw[upd_ne hdT];exact hd9,upd_same,?_,fun y u e n=>?_⟩
    .rw[List.length_append,List.length_append,List.length_singleton]
     omega
    .rw[List.length_append]
     omega
    .rw[upd_ne (fun z=>n (by simp[z]))]
     exact b9 y u e n
  .have hle:w r<=ss M q' w r / 2 ^ p:=by omega
   walk_at "y"
   refine⟨wt'.length+4097*tot M w,?_,w,wt',_,_,_,rfl,rfl,J.keep hle,hc7,hd7,hT7,by omega,b7⟩
   rw[List.length_append,List.length_singleton]
   omega
theorem wL_const {M:List Rm} {m:Nat}:wL M (fun _=>m)=List.replicate M.length m:=by
 unfold wL
 rw[List.map_const',List.length_range]
theorem rep_snoc {i m:Nat}:(List.replicate i m).map nV++[V.int m]=(List.replicate (i+1) m).map nV:=by
 rw[List.replicate_succ',List.map_append]
 rfl
def spEn:Sp:=fun vs H Q _=>∃(a:Addr) (M:List Rm) (p q m:Nat),vs=[.ref a,.int p,.int q,.int m]/\IsM H a M/\OkM M/\M.length<=16/\p<=8/\q<=8/\M.length*m<=3000/\∀(v:V) (w:Nat->Nat) (H':Hp),Same H H'->Gr M p q m w->((∃c,v=.ref c/\H c=none/\H' c=some (.lst ((wL M w).map nV))/\∃r,r<M.length/\w r≠0)\/v=.non/\∀r,r<M.length->w r=0)->Q v H'
theorem body_en {C:Rc} (hN:C.N.length=6) (hG:C.fs "greatest_within"=some spGW):∀vs H Q E,spEn vs H Q E->tSs C c_p_enough { nx:=fun _ H'=>Q .non H',rt:=Q } (L2.start C.N vs) H:=by
 intro vs H Q E h
 obtain⟨a,M,p,q',m,rfl,hM,hO,hM1,hp,hq,hm,q⟩:=h
 rw[start_eq hN]
 unfold c_p_enough
 obtain⟨mv,hmv,hmr⟩:=id hM
 have hml:=hmr.len
 walk_at "y"
 refine call_e hG ?_
 walk_at "y"
 refine at_iv_tup (SqT.of hmv) (comp_t (fun i xs H'=>i<=mv.length/\xs=(List.replicate i m).map nV/\H'=H) ⟨Nat.zero_le _,rfl,rfl⟩ (fun i xs H' pv=>by rw[pv.2.2];exact SqT.of hmv) ?_ ?_)
 .rintro i xs H' x R hx ⟨_,rfl,rfl⟩ hR
  have hi:=lt_of_get hx
  walk_at "y"
  exact⟨by rw[List.length_map,List.length_replicate];exact small1000 (by omega),hR _ _ ⟨hi,rep_snoc,rfl⟩⟩
 rintro xs H0 ⟨_,rfl,rfl⟩ b hb
 rw[hml,<- wL_const]
 have s1:=same_new hb (.lst ((wL M fun _=>m).map nV))
 have hb1:upd H0 b (.lst ((wL M fun _=>m).map nV)) b=some (.lst ((wL M fun _=>m).map nV)):=upd_same
 generalize upd H0 b (.lst ((wL M fun _=>m).map nV))=H1 at s1 hb1 ⊢
 walk_at "y"
 refine⟨a,b,M,p,q',m,rfl,hM.mono (tp_same s1),hO,hM1,hp,hq,hm,hb1,fun c w H2 hc s2 hc2 hg=>?_⟩
 walk_at "y"
 refine at_anyI (ns:=(wL M w).map fun n:Nat=>(n:Int)) (SqL.of (by rw[hc2,nV_int])) ?_
 cases e:((wL M w).map fun n:Nat=>(n:Int)).any fun n=>n != 0 with
 |true=>
  walk_at "y"
  refine q _ w H2 (s1.trans s2) hg (.inl ⟨c,rfl,s1.free hc,hc2,?_⟩)
  obtain⟨z,hz,hz0⟩:=List.any_eq_true.mp e
  obtain⟨n,hn,rfl⟩:=List.mem_map.mp hz
  unfold wL at hn
  obtain⟨r,hr,rfl⟩:=List.mem_map.mp hn
  refine⟨r,List.mem_range.mp hr,?_⟩
  simpa using hz0
 |false=>
  walk_at "y"
  refine q _ w H2 (s1.trans s2) hg (.inr ⟨rfl,fun r hr=>?_⟩)
  rw[List.any_eq_false]at e
  have:=e ((w r:Nat):Int) (List.mem_map.mpr ⟨w r,List.mem_of_getElem? (wL_get hr),rfl⟩)
  simpa using this
def spTold:Sp:=fun vs H Q _=>∃(a:Addr) (M:List Rm) (p q m:Nat),vs=[.ref a,.int p,.int q,.int m]/\IsM H a M/\OkM M/\M.length<=12/\p<=8/\q<=8/\m<=200/\∀(c:Addr) (w:Nat->Nat) (H':Hp),H c=none->Same H H'->Gr M p q m w->H' c=some (.lst ((wL M w).map nV))->Q (.ref c) H'
def spAM:Sp:=fun vs H Q _=>∃(x y:Addr) (M:List Rm) (u w:Nat->Nat),vs=[.ref x,.ref y]/\M.length<=100/\H x=some (.lst ((wL M u).map nV))/\H y=some (.lst ((wL M w).map nV))/\(∀r,r<M.length->u r<=w r)/\∀H',Same H H'->Q (.bl true) H'
structure FsRight (C:Rc):Prop where
 take:C.fs "_law_take"=some spTake
 asked:C.fs "_law_asked"=some spAsked
 told:C.fs "_law_told"=some spTold
 am:C.fs "_law_at_most"=some spAM
end K30
namespace K28
open PySem PySem.Spec PyProof.Rows L2 R3 LW
open SR CK RW TM BD BE K31 K30
noncomputable def okB (M:List Rm) (p q:Nat) (u:Nat->Nat):Bool:=(List.range M.length).all fun r=>decide (u r*2 ^ p<=ss M q u r)
theorem okB_iff {M:List Rm} {p q:Nat} {u:Nat->Nat}:okB M p q u=true↔Okw M p q u:=by
 unfold okB Okw
 rw[List.all_eq_true]
 exact⟨fun h r hr=>of_decide_eq_true (h r (List.mem_range.mpr hr)),fun h r hr=>decide_eq_true (h r (List.mem_range.mp hr))⟩
def spAE:Sp:=fun vs H Q _=>∃(a w:Addr) (M:List Rm) (p q:Nat) (u:Nat->Nat),vs=[.ref a,.int p,.int q,.ref w]/\IsM H a M/\OkM M/\M.length<=100/\p<=8/\q<=8/\Up M 1000000 u/\H w=some (.lst ((wL M u).map nV))/\∀H',Same H H'->Q (.bl (!decide (tot M u=0)&&okB M p q u)) H'
structure Ld (M:List Rm) (p q m:Nat) (w:Nat->Nat):Prop where
 up:Up M m w
 top:∀u,Up M m u->Okw M p q u->∀r,r<M.length->u r<=w r
def spLD:Sp:=fun vs H Q _=>∃(a:Addr) (M:List Rm) (p q m:Nat),vs=[.ref a,.int p,.int q,.int m]/\IsM H a M/\OkM M/\M.length<=12/\p<=8/\q<=8/\∀(v:V) (w:Nat->Nat) (H':Hp),Same H H'->Gr M p q m w->((∃c,v=.ref c/\H c=none/\H' c=some (.lst ((wL M w).map nV))/\tot M w≠0)\/v=.non/\tot M w=0)->Q v H'
noncomputable def fl (l:List Nat):Nat->Nat:=fun r=>l.getD r 0
noncomputable def good (M:List Rm) (p q:Nat) (l:List Nat):Bool:=!decide (tot M (fl l)=0)&&okB M p q (fl l)
theorem tot_congr {M:List Rm} {u w:Nat->Nat} (h:∀r,r<M.length->u r=w r):tot M u=tot M w:=by
 unfold tot
 rw[List.map_congr_left fun r hr=>h r (List.mem_range.mp hr)]
theorem okw_congr {M:List Rm} {p q:Nat} {u w:Nat->Nat} (hO:OkM M) (h:∀r,r<M.length->u r=w r) (hw:Okw M p q w):Okw M p q u:=fun r hr=>by
 rw[h r hr]
 exact Nat.le_trans (hw r hr) (ss_le hO hr fun e he=>Nat.le_of_eq (h e he).symm)
def spBA:Sp:=fun vs H Q _=>∃(a:Addr) (M:List Rm) (p q m:Nat) (w:Nat->Nat),vs=[.ref a,.int p,.int q,.int m]/\IsM H a M/\OkM M/\M.length<=3/\p<=8/\q<=8/\m<=3/\Gr M p q m w/\∀(v:V) (H':Hp),Same H H'->((tot M w≠0/\∃c,v=.ref c/\H' c=some (.lst ((wL M w).map nV)))\/tot M w=0/\v=.non)->Q v H'
theorem mem_sum:∀{l:List Nat} {x:Nat},x∈l->x<=l.sum
 |y :: l,x,h=>by
  rw[List.sum_cons]
  rcases List.mem_cons.mp h with rfl|h
  .omega
  .have:=mem_sum h
   omega
theorem tot_zero {M:List Rm} {w:Nat->Nat}:tot M w=0↔∀r,r<M.length->w r=0:=by
 unfold tot
 constructor
 .intro h r hr
  have:w r<=((List.range M.length).map w).sum:=mem_sum (List.mem_map.mpr ⟨r,List.mem_range.mpr hr,rfl⟩)
  omega
 .intro h
  rw[List.map_congr_left fun r hr=>h r (List.mem_range.mp hr),sum_const,Nat.mul_zero]
structure FsRight (C:Rc):Prop where
 take:C.fs "_law_take"=some spTake
 asked:C.fs "_law_asked"=some spAsked
 ld:C.fs "_law_let_down"=some spLD
 en:C.fs "enough"=some spEn
 same:C.fs "_law_same"=some (spSame 1)
 ae:C.fs "_law_are_enough"=some spAE
 ba:C.fs "_law_by_all"=some spBA
end K28
namespace K29
open PySem PySem.Spec PyProof.Rows L2 R3 LW
noncomputable def c_p_shows_enough:Css:=(.cons (.ite (.not (.and (.val (.call "is_machine" (.cons (.var 0) .nil))) (.and (.val (.call "are_sizes" (.cons (.var 1) (.cons (.var 2) .nil)))) (.val (.call "are_numbers" (.cons (.var 3) (.cons (.blt .len (.cons (.var 0) .nil)) .nil))))))) (.cons (.ret (.bl false))
  .nil) .nil)
  (.cons (.ite (.or (.not (.val (.blt .anyE (.cons (.var 3) .nil)))) (.cmp .Lt (.blt .minE (.cons (.var 3) .nil)) (.int 0))) (.cons (.ret (.bl false))
  .nil) .nil)
  (.cons (.ret (.blt .all (.cons (.comp (.cmp .GtE (.bin .RShift (.var 5) (.var 1)) (.var 4)) [4,5] (.tup (.cons (.name 4) (.cons (.name 5) .nil))) (.zip (.var 3) (.call "walk_sums" (.cons (.var 0) (.cons (.var 3) (.cons (.var 2) .nil))))) .none .nil) .nil)))
  .nil)))
open K30 K31 SR CK RW TM BD BE K28
noncomputable def pos:V->Bool
 | .int i=>decide (0<=i)
 |_=>false
noncomputable def vN:V->Nat
 | .int i=>i.toNat
 |_=>0
noncomputable def fv (vs:List V):Nat->Nat:=fun r=>vN (vs.getD r .non)
noncomputable def gdP (M:List Rm) (p q:Nat):Option (List V)->Bool
 |some vs=>decide (vs.length=M.length)&&(vs.all pos&&(!decide (tot M (fv vs)=0)&&okB M p q (fv vs)))
 |none=>false
theorem gd_some {M:List Rm} {p q:Nat} {vs:List V}:gdP M p q (some vs)=(decide (vs.length=M.length)&&(vs.all pos&&(!decide (tot M (fv vs)=0)&&okB M p q (fv vs)))):=rfl
theorem pos_wL {M:List Rm}:∀{vs:List V},vs.length=M.length->vs.all pos=true->vs=(wL M (fv vs)).map nV:=by
 intro vs hl hp
 apply List.ext_getElem?
 intro i
 by_cases hi:i<vs.length
 .have hx:=List.all_eq_true.mp hp _ (List.getElem_mem hi)
  rw[List.getElem?_map,wL_get (by omega),List.getElem?_eq_getElem hi]
  show some vs[i]=some (V.int ((vN (vs.getD i .non):Nat):Int))
  rw[List.getD_eq_getElem?_getD,List.getElem?_eq_getElem hi]
  show some vs[i]=some (V.int ((vN vs[i]:Nat):Int))
  cases h:vs[i]with
  |int n=>
   rw[h]at hx
   have h0:0<=n:=of_decide_eq_true hx
   show some (V.int n)=some (V.int ((n.toNat:Nat):Int))
   rw[Int.toNat_of_nonneg h0]
  |_=>rw[h]at hx;cases hx
 .rw[List.getElem?_eq_none (by omega),List.getElem?_eq_none (by rw[List.length_map,wL_len];omega)]
theorem pos_isN {vs:List V} (h:vs.all pos=true):vs.all isN=true:=by
 refine List.all_eq_true.mpr fun x hx=>?_
 have:=List.all_eq_true.mp h x hx
 cases x<;>first|rfl|cases this
theorem isN_ints:∀{vs:List V},vs.all isN=true->∃ns:List Int,vs=ns.map V.int
 | [],_=>⟨[],rfl⟩
 |v :: vs,h=>by
  rw[List.all_cons,Bool.and_eq_true]at h
  obtain⟨ns,rfl⟩:=isN_ints h.2
  cases v with
  |int i=>exact⟨i :: ns,rfl⟩
  |_=>cases h.1
theorem sq_lt {K:W.Frag} {H:Hp} {a:Addr} {vs:List V} (h:Lt H a vs):SqE K H a vs:=by
 rcases h with h|h
 .exact⟨false,SqL.of h⟩
 .exact⟨true,SqT.of h⟩
theorem sq_all {K:W.Frag} {H:Hp} {a:Addr} {vs:List V} (h:Lt H a vs):∃k:Bool,∀H',Same H H'->Sq k K H' a vs:=by
 rcases h with h|h
 .exact⟨false,fun H' s=>SqL.of (s _ _ h)⟩
 .exact⟨true,fun H' s=>SqT.of (s _ _ h)⟩
theorem gd_no {M:List Rm} {p q:Nat} {vs:List V} {x:V} (hx:x∈vs) (h:pos x=false):gdP M p q (some vs)=false:=by
 have:vs.all pos=false:=by
  cases e:vs.all pos with
  |false=>rfl
  |true=>rw[List.all_eq_true.mp e x hx]at h;cases h
 rw[gd_some,this,Bool.false_and,Bool.and_false]
def Bd (o:Option (List V)):Prop:=∀vs,o=some vs->∀x∈vs,vN x<=2 ^ 90
def spDueP:Sp:=fun vs H Q _=>∃(a:Addr) (M:List Rm) (p q:Nat) (v:V) (o:Option (List V)),vs=[.ref a,.int p,.int q,v]/\IsM H a M/\OkM M/\M.length<=60/\p<=8/\q<=8/\Tl H v o/\Bd o/\∀H',Same H H'->Q (.bl (gdP M p q o)) H'
theorem fv_int {ns:List Int} {r:Nat}:fv (ns.map V.int) r=(ns.getD r 0).toNat:=by
 unfold fv
 rw[List.getD_eq_getElem?_getD,List.getD_eq_getElem?_getD,List.getElem?_map]
 cases ns[r]?<;>rfl
theorem tot_any {M:List Rm} {ns:List Int} (hl:ns.length=M.length) (h0:∀n∈ns,0<=n):tot M (fv (ns.map V.int))=0↔(ns.any fun n=>n != 0)=false:=by
 rw[tot_zero]
 constructor
 .intro h
  rw[List.any_eq_false]
  intro n hn
  obtain⟨i,hi,rfl⟩:=List.getElem_of_mem hn
  have:=h i (by omega)
  rw[fv_int,List.getD_eq_getElem?_getD,List.getElem?_eq_getElem hi]at this
  have:=h0 _ (List.getElem_mem hi)
  have:ns[i]=0:=by
   have:(ns[i]).toNat=0:=by assumption
   omega
  simp[this]
 .intro h r hr
  rw[List.any_eq_false]at h
  rw[fv_int,List.getD_eq_getElem?_getD,List.getElem?_eq_getElem (by omega)]
  have:=h _ (List.getElem_mem (show r<ns.length by omega))
  have:ns[r]'(by omega)=0:=by simpa using this
  show(ns[r]'(by omega)).toNat=0
  rw[this]
  rfl
theorem all_pos {ns:List Int} (h:∀n∈ns,0<=n):(ns.map V.int).all pos=true:=by
 rw[List.all_map]
 exact List.all_eq_true.mpr fun n hn=>decide_eq_true (h n hn)
theorem pos_all {ns:List Int} (h:(ns.map V.int).all pos=true):∀n∈ns,0<=n:=fun n hn=>by
 rw[List.all_map]at h
 exact of_decide_eq_true (List.all_eq_true.mp h n hn)
def spSE:Sp:=fun vs H Q _=>∃(a:Addr) (M:List Rm) (p q:Nat) (v:V) (o:Option (List V)),vs=[.ref a,.int p,.int q,v]/\IsM H a M/\OkM M/\M.length<=60/\p<=8/\q<=8/\Tl H v o/\∀H',Same H H'->Q (.bl (gdP M p q o)) H'
structure FsSE (C:Rc):Prop where
 isM:C.fs "is_machine"=some spIsM
 sizes:C.fs "are_sizes"=some spSizes
 areN:C.fs "are_numbers"=some spAreN
 walk:C.fs "walk_sums"=some spWalkG
theorem body_se {C:Rc} (hN:C.N.length=6) (F:FsSE C):∀vs H Q E,spSE vs H Q E->tSs C c_p_shows_enough { nx:=fun _ H'=>Q .non H',rt:=Q } (L2.start C.N vs) H:=by
 intro vs H Q E h
 obtain⟨a,M,p,q',v,o,rfl,hM,hO,hM1,hp,hq,hv,q⟩:=h
 rw[start_eq hN]
 unfold c_p_shows_enough
 obtain⟨mv,hmv,hmr⟩:=id hM
 have hml:=hmr.len
 walk_at "y"
 refine call_e F.isM ?_
 walk_at "y"
 refine⟨a,M,rfl,hM,hO,by omega,fun H1 s1=>?_⟩
 walk_at "y"
 refine call_e F.sizes ?_
 walk_at "y"
 refine⟨p,q',rfl,?_⟩
 walk_at "y"
 refine call_e F.areN ?_
 walk_at "y"
 refine at_lenT (SqT.of (s1 _ _ hmv)) ?_
 rw[hml]
 walk_at "y"
 refine⟨v,_,o,rfl,hv.mono s1,fun H2 s2=>?_⟩
 have s12:=s1.trans s2
 by_cases ha:arN (M.length:Int) o=true
 case neg=>
  rw[Bool.not_eq_true]at ha
  rw[ha]
  walk_at "y"
  have hg:gdP M p q' o=false:=by
   cases o with
   |none=>rfl
   |some vs=>
    cases e:gdP M p q' (some vs)with
    |false=>rfl
    |true=>
     rw[gd_some]at e
     simp only[Bool.and_eq_true,decide_eq_true_eq]at e
     have:arN (M.length:Int) (some vs)=true:=by
      show(decide ((vs.length:Int)=(M.length:Int))&&vs.all isN)=true
      rw[decide_eq_true (by omega),pos_isN e.2.1]
      rfl
     rw[this]at ha
     cases ha
  have:=q _ s12
  rwa [hg]at this
 rw[ha]
 cases o with
 |none=>cases ha
 |some vs=>
  obtain⟨c,rfl,hc,hva,hcl⟩:=hv
  have ha':(decide ((vs.length:Int)=(M.length:Int))&&vs.all isN)=true:=ha
  rw[Bool.and_eq_true,decide_eq_true_eq]at ha'
  have hl:vs.length=M.length:=by omega
  obtain⟨ns,rfl⟩:=isN_ints ha'.2
  have hc2:=hc.mono s12
  walk_at "y"
  refine at_anyE (sq_lt hc2) ?_
  have hl':ns.length=M.length:=by rw[List.length_map]at hl;exact hl
  cases hany:(ns.any fun n=>n != 0)with
  |false=>
   walk_at "y"
   have hg:gdP M p q' (some (ns.map V.int))=false:=by
    cases e:gdP M p q' (some (ns.map V.int))with
    |false=>rfl
    |true=>
     rw[gd_some]at e
     simp only[Bool.and_eq_true]at e
     rw[decide_eq_true ((tot_any hl' (pos_all e.2.1)).mpr hany)]at e
     cases e.2.2.1
   have:=q _ s12
   rwa [hg]at this
  |true=>
   walk_at "y"
   refine at_minE (sq_lt hc2) (fun z=>by rw[z]at hany;cases hany) fun m hm1 hm2=>?_
   walk_at "y"
   refine by_dec (fun hn=>?_) fun hn=>?_
   .walk_at "y"
    have:=q _ s12
    rwa [gd_no (List.mem_map_of_mem hm1) (show pos (.int m)=false from decide_eq_false (by omega))]at this
   .walk_at "y"
    have h0:∀n∈ns,0<=n:=fun n hn'=>Int.le_trans (by omega) (hm2 n hn')
    have hap:=all_pos h0
    have hvw:=pos_wL hl hap
    have htn:¬tot M (fv (ns.map V.int))=0:=fun z=>by rw[(tot_any hl' h0).mp z]at hany;cases hany
    rw[gd_some,decide_eq_true hl,hap,decide_eq_false htn,Bool.true_and,Bool.true_and,Bool.not_false,Bool.true_and]at q
    generalize hu:fv (ns.map V.int)=u at hvw q
    rw[hvw]at hc2
    have hM2:=hM.mono (tp_same s12)
    refine call_e F.walk ?_
    walk_at "y"
    refine⟨a,c,M,u,q',rfl,hM2,hO,by omega,by omega,hc2,fun d H3 _ s3 hd=>?_⟩
    obtain⟨k,hk⟩:=sq_all (K:=C.K) (hc2.mono s3)
    walk_at "y"
    refine at_zipE (j:=false) (hk _ (Same.refl _)) (SqL.of hd) (comp_z (vs:=(wL M u).map nV) (ws:=(wL M (it M u q')).map nV) (by rw[List.length_map,List.length_map,wL_len,wL_len]) (fun i xs H'=>i<=M.length/\xs=((List.range i).map fun r=>decide (u r*2 ^ p<=ss M q' u r)).map V.bl/\Same H3 H') ⟨Nat.zero_le _,rfl,Same.refl _⟩ (fun i xs H' pv=>?_) ?_ ?_)
    .exact⟨hk _ pv.2.2,SqL.of (pv.2.2 _ _ hd)⟩
    .rintro i xs H4 x y pz R hx hy hpz ⟨_,rfl,s4⟩ hR
     have hi:i<M.length:=by have:=lt_of_get hx;rwa [List.length_map,wL_len]at this
     rw[List.getElem?_map,wL_get hi]at hx hy
     cases hx
     cases hy
     refine g_tup2 (SqT.of upd_same) ?_
     have s5:=s4.trans (same_new hpz (.tup [nV (u i),nV (it M u q' i)]))
     generalize upd H4 pz (.tup [nV (u i),nV (it M u q' i)])=H5 at s5 ⊢
     simp only[nV]
     walk_at "y"
     refine⟨by omega,?_⟩
     rw[show((p:Int)).toNat=p by omega]
     have e:decide (((u i:Nat):Int)<=((it M u q' i:Nat):Int) / 2 ^ p)=decide (u i*2 ^ p<=ss M q' u i):=by
      rw[it_ss]
      apply decide_eq_decide.mpr
      rw[show((2:Int) ^ p)=((2 ^ p:Nat):Int) by rw[Int.natCast_pow];rfl,<- Int.natCast_ediv,Int.ofNat_le,Nat.le_div_iff_mul_le (Nat.two_pow_pos p)]
     rw[e]
     refine⟨by rw[List.length_map,List.length_map,List.length_range];exact small1000 (by omega),hR _ _ ⟨hi,?_,s5⟩⟩
     rw[List.range_succ,List.map_append,List.map_append]
     rfl
    .rintro xs H4 ⟨_,rfl,s4⟩ g hg
     rw[List.length_map,wL_len]
     walk_at "y"
     refine at_all (SqL.of upd_same) ?_
     rw[show((List.range M.length).map fun r=>decide (u r*2 ^ p<=ss M q' u r)).all id=okB M p q' u by unfold okB;rw[List.all_map];rfl]
     exact q _ (s12.trans (s3.trans (s4.trans (same_new hg _))))
noncomputable def scT:V->Bool
 | .non=>true
 | .int _=>true
 | .str _=>true
 | .bl _=>true
 |_=>false
def Va (H:Hp) (v:V):Prop:=(scT v=true\/∃a vs,v=.ref a/\Lt H a vs)/\vN v<=2 ^ 90
def Pp (H:Hp) (v:V):Prop:=scT v=true\/∃a vs,v=.ref a/\Lt H a vs/\(∀x∈vs,Va H x)/\vs.length<=61
def spPapers:Sp:=fun vs H Q _=>∃(b:Addr) (m:Nat) (a pw:Addr) (M:List Rm) (w:Nat->Nat),vs=[.ref b,.ref a,.ref pw]/\H b=some (BoxO b m)/\m<=2 ^ 38/\IsM H a M/\1<=M.length/\M.length<=12/\H pw=some (.lst ((wL M w).map nV))/\Up M 1000 w/\∀(pl:Addr) (ws:List V) (H':Hp),Go 40 H H'->H' pl=some (.lst ws)->ws.length<=20->(∀x∈ws,Pp H' x)->Q (.ref pl) H'
theorem gd_true {M:List Rm} {p q:Nat} {u:Nat->Nat} (hO:OkM M) (ht:tot M u≠0) (hk:Okw M p q u):gdP M p q (some ((wL M u).map nV))=true:=by
 have e:∀r,r<M.length->fv ((wL M u).map nV) r=u r:=fun r hr=>by
  unfold fv
  rw[List.getD_eq_getElem?_getD,List.getElem?_map,wL_get hr]
  exact Int.toNat_natCast _
 have hp:((wL M u).map nV).all pos=true:=by
  rw[List.all_map]
  exact List.all_eq_true.mpr fun n _=>decide_eq_true (Int.natCast_nonneg n)
 rw[gd_some,decide_eq_true (by rw[List.length_map,wL_len]),hp,decide_eq_false (by rw[tot_congr e];exact ht),okB_iff.mpr (okw_congr hO e hk)]
 rfl
structure FsRight (C:Rc):Prop where
 take:C.fs "_law_take"=some spTake
 asked:C.fs "_law_asked"=some spAsked
 en:C.fs "enough"=some spEn
 se:C.fs "shows_enough"=some spSE
 papers:C.fs "_law_papers"=some spPapers
 due:C.fs "_law_due"=some spDueP
end K29
namespace TE
open PySem PySem.Spec PyProof.Rows L2 R3 LW TM BD BE
noncomputable def ixR (rs:List Nat):Option Nat->Option Nat
 |none=>none
 |some n=>if n∈rs then some (rs.idxOf n)else none
theorem ixR_some {rs:List Nat} {n:Nat}:ixR rs (some n)=if n∈rs then some (rs.idxOf n)else none:=rfl
theorem nd_inj {rs:List Nat} (h:rs.Nodup) {i j:Nat} {hi:i<rs.length} {hj:j<rs.length} (e:rs[i]=rs[j]):i=j:=by
 rcases Nat.lt_trichotomy i j with z|z|z
 .exact absurd e (List.pairwise_iff_getElem.mp h i j hi hj z)
 .exact z
 .exact absurd e.symm (List.pairwise_iff_getElem.mp h j i hj hi z)
noncomputable def prt (M:List Rm) (rs:List Nat):List Rm:=rs.map fun r=>(ixR rs (fs1 M r),ixR rs (fs2 M r))
theorem prt_len {M:List Rm} {rs:List Nat}:(prt M rs).length=rs.length:=by unfold prt;rw[List.length_map]
theorem ixR_lt {rs:List Nat} {o:Option Nat} {x:Nat} (h:ixR rs o=some x):x<rs.length:=by
 cases o with
 |none=>cases h
 |some n=>
  rw[ixR_some]at h
  by_cases hn:n∈rs
  .rw[if_pos hn]at h
   injection h with h
   rw[<- h]
   exact List.idxOf_lt_length_of_mem hn
  .rw[if_neg hn]at h
   cases h
theorem prt_ok {M:List Rm} {rs:List Nat}:OkM (prt M rs):=by
 intro r hr
 obtain⟨x,_,rfl⟩:=List.mem_map.mp hr
 rw[prt_len]
 exact⟨fun n h=>ixR_lt h,fun n h=>ixR_lt h⟩
noncomputable def ziR:List Nat->Nat->List (Key×V)
 | [],_=>[]
 |r :: rs,k=>((Key.inl (r:Int):Key),V.int k) :: ziR rs (k+1)
theorem ziR_snoc {r:Nat}:∀{rs:List Nat} {k:Nat},ziR (rs++[r]) k=ziR rs k++[((Key.inl (r:Int):Key),V.int (k+rs.length:Nat))]
 | [],k=>by simp[ziR]
 |a :: rs,k=>by
  show _ :: ziR (rs++[r]) (k+1)=_ :: (ziR rs (k+1)++_)
  rw[ziR_snoc,List.length_cons,show k+1+rs.length=k+(rs.length+1) by omega]
theorem inl_nat {a b:Nat}:((Key.inl (a:Int):Key)=Key.inl (b:Int))↔a=b:=⟨fun h=>by injection h with h;omega,fun h=>by rw[h]⟩
theorem ziR_val {x:Nat}:∀{rs:List Nat} {k:Nat},valV (ziR rs k) (Key.inl (x:Int))=if x∈rs then some (V.int (k+rs.idxOf x:Nat))else none
 | [],k=>by simp[ziR,valV]
 |r :: rs,k=>by
  by_cases h:r=x
  .subst h
   rw[show ziR (r :: rs) k=((Key.inl (r:Int):Key),V.int k) :: ziR rs (k+1) from rfl,valV_pos rfl]
   simp
  .rw[show ziR (r :: rs) k=((Key.inl (r:Int):Key),V.int k) :: ziR rs (k+1) from rfl,valV_neg (fun z=>h (inl_nat.mp z)),ziR_val]
   have hx:¬x=r:=fun z=>h z.symm
   have e1:(r == x)=false:=by rw[beq_eq_false_iff_ne];exact h
   simp only[List.mem_cons,hx,false_or]
   rw[List.idxOf_cons,e1]
   split
   .simp only[cond_false]
    rw[show k+1+rs.idxOf x=k+(rs.idxOf x+1) by omega]
   .rfl
theorem ziR_len:∀{rs:List Nat} {k:Nat},(ziR rs k).length=rs.length
 | [],_=>rfl
 |_ :: rs,k=>by show(ziR rs (k+1)).length+1=_;rw[ziR_len];rfl
theorem ziR_tb {n:Nat}:∀{rs:List Nat} {k m:Nat},(∀r∈rs,r<n)->k+rs.length<=m->TbK n m (ziR rs k)
 | [],_,_,_,_=>fun kv h=>absurd h List.not_mem_nil
 |r :: rs,k,m,h,hm=>fun kv hkv=>by
  rw[List.length_cons]at hm
  rcases List.mem_cons.mp hkv with rfl|hkv
  .exact⟨r,k,rfl,h r (by simp),by omega⟩
  .exact ziR_tb (k:=k+1) (fun x hx=>h x (by simp[hx])) (by omega) kv hkv
theorem get_zi {C:Rc} {H:Hp} {Q:VK} {p:Addr} {n:Nat} {rs:List Nat} {o:Option Nat} (h:∀r∈rs,r<n) (hn:n<=1000) (hp:H p=some (.dK (ziR rs 0))) (q:Q (oV (ixR rs o)) H):kGet2 p Q (oV o) H:=by
 cases o with
 |none=>exact at_getN ((ziR_tb (m:=rs.length) h (by omega)).non hn hp) q
 |some x=>
  refine at_get2 (DGet.k (k:=.inl (x:Int)) hp) ?_
  rw[ziR_val]
  rw[ixR_some]at q
  by_cases hx:x∈rs
  .rw[if_pos hx]at q ⊢
   rw[Nat.zero_add]
   exact q
  .rw[if_neg hx]at q ⊢
   exact q
def spPartX:Sp:=fun vs H Q _=>∃(a l:Addr) (M:List Rm) (rs:List Nat),vs=[.ref a,.ref l]/\IsM H a M/\M.length<=500/\H l=some (.lst (rs.map nV))/\(∀r∈rs,r<M.length)/\rs.Nodup/\rs.length<=500/\∀(p:Addr) (H':Hp),Same H H'->IsM H' p (prt M rs)->Q (.ref p) H'
theorem body_partX {C:Rc} (hN:C.N.length=5):∀vs H Q E,spPartX vs H Q E->tSs C c_p_part_of { nx:=fun _ H'=>Q .non H',rt:=Q } (L2.start C.N vs) H:=by
 intro vs H Q E h
 obtain⟨a,l,M,rs,rfl,hM,hM5,hl,hrs,hnd,hlen,q⟩:=h
 rw[start_eq hN]
 unfold c_p_part_of
 walk_at "y"
 refine at_enL (SqL.of hl) (cl_e (vs:=rs.map nV) (fun i b H'=>b=ziR (rs.take i) 0/\i<=rs.length/\Same H H') ⟨rfl,Nat.zero_le _,Same.refl _⟩ (fun i b H' pv=>SqL.of (pv.2.2 _ _ hl)) ?_ ?_)
 .rintro i b H1 x p R hx hp ⟨rfl,hi0,s1⟩ hR
  rw[List.getElem?_map]at hx
  cases er:rs[i]? with
  |none=>rw[er]at hx;cases hx
  |some r=>
  rw[er]at hx
  cases hx
  have hi:=lt_of_get er
  refine g_tup2 (SqT.of upd_same) ?_
  have s2:=s1.trans (same_new hp (.tup [.int i,nV r]))
  generalize upd H1 p (.tup [.int i,nV r])=H2 at s2 ⊢
  simp only[nV]
  walk_at "y"
  have et:rs.take (i+1)=rs.take i++[r]:=by rw[List.take_succ,er];rfl
  have hno:r∉rs.take i:=fun hm=>by
   obtain⟨j,hj,ej⟩:=List.mem_iff_getElem.mp hm
   rw[List.length_take]at hj
   rw[List.getElem_take]at ej
   have er':rs[i]'hi=r:=by rw[List.getElem?_eq_getElem hi]at er;exact Option.some.inj er
   have:=nd_inj hnd (hi:=by omega) (hj:=hi) (ej.trans er'.symm)
   omega
  refine⟨.inl (r:Int),rfl,by rw[ziR_len,List.length_take];exact small1000 (by omega),hR _ _ ⟨?_,by omega,s2⟩⟩
  rw[putK_new _ (by rw[ziR_val,if_neg hno]),et,ziR_snoc,List.length_take,Nat.min_eq_left (by omega),Nat.zero_add]
 .rintro kvs H1 ⟨rfl,_,s1⟩
  rw[List.length_map,List.take_length]
  refine⟨trivial,fun p hp=>?_⟩
  have s2:=s1.trans (same_new hp (.dK (ziR rs 0)))
  have hp2:upd H1 p (.dK (ziR rs 0)) p=some (.dK (ziR rs 0)):=upd_same
  generalize upd H1 p (.dK (ziR rs 0))=H2 at s2 hp2 ⊢
  walk_at "y"
  refine at_iv_lst (SqL.of (s2 _ _ hl)) (comp_l (vs:=rs.map nV) (fun i xs H'=>Rooms H' xs ((rs.take i).map fun r=>(ixR rs (fs1 M r),ixR rs (fs2 M r)))/\i<=rs.length/\Same H2 H') ⟨trivial,Nat.zero_le _,Same.refl _⟩ (fun i xs H' pv=>SqL.of (pv.2.2 _ _ (s2 _ _ hl))) ?_ ?_)
  .rintro i xs H3 x R hx ⟨hR',hi0,s3⟩ hR
   rw[List.getElem?_map]at hx
   cases er:rs[i]? with
   |none=>rw[er]at hx;cases hx
   |some r=>
   rw[er]at hx
   cases hx
   have hi:=lt_of_get er
   have hrM:=hrs r (List.mem_of_getElem? er)
   have hM3:=hM.mono (tp_same (s2.trans s3))
   have hp3:=s3 _ _ hp2
   simp only[nV]
   walk_at "y"
   refine at_get1 (.inl ⟨_,.inl hp3⟩) ?_
   walk_at "y"
   refine room_ix hM3 hrM fun pr hpr=>?_
   walk_at "y"
   refine at_ixT (SqT.of hpr) (v:=oV (fs1 M r)) rfl ?_
   refine get_zi (C:=C) hrs (by omega) hp3 ?_
   walk_at "y"
   refine at_get1 (.inl ⟨_,.inl hp3⟩) ?_
   walk_at "y"
   refine room_ix hM3 hrM fun pr hpr=>?_
   walk_at "y"
   refine at_ixT (SqT.of hpr) (v:=oV (fs2 M r)) rfl ?_
   refine get_zi (C:=C) hrs (by omega) hp3 ?_
   walk_at "y"
   refine⟨by show 2<=sizeLine;decide,fun p4 hp4=>?_⟩
   have s4:=same_new hp4 (.tup [oV (ixR rs (fs1 M r)),oV (ixR rs (fs2 M r))])
   have h4:upd H3 p4 (.tup [oV (ixR rs (fs1 M r)),oV (ixR rs (fs2 M r))]) p4=some (.tup [oV (ixR rs (fs1 M r)),oV (ixR rs (fs2 M r))]):=upd_same
   generalize upd H3 p4 (.tup [oV (ixR rs (fs1 M r)),oV (ixR rs (fs2 M r))])=H4 at s4 h4 ⊢
   have hxl:=hR'.len
   rw[List.length_map,List.length_take]at hxl
   refine⟨small1000 (by omega),hR _ _ ⟨?_,by omega,s3.trans s4⟩⟩
   rw[List.take_succ,er,List.map_append]
   exact(hR'.mono (tp_same s4)).snoc ⟨p4,rfl,h4⟩
  .rintro xs H3 ⟨hR',_,s3⟩ p5 hp5
   rw[List.length_map,List.take_length]at hR'
   walk_at "y"
   have h5:upd H3 p5 (.lst xs) p5=some (.lst xs):=upd_same
   have s5:=same_new hp5 (.lst xs)
   generalize upd H3 p5 (.lst xs)=H5 at h5 s5 ⊢
   refine at_tupL (SqL.of h5) fun p6 hp6=>?_
   have s6:=same_new hp6 (.tup xs)
   exact q p6 _ (s2.trans (s3.trans (s5.trans s6))) ⟨xs,upd_same,hR'.mono (tp_same (s5.trans s6))⟩
structure Rs (M:List Rm) (rs:List Nat):Prop where
 rise:rs.Pairwise (· < ·)
 lt:∀r∈rs,r<M.length
 fix:lst M rs=rs
 all:∀S,Sus M S->∀r∈S,r∈rs
theorem rise_nd {rs:List Nat} (h:rs.Pairwise (· < ·)):rs.Nodup:=h.imp fun {a b} z=>Nat.ne_of_lt z
theorem rise_ext:∀{a b:List Nat},a.Pairwise (· < ·)->b.Pairwise (· < ·)->(∀x,x∈a↔x∈b)->a=b
 | [],[],_,_,_=>rfl
 | [],y :: b,_,_,h=>absurd ((h y).mpr (by simp)) List.not_mem_nil
 |x :: a,[],_,_,h=>absurd ((h x).mp (by simp)) List.not_mem_nil
 |x :: a,y :: b,ha,hb,h=>by
  rw[List.pairwise_cons]at ha hb
  have e:x=y:=by
   rcases List.mem_cons.mp ((h x).mp (by simp))with e|e
   .exact e
   .rcases List.mem_cons.mp ((h y).mpr (by simp))with e'|e'
    .exact e'.symm
    .have:=hb.1 x e
     have:=ha.1 y e'
     omega
  subst e
  congr 1
  refine rise_ext ha.2 hb.2 fun z=>?_
  have:=h z
  simp only[List.mem_cons]at this
  constructor
  .intro hz
   rcases this.mp (.inr hz)with e|e
   .have:=ha.1 z hz;omega
   .exact e
  .intro hz
   rcases this.mpr (.inr hz)with e|e
   .have:=hb.1 z hz;omega
   .exact e
theorem sus_fix {M:List Rm} {rs:List Nat} (hl:∀r∈rs,r<M.length) (h:lst M rs=rs):Sus M rs:=by
 intro r hr
 have h2:r∈lst M rs:=by rw[h];exact hr
 have h3:=(List.mem_filter.mp h2).2
 unfold lastR at h3
 rw[Bool.and_eq_true,Bool.or_eq_true]at h3
 refine⟨hl r hr,?_,?_⟩
 .obtain⟨r',hr',e⟩:=List.any_eq_true.mp h3.1
  refine⟨r',hr',?_⟩
  rw[Bool.or_eq_true,decide_eq_true_eq,decide_eq_true_eq]at e
  rcases e with e|e
  .exact .inl (oI_inj (b:=some r) (by rw[<- e];rfl))
  .exact .inr (oI_inj (b:=some r) (by rw[<- e];rfl))
 .have key:∀o,inR rs o=true->∃r'∈rs,o=some r':=fun o ho=>by
   cases o with
   |none=>cases ho
   |some n=>exact⟨n,List.contains_iff_mem.mp ho,rfl⟩
  rcases h3.2 with e|e
  .obtain⟨r',hr',e'⟩:=key _ e
   exact⟨r',hr',.inl e'⟩
  .obtain⟨r',hr',e'⟩:=key _ e
   exact⟨r',hr',.inr e'⟩
theorem Rs.sus {M:List Rm} {rs:List Nat} (h:Rs M rs):Sus M rs:=sus_fix h.lt h.fix
theorem Rs.uniq {M:List Rm} {rs rs':List Nat} (h:Rs M rs) (h':Rs M rs'):rs=rs':=rise_ext h.rise h'.rise fun x=>⟨fun z=>h'.all _ h.sus x z,fun z=>h.all _ h'.sus x z⟩
set_option tactic.hygienic true in
theorem filter_eq {α:Type} {p:α->Bool}:∀{l:List α},l.length<=(l.filter p).length->l.filter p=l
 | [],_=>rfl
 |a :: l,h=>by
  rw[List.filter_cons]at h ⊢
  have:=List.length_filter_le p l
  split at h
  .rename_i hp
   rw[if_pos hp]
   rw[List.length_cons,List.length_cons]at h
   rw[filter_eq (by omega)]
  .rw[List.length_cons]at h
   omega
def spTrimX:Sp:=fun vs H Q _=>∃(a:Addr) (M:List Rm),vs=[.ref a]/\IsM H a M/\M.length<=500/\∀(p p' l:Addr) (rs:List Nat) (H':Hp),Same H H'->H l=none->H' p=some (.tup [.ref p',.ref l])->H' l=some (.lst (rs.map nV))->IsM H' p' (prt M rs)->Rs M rs->Q (.ref p) H'
theorem body_trimX {C:Rc} (hN:C.N.length=3) (hL:C.fs "lasting"=some spLast) (hP:C.fs "part_of"=some spPartX):∀vs H Q E,spTrimX vs H Q E->tSs C c_p_trimmed { nx:=fun _ H'=>Q .non H',rt:=Q } (L2.start C.N vs) H:=by
 intro vs H Q E h
 obtain⟨a,M,rfl,hM,hM5,q⟩:=h
 rw[start_eq hN]
 unfold c_p_trimmed
 obtain⟨mv,hmv,hmr⟩:=id hM
 walk_at "y"
 refine at_lenT (SqT.of hmv) ?_
 rw[hmr.len]
 walk_at "y"
 refine at_range1 fun pr hpr=>?_
 walk_at "y"
 have hsz:((M.length:Int)-0).toNat<=sizeLine:=Nat.le_of_lt (small1000 (by omega))
 refine at_listR upd_same (by omega) (by omega) (by omega) (by omega) hsz fun p1 hp1=>?_
 rw[show((M.length:Int)-0).toNat=M.length by omega,rgs_nV]
 have s1:=(same_new hpr (.rng 0 M.length)).trans (same_new hp1 (.lst ((List.range M.length).map nV)))
 have h1:upd (upd H pr (.rng 0 M.length)) p1 (.lst ((List.range M.length).map nV)) p1=some (.lst ((List.range M.length).map nV)):=upd_same
 have f1:H p1=none:=(same_new hpr (.rng 0 M.length)).free hp1
 generalize upd (upd H pr (.rng 0 M.length)) p1 (.lst ((List.range M.length).map nV))=H1 at s1 h1 ⊢
 walk_at "y"
 refine call_e hL ?_
 walk_at "y"
 refine⟨a,p1,M,List.range M.length,rfl,hM.mono (tp_same s1),h1,fun r hr=>List.mem_range.mp hr,by rw[List.length_range];omega,fun p2 H2 hp2 s2 h2=>?_⟩
 walk_at "y"
 refine whl_by (fun m σ H'=>Same H H'/\∃(l1 l2:Addr) (rs:List Nat),σ=[some (.ref a),some (.ref l1),some (.ref l2)]/\H l1=none/\H l2=none/\H' l1=some (.lst (rs.map nV))/\H' l2=some (.lst ((lst M rs).map nV))/\(∀r∈rs,r<M.length)/\rs.Pairwise (· < ·)/\rs.length<=M.length/\(∀S,Sus M S->∀r∈S,r∈rs)/\m=rs.length) _ ⟨s1.trans s2,p1,p2,List.range M.length,rfl,f1,s1.free hp2,s2 _ _ h1,h2,fun r hr=>List.mem_range.mp hr,List.pairwise_lt_range,by rw[List.length_range];omega,fun S hS r hr=>List.mem_range.mpr (hS r hr).1,rfl⟩ ?_
 rintro m σ H3 ⟨s3,l1,l2,rs,rfl,f1,f2,hl1,hl2,hrs,hri,hrl,hSr,rfl⟩
 walk_at "y"
 refine at_lenL (SqL.of hl2) ?_
 walk_at "y"
 refine at_lenL (SqL.of hl1) ?_
 rw[List.length_map,List.length_map]
 walk_at "y"
 have hle:=lst_le (M:=M) (rs:=rs)
 refine by_dec (fun hc=>kWhl_t ?_) fun hc=>kWhl_f ?_
 .walk_at "y"
  refine call_e hL ?_
  walk_at "y"
  refine⟨a,l2,M,lst M rs,rfl,hM.mono (tp_same s3),hl2,fun r hr=>hrs r (lst_mem hr),by omega,fun p4 H4 hp4 s4 h4=>?_⟩
  walk_at "y"
  exact⟨(lst M rs).length,by omega,s3.trans s4,l2,p4,lst M rs,rfl,f2,s3.free hp4,s4 _ _ hl2,h4,fun r hr=>hrs r (lst_mem hr),hri.sublist List.filter_sublist,by omega,fun S hS=>sus_last hS (hSr S hS),rfl⟩
 .walk_at "y"
  refine call_e hP ?_
  walk_at "y"
  refine⟨a,l1,M,rs,rfl,hM.mono (tp_same s3),hM5,hl1,hrs,rise_nd hri,by omega,fun p4 H4 s4 hM4=>?_⟩
  walk_at "y"
  refine⟨by show 2<=sizeLine;decide,fun p5 hp5=>?_⟩
  have s5:=same_new hp5 (.tup [.ref p4,.ref l1])
  exact q p5 p4 l1 rs _ (s3.trans (s4.trans s5)) f1 upd_same (s5 _ _ (s4 _ _ hl1)) (hM4.mono (tp_same s5)) ⟨hri,hrs,filter_eq (by have:¬((lst M rs).length:Int)<rs.length:=hc;unfold lst at this;omega),hSr⟩
end TE
namespace K71
open PySem PySem.Spec PyProof.Rows L2 R3 LW
noncomputable def n_p_is_number:List Str:=["thing"]
noncomputable def b_p_is_number:List Str:=["bool","int","isinstance"]
noncomputable def n_p_is_within:List Str:=["thing","low","high"]
noncomputable def b_p_is_within:List Str:=[]
noncomputable def n_p_is_pair:List Str:=["thing"]
noncomputable def b_p_is_pair:List Str:=["isinstance","len","tuple"]
noncomputable def n_p_is_listed:List Str:=["thing"]
noncomputable def b_p_is_listed:List Str:=["isinstance","list","tuple"]
noncomputable def n_p_are_numbers:List Str:=["thing","many","each"]
noncomputable def b_p_are_numbers:List Str:=["all","len"]
noncomputable def n_p_are_sizes:List Str:=["p","q"]
noncomputable def b_p_are_sizes:List Str:=[]
noncomputable def n_p_is_lead:List Str:=["thing","many"]
noncomputable def b_p_is_lead:List Str:=[]
noncomputable def n_p_is_room:List Str:=["thing","many"]
noncomputable def b_p_is_room:List Str:=[]
noncomputable def n_p_is_machine:List Str:=["thing","room"]
noncomputable def b_p_is_machine:List Str:=["all","isinstance","len","tuple"]
noncomputable def n_p_lasting:List Str:=["machine","rooms","inside","led_to","room","lead"]
noncomputable def b_p_lasting:List Str:=["set"]
noncomputable def n_p_part_of:List Str:=["machine","numbers","anew","at","room"]
noncomputable def b_p_part_of:List Str:=["enumerate","tuple"]
noncomputable def n_p_trimmed:List Str:=["machine","numbers","fewer"]
noncomputable def b_p_trimmed:List Str:=["len","list","range"]
noncomputable def n_p_walks_from:List Str:=["machine","room","many","walks","step","row","end","bit"]
noncomputable def b_p_walks_from:List Str:=["int","range"]
noncomputable def n_p_powered:List Str:=["machine","many","room"]
noncomputable def b_p_powered:List Str:=["len","range"]
noncomputable def n_p_behind_bit:List Str:=["machine","numbers","room","bit","lead"]
noncomputable def b_p_behind_bit:List Str:=["int"]
noncomputable def n_p_way_sums:List Str:=["machine","numbers","room"]
noncomputable def b_p_way_sums:List Str:=["len","range"]
noncomputable def n_p_walk_sums:List Str:=["machine","numbers","many","sums","step"]
noncomputable def b_p_walk_sums:List Str:=["list","range"]
noncomputable def n_p_walks_to:List Str:=["machine","q","sources","room","walks","row","end"]
noncomputable def b_p_walks_to:List Str:=["enumerate"]
noncomputable def n_p_greatest_within:List Str:=["machine","p","q","limits","weights","sums","sources","waiting","room","lost","source"]
noncomputable def b_p_greatest_within:List Str:=["len","list","range"]
noncomputable def n_p_enough:List Str:=["machine","p","q","most","weights","room"]
noncomputable def b_p_enough:List Str:=["any"]
noncomputable def n_p_shows_enough:List Str:=["machine","p","q","weights","own","way"]
noncomputable def b_p_shows_enough:List Str:=["all","any","len","min","zip"]
noncomputable def n_p_are_below:List Str:=["counts","bits","count"]
noncomputable def b_p_are_below:List Str:=["all"]
noncomputable def n_p_too_little:List Str:=["machine","p","q","most","counts","room","m"]
noncomputable def b_p_too_little:List Str:=["range"]
noncomputable def n_p_shows_too_little:List Str:=["machine","p","q","m","counts","room"]
noncomputable def b_p_shows_too_little:List Str:=["len","list"]
noncomputable def n_p_rooms_in_bounds:List Str:=["bounds","low0","high0","low1","high1","spread","levels","bit","high","place","level"]
noncomputable def b_p_rooms_in_bounds:List Str:=["list","range"]
noncomputable def n_p_room_behind:List Str:=["bounds","room","bit","low0","high0","low1","high1","spread","last","place","level"]
noncomputable def b_p_room_behind:List Str:=[]
noncomputable def n_p_machine_in_bounds:List Str:=["bounds","rooms","numbers","at","room"]
noncomputable def b_p_machine_in_bounds:List Str:=["enumerate","tuple"]
noncomputable def n_p_machine_of:List Str:=["bounds","less","numbers"]
noncomputable def b_p_machine_of:List Str:=[]
noncomputable def n_cell_at:List Str:=["_law_script","_law_k"]
noncomputable def b_cell_at:List Str:=["len"]
noncomputable def n_box:List Str:=["_law_script","_law_k","_law_cell"]
noncomputable def b_box:List Str:=["abs","int"]
noncomputable def n_take:List Str:=["_law_box_here","_law_many","_law_found","_law_once","_law_twice"]
noncomputable def b_take:List Str:=[]
noncomputable def n_same:List Str:=["_law_found","_law_due","_law_one","_law_other"]
noncomputable def b_same:List Str:=["all","bool","int","isinstance","len","list","str","tuple","zip"]
noncomputable def n_good:List Str:=["_law_some"]
noncomputable def b_good:List Str:=[]
noncomputable def c_good:Css:=(.cons (.asg (.name 0) (.lst (.cons (.tup (.cons (.tup (.cons (.int 1) (.cons (.int 2) (.cons (.int 1) (.cons (.int 2) (.cons .non .nil)))))) (.cons (.int 2) (.cons (.int 3) (.cons (.int 2) .nil))))) (.cons (.tup (.cons (.tup (.cons (.int 1) (.cons (.int 3) (.cons (.int 1) (.cons (.int 3) (.cons .non .nil)))))) (.cons (.int 3) (.cons (.int 4) (.cons (.int 1) .nil))))) (.cons (.tup (.cons (.tup (.cons (.int 1) (.cons (.int 8) (.cons (.int 1) (.cons (.int 8) (.cons .non .nil)))))) (.cons (.int 4) (.cons (.int 5) (.cons (.int 1) .nil))))) .nil)))))
  (.cons (.asg (.name 0) (.bin .Add (.var 0) (.lst (.cons (.tup (.cons (.tup (.cons (.int 2) (.cons (.int 4) (.cons (.int 2) (.cons (.int 4) (.cons .non .nil)))))) (.cons (.int 1) (.cons (.int 2) (.cons (.int 2) .nil))))) (.cons (.tup (.cons (.tup (.cons (.int 2) (.cons (.int 5) (.cons (.int 2) (.cons (.int 5) (.cons .non .nil)))))) (.cons (.int 1) (.cons (.int 2) (.cons (.int 2) .nil))))) (.cons (.tup (.cons (.tup (.cons (.int 1) (.cons (.int 1) (.cons (.int 1) (.cons (.int 3) (.cons .non .nil)))))) (.cons (.int 1) (.cons (.int 2) (.cons (.int 1) .nil))))) .nil))))))
  (.cons (.ret (.bin .Add (.var 0) (.lst (.cons (.tup (.cons (.tup (.cons (.int 1) (.cons (.int 2) (.cons (.int 1) (.cons (.int 2) (.cons (.int 2) .nil)))))) (.cons (.int 1) (.cons (.int 2) (.cons (.int 1) .nil))))) .nil))))
  .nil)))
noncomputable def n_bad:List Str:=["_law_some"]
noncomputable def b_bad:List Str:=[]
noncomputable def c_bad:Css:=(.cons (.asg (.name 0) (.lst (.cons (.tup (.cons (.tup (.cons (.int 1) (.cons (.int 2) (.cons (.int 1) (.cons (.int 2) (.cons .non .nil)))))) (.cons (.int 3) (.cons (.int 4) .nil)))) (.cons (.tup (.cons (.tup (.cons (.int 1) (.cons (.int 3) (.cons (.int 1) (.cons (.int 3) (.cons .non .nil)))))) (.cons (.int 1) (.cons (.int 1) .nil)))) (.cons (.tup (.cons (.tup (.cons (.int 2) (.cons (.int 4) (.cons (.int 2) (.cons (.int 4) (.cons .non .nil)))))) (.cons (.int 2) (.cons (.int 3) .nil)))) .nil)))))
  (.cons (.asg (.name 0) (.bin .Add (.var 0) (.lst (.cons (.tup (.cons (.tup (.cons (.int 2) (.cons (.int 5) (.cons (.int 2) (.cons (.int 5) (.cons .non .nil)))))) (.cons (.int 2) (.cons (.int 3) .nil)))) (.cons (.tup (.cons (.tup (.cons (.int 1) (.cons (.int 1) (.cons (.int 1) (.cons (.int 3) (.cons .non .nil)))))) (.cons (.int 2) (.cons (.int 3) .nil)))) (.cons (.tup (.cons (.tup (.cons (.int 1) (.cons (.int 2) (.cons (.int 1) (.cons (.int 2) (.cons (.int 2) .nil)))))) (.cons (.int 2) (.cons (.int 3) .nil)))) .nil))))))
  (.cons (.ret (.bin .Add (.var 0) (.lst (.cons (.tup (.cons (.tup (.cons (.int 1) (.cons (.int 1) (.cons (.int 1) (.cons (.int 1) (.cons .non .nil)))))) (.cons (.int 1) (.cons (.int 8) .nil)))) .nil))))
  .nil)))
noncomputable def n_sums:List Str:=["_law_machine","_law_weights","_law_many","_law_found","_law_turn","_law_there","_law_room"]
noncomputable def b_sums:List Str:=["list","range","sum"]
noncomputable def c_sums:Css:=(.cons (.asg (.name 3) (.blt .list (.cons (.var 1) .nil)))
  (.cons (.for_ (.name 4) (.range1 (.var 2)) (.cons (.asg (.name 3) (.comp (.blt .sum (.cons (.comp (.idx (.var 3) (.var 5)) [5] (.name 5) (.val (.var 6)) (.some (.cmp .IsNot (.var 5) .non)) .nil) .nil)) [6] (.name 6) (.val (.var 0)) .none .nil))
  .nil))
  (.cons (.ret (.var 3))
  .nil)))
noncomputable def n_good_right:List Str:=["_law_box_here","_law_bounds","_law_p","_law_q","_law_least","_law_machine","_law_weights","_law_weight","_law_found"]
noncomputable def b_good_right:List Str:=["zip"]
noncomputable def c_good_right:Css:=(.cons (.asg (.tup (.cons (.name 1) (.cons (.name 2) (.cons (.name 3) (.cons (.name 4) .nil))))) (.idx (.cl0 "_law_good") (.call "_law_take" (.cons (.var 0) (.cons (.int 7) .nil)))))
  (.cons (.asg (.name 5) (.call "machine_of" (.cons (.var 1) .nil)))
  (.cons (.asg (.name 6) (.call "enough" (.cons (.var 5) (.cons (.var 2) (.cons (.var 3) (.cons (.bin .Add (.var 4) (.call "_law_take" (.cons (.var 0) (.cons (.bin .Sub (.int 13) (.var 4)) .nil)))) .nil))))))
  (.cons (.ite (.or (.cmp .Is (.var 6) .non) (.cmp .IsNot (.call "shows_enough" (.cons (.var 5) (.cons (.var 2) (.cons (.var 3) (.cons (.var 6) .nil))))) (.bl true))) (.cons (.ret (.bl false))
  .nil) .nil)
  (.cons (.ite (.cmp .IsNot (.call "shows_enough" (.cons (.var 5) (.cons (.var 2) (.cons (.var 3) (.cons (.comp (.bin .Mult (.int 2) (.var 7)) [7] (.name 7) (.val (.var 6)) .none .nil) .nil))))) (.bl true)) (.cons (.ret (.bl false))
  .nil) .nil)
  (.cons (.for_ (.tup (.cons (.name 8) (.cons (.name 7) .nil))) (.zip (.call "_law_sums" (.cons (.var 5) (.cons (.var 6) (.cons (.var 3) .nil)))) (.var 6)) (.cons (.ite (.cmp .Lt (.var 8) (.bin .LShift (.var 7) (.var 2))) (.cons (.ret (.bl false))
  .nil) .nil)
  .nil))
  (.cons (.ret (.cmp .Is (.call "too_little" (.cons (.var 5) (.cons (.var 2) (.cons (.var 3) (.cons (.bin .Add (.int 1) (.call "_law_take" (.cons (.var 0) (.cons (.int 8) .nil)))) .nil))))) .non))
  .nil)))))))
noncomputable def n_bad_right:List Str:=["_law_box_here","_law_bounds","_law_p","_law_q","_law_machine","_law_ones","_law_m","_law_due","_law_less"]
noncomputable def b_bad_right:List Str:=["len","max"]
noncomputable def c_bad_right:Css:=(.cons (.asg (.tup (.cons (.name 1) (.cons (.name 2) (.cons (.name 3) .nil)))) (.idx (.cl0 "_law_bad") (.call "_law_take" (.cons (.var 0) (.cons (.int 7) .nil)))))
  (.cons (.asg (.name 4) (.call "machine_of" (.cons (.var 1) .nil)))
  (.cons (.ite (.cmp .IsNot (.call "enough" (.cons (.var 4) (.cons (.var 2) (.cons (.var 3) (.cons (.bin .Add (.int 1) (.call "_law_take" (.cons (.var 0) (.cons (.int 12) .nil)))) .nil))))) .non) (.cons (.ret (.bl false))
  .nil) .nil)
  (.cons (.asg (.name 5) (.bin .Mult (.lst (.cons (.int 1) .nil)) (.blt .len (.cons (.var 4) .nil))))
  (.cons (.asg (.name 6) (.int 1))
  (.cons (.whl (.and (.cmp .Lt (.var 6) (.int 50)) (.cmp .GtE (.blt .max (.cons (.call "_law_sums" (.cons (.var 4) (.cons (.var 5) (.cons (.bin .Mult (.var 3) (.var 6)) .nil)))) .nil)) (.bin .LShift (.int 1) (.bin .Mult (.var 2) (.var 6))))) (.cons (.asg (.name 6) (.bin .Add (.var 6) (.int 1)))
  .nil))
  (.cons (.asg (.name 7) (.tup (.cons (.var 6) (.cons (.call "_law_sums" (.cons (.var 4) (.cons (.var 5) (.cons (.bin .Mult (.var 3) (.var 6)) .nil)))) .nil))))
  (.cons (.ite (.not (.val (.call "_law_same" (.cons (.call "too_little" (.cons (.var 4) (.cons (.var 2) (.cons (.var 3) (.cons (.int 50) .nil))))) (.cons (.var 7) .nil))))) (.cons (.ret (.bl false))
  .nil) .nil)
  (.cons (.ite (.cmp .IsNot (.call "shows_too_little" (.cons (.var 4) (.cons (.var 2) (.cons (.var 3) (.cons (.idx (.var 7) (.int 0)) (.cons (.idx (.var 7) (.int 1)) .nil)))))) (.bl true)) (.cons (.ret (.bl false))
  .nil) .nil)
  (.cons (.asg (.name 8) (.call "_law_sums" (.cons (.var 4) (.cons (.var 5) (.cons (.bin .Mult (.var 3) (.bin .Sub (.var 6) (.int 1))) .nil)))))
  (.cons (.ret (.cmp .Is (.call "shows_too_little" (.cons (.var 4) (.cons (.var 2) (.cons (.var 3) (.cons (.bin .Sub (.var 6) (.int 1)) (.cons (.var 8) .nil)))))) (.bl false)))
  .nil)))))))))))
noncomputable def n_law:List Str:=["_law_script","_law_k","_law_box_here"]
noncomputable def b_law:List Str:=["len","min","range"]
noncomputable def c_law:Css:=(.cons (.for_ (.name 1) (.range1 (.bin .Add (.int 1) (.blt .min (.cons (.int 4) (.cons (.blt .len (.cons (.var 0) .nil)) .nil))))) (.cons (.asg (.name 2) (.call "_law_box" (.cons (.var 0) (.cons (.var 1) .nil))))
  (.cons (.ite (.or (.not (.val (.call "_law_good_right" (.cons (.var 2) .nil)))) (.not (.val (.call "_law_bad_right" (.cons (.var 2) .nil))))) (.cons (.ret (.bl false))
  .nil) .nil)
  .nil)))
  (.cons (.ret (.bl true))
  .nil))
open SR RW TM BD BE TE CK K31 K30 K28 K29
noncomputable def Mx (l0 h0 l1 h1:Nat) (sp:Option Nat):List Rm:=(rk (lvs sp) h0 h1).map (mx l0 l1 sp (rk (lvs sp) h0 h1))
def IsO (l0 h0 l1 h1:Nat) (sp:Option Nat) (M:List Rm):Prop:=∃rs,Rs (Mx l0 h0 l1 h1 sp) rs/\M=prt (Mx l0 h0 l1 h1 sp) rs
theorem IsO.uniq {l0 h0 l1 h1:Nat} {sp:Option Nat} {M M':List Rm} (h:IsO l0 h0 l1 h1 sp M) (h':IsO l0 h0 l1 h1 sp M'):M=M':=by
 obtain⟨rs,e1,rfl⟩:=h
 obtain⟨rs',e2,rfl⟩:=h'
 rw[e1.uniq e2]
theorem IsO.ok {l0 h0 l1 h1:Nat} {sp:Option Nat} {M:List Rm} (h:IsO l0 h0 l1 h1 sp M):OkM M:=by
 obtain⟨rs,e1,rfl⟩:=h
 exact prt_ok
def spMOfO:Sp:=fun vs H Q _=>∃(bd:Addr) (l0 h0 l1 h1:Nat) (sp:Option Nat),vs=[.ref bd]/\IsB H bd l0 h0 l1 h1 sp/\∀(p:Addr) (M:List Rm) (H':Hp),Same H H'->IsM H' p M->IsO l0 h0 l1 h1 sp M->Q (.ref p) H'
theorem body_mofO {C:Rc} (hN:C.N.length=3) (hT:C.fs "trimmed"=some spTrimX) (hM:C.fs "machine_in_bounds"=some spMInx) (hR:C.fs "rooms_in_bounds"=some spRIn):∀vs H Q E,spMOfO vs H Q E->tSs C c_p_machine_of { nx:=fun _ H'=>Q .non H',rt:=Q } (L2.start C.N vs) H:=by
 intro vs H Q E h
 obtain⟨bd,l0,h0,l1,h1,sp,rfl,hB,q⟩:=h
 rw[start_eq hN]
 unfold c_p_machine_of
 have hrl:=(rk_ok hB.bs hB.b0 hB.b1 (h0:=h0) (h1:=h1)).1
 walk_at "y"
 rw[s_asg]
 refine call_e hT ?_
 walk_at "y"
 refine call_e hM ?_
 walk_at "y"
 refine call_e hR ?_
 walk_at "y"
 refine⟨bd,l0,h0,l1,h1,sp,rfl,hB,fun p xs H1 s1 hp hxs=>?_⟩
 walk_at "y"
 refine⟨bd,p,l0,h0,l1,h1,sp,xs,rfl,hB.mono (tp_same s1),hp,hxs,fun p2 H2 s2 hM2=>?_⟩
 walk_at "y"
 refine⟨p2,_,rfl,hM2,by rw[List.length_map];omega,fun p3 p' l rs H3 s3 _ hp3 hl hM3 hRs=>?_⟩
 refine kG_tup2 (SqT.of hp3) ?_
 walk_at "y"
 exact q p' _ H3 (s1.trans (s2.trans s3)) hM3 ⟨rs,hRs,rfl⟩
theorem tE_chn0 {C:Rc} {σ:L2.St} {H:Hp} {Q:VK} {c1 c2 c3:Ce} {a n m:Int} (h1:∀Q,Q (V.int a) H->tE C c1 σ H Q) (h2:∀Q,Q (V.int n) H->tE C c2 σ H Q) (h3:∀Q,Q (V.int m) H->tE C c3 σ H Q) (q:Q (.bl (decide (a<=n/\n<=m))) H):tE C (.chn .LtE .LtE c1 c2 c3) σ H Q:=by
 show tChain (rCmp C.K .LtE) (rCmp C.K .LtE) (tE C c1) (tE C c2) (tE C c3) σ H Q
 unfold tChain
 by_cases ha:a<=n
 .refine h1 _ (h2 _ ⟨a,n,rfl,rfl,true,?_,?_⟩)
  .show V.bl (decide (a<=n))=_
   rw[decide_eq_true ha]
  .rw[if_pos rfl]
   refine h3 _ ⟨n,m,rfl,rfl,?_⟩
   show Q (V.bl (decide (n<=m))) H
   rwa [show decide (a<=n/\n<=m)=decide (n<=m) from decide_eq_decide.mpr ⟨fun z=>z.2,fun z=>⟨ha,z⟩⟩]at q
 .refine h1 _ (h2 _ ⟨a,n,rfl,rfl,false,?_,?_⟩)
  .show V.bl (decide (a<=n))=_
   rw[decide_eq_false ha]
  .rw[if_neg (by simp)]
   rwa [decide_eq_false (fun z=>ha z.1)]at q
def spWithinX:Sp:=fun vs H Q _=>∃(i lo hi:Int),vs=[.int i,.int lo,.int hi]/\Q (.bl (decide (lo<=i/\i<=hi))) H
theorem body_withinX {C:Rc} (hN:C.N.length=3) (hI:C.fs "is_number"=some spIsNum):∀vs H Q E,spWithinX vs H Q E->tSs C c_p_is_within { nx:=fun _ H'=>Q .non H',rt:=Q } (L2.start C.N vs) H:=by
 intro vs H Q E h
 obtain⟨i,lo,hi,rfl,q⟩:=h
 rw[start_eq hN]
 unfold c_p_is_within
 walk_at "y"
 refine call_e hI ?_
 walk_at "y"
 refine⟨_,rfl,.inl ⟨i,rfl⟩,?_⟩
 simp only[isN]
 walk_at "y"
 exact tE_chn0 (a:=lo) (n:=i) (m:=hi) (fun Q q=>by walk_at "y";exact q) (fun Q q=>by walk_at "y";exact q) (fun Q q=>by walk_at "y";exact q) q
theorem body_leadX {C:Rc} (hN:C.N.length=2) (hW:C.fs "is_within"=some spWithinX):∀vs H Q E,spLead vs H Q E->tSs C c_p_is_lead { nx:=fun _ H'=>Q .non H',rt:=Q } (L2.start C.N vs) H:=by
 intro vs H Q E h
 obtain⟨o,N,rfl,ho,q⟩:=h
 rw[start_eq hN]
 unfold c_p_is_lead
 cases o with
 |none=>
  simp only[oV]
  walk_at "y"
  exact q
 |some x=>
  have:=ho x rfl
  simp only[oV]
  walk_at "y"
  refine call_e hW ?_
  walk_at "y"
  refine⟨_,_,_,rfl,?_⟩
  rw[decide_eq_true (by omega)]
  walk_at "y"
  exact q
theorem it_wy {M:List Rm} {n:Nat}:∀{q:Nat},it M (wy M none n) q=wy M none (n+q)
 |0=>rfl
 |q+1=>by
  show st1 M (it M (wy M none n) q)=_
  rw[it_wy]
  rfl
theorem walk_of {vs:List V} {H:Hp} {Q:VK} {E:XK} (h:K31.spWalk vs H Q E):spWalkG vs H Q E:=by
 obtain⟨a,b,M,n,q,rfl,hM,hO,hl,hq,hb,k⟩:=h
 refine⟨a,b,M,wy M none n,q,rfl,hM,hO,hl,hq,.inl hb,fun p H' hp s hp'=>k p H' hp s ?_⟩
 rw[hp',it_wy]
 rfl
theorem body_tlG {C:Rc} (hN:C.N.length=7) (hW:C.fs "walk_sums"=some spWalkG) (hB:C.fs "are_below"=some spBelow):∀vs H Q E,spTL vs H Q E->tSs C c_p_too_little { nx:=fun _ H'=>Q .non H',rt:=Q } (L2.start C.N vs) H:=by
 intro vs H Q E h
 obtain⟨a,M,p,q',most,rfl,hM,hO,hM1,hp,hq,hmost,q⟩:=h
 rw[start_eq hN]
 unfold c_p_too_little
 obtain⟨mv,hmv,hmr⟩:=id hM
 have hml:=hmr.len
 walk_at "y"
 refine at_iv_tup (SqT.of hmv) (comp_t (fun i xs H'=>i<=mv.length/\xs=(List.replicate i 1).map nV/\H'=H) ⟨Nat.zero_le _,rfl,rfl⟩ (fun i xs H' pv=>by rw[pv.2.2];exact SqT.of hmv) ?_ ?_)
 .rintro i xs H' x R hx ⟨_,rfl,rfl⟩ hR
  have hi:=lt_of_get hx
  walk_at "y"
  exact⟨by rw[List.length_map,List.length_replicate];exact small1000 (by omega),hR _ _ ⟨hi,ones_of (M:=M),rfl⟩⟩
 rintro xs H0 ⟨_,rfl,rfl⟩ c hc
 rw[hml,<- wN0]
 have s1:=same_new hc (.lst ((wN M 0).map nV))
 have hc1:upd H0 c (.lst ((wN M 0).map nV)) c=some (.lst ((wN M 0).map nV)):=upd_same
 generalize upd H0 c (.lst ((wN M 0).map nV))=H1 at s1 hc1 ⊢
 walk_at "y"
 refine at_r2 (by omega) (by omega) (by omega) (by omega) ?_
 rw[show((most:Int)+1-1).toNat=most by omega]
 refine for_r (fun i σ H2=>i<=most/\(∃c x5 x6,σ=[some (.ref a),some (.int p),some (.int q'),some (.int most),some (.ref c),x5,x6]/\H2 c=some (.lst ((wN M (q'*i)).map nV)))/\Same H0 H2/\∀j,j<i->okm M p q' (j+1)=false) ⟨Nat.zero_le _,⟨c,_,_,rfl,hc1⟩,s1,fun j hj=>absurd hj (by omega)⟩ ?_ ?_
 .rintro i σ H2 hi ⟨_,⟨c2,x5,x6,rfl,hc2⟩,s2,hno⟩
  rw[show(1:Int)+(i:Int)=((i+1:Nat):Int) by omega]
  walk_at "y"
  refine call_e hW ?_
  walk_at "y"
  refine walk_of ⟨a,c2,M,q'*i,q',rfl,hM.mono (tp_same s2),hO,by omega,by omega,hc2,fun c3 H3 hc30 s3 hc3=>?_⟩
  rw[show q'*i+q'=q'*(i+1) by rw[Nat.mul_add,Nat.mul_one]]at hc3
  walk_at "y"
  refine call_e hB ?_
  walk_at "y"
  refine⟨.inl ⟨by omega,by omega⟩,?_⟩
  rw[show(p:Int)*((i+1:Nat):Int)=((p*(i+1):Nat):Int) by rw[Int.natCast_mul]]
  refine⟨c3,wN M (q'*(i+1)),p*(i+1),rfl,.inl hc3,by rw[wN_len];omega,fun H4 s4=>?_⟩
  have s24:=s2.trans (s3.trans s4)
  rw[show bel (p*(i+1)) (wN M (q'*(i+1)))=okm M p q' (i+1) from rfl]
  cases hk:okm M p q' (i+1)with
  |true=>
   walk_at "y"
   refine⟨by decide,fun t ht=>?_⟩
   exact q (.ref t) (some (i+1)) _ (s24.trans (same_new ht _)) (.inr ⟨i,by omega,rfl,hk,hno⟩) ⟨t,c3,rfl,upd_same,s2.free hc30,same_new ht _ _ _ (s4 _ _ hc3)⟩
  |false=>
   walk_at "y"
   refine⟨by omega,⟨c3,_,_,rfl,s4 _ _ hc3⟩,s24,fun j hj=>?_⟩
   rcases Nat.lt_or_ge j i with h|h
   .exact hno j h
   .rw[show j=i by omega];exact hk
 .rintro σ H2 ⟨_,⟨c2,x5,x6,rfl,hc2⟩,s2,hno⟩
  walk_at "y"
  exact q .non none H2 s2 (.inl ⟨rfl,hno⟩) rfl
structure FsShowX (C:Rc):Prop where
 isM:C.fs "is_machine"=some spIsM
 sizes:C.fs "are_sizes"=some spSizes
 within:C.fs "is_within"=some spWithinX
 areN:C.fs "are_numbers"=some spAreN
 walk:C.fs "walk_sums"=some spWalkG
 below:C.fs "are_below"=some spBelow
def spShowX:Sp:=fun vs H Q _=>∃(a c:Addr) (M:List Rm) (p q m:Nat) (ns:List Nat),vs=[.ref a,.int p,.int q,.int m,.ref c]/\IsM H a M/\OkM M/\M.length<=60/\((m=0/\∀H',Same H H'->Q (.bl false) H')\/(p<=8/\q<=8/\1<=m/\m<=100/\Lt H c (ns.map nV)/\ns.length<=60/\∀H',Same H H'->Q (.bl (decide (ns=wN M (q*m))&&bel (p*m) ns)) H'))
theorem body_showX {C:Rc} (hN:C.N.length=6) (F:FsShowX C) (hG:∃t,W.nsIn C.K mainGlobals "LAST_PAPER"=some (some (.int 400 t))):∀vs H Q E,spShowX vs H Q E->tSs C c_p_shows_too_little { nx:=fun _ H'=>Q .non H',rt:=Q } (L2.start C.N vs) H:=by
 intro vs H Q E h
 obtain⟨a,c,M,p,q',m,ns,rfl,hM,hO,hM1,h⟩:=h
 rcases h with⟨rfl,q⟩|h
 .rw[start_eq hN]
  unfold c_p_shows_too_little
  walk_at "y"
  refine call_e F.isM ?_
  walk_at "y"
  refine⟨a,M,rfl,hM,hO,by omega,fun H1 s1=>?_⟩
  walk_at "y"
  refine call_e F.sizes ?_
  walk_at "y"
  refine⟨p,q',rfl,?_⟩
  walk_at "y"
  refine call_e F.within ?_
  walk_at "y"
  rw[tE_gint]
  refine⟨hG,?_⟩
  walk_at "y"
  refine⟨_,_,_,rfl,?_⟩
  rw[decide_eq_false (by omega)]
  walk_at "y"
  exact q _ s1
 obtain⟨hp,hq,hm1,hm,hc,hns,q⟩:=h
 rw[start_eq hN]
 unfold c_p_shows_too_little
 walk_at "y"
 refine call_e F.isM ?_
 walk_at "y"
 refine⟨a,M,rfl,hM,hO,by omega,fun H1 s1=>?_⟩
 walk_at "y"
 refine call_e F.sizes ?_
 walk_at "y"
 refine⟨p,q',rfl,?_⟩
 walk_at "y"
 refine call_e F.within ?_
 walk_at "y"
 rw[tE_gint]
 refine⟨hG,?_⟩
 walk_at "y"
 refine⟨_,_,_,rfl,?_⟩
 rw[decide_eq_true (show(1:Int)<=(m:Int)/\(m:Int)<=400 by omega)]
 obtain⟨mv,hmv,hmr⟩:=id hM
 have hml:=hmr.len
 walk_at "y"
 refine call_e F.areN ?_
 walk_at "y"
 refine at_lenT (SqT.of (s1 _ _ hmv)) ?_
 rw[hml]
 walk_at "y"
 have hc1:=hc.mono s1
 refine⟨.ref c,_,some (ns.map nV),rfl,⟨c,rfl,hc1,fun x hx=>?_,by rw[List.length_map];omega⟩,fun H2 s2=>?_⟩
 .obtain⟨n,_,rfl⟩:=List.mem_map.mp hx
  exact .inl ⟨n,rfl⟩
 have hall:(ns.map nV).all isN=true:=by
  rw[List.all_map]
  exact List.all_eq_true.mpr fun x _=>rfl
 show kTru C _ (.bl (decide (((ns.map nV).length:Int)=(M.length:Int))&&(ns.map nV).all isN)) H2
 rw[hall,Bool.and_true,List.length_map]
 by_cases hl:ns.length=M.length
 case neg=>
  rw[decide_eq_false (show ¬(ns.length:Int)=(M.length:Int) by omega)]
  have hne:¬ns=wN M (q'*m):=fun e=>hl (by rw[e,wN_len])
  rw[decide_eq_false hne,Bool.false_and]at q
  walk_at "y"
  exact q _ (s1.trans s2)
 rw[decide_eq_true (show(ns.length:Int)=(M.length:Int) by omega)]
 have s12:=s1.trans s2
 walk_at "y"
 refine list_lt (hc.mono s12) fun d hd=>?_
 have s3:=same_new hd (.lst (ns.map nV))
 have hd3:upd H2 d (.lst (ns.map nV)) d=some (.lst (ns.map nV)):=upd_same
 generalize upd H2 d (.lst (ns.map nV))=H3 at s3 hd3 ⊢
 have s13:=s12.trans s3
 walk_at "y"
 refine call_e F.walk ?_
 walk_at "y"
 refine at_iv_tup (SqT.of (s13 _ _ hmv)) (comp_t (fun i xs H'=>i<=mv.length/\xs=(List.replicate i 1).map nV/\H'=H3) ⟨Nat.zero_le _,rfl,rfl⟩ (fun i xs H' pv=>by rw[pv.2.2];exact SqT.of (s13 _ _ hmv)) ?_ ?_)
 .rintro i xs H' x R hx ⟨_,rfl,rfl⟩ hR
  have hi:=lt_of_get hx
  walk_at "y"
  exact⟨by rw[List.length_map,List.length_replicate];exact small1000 (by omega),hR _ _ ⟨hi,ones_of (M:=M),rfl⟩⟩
 rintro xs H3' ⟨_,rfl,rfl⟩ e he
 rw[hml,<- wN0]
 have s4:=same_new he (.lst ((wN M 0).map nV))
 have he4:upd H3' e (.lst ((wN M 0).map nV)) e=some (.lst ((wN M 0).map nV)):=upd_same
 generalize upd H3' e (.lst ((wN M 0).map nV))=H4 at s4 he4 ⊢
 have s14:=s13.trans s4
 walk_at "y"
 refine⟨.inl ⟨by omega,by omega⟩,?_⟩
 rw[show(q':Int)*(m:Int)=((q'*m:Nat):Int) by rw[Int.natCast_mul]]
 have hqm:q'*m<=8*100:=Nat.mul_le_mul hq hm
 refine walk_of ⟨a,e,M,0,q'*m,rfl,hM.mono (tp_same s14),hO,by omega,by omega,he4,fun f H5 _ s5 hf=>?_⟩
 rw[Nat.zero_add]at hf
 have s35:=s4.trans s5
 walk_at "y"
 refine at_eqL (SqL.of (s35 _ _ hd3)) (SqL.of hf) (fun _=>leq_nV) ?_
 rw[show decide (ns.map nV=(wN M (q'*m)).map nV)=decide (ns=wN M (q'*m)) from decide_eq_decide.mpr ⟨nV_inj,fun e=>by rw[e]⟩]
 by_cases he:ns=wN M (q'*m)
 .rw[decide_eq_true he]at q ⊢
  walk_at "y"
  refine call_e F.below ?_
  walk_at "y"
  refine⟨.inl ⟨by omega,by omega⟩,?_⟩
  rw[show(p:Int)*(m:Int)=((p*m:Nat):Int) by rw[Int.natCast_mul]]
  refine⟨c,ns,p*m,rfl,hc.mono (s13.trans s35),by omega,fun H6 s6=>?_⟩
  exact q _ ((s13.trans s35).trans s6)
 .rw[decide_eq_false he]at q ⊢
  walk_at "y"
  exact q _ (s13.trans s35)
theorem it_add {M:List Rm} {w:Nat->Nat} {m:Nat}:∀{n:Nat},it M w (m+n)=it M (it M w m) n
 |0=>rfl
 |n+1=>by
  show st1 M (it M w (m+n))=st1 M (it M (it M w m) n)
  rw[it_add]
theorem okw_pow {M:List Rm} (hO:OkM M) {p q:Nat} {w:Nat->Nat} (h:Okw M p q w):∀{m r:Nat},r<M.length->w r*2 ^ (p*m)<=it M w (q*m) r
 |0,r,hr=>by rw[Nat.mul_zero,Nat.mul_zero,Nat.pow_zero,Nat.mul_one];exact Nat.le_refl _
 |m+1,r,hr=>by
  have ih:=okw_pow hO h (m:=m) hr
  have h1:ss M (q*m) (fun e=>2 ^ p*w e) r<=ss M (q*m) (it M w q) r:=ss_le hO hr fun e he=>by
   have:=h e he
   rw[it_ss,Nat.mul_comm]
   exact this
  rw[ss_mul]at h1
  rw[Nat.mul_add,Nat.mul_one,Nat.mul_add,Nat.mul_one,Nat.add_comm (q*m) q,it_add,it_ss]
  rw[it_ss]at ih
  refine Nat.le_trans ?_ h1
  have:=Nat.mul_le_mul_left (2 ^ p) ih
  refine Nat.le_trans (Nat.le_of_eq ?_) this
  rw[Nat.pow_add,Nat.mul_comm (2 ^ p),Nat.mul_assoc]
theorem one_wy {M:List Rm}:(fun _:Nat=>1)=wy M none 0:=by
 funext r
 show 1=if _ then _ else _
 rw[if_pos (.inl rfl)]
theorem cnt_le {M:List Rm} (hO:OkM M) {w:Nat->Nat} {c n r:Nat} (hr:r<M.length) (h:∀e,e<M.length->w e<=c):it M w n r<=c*wy M none n r:=by
 have h1:ss M n w r<=ss M n (fun _=>c*1) r:=ss_le hO hr fun e he=>by have:=h e he;omega
 have e:ss M n (fun _=>c*1) r=c*ss M n (fun _=>1) r:=ss_mul (w:=fun _=>1)
 rw[it_ss]
 refine Nat.le_trans h1 (Nat.le_of_eq ?_)
 rw[e,<- it_ss,one_wy (M:=M),it_wy,Nat.zero_add]
theorem top_of {w:Nat->Nat}:∀{n:Nat},1<=n->∃r,r<n/\∀e,e<n->w e<=w r
 |0,h=>absurd h (by decide)
 |1,_=>⟨0,by decide,fun e he=>by rw[show e=0 by omega];exact Nat.le_refl _⟩
 |n+2,_=>by
  obtain⟨r,hr,h⟩:=top_of (w:=w) (n:=n+1) (by omega)
  by_cases z:w r<=w (n+1)
  .refine⟨n+1,by omega,fun e he=>?_⟩
   by_cases q:e=n+1
   .rw[q];exact Nat.le_refl _
   .exact Nat.le_trans (h e (by omega)) z
  .refine⟨r,by omega,fun e he=>?_⟩
   by_cases q:e=n+1
   .rw[q];omega
   .exact h e (by omega)
theorem not_below {M:List Rm} (hO:OkM M) {p q:Nat} {w:Nat->Nat} (h:Okw M p q w) (hw:∃r,r<M.length/\w r≠0) (m:Nat):okm M p q m=false:=by
 obtain⟨r0,hr0,hw0⟩:=hw
 obtain⟨r,hr,ht⟩:=top_of (w:=w) (n:=M.length) (by omega)
 have h1:=okw_pow hO h (m:=m) hr
 have h2:=cnt_le hO (n:=q*m) hr ht
 have hpos:0<w r:=by have:=ht r0 hr0;omega
 have h3:2 ^ (p*m)<=wy M none (q*m) r:=Nat.le_of_mul_le_mul_left (Nat.le_trans h1 h2) hpos
 unfold okm bel
 rw[List.all_eq_false]
 refine⟨wy M none (q*m) r,?_,?_⟩
 .unfold wN
  exact List.mem_map.mpr ⟨r,List.mem_range.mpr hr,rfl⟩
 .rw[decide_eq_false (by omega)]
  exact Bool.false_ne_true
noncomputable def itn (M:List Rm):Nat->List Nat->List Nat
 |0,rs=>rs
 |n+1,rs=>itn M n (lst M rs)
theorem itn_sub {M:List Rm}:∀{n:Nat} {rs:List Nat},(itn M n rs).Sublist rs
 |0,rs=>List.Sublist.refl _
 |n+1,rs=>(itn_sub (n:=n) (rs:=lst M rs)).trans List.filter_sublist
theorem itn_sus {M:List Rm} {S:List Nat} (h:Sus M S):∀{n:Nat} {rs:List Nat},(∀r∈S,r∈rs)->∀r∈S,r∈itn M n rs
 |0,rs,k=>k
 |n+1,rs,k=>itn_sus h (n:=n) (sus_last h k)
theorem rs_iter {M:List Rm} {n:Nat} (hf:lst M (itn M n (List.range M.length))=itn M n (List.range M.length)):Rs M (itn M n (List.range M.length)):=
 ⟨List.Pairwise.sublist itn_sub List.pairwise_lt_range,fun r hr=>List.mem_range.mp (itn_sub.subset hr),hf,fun S hS r hr=>itn_sus hS (fun r hr=>List.mem_range.mpr (hS r hr).1) r hr⟩
noncomputable abbrev Cd:=Nat×Nat×Nat×Nat×Option Nat
noncomputable def mX (c:Cd):List Rm:=Mx c.1 c.2.1 c.2.2.1 c.2.2.2.1 c.2.2.2.2
noncomputable def mO (c:Cd) (n:Nat):List Rm:=prt (mX c) (itn (mX c) n (List.range (mX c).length))
noncomputable def fixd (c:Cd) (n:Nat):Bool:=decide (lst (mX c) (itn (mX c) n (List.range (mX c).length))=itn (mX c) n (List.range (mX c).length))&&decide (1<=(mO c n).length)&&decide ((mO c n).length<=16)
theorem fixd_is {c:Cd} {n:Nat} (h:fixd c n=true) {M:List Rm} (hI:IsO c.1 c.2.1 c.2.2.1 c.2.2.2.1 c.2.2.2.2 M):M=mO c n/\1<=M.length/\M.length<=16:=by
 unfold fixd at h
 simp only[Bool.and_eq_true,decide_eq_true_eq]at h
 have e:M=mO c n:=hI.uniq ⟨_,rs_iter h.1.1,rfl⟩
 rw[e]
 exact⟨rfl,h.1.2,h.2⟩
structure Gcode where
 c:Cd
 p:Nat
 q:Nat
 least:Nat
 ws:List Nat
 n:Nat
structure Bcode where
 c:Cd
 p:Nat
 q:Nat
 m:Nat
 n:Nat
noncomputable def goodL:List Gcode:=[⟨(1,2,1,2,none),2,3,2,[2,1,2,1],0⟩,⟨(1,3,1,3,none),3,4,1,[1,1,0,1,1,0],0⟩,⟨(1,8,1,8,none),4,5,1,[1,1,1,1,1,1,1,1,1,1,1,1,1,1,1,1],0⟩,
 ⟨(2,4,2,4,none),1,2,2,[2,2,2,1,2,2,2,1],0⟩,⟨(2,5,2,5,none),1,2,2,[2,2,2,2,1,2,2,2,2,1],0⟩,⟨(1,1,1,3,none),1,2,1,[1,1,1,0],0⟩,⟨(1,2,1,2,some 2),1,2,1,[1,1,1,1,1,1],2⟩]
noncomputable def badL:List Bcode:=[⟨(1,2,1,2,none),3,4,2,0⟩,⟨(1,3,1,3,none),1,1,3,0⟩,⟨(2,4,2,4,none),2,3,2,0⟩,⟨(2,5,2,5,none),2,3,3,0⟩,⟨(1,1,1,3,none),2,3,2,0⟩,⟨(1,2,1,2,some 2),2,3,2,2⟩,⟨(1,1,1,1,none),1,8,1,0⟩]
noncomputable def gOk (x:Gcode):Bool:=fixd x.c x.n&&x.ws.all (fun w=>decide (w<=x.least))&&decide (∃r∈List.range (mO x.c x.n).length,x.ws.getD r 0≠0)&&okB (mO x.c x.n) x.p x.q (fun r=>x.ws.getD r 0)&&decide (x.p<=4)&&decide (x.q<=5)&&decide (1<=x.least)&&decide (x.least<=2)
noncomputable def bOk (x:Bcode):Bool:=fixd x.c x.n&&okm (mO x.c x.n) x.p x.q x.m&&decide (x.p<=3)&&decide (x.q<=8)&&decide (1<=x.m)&&decide (x.m<=3)
theorem good_ok:∀x∈goodL,gOk x=true:=by decide +kernel
theorem bad_ok:∀x∈badL,bOk x=true:=by decide +kernel
structure GoodM (x:Gcode) (M:List Rm):Prop where
 pos:1<=M.length
 le:M.length<=16
 p4:x.p<=4
 q5:x.q<=5
 l1:1<=x.least
 l2:x.least<=2
 w:∃u,Up M x.least u/\Okw M x.p x.q u/\∃r,r<M.length/\u r≠0
theorem good_of {x:Gcode} (hx:x∈goodL) {M:List Rm} (hI:IsO x.c.1 x.c.2.1 x.c.2.2.1 x.c.2.2.2.1 x.c.2.2.2.2 M):GoodM x M:=by
 have h:=good_ok x hx
 unfold gOk at h
 simp only[Bool.and_eq_true,decide_eq_true_eq]at h
 obtain⟨⟨⟨⟨⟨⟨⟨h1,h2⟩,h3⟩,h4⟩,h5⟩,h6⟩,h7⟩,h8⟩:=h
 obtain⟨e,a1,a2⟩:=fixd_is h1 hI
 subst e
 refine⟨a1,a2,h5,h6,h7,h8,fun r=>x.ws.getD r 0,fun r _=>?_,okB_iff.mp h4,?_⟩
 .show x.ws.getD r 0<=x.least
  rw[List.getD_eq_getElem?_getD]
  cases e:x.ws[r]? with
  |none=>exact Nat.zero_le _
  |some v=>exact of_decide_eq_true (List.all_eq_true.mp h2 v (List.mem_of_getElem? e))
 .obtain⟨r,hr,hz⟩:=h3
  exact⟨r,List.mem_range.mp hr,hz⟩
structure BadM (x:Bcode) (M:List Rm):Prop where
 pos:1<=M.length
 le:M.length<=16
 p3:x.p<=3
 q8:x.q<=8
 m1:1<=x.m
 m3:x.m<=3
 hit:okm M x.p x.q x.m=true
theorem bad_of {x:Bcode} (hx:x∈badL) {M:List Rm} (hI:IsO x.c.1 x.c.2.1 x.c.2.2.1 x.c.2.2.2.1 x.c.2.2.2.2 M):BadM x M:=by
 have h:=bad_ok x hx
 unfold bOk at h
 simp only[Bool.and_eq_true,decide_eq_true_eq]at h
 obtain⟨⟨⟨⟨⟨h1,h2⟩,h3⟩,h4⟩,h5⟩,h6⟩:=h
 obtain⟨e,a1,a2⟩:=fixd_is h1 hI
 subst e
 exact⟨a1,a2,h3,h4,h5,h6,h2⟩
def IsG (H:Hp) (v:V) (x:Gcode):Prop:=∃t b,v=.ref t/\H t=some (.tup [.ref b,.int x.p,.int x.q,.int x.least])/\IsB H b x.c.1 x.c.2.1 x.c.2.2.1 x.c.2.2.2.1 x.c.2.2.2.2
def IsBd (H:Hp) (v:V) (x:Bcode):Prop:=∃t b,v=.ref t/\H t=some (.tup [.ref b,.int x.p,.int x.q])/\IsB H b x.c.1 x.c.2.1 x.c.2.2.1 x.c.2.2.2.1 x.c.2.2.2.2
def spGood:Sp:=fun vs H Q _=>vs=[]/\∀(l:Addr) (xs:List V) (H':Hp),Same H H'->H' l=some (.lst xs)->All2 (IsG H') xs goodL->Q (.ref l) H'
theorem body_good {C:Rc} (hN:C.N.length=1):∀vs H Q E,spGood vs H Q E->tSs C c_good { nx:=fun _ H'=>Q .non H',rt:=Q } (L2.start C.N vs) H:=by
 intro vs H Q E h
 obtain⟨rfl,q⟩:=h
 rw[start_eq hN]
 unfold c_good
 walk_at "y"
 refine⟨show 5<=sizeLine by decide,fun b0 hb0=>?_⟩
 have s1:=same_new hb0 (.tup [.int 1,.int 2,.int 1,.int 2,.non])
 have f1:upd H b0 (.tup [.int 1,.int 2,.int 1,.int 2,.non]) b0=some (.tup [.int 1,.int 2,.int 1,.int 2,.non]):=upd_same
 generalize upd H b0 (.tup [.int 1,.int 2,.int 1,.int 2,.non])=H1 at s1 f1 ⊢
 walk_at "y"
 refine⟨show 4<=sizeLine by decide,fun t0 ht0=>?_⟩
 have s2:=same_new ht0 (.tup [.ref b0,.int 2,.int 3,.int 2])
 have f2:upd H1 t0 (.tup [.ref b0,.int 2,.int 3,.int 2]) t0=some (.tup [.ref b0,.int 2,.int 3,.int 2]):=upd_same
 generalize upd H1 t0 (.tup [.ref b0,.int 2,.int 3,.int 2])=H2 at s2 f2 ⊢
 walk_at "y"
 refine⟨show 5<=sizeLine by decide,fun b1 hb1=>?_⟩
 have s3:=same_new hb1 (.tup [.int 1,.int 3,.int 1,.int 3,.non])
 have f3:upd H2 b1 (.tup [.int 1,.int 3,.int 1,.int 3,.non]) b1=some (.tup [.int 1,.int 3,.int 1,.int 3,.non]):=upd_same
 generalize upd H2 b1 (.tup [.int 1,.int 3,.int 1,.int 3,.non])=H3 at s3 f3 ⊢
 walk_at "y"
 refine⟨show 4<=sizeLine by decide,fun t1 ht1=>?_⟩
 have s4:=same_new ht1 (.tup [.ref b1,.int 3,.int 4,.int 1])
 have f4:upd H3 t1 (.tup [.ref b1,.int 3,.int 4,.int 1]) t1=some (.tup [.ref b1,.int 3,.int 4,.int 1]):=upd_same
 generalize upd H3 t1 (.tup [.ref b1,.int 3,.int 4,.int 1])=H4 at s4 f4 ⊢
 walk_at "y"
 refine⟨show 5<=sizeLine by decide,fun b2 hb2=>?_⟩
 have s5:=same_new hb2 (.tup [.int 1,.int 8,.int 1,.int 8,.non])
 have f5:upd H4 b2 (.tup [.int 1,.int 8,.int 1,.int 8,.non]) b2=some (.tup [.int 1,.int 8,.int 1,.int 8,.non]):=upd_same
 generalize upd H4 b2 (.tup [.int 1,.int 8,.int 1,.int 8,.non])=H5 at s5 f5 ⊢
 walk_at "y"
 refine⟨show 4<=sizeLine by decide,fun t2 ht2=>?_⟩
 have s6:=same_new ht2 (.tup [.ref b2,.int 4,.int 5,.int 1])
 have f6:upd H5 t2 (.tup [.ref b2,.int 4,.int 5,.int 1]) t2=some (.tup [.ref b2,.int 4,.int 5,.int 1]):=upd_same
 generalize upd H5 t2 (.tup [.ref b2,.int 4,.int 5,.int 1])=H6 at s6 f6 ⊢
 walk_at "y"
 refine⟨show 3<=sizeLine by decide,fun l1 hl1=>?_⟩
 have s7:=same_new hl1 (.lst [.ref t0,.ref t1,.ref t2])
 have f7:upd H6 l1 (.lst [.ref t0,.ref t1,.ref t2]) l1=some (.lst [.ref t0,.ref t1,.ref t2]):=upd_same
 generalize upd H6 l1 (.lst [.ref t0,.ref t1,.ref t2])=H7 at s7 f7 ⊢
 walk_at "y"
 refine⟨show 5<=sizeLine by decide,fun b3 hb3=>?_⟩
 have s8:=same_new hb3 (.tup [.int 2,.int 4,.int 2,.int 4,.non])
 have f8:upd H7 b3 (.tup [.int 2,.int 4,.int 2,.int 4,.non]) b3=some (.tup [.int 2,.int 4,.int 2,.int 4,.non]):=upd_same
 generalize upd H7 b3 (.tup [.int 2,.int 4,.int 2,.int 4,.non])=H8 at s8 f8 ⊢
 walk_at "y"
 refine⟨show 4<=sizeLine by decide,fun t3 ht3=>?_⟩
 have s9:=same_new ht3 (.tup [.ref b3,.int 1,.int 2,.int 2])
 have f9:upd H8 t3 (.tup [.ref b3,.int 1,.int 2,.int 2]) t3=some (.tup [.ref b3,.int 1,.int 2,.int 2]):=upd_same
 generalize upd H8 t3 (.tup [.ref b3,.int 1,.int 2,.int 2])=H9 at s9 f9 ⊢
 walk_at "y"
 refine⟨show 5<=sizeLine by decide,fun b4 hb4=>?_⟩
 have s10:=same_new hb4 (.tup [.int 2,.int 5,.int 2,.int 5,.non])
 have f10:upd H9 b4 (.tup [.int 2,.int 5,.int 2,.int 5,.non]) b4=some (.tup [.int 2,.int 5,.int 2,.int 5,.non]):=upd_same
 generalize upd H9 b4 (.tup [.int 2,.int 5,.int 2,.int 5,.non])=H10 at s10 f10 ⊢
 walk_at "y"
 refine⟨show 4<=sizeLine by decide,fun t4 ht4=>?_⟩
 have s11:=same_new ht4 (.tup [.ref b4,.int 1,.int 2,.int 2])
 have f11:upd H10 t4 (.tup [.ref b4,.int 1,.int 2,.int 2]) t4=some (.tup [.ref b4,.int 1,.int 2,.int 2]):=upd_same
 generalize upd H10 t4 (.tup [.ref b4,.int 1,.int 2,.int 2])=H11 at s11 f11 ⊢
 walk_at "y"
 refine⟨show 5<=sizeLine by decide,fun b5 hb5=>?_⟩
 have s12:=same_new hb5 (.tup [.int 1,.int 1,.int 1,.int 3,.non])
 have f12:upd H11 b5 (.tup [.int 1,.int 1,.int 1,.int 3,.non]) b5=some (.tup [.int 1,.int 1,.int 1,.int 3,.non]):=upd_same
 generalize upd H11 b5 (.tup [.int 1,.int 1,.int 1,.int 3,.non])=H12 at s12 f12 ⊢
 walk_at "y"
 refine⟨show 4<=sizeLine by decide,fun t5 ht5=>?_⟩
 have s13:=same_new ht5 (.tup [.ref b5,.int 1,.int 2,.int 1])
 have f13:upd H12 t5 (.tup [.ref b5,.int 1,.int 2,.int 1]) t5=some (.tup [.ref b5,.int 1,.int 2,.int 1]):=upd_same
 generalize upd H12 t5 (.tup [.ref b5,.int 1,.int 2,.int 1])=H13 at s13 f13 ⊢
 walk_at "y"
 refine⟨show 3<=sizeLine by decide,fun l2 hl2=>?_⟩
 have s14:=same_new hl2 (.lst [.ref t3,.ref t4,.ref t5])
 have f14:upd H13 l2 (.lst [.ref t3,.ref t4,.ref t5]) l2=some (.lst [.ref t3,.ref t4,.ref t5]):=upd_same
 generalize upd H13 l2 (.lst [.ref t3,.ref t4,.ref t5])=H14 at s14 f14 ⊢
 refine at_cat (s8.trans (s9.trans (s10.trans (s11.trans (s12.trans (s13.trans s14))))) _ _ f7) f14 (show 6<=sizeLine by decide) fun l3 hl3=>?_
 have s15:=same_new hl3 (.lst ([.ref t0,.ref t1,.ref t2]++[.ref t3,.ref t4,.ref t5]))
 have f15:upd H14 l3 (.lst ([.ref t0,.ref t1,.ref t2]++[.ref t3,.ref t4,.ref t5])) l3=some (.lst ([.ref t0,.ref t1,.ref t2]++[.ref t3,.ref t4,.ref t5])):=upd_same
 generalize upd H14 l3 (.lst ([.ref t0,.ref t1,.ref t2]++[.ref t3,.ref t4,.ref t5]))=H15 at s15 f15 ⊢
 walk_at "y"
 refine⟨show 5<=sizeLine by decide,fun b6 hb6=>?_⟩
 have s16:=same_new hb6 (.tup [.int 1,.int 2,.int 1,.int 2,.int 2])
 have f16:upd H15 b6 (.tup [.int 1,.int 2,.int 1,.int 2,.int 2]) b6=some (.tup [.int 1,.int 2,.int 1,.int 2,.int 2]):=upd_same
 generalize upd H15 b6 (.tup [.int 1,.int 2,.int 1,.int 2,.int 2])=H16 at s16 f16 ⊢
 walk_at "y"
 refine⟨show 4<=sizeLine by decide,fun t6 ht6=>?_⟩
 have s17:=same_new ht6 (.tup [.ref b6,.int 1,.int 2,.int 1])
 have f17:upd H16 t6 (.tup [.ref b6,.int 1,.int 2,.int 1]) t6=some (.tup [.ref b6,.int 1,.int 2,.int 1]):=upd_same
 generalize upd H16 t6 (.tup [.ref b6,.int 1,.int 2,.int 1])=H17 at s17 f17 ⊢
 walk_at "y"
 refine⟨show 1<=sizeLine by decide,fun l4 hl4=>?_⟩
 have s18:=same_new hl4 (.lst [.ref t6])
 have f18:upd H17 l4 (.lst [.ref t6]) l4=some (.lst [.ref t6]):=upd_same
 generalize upd H17 l4 (.lst [.ref t6])=H18 at s18 f18 ⊢
 refine at_cat (s16.trans (s17.trans s18) _ _ f15) f18 (show 7<=sizeLine by decide) fun l5 hl5=>?_
 have s19:=same_new hl5 (.lst ([.ref t0,.ref t1,.ref t2]++[.ref t3,.ref t4,.ref t5]++[.ref t6]))
 have f19:upd H18 l5 (.lst ([.ref t0,.ref t1,.ref t2]++[.ref t3,.ref t4,.ref t5]++[.ref t6])) l5=some (.lst ([.ref t0,.ref t1,.ref t2]++[.ref t3,.ref t4,.ref t5]++[.ref t6])):=upd_same
 generalize upd H18 l5 (.lst ([.ref t0,.ref t1,.ref t2]++[.ref t3,.ref t4,.ref t5]++[.ref t6]))=H19 at s19 f19 ⊢
 refine q l5 _ _ (s1.trans (s2.trans (s3.trans (s4.trans (s5.trans (s6.trans (s7.trans (s8.trans (s9.trans (s10.trans (s11.trans (s12.trans (s13.trans (s14.trans (s15.trans (s16.trans (s17.trans (s18.trans s19)))))))))))))))))) f19 ⟨⟨t0,b0,rfl,(s3.trans (s4.trans (s5.trans (s6.trans (s7.trans (s8.trans (s9.trans (s10.trans (s11.trans (s12.trans (s13.trans (s14.trans (s15.trans (s16.trans (s17.trans (s18.trans s19)))))))))))))))) _ _ f2,⟨(s2.trans (s3.trans (s4.trans (s5.trans (s6.trans (s7.trans (s8.trans (s9.trans (s10.trans (s11.trans (s12.trans (s13.trans (s14.trans (s15.trans (s16.trans (s17.trans (s18.trans s19))))))))))))))))) _ _ f1,by decide,by decide,fun s z=>nomatch z⟩⟩,⟨t1,b1,rfl,(s5.trans (s6.trans (s7.trans (s8.trans (s9.trans (s10.trans (s11.trans (s12.trans (s13.trans (s14.trans (s15.trans (s16.trans (s17.trans (s18.trans s19)))))))))))))) _ _ f4,⟨(s4.trans (s5.trans (s6.trans (s7.trans (s8.trans (s9.trans (s10.trans (s11.trans (s12.trans (s13.trans (s14.trans (s15.trans (s16.trans (s17.trans (s18.trans s19))))))))))))))) _ _ f3,by decide,by decide,fun s z=>nomatch z⟩⟩,⟨t2,b2,rfl,(s7.trans (s8.trans (s9.trans (s10.trans (s11.trans (s12.trans (s13.trans (s14.trans (s15.trans (s16.trans (s17.trans (s18.trans s19)))))))))))) _ _ f6,⟨(s6.trans (s7.trans (s8.trans (s9.trans (s10.trans (s11.trans (s12.trans (s13.trans (s14.trans (s15.trans (s16.trans (s17.trans (s18.trans s19))))))))))))) _ _ f5,by decide,by decide,fun s z=>nomatch z⟩⟩,⟨t3,b3,rfl,(s10.trans (s11.trans (s12.trans (s13.trans (s14.trans (s15.trans (s16.trans (s17.trans (s18.trans s19))))))))) _ _ f9,⟨(s9.trans (s10.trans (s11.trans (s12.trans (s13.trans (s14.trans (s15.trans (s16.trans (s17.trans (s18.trans s19)))))))))) _ _ f8,by decide,by decide,fun s z=>nomatch z⟩⟩,⟨t4,b4,rfl,(s12.trans (s13.trans (s14.trans (s15.trans (s16.trans (s17.trans (s18.trans s19))))))) _ _ f11,⟨(s11.trans (s12.trans (s13.trans (s14.trans (s15.trans (s16.trans (s17.trans (s18.trans s19)))))))) _ _ f10,by decide,by decide,fun s z=>nomatch z⟩⟩,⟨t5,b5,rfl,(s14.trans (s15.trans (s16.trans (s17.trans (s18.trans s19))))) _ _ f13,⟨(s13.trans (s14.trans (s15.trans (s16.trans (s17.trans (s18.trans s19)))))) _ _ f12,by decide,by decide,fun s z=>nomatch z⟩⟩,⟨t6,b6,rfl,(s18.trans s19) _ _ f17,⟨(s17.trans (s18.trans s19)) _ _ f16,by decide,by decide,fun s z=>by cases z;decide⟩⟩,trivial⟩
def spBad:Sp:=fun vs H Q _=>vs=[]/\∀(l:Addr) (xs:List V) (H':Hp),Same H H'->H' l=some (.lst xs)->All2 (IsBd H') xs badL->Q (.ref l) H'
theorem body_bad {C:Rc} (hN:C.N.length=1):∀vs H Q E,spBad vs H Q E->tSs C c_bad { nx:=fun _ H'=>Q .non H',rt:=Q } (L2.start C.N vs) H:=by
 intro vs H Q E h
 obtain⟨rfl,q⟩:=h
 rw[start_eq hN]
 unfold c_bad
 walk_at "y"
 refine⟨show 5<=sizeLine by decide,fun b0 hb0=>?_⟩
 have s1:=same_new hb0 (.tup [.int 1,.int 2,.int 1,.int 2,.non])
 have f1:upd H b0 (.tup [.int 1,.int 2,.int 1,.int 2,.non]) b0=some (.tup [.int 1,.int 2,.int 1,.int 2,.non]):=upd_same
 generalize upd H b0 (.tup [.int 1,.int 2,.int 1,.int 2,.non])=H1 at s1 f1 ⊢
 walk_at "y"
 refine⟨show 3<=sizeLine by decide,fun t0 ht0=>?_⟩
 have s2:=same_new ht0 (.tup [.ref b0,.int 3,.int 4])
 have f2:upd H1 t0 (.tup [.ref b0,.int 3,.int 4]) t0=some (.tup [.ref b0,.int 3,.int 4]):=upd_same
 generalize upd H1 t0 (.tup [.ref b0,.int 3,.int 4])=H2 at s2 f2 ⊢
 walk_at "y"
 refine⟨show 5<=sizeLine by decide,fun b1 hb1=>?_⟩
 have s3:=same_new hb1 (.tup [.int 1,.int 3,.int 1,.int 3,.non])
 have f3:upd H2 b1 (.tup [.int 1,.int 3,.int 1,.int 3,.non]) b1=some (.tup [.int 1,.int 3,.int 1,.int 3,.non]):=upd_same
 generalize upd H2 b1 (.tup [.int 1,.int 3,.int 1,.int 3,.non])=H3 at s3 f3 ⊢
 walk_at "y"
 refine⟨show 3<=sizeLine by decide,fun t1 ht1=>?_⟩
 have s4:=same_new ht1 (.tup [.ref b1,.int 1,.int 1])
 have f4:upd H3 t1 (.tup [.ref b1,.int 1,.int 1]) t1=some (.tup [.ref b1,.int 1,.int 1]):=upd_same
 generalize upd H3 t1 (.tup [.ref b1,.int 1,.int 1])=H4 at s4 f4 ⊢
 walk_at "y"
 refine⟨show 5<=sizeLine by decide,fun b2 hb2=>?_⟩
 have s5:=same_new hb2 (.tup [.int 2,.int 4,.int 2,.int 4,.non])
 have f5:upd H4 b2 (.tup [.int 2,.int 4,.int 2,.int 4,.non]) b2=some (.tup [.int 2,.int 4,.int 2,.int 4,.non]):=upd_same
 generalize upd H4 b2 (.tup [.int 2,.int 4,.int 2,.int 4,.non])=H5 at s5 f5 ⊢
 walk_at "y"
 refine⟨show 3<=sizeLine by decide,fun t2 ht2=>?_⟩
 have s6:=same_new ht2 (.tup [.ref b2,.int 2,.int 3])
 have f6:upd H5 t2 (.tup [.ref b2,.int 2,.int 3]) t2=some (.tup [.ref b2,.int 2,.int 3]):=upd_same
 generalize upd H5 t2 (.tup [.ref b2,.int 2,.int 3])=H6 at s6 f6 ⊢
 walk_at "y"
 refine⟨show 3<=sizeLine by decide,fun l1 hl1=>?_⟩
 have s7:=same_new hl1 (.lst [.ref t0,.ref t1,.ref t2])
 have f7:upd H6 l1 (.lst [.ref t0,.ref t1,.ref t2]) l1=some (.lst [.ref t0,.ref t1,.ref t2]):=upd_same
 generalize upd H6 l1 (.lst [.ref t0,.ref t1,.ref t2])=H7 at s7 f7 ⊢
 walk_at "y"
 refine⟨show 5<=sizeLine by decide,fun b3 hb3=>?_⟩
 have s8:=same_new hb3 (.tup [.int 2,.int 5,.int 2,.int 5,.non])
 have f8:upd H7 b3 (.tup [.int 2,.int 5,.int 2,.int 5,.non]) b3=some (.tup [.int 2,.int 5,.int 2,.int 5,.non]):=upd_same
 generalize upd H7 b3 (.tup [.int 2,.int 5,.int 2,.int 5,.non])=H8 at s8 f8 ⊢
 walk_at "y"
 refine⟨show 3<=sizeLine by decide,fun t3 ht3=>?_⟩
 have s9:=same_new ht3 (.tup [.ref b3,.int 2,.int 3])
 have f9:upd H8 t3 (.tup [.ref b3,.int 2,.int 3]) t3=some (.tup [.ref b3,.int 2,.int 3]):=upd_same
 generalize upd H8 t3 (.tup [.ref b3,.int 2,.int 3])=H9 at s9 f9 ⊢
 walk_at "y"
 refine⟨show 5<=sizeLine by decide,fun b4 hb4=>?_⟩
 have s10:=same_new hb4 (.tup [.int 1,.int 1,.int 1,.int 3,.non])
 have f10:upd H9 b4 (.tup [.int 1,.int 1,.int 1,.int 3,.non]) b4=some (.tup [.int 1,.int 1,.int 1,.int 3,.non]):=upd_same
 generalize upd H9 b4 (.tup [.int 1,.int 1,.int 1,.int 3,.non])=H10 at s10 f10 ⊢
 walk_at "y"
 refine⟨show 3<=sizeLine by decide,fun t4 ht4=>?_⟩
 have s11:=same_new ht4 (.tup [.ref b4,.int 2,.int 3])
 have f11:upd H10 t4 (.tup [.ref b4,.int 2,.int 3]) t4=some (.tup [.ref b4,.int 2,.int 3]):=upd_same
 generalize upd H10 t4 (.tup [.ref b4,.int 2,.int 3])=H11 at s11 f11 ⊢
 walk_at "y"
 refine⟨show 5<=sizeLine by decide,fun b5 hb5=>?_⟩
 have s12:=same_new hb5 (.tup [.int 1,.int 2,.int 1,.int 2,.int 2])
 have f12:upd H11 b5 (.tup [.int 1,.int 2,.int 1,.int 2,.int 2]) b5=some (.tup [.int 1,.int 2,.int 1,.int 2,.int 2]):=upd_same
 generalize upd H11 b5 (.tup [.int 1,.int 2,.int 1,.int 2,.int 2])=H12 at s12 f12 ⊢
 walk_at "y"
 refine⟨show 3<=sizeLine by decide,fun t5 ht5=>?_⟩
 have s13:=same_new ht5 (.tup [.ref b5,.int 2,.int 3])
 have f13:upd H12 t5 (.tup [.ref b5,.int 2,.int 3]) t5=some (.tup [.ref b5,.int 2,.int 3]):=upd_same
 generalize upd H12 t5 (.tup [.ref b5,.int 2,.int 3])=H13 at s13 f13 ⊢
 walk_at "y"
 refine⟨show 3<=sizeLine by decide,fun l2 hl2=>?_⟩
 have s14:=same_new hl2 (.lst [.ref t3,.ref t4,.ref t5])
 have f14:upd H13 l2 (.lst [.ref t3,.ref t4,.ref t5]) l2=some (.lst [.ref t3,.ref t4,.ref t5]):=upd_same
 generalize upd H13 l2 (.lst [.ref t3,.ref t4,.ref t5])=H14 at s14 f14 ⊢
 refine at_cat (s8.trans (s9.trans (s10.trans (s11.trans (s12.trans (s13.trans s14))))) _ _ f7) f14 (show 6<=sizeLine by decide) fun l3 hl3=>?_
 have s15:=same_new hl3 (.lst ([.ref t0,.ref t1,.ref t2]++[.ref t3,.ref t4,.ref t5]))
 have f15:upd H14 l3 (.lst ([.ref t0,.ref t1,.ref t2]++[.ref t3,.ref t4,.ref t5])) l3=some (.lst ([.ref t0,.ref t1,.ref t2]++[.ref t3,.ref t4,.ref t5])):=upd_same
 generalize upd H14 l3 (.lst ([.ref t0,.ref t1,.ref t2]++[.ref t3,.ref t4,.ref t5]))=H15 at s15 f15 ⊢
 walk_at "y"
 refine⟨show 5<=sizeLine by decide,fun b6 hb6=>?_⟩
 have s16:=same_new hb6 (.tup [.int 1,.int 1,.int 1,.int 1,.non])
 have f16:upd H15 b6 (.tup [.int 1,.int 1,.int 1,.int 1,.non]) b6=some (.tup [.int 1,.int 1,.int 1,.int 1,.non]):=upd_same
 generalize upd H15 b6 (.tup [.int 1,.int 1,.int 1,.int 1,.non])=H16 at s16 f16 ⊢
 walk_at "y"
 refine⟨show 3<=sizeLine by decide,fun t6 ht6=>?_⟩
 have s17:=same_new ht6 (.tup [.ref b6,.int 1,.int 8])
 have f17:upd H16 t6 (.tup [.ref b6,.int 1,.int 8]) t6=some (.tup [.ref b6,.int 1,.int 8]):=upd_same
 generalize upd H16 t6 (.tup [.ref b6,.int 1,.int 8])=H17 at s17 f17 ⊢
 walk_at "y"
 refine⟨show 1<=sizeLine by decide,fun l4 hl4=>?_⟩
 have s18:=same_new hl4 (.lst [.ref t6])
 have f18:upd H17 l4 (.lst [.ref t6]) l4=some (.lst [.ref t6]):=upd_same
 generalize upd H17 l4 (.lst [.ref t6])=H18 at s18 f18 ⊢
 refine at_cat (s16.trans (s17.trans s18) _ _ f15) f18 (show 7<=sizeLine by decide) fun l5 hl5=>?_
 have s19:=same_new hl5 (.lst ([.ref t0,.ref t1,.ref t2]++[.ref t3,.ref t4,.ref t5]++[.ref t6]))
 have f19:upd H18 l5 (.lst ([.ref t0,.ref t1,.ref t2]++[.ref t3,.ref t4,.ref t5]++[.ref t6])) l5=some (.lst ([.ref t0,.ref t1,.ref t2]++[.ref t3,.ref t4,.ref t5]++[.ref t6])):=upd_same
 generalize upd H18 l5 (.lst ([.ref t0,.ref t1,.ref t2]++[.ref t3,.ref t4,.ref t5]++[.ref t6]))=H19 at s19 f19 ⊢
 refine q l5 _ _ (s1.trans (s2.trans (s3.trans (s4.trans (s5.trans (s6.trans (s7.trans (s8.trans (s9.trans (s10.trans (s11.trans (s12.trans (s13.trans (s14.trans (s15.trans (s16.trans (s17.trans (s18.trans s19)))))))))))))))))) f19 ⟨⟨t0,b0,rfl,(s3.trans (s4.trans (s5.trans (s6.trans (s7.trans (s8.trans (s9.trans (s10.trans (s11.trans (s12.trans (s13.trans (s14.trans (s15.trans (s16.trans (s17.trans (s18.trans s19)))))))))))))))) _ _ f2,⟨(s2.trans (s3.trans (s4.trans (s5.trans (s6.trans (s7.trans (s8.trans (s9.trans (s10.trans (s11.trans (s12.trans (s13.trans (s14.trans (s15.trans (s16.trans (s17.trans (s18.trans s19))))))))))))))))) _ _ f1,by decide,by decide,fun s z=>nomatch z⟩⟩,⟨t1,b1,rfl,(s5.trans (s6.trans (s7.trans (s8.trans (s9.trans (s10.trans (s11.trans (s12.trans (s13.trans (s14.trans (s15.trans (s16.trans (s17.trans (s18.trans s19)))))))))))))) _ _ f4,⟨(s4.trans (s5.trans (s6.trans (s7.trans (s8.trans (s9.trans (s10.trans (s11.trans (s12.trans (s13.trans (s14.trans (s15.trans (s16.trans (s17.trans (s18.trans s19))))))))))))))) _ _ f3,by decide,by decide,fun s z=>nomatch z⟩⟩,⟨t2,b2,rfl,(s7.trans (s8.trans (s9.trans (s10.trans (s11.trans (s12.trans (s13.trans (s14.trans (s15.trans (s16.trans (s17.trans (s18.trans s19)))))))))))) _ _ f6,⟨(s6.trans (s7.trans (s8.trans (s9.trans (s10.trans (s11.trans (s12.trans (s13.trans (s14.trans (s15.trans (s16.trans (s17.trans (s18.trans s19))))))))))))) _ _ f5,by decide,by decide,fun s z=>nomatch z⟩⟩,⟨t3,b3,rfl,(s10.trans (s11.trans (s12.trans (s13.trans (s14.trans (s15.trans (s16.trans (s17.trans (s18.trans s19))))))))) _ _ f9,⟨(s9.trans (s10.trans (s11.trans (s12.trans (s13.trans (s14.trans (s15.trans (s16.trans (s17.trans (s18.trans s19)))))))))) _ _ f8,by decide,by decide,fun s z=>nomatch z⟩⟩,⟨t4,b4,rfl,(s12.trans (s13.trans (s14.trans (s15.trans (s16.trans (s17.trans (s18.trans s19))))))) _ _ f11,⟨(s11.trans (s12.trans (s13.trans (s14.trans (s15.trans (s16.trans (s17.trans (s18.trans s19)))))))) _ _ f10,by decide,by decide,fun s z=>nomatch z⟩⟩,⟨t5,b5,rfl,(s14.trans (s15.trans (s16.trans (s17.trans (s18.trans s19))))) _ _ f13,⟨(s13.trans (s14.trans (s15.trans (s16.trans (s17.trans (s18.trans s19)))))) _ _ f12,by decide,by decide,fun s z=>by cases z;decide⟩⟩,⟨t6,b6,rfl,(s18.trans s19) _ _ f17,⟨(s17.trans (s18.trans s19)) _ _ f16,by decide,by decide,fun s z=>nomatch z⟩⟩,trivial⟩
theorem for_zz {C:Rc} {D:Ends} {σ:L2.St} {H:Hp} {k:Bool} {a b:Addr} {xs ys:List V} {t:Ct} {bd:Css} {n:Nat} (hn:n=min xs.length ys.length) (Pv:Nat->L2.St->Hp->Prop) (h0:Pv 0 σ H) (hl:∀i σ H,i<=n->Pv i σ H->Sq k C.K H a xs/\Sq k C.K H b ys)
  (hs:∀i x y σ H p,xs[i]?=some x->ys[i]?=some y->H p=none->Pv i σ H->tG C t (.ref p) σ (upd H p (.tup [x,y])) (tSs C bd { D with nx:=Pv (i+1),ct:=Pv (i+1),bk:=D.nx })) (hd:∀σ H,Pv n σ H->D.nx σ H):kFor C t bd D σ (Itz k C.K a b) H:=by
 refine⟨fun i m σ H=>m=n-i/\i<=n/\Pv i σ H,⟨n,by simp,Nat.zero_le _,h0⟩,?_⟩
 rintro i m σ H ⟨rfl,hi,p⟩
 obtain⟨q1,q2⟩:=hl i σ H hi p
 by_cases hlt:i<n
 .refine .inr ⟨⟨xs,ys,xs[i]'(by omega),ys[i]'(by omega),q1,q2,List.getElem?_eq_getElem _,List.getElem?_eq_getElem _⟩,Pv (i+1),fun σ' H' p'=>⟨n-(i+1),by omega,rfl,hlt,p'⟩,fun x H' y=>?_⟩
  obtain⟨ad,u,v,rfl,hne,y1,y2,rfl⟩:=y
  exact hs i u v σ _ ad (y1 xs q1) (y2 ys q2) hne p
 .have e:i=n:=by omega
  subst e
  exact .inl ⟨⟨xs,ys,q1,q2,by omega⟩,hd σ H p⟩
def spSums:Sp:=fun vs H Q _=>∃(a b:Addr) (M:List Rm) (w:Nat->Nat) (n:Nat),vs=[.ref a,.ref b,.int n]/\IsM H a M/\OkM M/\M.length<=60/\n<=900/\H b=some (.lst ((wL M w).map nV))/\∀(p:Addr) (H':Hp),H p=none->Same H H'->H' p=some (.lst ((wL M (it M w n)).map nV))->Q (.ref p) H'
theorem body_sums {C:Rc} (hN:C.N.length=7):∀vs H Q E,spSums vs H Q E->tSs C c_sums { nx:=fun _ H'=>Q .non H',rt:=Q } (L2.start C.N vs) H:=by
 intro vs H Q E h
 obtain⟨a,b,M,w,n,rfl,hM,hO,h60,hn,hb,q⟩:=h
 rw[start_eq hN]
 unfold c_sums
 obtain⟨mv,hmv,hmr⟩:=id hM
 have hml:=hmr.len
 walk_at "y"
 refine list_lt (.inl hb) fun c hc=>?_
 have s1:=same_new hc (.lst ((wL M w).map nV))
 have hc1:upd H c (.lst ((wL M w).map nV)) c=some (.lst ((wL M w).map nV)):=upd_same
 generalize upd H c (.lst ((wL M w).map nV))=H1 at s1 hc1 ⊢
 walk_at "y"
 refine at_r1 (by omega) (by omega) (for_r (n:=((n:Nat):Int).toNat) (fun i σ H2=>(∃c x4 x5 x6,σ=[some (.ref a),some (.ref b),some (.int n),some (.ref c),x4,x5,x6]/\H2 c=some (.lst ((wL M (it M w i)).map nV))/\H c=none)/\Same H H2) ⟨⟨c,_,_,_,rfl,hc1,hc⟩,s1⟩ ?_ ?_)
 .rintro i σ H2 hi ⟨⟨c2,x4,x5,x6,rfl,hc2,hc20⟩,s2⟩
  walk_at "y"
  refine at_iv_tup (SqT.of (s2 _ _ hmv)) (comp_t (fun r xs H4=>r<=M.length/\Same H2 H4/\xs=((List.range r).map (st1 M (it M w i))).map nV) ⟨Nat.zero_le _,Same.refl _,rfl⟩ (fun r xs H4 pv=>SqT.of (pv.2.1 _ _ (s2 _ _ hmv))) ?_ ?_)
  .rintro r xs H4 v R hv ⟨_,s4,rfl⟩ hR
   have hr:r<M.length:=by rw[<- hml];exact lt_of_get hv
   obtain⟨x,hx⟩:∃x,M[r]?=some x:=⟨_,List.getElem?_eq_getElem hr⟩
   obtain⟨pp,ep,hpp⟩:=hmr.get hx
   rw[hv]at ep
   cases ep
   obtain⟨ok1,ok2⟩:=okm_lt hO hx
   obtain⟨d1,d2⟩:=door_get hx
   rw[g_name,kCG_n]
   refine sum_doors (fun m=>((it M w i m:Nat):Int)) (s4 _ _ (s2 _ _ hpp)) rfl (fun v=>rfl) ?_ ?_
   .intro m P hm hP
    have hml':m<M.length:=by
     rcases hm with h|h
     .exact ok1 m h
     .exact ok2 m h
    walk_at "y"
    refine at_ixL (SqL.of (s4 _ _ hc2)) (wL_at hml') ?_
    exact hP
   .intro H5 s5
    refine⟨by simp;exact small1000 (by omega),hR _ _ ⟨hr,s4.trans s5,?_⟩⟩
    rw[List.range_succ,List.map_append,List.map_append]
    have e:od (fun m=>((it M w i m:Nat):Int)) x.1+od (fun m=>((it M w i m:Nat):Int)) x.2=((st1 M (it M w i) r:Nat):Int):=by
     show _=((ow (it M w i) (LW.stp M r false)+ow (it M w i) (LW.stp M r true):Nat):Int)
     rw[d1,d2]
     cases x.1<;>cases x.2<;>simp[od,ow]
    rw[e]
    rfl
  .rintro xs H4 ⟨_,s4,rfl⟩ c4 hc4
   rw[hml]
   walk_at "y"
   exact⟨⟨c4,_,_,_,rfl,upd_same,s2.free (s4.free hc4)⟩,(s2.trans s4).trans (same_new hc4 _)⟩
 .rintro σ H2 ⟨⟨c2,x4,x5,x6,rfl,hc2,hc20⟩,s2⟩
  rw[Int.toNat_natCast]at hc2
  walk_at "y"
  exact q c2 H2 hc20 s2 hc2
end K71
namespace K71
open PySem PySem.Spec PyProof.Rows L2 R3 LW
open SR RW TM BD BE TE CK K31 K30 K28 K29
theorem at_isB {K:W.Frag} {H:Hp} {Q:VK} {b c:Bool} (q:Q (.bl (decide (b=c))) H):rCmp K .Is (.bl b) (.bl c) H Q:=⟨c,rfl,rfl,by cases b<;>cases c<;>exact q⟩
theorem at_isnB {K:W.Frag} {H:Hp} {Q:VK} {b c:Bool} (q:Q (.bl (!decide (b=c))) H):rCmp K .IsNot (.bl b) (.bl c) H Q:=⟨c,rfl,rfl,by cases b<;>cases c<;>exact q⟩
theorem g_tup4 {C:Rc} {H:Hp} {σ:L2.St} {i j k m:Nat} {a:Addr} {x y z u:V} {R:L2.St->Hp->Prop} (h:SqT C.K H a [x,y,z,u]) (q:R ((((σ.set i (some x)).set j (some y)).set k (some z)).set m (some u)) H):tG C (.tup (.cons (.name i) (.cons (.name j) (.cons (.name k) (.cons (.name m) .nil))))) (.ref a) σ H R:=
 ⟨a,[x,y,z,u],rfl,.inl h,rfl,_,_,rfl,_,_,rfl,_,_,rfl,_,_,rfl,rfl,q⟩
theorem tot_ne {M:List Rm} {w:Nat->Nat} {r:Nat} (hr:r<M.length) (h:w r≠0):tot M w≠0:=by
 intro e
 have:=tot_less (w:=w) hr (Nat.le_refl (w r))
 omega
theorem tl_wL {H:Hp} {c:Addr} {M:List Rm} {w:Nat->Nat} (h:H c=some (.lst ((wL M w).map nV))) (hl:M.length<=60):Tl H (.ref c) (some ((wL M w).map nV)):=
 ⟨c,rfl,.inl h,fun x hx=>by obtain⟨n,_,rfl⟩:=List.mem_map.mp hx;exact .inl ⟨n,rfl⟩,by rw[List.length_map,wL_len];omega⟩
def spGR:Sp:=fun vs H Q _=>∃(b:Addr) (n:Nat),vs=[.ref b]/\H b=some (BoxO b n)/\n<=2 ^ 38/\∀H',Go 10 H H'->Q (.bl true) H'
structure FsGR (C:Rc):Prop where
 good:C.fs "_law_good"=some spGood
 take:C.fs "_law_take"=some spTake
 mof:C.fs "machine_of"=some spMOfO
 en:C.fs "enough"=some spEn
 se:C.fs "shows_enough"=some spSE
 sums:C.fs "_law_sums"=some spSums
 tl:C.fs "too_little"=some spTL
theorem body_GR {C:Rc} (hN:C.N.length=9) (F:FsGR C):∀vs H Q E,spGR vs H Q E->tSs C c_good_right { nx:=fun _ H'=>Q .non H',rt:=Q } (L2.start C.N vs) H:=by
 intro vs H Q E h
 obtain⟨b,n,rfl,hb,hn,q⟩:=h
 rw[start_eq hN]
 unfold c_good_right
 walk_at "y"
 rw[s_asg]
 walk_at "y"
 rw[tE_cl0]
 refine call_e F.good ?_
 walk_at "y"
 refine⟨rfl,fun l xs H1 s1 hl hA=>?_⟩
 walk_at "y"
 refine call_e F.take ?_
 walk_at "y"
 refine⟨b,n,_,rfl,s1 _ _ hb,by omega,by decide,by decide,fun k H2 hk0 hk7 g2=>?_⟩
 obtain⟨k,rfl⟩:=Int.eq_ofNat_of_zero_le hk0
 obtain⟨x,hx⟩:∃x,goodL[k]?=some x:=⟨_,List.getElem?_eq_getElem (show k<7 by omega)⟩
 obtain⟨v,hv,t,bd,rfl,ht,hB⟩:=hA.get hx
 have hxm:=List.mem_of_getElem? hx
 obtain⟨n2,hb2,hn2,_⟩:=g2.boxed (s1 _ _ hb) (by omega)
 walk_at "y"
 refine at_ixL (SqL.of (g2.lst hl)) (atI_nat hv) ?_
 refine g_tup4 (SqT.of (g2.tup ht)) ?_
 have hB2:=hB.mono g2.tp
 walk_at "y"
 refine call_e F.mof ?_
 walk_at "y"
 refine⟨bd,_,_,_,_,_,rfl,hB2,fun m M H3 s3 hM hI=>?_⟩
 obtain⟨gpos,gle,gp,gq,gl1,gl2,u,hu1,hu2,r0,hr0,hur⟩:=good_of hxm hI
 have hO:=hI.ok
 walk_at "y"
 refine call_e F.en ?_
 walk_at "y"
 refine call_e F.take ?_
 walk_at "y"
 refine⟨b,n2,_,rfl,s3 _ _ hb2,by omega,by omega,by omega,fun j H4 hj0 hj1 g4=>?_⟩
 obtain⟨j,rfl⟩:=Int.eq_ofNat_of_zero_le hj0
 have hM4:=hM.mono g4.tp
 walk_at "y"
 have hmul:M.length*(x.least+j)<=16*12:=Nat.mul_le_mul gle (by omega)
 refine⟨m,M,x.p,x.q,x.least+j,by rw[Int.natCast_add],hM4,hO,gle,by omega,by omega,by omega,fun vw w H5 s5 hg hvw=>?_⟩
 have hw0:w r0≠0:=by
  have:=hg.top u (fun r hr=>Nat.le_trans (hu1 r hr) (by omega)) hu2 r0 hr0
  omega
 obtain⟨c,rfl,hc⟩:∃c,vw=.ref c/\H5 c=some (.lst ((wL M w).map nV)):=by
  rcases hvw with⟨c,e,_,hc,_⟩|⟨_,hz⟩
  .exact⟨c,e,hc⟩
  .exact absurd (hz r0 hr0) hw0
 have hM5:=hM4.mono (tp_same s5)
 have htot:=tot_ne hr0 hw0
 walk_at "y"
 refine call_e F.se ?_
 walk_at "y"
 refine⟨m,M,x.p,x.q,.ref c,some ((wL M w).map nV),rfl,hM5,hO,by omega,by omega,by omega,tl_wL hc (by omega),fun H6 s6=>?_⟩
 rw[gd_true hO htot hg.ok]
 walk_at "y"
 refine at_isnB ?_
 walk_at "y"
 refine call_e F.se ?_
 walk_at "y"
 have hc6:=s6 _ _ hc
 have hM6:=hM5.mono (tp_same s6)
 refine at_iv_lst (SqL.of hc6) (comp_l (vs:=(wL M w).map nV) (fun i xs H'=>i<=M.length/\xs=((List.range i).map fun r=>2*w r).map nV/\H'=H6) ⟨Nat.zero_le _,rfl,rfl⟩ (fun i xs H' pv=>SqL.of (by rw[pv.2.2];exact hc6)) ?_ ?_)
 .rintro i xs H' v R hv' ⟨_,rfl,rfl⟩ hR
  have hi:i<M.length:=by have:=lt_of_get hv';rwa [List.length_map,wL_len]at this
  rw[List.getElem?_map,wL_get hi]at hv'
  cases hv'
  have hw12:=hg.up i hi
  simp only[nV]
  walk_at "y"
  refine⟨.inl ⟨by decide,by decide⟩,?_⟩
  refine⟨by rw[List.length_map,List.length_map,List.length_range];exact small1000 (by omega),hR _ _ ⟨hi,?_,rfl⟩⟩
  rw[List.range_succ,List.map_append,List.map_append,List.map_singleton,List.map_singleton]
  simp only[nV]
  rw[Int.natCast_mul]
  rfl
 rintro xs H' ⟨_,rfl,rfl⟩ d hd
 rw[List.length_map,wL_len,show((List.range M.length).map fun r=>2*w r)=wL M fun r=>2*w r from rfl]
 have s7:=same_new hd (.lst ((wL M fun r=>2*w r).map nV))
 have hd7:upd H' d (.lst ((wL M fun r=>2*w r).map nV)) d=some (.lst ((wL M fun r=>2*w r).map nV)):=upd_same
 generalize upd H' d (.lst ((wL M fun r=>2*w r).map nV))=H7 at s7 hd7 ⊢
 walk_at "y"
 have hok2:Okw M x.p x.q (fun r=>2*w r):=fun r hr=>by
  have:=hg.ok r hr
  rw[ss_mul]
  rw[Nat.mul_assoc]
  exact Nat.mul_le_mul_left 2 this
 have hM7:=hM6.mono (tp_same s7)
 refine⟨m,M,x.p,x.q,.ref d,some ((wL M fun r=>2*w r).map nV),rfl,hM7,hO,by omega,by omega,by omega,tl_wL hd7 (by omega),fun H8 s8=>?_⟩
 rw[gd_true hO (tot_ne hr0 (show 2*w r0≠0 by omega)) hok2]
 walk_at "y"
 refine at_isnB ?_
 walk_at "y"
 have hc8:=s8 _ _ (s7 _ _ hc6)
 have hM8:=hM7.mono (tp_same s8)
 refine call_e F.sums ?_
 walk_at "y"
 refine⟨m,c,M,w,x.q,rfl,hM8,hO,by omega,by omega,hc8,fun e H9 he s9 he9=>?_⟩
 have hc9:=s9 _ _ hc8
 walk_at "y"
 refine at_zipL (SqL.of he9) (SqL.of hc9) ?_
 refine for_zz (xs:=(wL M (it M w x.q)).map nV) (ys:=(wL M w).map nV) (n:=M.length) (by rw[List.length_map,List.length_map,wL_len,wL_len,Nat.min_self]) (fun i σ H'=>(∃x7 x8,σ=[some (.ref b),some (.ref bd),some (.int x.p),some (.int x.q),some (.int x.least),some (.ref m),some (.ref c),x7,x8])/\Same H9 H') ⟨⟨_,_,rfl⟩,Same.refl _⟩ (fun i σ H' _ pv=>⟨SqL.of (pv.2 _ _ he9),SqL.of (pv.2 _ _ hc9)⟩) ?_ ?_
 .rintro i v1 v2 σ H' p hv1 hv2 hp ⟨⟨x7,x8,rfl⟩,s10⟩
  have hi:i<M.length:=by have:=lt_of_get hv1;rwa [List.length_map,wL_len]at this
  rw[List.getElem?_map,wL_get hi]at hv1 hv2
  cases hv1
  cases hv2
  have hw12:=hg.up i hi
  have hok:=hg.ok i hi
  refine g_tup2 (SqT.of upd_same) ?_
  simp only[nV]
  walk_at "y"
  refine⟨⟨by omega,by omega,by have:w i<2 ^ 100:=Nat.lt_of_le_of_lt hw12 (by omega);omega⟩,?_⟩
  rw[Int.toNat_natCast,decide_eq_false (by
   rw[it_ss]
   have:(((w i*2 ^ x.p:Nat):Nat):Int)<=((ss M x.q w i:Nat):Int):=Int.ofNat_le.mpr hok
   rw[Int.natCast_mul,Int.natCast_pow]at this
   exact Int.not_lt.mpr this)]
  walk_at "y"
  exact⟨⟨_,_,rfl⟩,s10.trans (same_new hp _)⟩
 .rintro σ H' ⟨⟨x7,x8,rfl⟩,s10⟩
  walk_at "y"
  refine call_e F.tl ?_
  walk_at "y"
  refine call_e F.take ?_
  walk_at "y"
  have g9:Go 2 H H':=((Go.of_same (c:=0) s1).trans (g2.trans ((Go.of_same (c:=0) s3).trans (g4.trans (Go.of_same (c:=0) (s5.trans (s6.trans (s7.trans (s8.trans (s9.trans s10)))))))))).mono (by omega)
  obtain⟨n9,hb9,hn9,_⟩:=g9.boxed hb (by omega)
  refine⟨b,n9,_,rfl,hb9,by omega,by decide,by decide,fun y H11 hy0 hy8 g11=>?_⟩
  obtain⟨y,rfl⟩:=Int.eq_ofNat_of_zero_le hy0
  have hM11:=hM8.mono ((Go.of_same (c:=0) (s9.trans s10)).trans g11).tp
  walk_at "y"
  refine⟨m,M,x.p,x.q,1+y,by rw[Int.natCast_add];rfl,hM11,hO,by omega,by omega,by omega,by omega,fun v o H12 s12 hit res=>?_⟩
  have ho:o=none:=by
   rcases hit with⟨e,_⟩|⟨i,_,_,h1,_⟩
   .exact e
   .rw[not_below hO hg.ok ⟨r0,hr0,hw0⟩]at h1
    cases h1
  subst ho
  have e:v=.non:=res
  subst e
  walk_at "y"
  exact q _ ((g9.trans (g11.trans (Go.of_same (c:=0) s12))).mono (by omega))
theorem flat1' {n:Nat}:(List.replicate n [V.int 1]).flatten=(List.replicate n 1).map nV:=by
 induction n with
 |zero=>rfl
 |succ n ih=>rw[List.replicate_succ,List.flatten_cons,ih,List.replicate_succ];rfl
theorem ones_wL {M:List Rm}:(List.replicate M.length [V.int 1]).flatten=(wL M (wy M none 0)).map nV:=by
 rw[flat1',<- wN0]
 rfl
structure FsBR (C:Rc):Prop where
 bad:C.fs "_law_bad"=some spBad
 take:C.fs "_law_take"=some spTake
 mof:C.fs "machine_of"=some spMOfO
 en:C.fs "enough"=some spEn
 sums:C.fs "_law_sums"=some spSums
 same:C.fs "_law_same"=some (spSame 2)
 tl:C.fs "too_little"=some spTL
 shows:C.fs "shows_too_little"=some spShowX
theorem body_BR {C:Rc} (hN:C.N.length=9) (F:FsBR C):∀vs H Q E,spGR vs H Q E->tSs C c_bad_right { nx:=fun _ H'=>Q .non H',rt:=Q } (L2.start C.N vs) H:=by
 intro vs H Q E h
 obtain⟨b,n,rfl,hb,hn,q⟩:=h
 rw[start_eq hN]
 unfold c_bad_right
 walk_at "y"
 rw[s_asg]
 walk_at "y"
 rw[tE_cl0]
 refine call_e F.bad ?_
 walk_at "y"
 refine⟨rfl,fun l xs H1 s1 hl hA=>?_⟩
 walk_at "y"
 refine call_e F.take ?_
 walk_at "y"
 refine⟨b,n,_,rfl,s1 _ _ hb,by omega,by decide,by decide,fun k H2 hk0 hk7 g2=>?_⟩
 obtain⟨k,rfl⟩:=Int.eq_ofNat_of_zero_le hk0
 obtain⟨x,hx⟩:∃x,badL[k]?=some x:=⟨_,List.getElem?_eq_getElem (show k<7 by omega)⟩
 obtain⟨v,hv,t,bd,rfl,ht,hB⟩:=hA.get hx
 have hxm:=List.mem_of_getElem? hx
 obtain⟨n2,hb2,hn2,_⟩:=g2.boxed (s1 _ _ hb) (by omega)
 walk_at "y"
 refine at_ixL (SqL.of (g2.lst hl)) (atI_nat hv) ?_
 refine g_tup3 (SqT.of (g2.tup ht)) ?_
 have hB2:=hB.mono g2.tp
 walk_at "y"
 refine call_e F.mof ?_
 walk_at "y"
 refine⟨bd,_,_,_,_,_,rfl,hB2,fun m M H3 s3 hM hI=>?_⟩
 obtain⟨gpos,gle,gp,gq,gm1,gm3,hhit⟩:=bad_of hxm hI
 have hO:=hI.ok
 walk_at "y"
 refine call_e F.en ?_
 walk_at "y"
 refine call_e F.take ?_
 walk_at "y"
 refine⟨b,n2,_,rfl,s3 _ _ hb2,by omega,by omega,by omega,fun j H4 hj0 hj1 g4=>?_⟩
 obtain⟨j,rfl⟩:=Int.eq_ofNat_of_zero_le hj0
 have hM4:=hM.mono g4.tp
 walk_at "y"
 have hmul:M.length*(1+j)<=16*12:=Nat.mul_le_mul gle (by omega)
 refine⟨m,M,x.p,x.q,1+j,by rw[Int.natCast_add];rfl,hM4,hO,gle,by omega,by omega,by omega,fun vw w H5 s5 hg hvw=>?_⟩
 have evw:vw=.non:=by
  rcases hvw with⟨c,_,_,_,hz⟩|⟨e,_⟩
  .rw[not_below hO hg.ok hz]at hhit
   cases hhit
  .exact e
 subst evw
 have hM5:=hM4.mono (tp_same s5)
 obtain⟨mv,hmv,hmr⟩:=id hM5
 walk_at "y"
 refine⟨by decide,fun p6 hp6=>?_⟩
 have s6:=same_new hp6 (.lst [.int 1])
 have h6:upd H5 p6 (.lst [.int 1]) p6=some (.lst [.int 1]):=upd_same
 generalize upd H5 p6 (.lst [.int 1])=H6 at s6 h6 ⊢
 walk_at "y"
 refine at_lenT (SqT.of (s6 _ _ hmv)) ?_
 rw[hmr.len]
 walk_at "y"
 refine at_rep h6 (by omega) (Nat.le_of_lt (small1000 (by show 1*M.length<=1000;omega))) fun p7 hp7=>?_
 rw[ones_wL]
 have s7:=same_new hp7 (.lst ((wL M (wy M none 0)).map nV))
 have h7:upd H6 p7 (.lst ((wL M (wy M none 0)).map nV)) p7=some (.lst ((wL M (wy M none 0)).map nV)):=upd_same
 generalize upd H6 p7 (.lst ((wL M (wy M none 0)).map nV))=H7 at s7 h7 ⊢
 have g7:Go 2 H H7:=((Go.of_same (c:=0) s1).trans (g2.trans ((Go.of_same (c:=0) s3).trans (g4.trans (Go.of_same (c:=0) (s5.trans (s6.trans s7))))))).mono (by omega)
 have hM7:=hM5.mono (tp_same (s6.trans s7))
 walk_at "y"
 refine whl_by (fun N σ H'=>∃k:Nat,N=50-k/\σ=[some (.ref b),some (.ref bd),some (.int x.p),some (.int x.q),some (.ref m),some (.ref p7),some (.int k),none,none]/\1<=k/\k<=x.m/\Same H7 H'/\∀j,1<=j->j<k->okm M x.p x.q j=false) _ ⟨1,rfl,rfl,Nat.le_refl _,gm1,Same.refl _,fun j h1 h2=>by omega⟩ ?_
 rintro N σ H8 ⟨k,rfl,rfl,hk1,hkm,s8,hno⟩
 walk_at "y"
 rw[decide_eq_true (show(k:Int)<50 by omega)]
 walk_at "y"
 refine call_e F.sums ?_
 walk_at "y"
 refine⟨.inl ⟨by omega,by omega⟩,?_⟩
 rw[show(x.q:Int)*(k:Int)=((x.q*k:Nat):Int) by rw[Int.natCast_mul]]
 have hqk:x.q*k<=8*3:=Nat.mul_le_mul gq (by omega)
 have hpk:x.p*k<=3*3:=Nat.mul_le_mul gp (by omega)
 refine⟨m,p7,M,wy M none 0,x.q*k,rfl,hM7.mono (tp_same s8),hO,by omega,by omega,s8 _ _ h7,fun e H9 he s9 he9=>?_⟩
 rw[it_wy,Nat.zero_add,show(wL M (wy M none (x.q*k)))=wN M (x.q*k) from rfl]at he9
 walk_at "y"
 refine at_max (ns:=(wN M (x.q*k)).map fun n:Nat=>(n:Int)) (SqL.of (by rw[he9,nV_int])) (by intro z;have:=congrArg List.length z;rw[List.length_map,wN_len]at this;exact absurd this (show M.length≠0 by omega)) fun mx hmx hle=>?_
 have hbel:=max_bel (b:=x.p*k) hmx hle
 walk_at "y"
 refine⟨.inl ⟨by omega,by omega⟩,?_⟩
 rw[show(x.p:Int)*(k:Int)=((x.p*k:Nat):Int) by rw[Int.natCast_mul]]
 refine⟨⟨by omega,by omega,by decide⟩,?_⟩
 rw[Int.toNat_natCast,Int.one_mul]
 rw[show((2:Int) ^ (x.p*k))=((2 ^ (x.p*k):Nat):Int) by rw[Int.natCast_pow];rfl]
 rw[show bel (x.p*k) (wN M (x.q*k))=okm M x.p x.q k from rfl]at hbel
 have s89:=s8.trans s9
 refine by_dec (fun hge=>?_) fun hge=>?_
 .have hf:okm M x.p x.q k=false:=by rw[<- hbel];exact decide_eq_false (by omega)
  have hkne:k≠x.m:=fun e=>by rw[e,hhit]at hf;cases hf
  refine kWhl_t ?_
  walk_at "y"
  refine⟨50-(k+1),by omega,k+1,rfl,by rw[Int.natCast_add];rfl,by omega,by omega,s89,fun j h1 h2=>?_⟩
  rcases Nat.lt_or_ge j k with z|z
  .exact hno j h1 z
  .rw[show j=k by omega];exact hf
 .have hf:okm M x.p x.q k=true:=by rw[<- hbel];exact decide_eq_true (by omega)
  refine kWhl_f ?_
  walk_at "y"
  refine call_e F.sums ?_
  walk_at "y"
  refine⟨.inl ⟨by omega,by omega⟩,?_⟩
  rw[show(x.q:Int)*(k:Int)=((x.q*k:Nat):Int) by rw[Int.natCast_mul]]
  refine⟨m,p7,M,wy M none 0,x.q*k,rfl,hM7.mono (tp_same s89),hO,by omega,by omega,s89 _ _ h7,fun c10 H10 hc10 s10 h10=>?_⟩
  rw[it_wy,Nat.zero_add,show(wL M (wy M none (x.q*k)))=wN M (x.q*k) from rfl]at h10
  walk_at "y"
  refine⟨show 2<=sizeLine by decide,fun d11 hd11=>?_⟩
  have s11:=same_new hd11 (.tup [.int k,.ref c10])
  have h11:upd H10 d11 (.tup [.int k,.ref c10]) d11=some (.tup [.int k,.ref c10]):=upd_same
  generalize upd H10 d11 (.tup [.int k,.ref c10])=H11 at s11 h11 ⊢
  have s711:=s89.trans (s10.trans s11)
  have hM11:=hM7.mono (tp_same s711)
  have hc11:=s11 _ _ h10
  walk_at "y"
  refine call_e F.same ?_
  walk_at "y"
  refine call_e F.tl ?_
  walk_at "y"
  refine⟨m,M,x.p,x.q,50,rfl,hM11,hO,by omega,by omega,by omega,by omega,fun v o H12 s12 hit res=>?_⟩
  have hH:Hit M x.p x.q 50 (some k):=.inr ⟨k-1,by omega,by rw[show k-1+1=k by omega],by rw[show k-1+1=k by omega];exact hf,fun j hj=>hno (j+1) (by omega) (by omega)⟩
  have eo:=hit.eq hH
  subst eo
  obtain⟨t12,c12,rfl,e1,_,e2⟩:=res
  walk_at "y"
  refine⟨.ref t12,.ref d11,rfl,eqv_mn e1 (s12 _ _ h11) e2 (s12 _ _ hc11) (by rw[wN_len];omega),fun H13 s13=>?_⟩
  have s1113:=s12.trans s13
  have hM13:=hM11.mono (tp_same s1113)
  have hc13:=s1113 _ _ hc11
  have h13:=s1113 _ _ h11
  walk_at "y"
  refine call_e F.shows ?_
  walk_at "y"
  refine at_ixT (SqT.of h13) rfl ?_
  walk_at "y"
  refine at_ixT (SqT.of h13) rfl ?_
  walk_at "y"
  refine⟨m,c10,M,x.p,x.q,k,wN M (x.q*k),rfl,hM13,hO,by omega,.inr ⟨by omega,by omega,hk1,by omega,.inl hc13,by rw[wN_len];omega,fun H14 s14=>?_⟩⟩
  rw[decide_eq_true rfl,show bel (x.p*k) (wN M (x.q*k))=okm M x.p x.q k from rfl,hf,Bool.and_true]
  walk_at "y"
  refine at_isnB ?_
  walk_at "y"
  have s714:=s711.trans (s1113.trans s14)
  refine call_e F.sums ?_
  walk_at "y"
  refine⟨.inl ⟨by omega,by omega⟩,?_⟩
  rw[show(x.q:Int)*((k:Int)-1)=((x.q*(k-1):Nat):Int) by rw[Int.natCast_mul,Int.natCast_sub hk1];rfl]
  have hqk1:x.q*(k-1)<=8*3:=Nat.mul_le_mul gq (by omega)
  refine⟨m,p7,M,wy M none 0,x.q*(k-1),rfl,hM7.mono (tp_same s714),hO,by omega,by omega,s714 _ _ h7,fun c15 H15 hc15 s15 h15=>?_⟩
  rw[it_wy,Nat.zero_add,show(wL M (wy M none (x.q*(k-1))))=wN M (x.q*(k-1)) from rfl]at h15
  have gF:∀H16,Same H15 H16->Go 10 H H16:=fun H16 s16=>(g7.trans (Go.of_same (c:=0) (s714.trans (s15.trans s16)))).mono (by omega)
  walk_at "y"
  refine call_e F.shows ?_
  walk_at "y"
  rw[show(k:Int)-1=((k-1:Nat):Int) by omega]
  by_cases hk:k=1
  .subst hk
   refine⟨m,c15,M,x.p,x.q,0,[],rfl,hM7.mono (tp_same (s714.trans s15)),hO,by omega,.inl ⟨rfl,fun H16 s16=>?_⟩⟩
   walk_at "y"
   refine at_isB ?_
   exact q _ (gF _ s16)
  .refine⟨m,c15,M,x.p,x.q,k-1,wN M (x.q*(k-1)),rfl,hM7.mono (tp_same (s714.trans s15)),hO,by omega,.inr ⟨by omega,by omega,by omega,by omega,.inl h15,by rw[wN_len];omega,fun H16 s16=>?_⟩⟩
   rw[decide_eq_true rfl,show bel (x.p*(k-1)) (wN M (x.q*(k-1)))=okm M x.p x.q (k-1) from rfl,hno (k-1) (by omega) (by omega),Bool.and_false]
   walk_at "y"
   refine at_isB ?_
   exact q _ (gF _ s16)
def spLaw (K:W.Frag):Sp:=fun vs H Q _=>∃(a:Addr) (ns:List Int),vs=[.ref a]/\SqL K H a (ns.map V.int)/\ns.length<=63/\∀H',Q (.bl true) H'
theorem body_law {C:Rc} (hN:C.N.length=3) (hB:C.fs "_law_box"=some (spBox C.K)) (hG:C.fs "_law_good_right"=some spGR) (hR:C.fs "_law_bad_right"=some spGR):∀vs H Q E,spLaw C.K vs H Q E->tSs C c_law { nx:=fun _ H'=>Q .non H',rt:=Q } (L2.start C.N vs) H:=by
 intro vs H Q E h
 obtain⟨a,ns,rfl,hs,h63,q⟩:=h
 rw[start_eq hN]
 unfold c_law
 walk_at "y"
 refine at_lenL hs ?_
 rw[List.length_map]
 walk_at "y"
 generalize hmn:(1+if(ns.length:Int)<4 then(ns.length:Int)else 4)=mn
 have hmn5:0<=mn/\mn<=5:=by rw[<- hmn];split<;>omega
 refine at_r1 (by omega) (by omega) (for_r (n:=mn.toNat) (fun i σ H'=>(∃x1 x2,σ=[some (.ref a),x1,x2])/\SqL C.K H' a (ns.map V.int)) ⟨⟨none,none,rfl⟩,hs⟩ ?_ ?_)
 .rintro i σ H0 hi ⟨⟨x1,x2,rfl⟩,hs0⟩
  have hi:i<5:=by omega
  walk_at "y"
  refine call_e hB ?_
  walk_at "y"
  refine⟨a,ns,_,rfl,hs0,by omega,by omega,fun b hb=>?_⟩
  have hs1:=(same_new hb (BoxO b 0)).seq hs0
  have hb1:upd H0 b (BoxO b 0) b=some (BoxO b 0):=upd_same
  generalize upd H0 b (BoxO b 0)=H1 at hs1 hb1 ⊢
  walk_at "y"
  refine call_e hG ?_
  walk_at "y"
  refine⟨b,0,rfl,hb1,by omega,fun H2 g2=>?_⟩
  obtain⟨n2,hb2,hn2,_⟩:=g2.boxed hb1 (by omega)
  walk_at "y"
  refine call_e hR ?_
  walk_at "y"
  refine⟨b,n2,rfl,hb2,by omega,fun H3 g3=>?_⟩
  walk_at "y"
  exact⟨⟨_,_,rfl⟩,g3.seq (g2.seq hs1)⟩
 .rintro σ H' ⟨⟨x1,x2,rfl⟩,hs'⟩
  walk_at "y"
  exact q _
end K71
namespace K71
open PySem PySem.Spec PyProof.Rows L2 R3 LW SR RW TM BD BE TE CK K31 K30 K28 K29
noncomputable def top (i:Nat):Stmt:=PySem.Challenge.pw_runbound_k71_whole_known_codes.main.body.getD i (.Pass ⟨0,0,0,0⟩)
theorem m_isnum:mSs n_p_is_number b_p_is_number (defScope (top 1)) c_p_is_number (defBody (top 1))=true:=by decide +kernel
theorem sc_isnum:FnScope n_p_is_number ["thing"] (defScope (top 1)):=⟨rfl,rfl,rfl,by decide +kernel,rfl,by decide +kernel,by decide +kernel⟩
theorem m_within:mSs n_p_is_within b_p_is_within (defScope (top 2)) c_p_is_within (defBody (top 2))=true:=by decide +kernel
theorem sc_within:FnScope n_p_is_within ["thing","low","high"] (defScope (top 2)):=⟨rfl,rfl,rfl,by decide +kernel,rfl,by decide +kernel,by decide +kernel⟩
theorem m_pair:mSs n_p_is_pair b_p_is_pair (defScope (top 3)) c_p_is_pair (defBody (top 3))=true:=by decide +kernel
theorem sc_pair:FnScope n_p_is_pair ["thing"] (defScope (top 3)):=⟨rfl,rfl,rfl,by decide +kernel,rfl,by decide +kernel,by decide +kernel⟩
theorem m_listed:mSs n_p_is_listed b_p_is_listed (defScope (top 4)) c_p_is_listed (defBody (top 4))=true:=by decide +kernel
theorem sc_listed:FnScope n_p_is_listed ["thing"] (defScope (top 4)):=⟨rfl,rfl,rfl,by decide +kernel,rfl,by decide +kernel,by decide +kernel⟩
theorem m_areN:mSs n_p_are_numbers b_p_are_numbers (defScope (top 5)) c_p_are_numbers (defBody (top 5))=true:=by decide +kernel
theorem sc_areN:FnScope n_p_are_numbers ["thing","many"] (defScope (top 5)):=⟨rfl,rfl,rfl,by decide +kernel,rfl,by decide +kernel,by decide +kernel⟩
theorem m_lead:mSs n_p_is_lead b_p_is_lead (defScope (top 8)) c_p_is_lead (defBody (top 8))=true:=by decide +kernel
theorem sc_lead:FnScope n_p_is_lead ["thing","many"] (defScope (top 8)):=⟨rfl,rfl,rfl,by decide +kernel,rfl,by decide +kernel,by decide +kernel⟩
theorem m_room:mSs n_p_is_room b_p_is_room (defScope (top 9)) c_p_is_room (defBody (top 9))=true:=by decide +kernel
theorem sc_room:FnScope n_p_is_room ["thing","many"] (defScope (top 9)):=⟨rfl,rfl,rfl,by decide +kernel,rfl,by decide +kernel,by decide +kernel⟩
theorem m_isM:mSs n_p_is_machine b_p_is_machine (defScope (top 10)) c_p_is_machine (defBody (top 10))=true:=by decide +kernel
theorem sc_isM:FnScope n_p_is_machine ["thing"] (defScope (top 10)):=⟨rfl,rfl,rfl,by decide +kernel,rfl,by decide +kernel,by decide +kernel⟩
theorem m_sizes:mSs n_p_are_sizes b_p_are_sizes (defScope (top 6)) c_p_are_sizes (defBody (top 6))=true:=by decide +kernel
theorem sc_sizes:FnScope n_p_are_sizes ["p","q"] (defScope (top 6)):=⟨rfl,rfl,rfl,by decide +kernel,rfl,by decide +kernel,by decide +kernel⟩
theorem m_last:mSs n_p_lasting b_p_lasting (defScope (top 11)) c_p_lasting (defBody (top 11))=true:=by decide +kernel
theorem sc_last:FnScope n_p_lasting ["machine","rooms"] (defScope (top 11)):=⟨rfl,rfl,rfl,by decide +kernel,rfl,by decide +kernel,by decide +kernel⟩
theorem m_part:mSs n_p_part_of b_p_part_of (defScope (top 12)) c_p_part_of (defBody (top 12))=true:=by decide +kernel
theorem sc_part:FnScope n_p_part_of ["machine","numbers"] (defScope (top 12)):=⟨rfl,rfl,rfl,by decide +kernel,rfl,by decide +kernel,by decide +kernel⟩
theorem m_trim:mSs n_p_trimmed b_p_trimmed (defScope (top 13)) c_p_trimmed (defBody (top 13))=true:=by decide +kernel
theorem sc_trim:FnScope n_p_trimmed ["machine"] (defScope (top 13)):=⟨rfl,rfl,rfl,by decide +kernel,rfl,by decide +kernel,by decide +kernel⟩
theorem m_wf:mSs n_p_walks_from b_p_walks_from (defScope (top 14)) c_p_walks_from (defBody (top 14))=true:=by decide +kernel
theorem sc_wf:FnScope n_p_walks_from ["machine","room","many"] (defScope (top 14)):=⟨rfl,rfl,rfl,by decide +kernel,rfl,by decide +kernel,by decide +kernel⟩
theorem m_pw:mSs n_p_powered b_p_powered (defScope (top 15)) c_p_powered (defBody (top 15))=true:=by decide +kernel
theorem sc_pw:FnScope n_p_powered ["machine","many"] (defScope (top 15)):=⟨rfl,rfl,rfl,by decide +kernel,rfl,by decide +kernel,by decide +kernel⟩
theorem m_behind:mSs n_p_behind_bit b_p_behind_bit (defScope (top 17)) c_p_behind_bit (defBody (top 17))=true:=by decide +kernel
theorem sc_behind:FnScope n_p_behind_bit ["machine","numbers","room","bit"] (defScope (top 17)):=⟨rfl,rfl,rfl,by decide +kernel,rfl,by decide +kernel,by decide +kernel⟩
theorem m_waysums:mSs n_p_way_sums b_p_way_sums (defScope (top 18)) c_p_way_sums (defBody (top 18))=true:=by decide +kernel
theorem sc_waysums:FnScope n_p_way_sums ["machine","numbers"] (defScope (top 18)):=⟨rfl,rfl,rfl,by decide +kernel,rfl,by decide +kernel,by decide +kernel⟩
theorem m_walk:mSs n_p_walk_sums b_p_walk_sums (defScope (top 21)) c_p_walk_sums (defBody (top 21))=true:=by decide +kernel
theorem sc_walk:FnScope n_p_walk_sums ["machine","numbers","many"] (defScope (top 21)):=⟨rfl,rfl,rfl,by decide +kernel,rfl,by decide +kernel,by decide +kernel⟩
theorem m_wt:mSs n_p_walks_to b_p_walks_to (defScope (top 22)) c_p_walks_to (defBody (top 22))=true:=by decide +kernel
theorem sc_wt:FnScope n_p_walks_to ["machine","q"] (defScope (top 22)):=⟨rfl,rfl,rfl,by decide +kernel,rfl,by decide +kernel,by decide +kernel⟩
theorem m_gw:mSs n_p_greatest_within b_p_greatest_within (defScope (top 23)) c_p_greatest_within (defBody (top 23))=true:=by decide +kernel
theorem sc_gw:FnScope n_p_greatest_within ["machine","p","q","limits"] (defScope (top 23)):=⟨rfl,rfl,rfl,by decide +kernel,rfl,by decide +kernel,by decide +kernel⟩
theorem m_en:mSs n_p_enough b_p_enough (defScope (top 24)) c_p_enough (defBody (top 24))=true:=by decide +kernel
theorem sc_en:FnScope n_p_enough ["machine","p","q","most"] (defScope (top 24)):=⟨rfl,rfl,rfl,by decide +kernel,rfl,by decide +kernel,by decide +kernel⟩
theorem m_se:mSs n_p_shows_enough b_p_shows_enough (defScope (top 25)) c_p_shows_enough (defBody (top 25))=true:=by decide +kernel
theorem sc_se:FnScope n_p_shows_enough ["machine","p","q","weights"] (defScope (top 25)):=⟨rfl,rfl,rfl,by decide +kernel,rfl,by decide +kernel,by decide +kernel⟩
theorem m_below:mSs n_p_are_below b_p_are_below (defScope (top 26)) c_p_are_below (defBody (top 26))=true:=by decide +kernel
theorem sc_below:FnScope n_p_are_below ["counts","bits"] (defScope (top 26)):=⟨rfl,rfl,rfl,by decide +kernel,rfl,by decide +kernel,by decide +kernel⟩
theorem m_tl:mSs n_p_too_little b_p_too_little (defScope (top 27)) c_p_too_little (defBody (top 27))=true:=by decide +kernel
theorem sc_tl:FnScope n_p_too_little ["machine","p","q","most"] (defScope (top 27)):=⟨rfl,rfl,rfl,by decide +kernel,rfl,by decide +kernel,by decide +kernel⟩
theorem m_shows:mSs n_p_shows_too_little b_p_shows_too_little (defScope (top 28)) c_p_shows_too_little (defBody (top 28))=true:=by decide +kernel
theorem sc_shows:FnScope n_p_shows_too_little ["machine","p","q","m","counts"] (defScope (top 28)):=⟨rfl,rfl,rfl,by decide +kernel,rfl,by decide +kernel,by decide +kernel⟩
theorem m_rin:mSs n_p_rooms_in_bounds b_p_rooms_in_bounds (defScope (top 30)) c_p_rooms_in_bounds (defBody (top 30))=true:=by decide +kernel
theorem sc_rin:FnScope n_p_rooms_in_bounds ["bounds"] (defScope (top 30)):=⟨rfl,rfl,rfl,by decide +kernel,rfl,by decide +kernel,by decide +kernel⟩
theorem m_rb:mSs n_p_room_behind b_p_room_behind (defScope (top 31)) c_p_room_behind (defBody (top 31))=true:=by decide +kernel
theorem sc_rb:FnScope n_p_room_behind ["bounds","room","bit"] (defScope (top 31)):=⟨rfl,rfl,rfl,by decide +kernel,rfl,by decide +kernel,by decide +kernel⟩
theorem m_min:mSs n_p_machine_in_bounds b_p_machine_in_bounds (defScope (top 32)) c_p_machine_in_bounds (defBody (top 32))=true:=by decide +kernel
theorem sc_min:FnScope n_p_machine_in_bounds ["bounds","rooms"] (defScope (top 32)):=⟨rfl,rfl,rfl,by decide +kernel,rfl,by decide +kernel,by decide +kernel⟩
theorem m_mof:mSs n_p_machine_of b_p_machine_of (defScope (top 33)) c_p_machine_of (defBody (top 33))=true:=by decide +kernel
theorem sc_mof:FnScope n_p_machine_of ["bounds"] (defScope (top 33)):=⟨rfl,rfl,rfl,by decide +kernel,rfl,by decide +kernel,by decide +kernel⟩
theorem m_cell:mSs n_cell_at b_cell_at (defScope (top 35)) c_cell_at (defBody (top 35))=true:=by decide +kernel
theorem sc_cell:FnScope n_cell_at ["_law_script","_law_k"] (defScope (top 35)):=⟨rfl,rfl,rfl,by decide +kernel,rfl,by decide +kernel,by decide +kernel⟩
theorem m_box:mSs n_box b_box (defScope (top 36)) c_box (defBody (top 36))=true:=by decide +kernel
theorem sc_box:FnScope n_box ["_law_script","_law_k"] (defScope (top 36)):=⟨rfl,rfl,rfl,by decide +kernel,rfl,by decide +kernel,by decide +kernel⟩
theorem m_take:mSs n_take b_take (defScope (top 37)) c_take (defBody (top 37))=true:=by decide +kernel
theorem sc_take:FnScope n_take ["_law_box_here","_law_many"] (defScope (top 37)):=⟨rfl,rfl,rfl,by decide +kernel,rfl,by decide +kernel,by decide +kernel⟩
theorem m_same:mSs n_same b_same (defScope (top 38)) c_same (defBody (top 38))=true:=by decide +kernel
theorem sc_same:FnScope n_same ["_law_found","_law_due"] (defScope (top 38)):=⟨rfl,rfl,rfl,by decide +kernel,rfl,by decide +kernel,by decide +kernel⟩
theorem m_good:mSs n_good b_good (defScope (top 39)) c_good (defBody (top 39))=true:=by decide +kernel
theorem sc_good:FnScope n_good [] (defScope (top 39)):=⟨rfl,rfl,rfl,by decide +kernel,rfl,by decide +kernel,by decide +kernel⟩
theorem m_bad:mSs n_bad b_bad (defScope (top 40)) c_bad (defBody (top 40))=true:=by decide +kernel
theorem sc_bad:FnScope n_bad [] (defScope (top 40)):=⟨rfl,rfl,rfl,by decide +kernel,rfl,by decide +kernel,by decide +kernel⟩
theorem m_sums:mSs n_sums b_sums (defScope (top 41)) c_sums (defBody (top 41))=true:=by decide +kernel
theorem sc_sums:FnScope n_sums ["_law_machine","_law_weights","_law_many"] (defScope (top 41)):=⟨rfl,rfl,rfl,by decide +kernel,rfl,by decide +kernel,by decide +kernel⟩
theorem m_GR:mSs n_good_right b_good_right (defScope (top 42)) c_good_right (defBody (top 42))=true:=by decide +kernel
theorem sc_GR:FnScope n_good_right ["_law_box_here"] (defScope (top 42)):=⟨rfl,rfl,rfl,by decide +kernel,rfl,by decide +kernel,by decide +kernel⟩
theorem m_BR:mSs n_bad_right b_bad_right (defScope (top 43)) c_bad_right (defBody (top 43))=true:=by decide +kernel
theorem sc_BR:FnScope n_bad_right ["_law_box_here"] (defScope (top 43)):=⟨rfl,rfl,rfl,by decide +kernel,rfl,by decide +kernel,by decide +kernel⟩
theorem m_law:mSs n_law b_law (defScope (top 44)) c_law (defBody (top 44))=true:=by decide +kernel
theorem sc_law:FnScope n_law ["_law_script"] (defScope (top 44)):=⟨rfl,rfl,rfl,by decide +kernel,rfl,by decide +kernel,by decide +kernel⟩
set_option hygiene false in
local macro_rules | `(tactic| walk_at "o") => `(tactic| (intro vs H Q E h; repeat (first | (obtain ⟨rfl, _⟩ := h; rfl) | (obtain ⟨_, h⟩ := h))))
def FnD (K:W.Frag) (x:Str) (st:Stmt):Prop:=∃(f:Addr) (fd:FuncData),W.nsIn K mainGlobals x=some (some (.ref f))/\Fun K x x st f fd
theorem fnd_mk {K:W.Frag} {x:Str} {st:Stmt} {f:Addr} {oc:Value} {od an:Option Addr} {osl:Array (Option Value)} {kV doc pm cdv ct:Value} (a:W.nsIn K mainGlobals x=some (some (.ref f))) (l:K.lookup f=some ⟨oc,od,.func (W.fnOf x x (defArgs st) (defBody st) (defScope st) .none kV doc pm an cdv ct),osl⟩) (c:W.codeIn K cdv x=true) (k:W.keepIn K (.ref f)=true):FnD K x st:=⟨f,_,a,fun_mk l c k⟩
theorem all_mk {l:W.OpenLaw} {w:World} {K:W.Frag} {h:Heap} {mg:Str->Option Value} {fa:Addr} (X:K.In h) (G:h.Ns mainGlobals mg) (hfa:mg "law"=some (.ref fa))
  {gt1:Tok}
  (p1:FnD K "is_number" (top 1))
  (p2:FnD K "is_within" (top 2))
  (p3:FnD K "is_pair" (top 3))
  (p4:FnD K "is_listed" (top 4))
  (p5:FnD K "are_numbers" (top 5))
  (p6:FnD K "is_lead" (top 8))
  (p7:FnD K "is_room" (top 9))
  (p8:FnD K "is_machine" (top 10))
  (p9:FnD K "are_sizes" (top 6))
  (p10:FnD K "lasting" (top 11))
  (p11:FnD K "part_of" (top 12))
  (p12:FnD K "trimmed" (top 13))
  (p13:FnD K "walks_from" (top 14))
  (p14:FnD K "powered" (top 15))
  (p15:FnD K "behind_bit" (top 17))
  (p16:FnD K "way_sums" (top 18))
  (p17:FnD K "walk_sums" (top 21))
  (p18:FnD K "walks_to" (top 22))
  (p19:FnD K "greatest_within" (top 23))
  (p20:FnD K "enough" (top 24))
  (p21:FnD K "shows_enough" (top 25))
  (p22:FnD K "are_below" (top 26))
  (p23:FnD K "too_little" (top 27))
  (p24:FnD K "shows_too_little" (top 28))
  (p25:FnD K "rooms_in_bounds" (top 30))
  (p26:FnD K "room_behind" (top 31))
  (p27:FnD K "machine_in_bounds" (top 32))
  (p28:FnD K "machine_of" (top 33))
  (p29:FnD K "_law_cell_at" (top 35))
  (p30:FnD K "_law_box" (top 36))
  (p31:FnD K "_law_take" (top 37))
  (p32:FnD K "_law_same" (top 38))
  (p33:FnD K "_law_good" (top 39))
  (p34:FnD K "_law_bad" (top 40))
  (p35:FnD K "_law_sums" (top 41))
  (p36:FnD K "_law_good_right" (top 42))
  (p37:FnD K "_law_bad_right" (top 43))
  (p38:FnD K "law" (top 44))
  (z1:W.nsIn K mainGlobals "~"=some none)
  (z2:W.nsIn K mainGlobals "^"=some none)
  (z3:W.nsIn K mainGlobals "%"=some none)
  (z4:W.nsIn K mainGlobals "bool"=some none)
  (z5:W.nsIn K mainGlobals "int"=some none)
  (z6:W.nsIn K mainGlobals "isinstance"=some none)
  (z7:W.nsIn K mainGlobals "len"=some none)
  (z8:W.nsIn K mainGlobals "tuple"=some none)
  (z9:W.nsIn K mainGlobals "list"=some none)
  (z10:W.nsIn K mainGlobals "all"=some none)
  (z11:W.nsIn K mainGlobals "set"=some none)
  (z12:W.nsIn K mainGlobals "enumerate"=some none)
  (z13:W.nsIn K mainGlobals "range"=some none)
  (z14:W.nsIn K mainGlobals "any"=some none)
  (z15:W.nsIn K mainGlobals "min"=some none)
  (z16:W.nsIn K mainGlobals "zip"=some none)
  (z17:W.nsIn K mainGlobals "abs"=some none)
  (z18:W.nsIn K mainGlobals "str"=some none)
  (z19:W.nsIn K mainGlobals "sum"=some none)
  (z20:W.nsIn K mainGlobals "max"=some none)
  (gc1:W.nsIn K mainGlobals "LAST_PAPER"=some (some (.int 400 gt1))):
  ∃fd:FuncData,(∀(s:Shared) (v:Value),BindsTo s fd ⟨[v],[]⟩ [("_law_script",v)])/\∀base:Heap,K.In base->base.Ns mainGlobals mg->FnOk l.prog w K mg base CX0 60 fa fd ["_law_script"] (spLaw K):=by
 obtain⟨f1,g1,a1,F1⟩:=p1
 obtain⟨f2,g2,a2,F2⟩:=p2
 obtain⟨f3,g3,a3,F3⟩:=p3
 obtain⟨f4,g4,a4,F4⟩:=p4
 obtain⟨f5,g5,a5,F5⟩:=p5
 obtain⟨f6,g6,a6,F6⟩:=p6
 obtain⟨f7,g7,a7,F7⟩:=p7
 obtain⟨f8,g8,a8,F8⟩:=p8
 obtain⟨f9,g9,a9,F9⟩:=p9
 obtain⟨f10,g10,a10,F10⟩:=p10
 obtain⟨f11,g11,a11,F11⟩:=p11
 obtain⟨f12,g12,a12,F12⟩:=p12
 obtain⟨f13,g13,a13,F13⟩:=p13
 obtain⟨f14,g14,a14,F14⟩:=p14
 obtain⟨f15,g15,a15,F15⟩:=p15
 obtain⟨f16,g16,a16,F16⟩:=p16
 obtain⟨f17,g17,a17,F17⟩:=p17
 obtain⟨f18,g18,a18,F18⟩:=p18
 obtain⟨f19,g19,a19,F19⟩:=p19
 obtain⟨f20,g20,a20,F20⟩:=p20
 obtain⟨f21,g21,a21,F21⟩:=p21
 obtain⟨f22,g22,a22,F22⟩:=p22
 obtain⟨f23,g23,a23,F23⟩:=p23
 obtain⟨f24,g24,a24,F24⟩:=p24
 obtain⟨f25,g25,a25,F25⟩:=p25
 obtain⟨f26,g26,a26,F26⟩:=p26
 obtain⟨f27,g27,a27,F27⟩:=p27
 obtain⟨f28,g28,a28,F28⟩:=p28
 obtain⟨f29,g29,a29,F29⟩:=p29
 obtain⟨f30,g30,a30,F30⟩:=p30
 obtain⟨f31,g31,a31,F31⟩:=p31
 obtain⟨f32,g32,a32,F32⟩:=p32
 obtain⟨f33,g33,a33,F33⟩:=p33
 obtain⟨f34,g34,a34,F34⟩:=p34
 obtain⟨f35,g35,a35,F35⟩:=p35
 obtain⟨f36,g36,a36,F36⟩:=p36
 obtain⟨f37,g37,a37,F37⟩:=p37
 obtain⟨f38,g38,a38,F38⟩:=p38
 obtain⟨oc32,od32,kV32,dc32,pm32,an32,cd32,ct32,sl32,rfl,l32,c32⟩:=F32.ex
 obtain⟨oc38,od38,kV38,dc38,pm38,an38,cd38,ct38,sl38,rfl,l38,c38⟩:=F38.ex
 have e:=hfa.symm.trans (W.mg_of X G a38)
 cases e
 have b1:=F1.binds (ps:=["thing"]) fun _ _ _ _ _ _ us hl=>len1 (P:=fun us=>bindArgs _ ({ pos:=us }:Args)=pure (List.zip _ us)) (fun _=>rfl) us hl
 have m1:=W.mg_of X G a1
 have b2:=F2.binds (ps:=["thing","low","high"]) fun _ _ _ _ _ _ us hl=>len3 (P:=fun us=>bindArgs _ ({ pos:=us }:Args)=pure (List.zip _ us)) (fun _ _ _=>rfl) us hl
 have m2:=W.mg_of X G a2
 have b3:=F3.binds (ps:=["thing"]) fun _ _ _ _ _ _ us hl=>len1 (P:=fun us=>bindArgs _ ({ pos:=us }:Args)=pure (List.zip _ us)) (fun _=>rfl) us hl
 have m3:=W.mg_of X G a3
 have b4:=F4.binds (ps:=["thing"]) fun _ _ _ _ _ _ us hl=>len1 (P:=fun us=>bindArgs _ ({ pos:=us }:Args)=pure (List.zip _ us)) (fun _=>rfl) us hl
 have m4:=W.mg_of X G a4
 have b5:=F5.binds (ps:=["thing","many"]) fun _ _ _ _ _ _ us hl=>len2 (P:=fun us=>bindArgs _ ({ pos:=us }:Args)=pure (List.zip _ us)) (fun _ _=>rfl) us hl
 have m5:=W.mg_of X G a5
 have b6:=F6.binds (ps:=["thing","many"]) fun _ _ _ _ _ _ us hl=>len2 (P:=fun us=>bindArgs _ ({ pos:=us }:Args)=pure (List.zip _ us)) (fun _ _=>rfl) us hl
 have m6:=W.mg_of X G a6
 have b7:=F7.binds (ps:=["thing","many"]) fun _ _ _ _ _ _ us hl=>len2 (P:=fun us=>bindArgs _ ({ pos:=us }:Args)=pure (List.zip _ us)) (fun _ _=>rfl) us hl
 have m7:=W.mg_of X G a7
 have b8:=F8.binds (ps:=["thing"]) fun _ _ _ _ _ _ us hl=>len1 (P:=fun us=>bindArgs _ ({ pos:=us }:Args)=pure (List.zip _ us)) (fun _=>rfl) us hl
 have m8:=W.mg_of X G a8
 have b9:=F9.binds (ps:=["p","q"]) fun _ _ _ _ _ _ us hl=>len2 (P:=fun us=>bindArgs _ ({ pos:=us }:Args)=pure (List.zip _ us)) (fun _ _=>rfl) us hl
 have m9:=W.mg_of X G a9
 have b10:=F10.binds (ps:=["machine","rooms"]) fun _ _ _ _ _ _ us hl=>len2 (P:=fun us=>bindArgs _ ({ pos:=us }:Args)=pure (List.zip _ us)) (fun _ _=>rfl) us hl
 have m10:=W.mg_of X G a10
 have b11:=F11.binds (ps:=["machine","numbers"]) fun _ _ _ _ _ _ us hl=>len2 (P:=fun us=>bindArgs _ ({ pos:=us }:Args)=pure (List.zip _ us)) (fun _ _=>rfl) us hl
 have m11:=W.mg_of X G a11
 have b12:=F12.binds (ps:=["machine"]) fun _ _ _ _ _ _ us hl=>len1 (P:=fun us=>bindArgs _ ({ pos:=us }:Args)=pure (List.zip _ us)) (fun _=>rfl) us hl
 have m12:=W.mg_of X G a12
 have b13:=F13.binds (ps:=["machine","room","many"]) fun _ _ _ _ _ _ us hl=>len3 (P:=fun us=>bindArgs _ ({ pos:=us }:Args)=pure (List.zip _ us)) (fun _ _ _=>rfl) us hl
 have m13:=W.mg_of X G a13
 have b14:=F14.binds (ps:=["machine","many"]) fun _ _ _ _ _ _ us hl=>len2 (P:=fun us=>bindArgs _ ({ pos:=us }:Args)=pure (List.zip _ us)) (fun _ _=>rfl) us hl
 have m14:=W.mg_of X G a14
 have b15:=F15.binds (ps:=["machine","numbers","room","bit"]) fun _ _ _ _ _ _ us hl=>len4 (P:=fun us=>bindArgs _ ({ pos:=us }:Args)=pure (List.zip _ us)) (fun _ _ _ _=>rfl) us hl
 have m15:=W.mg_of X G a15
 have b16:=F16.binds (ps:=["machine","numbers"]) fun _ _ _ _ _ _ us hl=>len2 (P:=fun us=>bindArgs _ ({ pos:=us }:Args)=pure (List.zip _ us)) (fun _ _=>rfl) us hl
 have m16:=W.mg_of X G a16
 have b17:=F17.binds (ps:=["machine","numbers","many"]) fun _ _ _ _ _ _ us hl=>len3 (P:=fun us=>bindArgs _ ({ pos:=us }:Args)=pure (List.zip _ us)) (fun _ _ _=>rfl) us hl
 have m17:=W.mg_of X G a17
 have b18:=F18.binds (ps:=["machine","q"]) fun _ _ _ _ _ _ us hl=>len2 (P:=fun us=>bindArgs _ ({ pos:=us }:Args)=pure (List.zip _ us)) (fun _ _=>rfl) us hl
 have m18:=W.mg_of X G a18
 have b19:=F19.binds (ps:=["machine","p","q","limits"]) fun _ _ _ _ _ _ us hl=>len4 (P:=fun us=>bindArgs _ ({ pos:=us }:Args)=pure (List.zip _ us)) (fun _ _ _ _=>rfl) us hl
 have m19:=W.mg_of X G a19
 have b20:=F20.binds (ps:=["machine","p","q","most"]) fun _ _ _ _ _ _ us hl=>len4 (P:=fun us=>bindArgs _ ({ pos:=us }:Args)=pure (List.zip _ us)) (fun _ _ _ _=>rfl) us hl
 have m20:=W.mg_of X G a20
 have b21:=F21.binds (ps:=["machine","p","q","weights"]) fun _ _ _ _ _ _ us hl=>len4 (P:=fun us=>bindArgs _ ({ pos:=us }:Args)=pure (List.zip _ us)) (fun _ _ _ _=>rfl) us hl
 have m21:=W.mg_of X G a21
 have b22:=F22.binds (ps:=["counts","bits"]) fun _ _ _ _ _ _ us hl=>len2 (P:=fun us=>bindArgs _ ({ pos:=us }:Args)=pure (List.zip _ us)) (fun _ _=>rfl) us hl
 have m22:=W.mg_of X G a22
 have b23:=F23.binds (ps:=["machine","p","q","most"]) fun _ _ _ _ _ _ us hl=>len4 (P:=fun us=>bindArgs _ ({ pos:=us }:Args)=pure (List.zip _ us)) (fun _ _ _ _=>rfl) us hl
 have m23:=W.mg_of X G a23
 have b24:=F24.binds (ps:=["machine","p","q","m","counts"]) fun _ _ _ _ _ _ us hl=>len5 (P:=fun us=>bindArgs _ ({ pos:=us }:Args)=pure (List.zip _ us)) (fun _ _ _ _ _=>rfl) us hl
 have m24:=W.mg_of X G a24
 have b25:=F25.binds (ps:=["bounds"]) fun _ _ _ _ _ _ us hl=>len1 (P:=fun us=>bindArgs _ ({ pos:=us }:Args)=pure (List.zip _ us)) (fun _=>rfl) us hl
 have m25:=W.mg_of X G a25
 have b26:=F26.binds (ps:=["bounds","room","bit"]) fun _ _ _ _ _ _ us hl=>len3 (P:=fun us=>bindArgs _ ({ pos:=us }:Args)=pure (List.zip _ us)) (fun _ _ _=>rfl) us hl
 have m26:=W.mg_of X G a26
 have b27:=F27.binds (ps:=["bounds","rooms"]) fun _ _ _ _ _ _ us hl=>len2 (P:=fun us=>bindArgs _ ({ pos:=us }:Args)=pure (List.zip _ us)) (fun _ _=>rfl) us hl
 have m27:=W.mg_of X G a27
 have b28:=F28.binds (ps:=["bounds"]) fun _ _ _ _ _ _ us hl=>len1 (P:=fun us=>bindArgs _ ({ pos:=us }:Args)=pure (List.zip _ us)) (fun _=>rfl) us hl
 have m28:=W.mg_of X G a28
 have b29:=F29.binds (ps:=["_law_script","_law_k"]) fun _ _ _ _ _ _ us hl=>len2 (P:=fun us=>bindArgs _ ({ pos:=us }:Args)=pure (List.zip _ us)) (fun _ _=>rfl) us hl
 have m29:=W.mg_of X G a29
 have b30:=F30.binds (ps:=["_law_script","_law_k"]) fun _ _ _ _ _ _ us hl=>len2 (P:=fun us=>bindArgs _ ({ pos:=us }:Args)=pure (List.zip _ us)) (fun _ _=>rfl) us hl
 have m30:=W.mg_of X G a30
 have b31:=F31.binds (ps:=["_law_box_here","_law_many"]) fun _ _ _ _ _ _ us hl=>len2 (P:=fun us=>bindArgs _ ({ pos:=us }:Args)=pure (List.zip _ us)) (fun _ _=>rfl) us hl
 have m31:=W.mg_of X G a31
 have b32:=F32.binds (ps:=["_law_found","_law_due"]) fun _ _ _ _ _ _ us hl=>len2 (P:=fun us=>bindArgs _ ({ pos:=us }:Args)=pure (List.zip _ us)) (fun _ _=>rfl) us hl
 have m32:=W.mg_of X G a32
 have b33:=F33.binds (ps:=[]) fun _ _ _ _ _ _ us hl=>len0 (P:=fun us=>bindArgs _ ({ pos:=us }:Args)=pure (List.zip _ us)) (rfl) us hl
 have m33:=W.mg_of X G a33
 have b34:=F34.binds (ps:=[]) fun _ _ _ _ _ _ us hl=>len0 (P:=fun us=>bindArgs _ ({ pos:=us }:Args)=pure (List.zip _ us)) (rfl) us hl
 have m34:=W.mg_of X G a34
 have b35:=F35.binds (ps:=["_law_machine","_law_weights","_law_many"]) fun _ _ _ _ _ _ us hl=>len3 (P:=fun us=>bindArgs _ ({ pos:=us }:Args)=pure (List.zip _ us)) (fun _ _ _=>rfl) us hl
 have m35:=W.mg_of X G a35
 have b36:=F36.binds (ps:=["_law_box_here"]) fun _ _ _ _ _ _ us hl=>len1 (P:=fun us=>bindArgs _ ({ pos:=us }:Args)=pure (List.zip _ us)) (fun _=>rfl) us hl
 have m36:=W.mg_of X G a36
 have b37:=F37.binds (ps:=["_law_box_here"]) fun _ _ _ _ _ _ us hl=>len1 (P:=fun us=>bindArgs _ ({ pos:=us }:Args)=pure (List.zip _ us)) (fun _=>rfl) us hl
 have m37:=W.mg_of X G a37
 have m38:=W.mg_of X G a38
 have n1:=W.mg_none_of X G z1
 have n2:=W.mg_none_of X G z2
 have n3:=W.mg_none_of X G z3
 have n4:=W.mg_none_of X G z4
 have n5:=W.mg_none_of X G z5
 have n6:=W.mg_none_of X G z6
 have n7:=W.mg_none_of X G z7
 have n8:=W.mg_none_of X G z8
 have n9:=W.mg_none_of X G z9
 have n10:=W.mg_none_of X G z10
 have n11:=W.mg_none_of X G z11
 have n12:=W.mg_none_of X G z12
 have n13:=W.mg_none_of X G z13
 have n14:=W.mg_none_of X G z14
 have n15:=W.mg_none_of X G z15
 have n16:=W.mg_none_of X G z16
 have n17:=W.mg_none_of X G z17
 have n18:=W.mg_none_of X G z18
 have n19:=W.mg_none_of X G z19
 have n20:=W.mg_none_of X G z20
 refine⟨W.fnOf "law" "law" (defArgs (top 44)) (defBody (top 44)) (defScope (top 44)) .none kV38 dc38 pm38 an38 cd38 ct38,fun s v=>.of_eq rfl,fun base _ _=>?_⟩
 have O1:=code_ok0 (P:=l.prog) (w:=w) (mg:=mg) (base:=base) (k:=0) F1 { N:=n_p_is_number,B:=b_p_is_number,K:=K,fs:=fsOf [] } sc_isnum rfl c_p_is_number m_isnum (sp:=spIsNum) (by walk_at "o") (hfs_of mN) (mC ⟨n4,(mC ⟨n5,(mC ⟨n6,mN⟩)⟩)⟩) ⟨n1,n2,n3⟩ (show tld b_p_is_number=false by decide +kernel) (show hat b_p_is_number=false by decide +kernel) rfl rfl (body_isnum rfl  )
 have O2:=code_ok0 (P:=l.prog) (w:=w) (mg:=mg) (base:=base) (k:=1) F2 { N:=n_p_is_within,B:=b_p_is_within,K:=K,fs:=fsOf [("is_number",spIsNum)] } sc_within rfl c_p_is_within m_within (sp:=spWithinX) (by walk_at "o") (hfs_of (mC ⟨⟨_,_,_,(O1).mono (by omega),m1,F1.kp,b1⟩,mN⟩)) mN ⟨n1,n2,n3⟩ (show tld b_p_is_within=false by decide +kernel) (show hat b_p_is_within=false by decide +kernel) rfl rfl (body_withinX rfl (show fsOf _ "is_number"=some (spIsNum) from lookup_here) )
 have O3:=code_ok0 (P:=l.prog) (w:=w) (mg:=mg) (base:=base) (k:=0) F3 { N:=n_p_is_pair,B:=b_p_is_pair,K:=K,fs:=fsOf [] } sc_pair rfl c_p_is_pair m_pair (sp:=spPair) (by walk_at "o") (hfs_of mN) (mC ⟨n6,(mC ⟨n7,(mC ⟨n8,mN⟩)⟩)⟩) ⟨n1,n2,n3⟩ (show tld b_p_is_pair=false by decide +kernel) (show hat b_p_is_pair=false by decide +kernel) rfl rfl (body_pair rfl  )
 have O4:=code_ok0 (P:=l.prog) (w:=w) (mg:=mg) (base:=base) (k:=0) F4 { N:=n_p_is_listed,B:=b_p_is_listed,K:=K,fs:=fsOf [] } sc_listed rfl c_p_is_listed m_listed (sp:=spLsd) (by walk_at "o") (hfs_of mN) (mC ⟨n6,(mC ⟨n9,(mC ⟨n8,mN⟩)⟩)⟩) ⟨n1,n2,n3⟩ (show tld b_p_is_listed=false by decide +kernel) (show hat b_p_is_listed=false by decide +kernel) rfl rfl (body_lsd rfl  )
 have O5:=code_ok0 (P:=l.prog) (w:=w) (mg:=mg) (base:=base) (k:=1) F5 { N:=n_p_are_numbers,B:=b_p_are_numbers,K:=K,fs:=fsOf [("is_listed",spLsd),("is_number",spIsNum)] } sc_areN rfl c_p_are_numbers m_areN (sp:=spAreN) (by walk_at "o") (hfs_of (mC ⟨⟨_,_,_,(O4).mono (by omega),m4,F4.kp,b4⟩,(mC ⟨⟨_,_,_,(O1).mono (by omega),m1,F1.kp,b1⟩,mN⟩)⟩)) (mC ⟨n10,(mC ⟨n7,mN⟩)⟩) ⟨n1,n2,n3⟩ (show tld b_p_are_numbers=false by decide +kernel) (show hat b_p_are_numbers=false by decide +kernel) rfl rfl (body_areN rfl (show fsOf _ "is_listed"=some (spLsd) from lookup_here) (show fsOf _ "is_number"=some (spIsNum) from((lookup_skip (by decide +kernel)).trans lookup_here)) )
 have O6:=code_ok0 (P:=l.prog) (w:=w) (mg:=mg) (base:=base) (k:=2) F6 { N:=n_p_is_lead,B:=b_p_is_lead,K:=K,fs:=fsOf [("is_within",spWithinX)] } sc_lead rfl c_p_is_lead m_lead (sp:=spLead) (by walk_at "o") (hfs_of (mC ⟨⟨_,_,_,(O2).mono (by omega),m2,F2.kp,b2⟩,mN⟩)) mN ⟨n1,n2,n3⟩ (show tld b_p_is_lead=false by decide +kernel) (show hat b_p_is_lead=false by decide +kernel) rfl rfl (body_leadX rfl (show fsOf _ "is_within"=some (spWithinX) from lookup_here) )
 have O7:=code_ok0 (P:=l.prog) (w:=w) (mg:=mg) (base:=base) (k:=3) F7 { N:=n_p_is_room,B:=b_p_is_room,K:=K,fs:=fsOf [("is_pair",spPair),("is_lead",spLead)] } sc_room rfl c_p_is_room m_room (sp:=spRoom) (by walk_at "o") (hfs_of (mC ⟨⟨_,_,_,(O3).mono (by omega),m3,F3.kp,b3⟩,(mC ⟨⟨_,_,_,(O6).mono (by omega),m6,F6.kp,b6⟩,mN⟩)⟩)) mN ⟨n1,n2,n3⟩ (show tld b_p_is_room=false by decide +kernel) (show hat b_p_is_room=false by decide +kernel) rfl rfl (body_room rfl (show fsOf _ "is_pair"=some (spPair) from lookup_here) (show fsOf _ "is_lead"=some (spLead) from((lookup_skip (by decide +kernel)).trans lookup_here)) )
 have O8:=code_ok0 (P:=l.prog) (w:=w) (mg:=mg) (base:=base) (k:=4) F8 { N:=n_p_is_machine,B:=b_p_is_machine,K:=K,fs:=fsOf [("is_room",spRoom)] } sc_isM rfl c_p_is_machine m_isM (sp:=spIsM) (by walk_at "o") (hfs_of (mC ⟨⟨_,_,_,(O7).mono (by omega),m7,F7.kp,b7⟩,mN⟩)) (mC ⟨n10,(mC ⟨n6,(mC ⟨n7,(mC ⟨n8,mN⟩)⟩)⟩)⟩) ⟨n1,n2,n3⟩ (show tld b_p_is_machine=false by decide +kernel) (show hat b_p_is_machine=false by decide +kernel) rfl rfl (body_isM rfl (show fsOf _ "is_room"=some (spRoom) from lookup_here) )
 have O9:=code_ok0 (P:=l.prog) (w:=w) (mg:=mg) (base:=base) (k:=1) F9 { N:=n_p_are_sizes,B:=b_p_are_sizes,K:=K,fs:=fsOf [("is_number",spIsNum)] } sc_sizes rfl c_p_are_sizes m_sizes (sp:=spSizes) (by walk_at "o") (hfs_of (mC ⟨⟨_,_,_,(O1).mono (by omega),m1,F1.kp,b1⟩,mN⟩)) mN ⟨n1,n2,n3⟩ (show tld b_p_are_sizes=false by decide +kernel) (show hat b_p_are_sizes=false by decide +kernel) rfl rfl (body_sizes rfl (show fsOf _ "is_number"=some (spIsNum) from lookup_here) )
 have O10:=code_ok0 (P:=l.prog) (w:=w) (mg:=mg) (base:=base) (k:=0) F10 { N:=n_p_lasting,B:=b_p_lasting,K:=K,fs:=fsOf [] } sc_last rfl c_p_lasting m_last (sp:=spLast) (by walk_at "o") (hfs_of mN) (mC ⟨n11,mN⟩) ⟨n1,n2,n3⟩ (show tld b_p_lasting=false by decide +kernel) (show hat b_p_lasting=false by decide +kernel) rfl rfl (body_last rfl  )
 have O11:=code_ok0 (P:=l.prog) (w:=w) (mg:=mg) (base:=base) (k:=0) F11 { N:=n_p_part_of,B:=b_p_part_of,K:=K,fs:=fsOf [] } sc_part rfl c_p_part_of m_part (sp:=spPartX) (by walk_at "o") (hfs_of mN) (mC ⟨n12,(mC ⟨n8,mN⟩)⟩) ⟨n1,n2,n3⟩ (show tld b_p_part_of=false by decide +kernel) (show hat b_p_part_of=false by decide +kernel) rfl rfl (body_partX rfl  )
 have O12:=code_ok0 (P:=l.prog) (w:=w) (mg:=mg) (base:=base) (k:=1) F12 { N:=n_p_trimmed,B:=b_p_trimmed,K:=K,fs:=fsOf [("lasting",spLast),("part_of",spPartX)] } sc_trim rfl c_p_trimmed m_trim (sp:=spTrimX) (by walk_at "o") (hfs_of (mC ⟨⟨_,_,_,(O10).mono (by omega),m10,F10.kp,b10⟩,(mC ⟨⟨_,_,_,(O11).mono (by omega),m11,F11.kp,b11⟩,mN⟩)⟩)) (mC ⟨n7,(mC ⟨n9,(mC ⟨n13,mN⟩)⟩)⟩) ⟨n1,n2,n3⟩ (show tld b_p_trimmed=false by decide +kernel) (show hat b_p_trimmed=false by decide +kernel) rfl rfl (body_trimX rfl (show fsOf _ "lasting"=some (spLast) from lookup_here) (show fsOf _ "part_of"=some (spPartX) from((lookup_skip (by decide +kernel)).trans lookup_here)) )
 have O13:=code_ok0 (P:=l.prog) (w:=w) (mg:=mg) (base:=base) (k:=0) F13 { N:=n_p_walks_from,B:=b_p_walks_from,K:=K,fs:=fsOf [] } sc_wf rfl c_p_walks_from m_wf (sp:=spWF) (by walk_at "o") (hfs_of mN) (mC ⟨n5,(mC ⟨n13,mN⟩)⟩) ⟨n1,n2,n3⟩ (show tld b_p_walks_from=false by decide +kernel) (show hat b_p_walks_from=false by decide +kernel) rfl rfl (body_wf rfl  )
 have O14:=code_ok0 (P:=l.prog) (w:=w) (mg:=mg) (base:=base) (k:=1) F14 { N:=n_p_powered,B:=b_p_powered,K:=K,fs:=fsOf [("walks_from",spWF)] } sc_pw rfl c_p_powered m_pw (sp:=spPw) (by walk_at "o") (hfs_of (mC ⟨⟨_,_,_,(O13).mono (by omega),m13,F13.kp,b13⟩,mN⟩)) (mC ⟨n7,(mC ⟨n13,mN⟩)⟩) ⟨n1,n2,n3⟩ (show tld b_p_powered=false by decide +kernel) (show hat b_p_powered=false by decide +kernel) rfl rfl (body_pw rfl (show fsOf _ "walks_from"=some (spWF) from lookup_here) )
 have O15:=code_ok0 (P:=l.prog) (w:=w) (mg:=mg) (base:=base) (k:=0) F15 { N:=n_p_behind_bit,B:=b_p_behind_bit,K:=K,fs:=fsOf [] } sc_behind rfl c_p_behind_bit m_behind (sp:=spBehind K) (by walk_at "o") (hfs_of mN) (mC ⟨n5,mN⟩) ⟨n1,n2,n3⟩ (show tld b_p_behind_bit=false by decide +kernel) (show hat b_p_behind_bit=false by decide +kernel) rfl rfl (body_behind (C:={ N:=n_p_behind_bit,B:=b_p_behind_bit,K:=K,fs:=fsOf [] }) rfl  )
 have O16:=code_ok0 (P:=l.prog) (w:=w) (mg:=mg) (base:=base) (k:=1) F16 { N:=n_p_way_sums,B:=b_p_way_sums,K:=K,fs:=fsOf [("behind_bit",spBehind K)] } sc_waysums rfl c_p_way_sums m_waysums (sp:=spWaySums K) (by walk_at "o") (hfs_of (mC ⟨⟨_,_,_,(O15).mono (by omega),m15,F15.kp,b15⟩,mN⟩)) (mC ⟨n7,(mC ⟨n13,mN⟩)⟩) ⟨n1,n2,n3⟩ (show tld b_p_way_sums=false by decide +kernel) (show hat b_p_way_sums=false by decide +kernel) rfl rfl (body_way_sums (C:={ N:=n_p_way_sums,B:=b_p_way_sums,K:=K,fs:=fsOf [("behind_bit",spBehind K)] }) rfl (show fsOf _ "behind_bit"=some (spBehind K) from lookup_here) )
 have O17:=code_ok0 (P:=l.prog) (w:=w) (mg:=mg) (base:=base) (k:=2) F17 { N:=n_p_walk_sums,B:=b_p_walk_sums,K:=K,fs:=fsOf [("way_sums",spWaySums K)] } sc_walk rfl c_p_walk_sums m_walk (sp:=spWalkG) (by walk_at "o") (hfs_of (mC ⟨⟨_,_,_,(O16).mono (by omega),m16,F16.kp,b16⟩,mN⟩)) (mC ⟨n9,(mC ⟨n13,mN⟩)⟩) ⟨n1,n2,n3⟩ (show tld b_p_walk_sums=false by decide +kernel) (show hat b_p_walk_sums=false by decide +kernel) rfl rfl (body_walkG rfl (show fsOf _ "way_sums"=some (spWaySums K) from lookup_here) )
 have O18:=code_ok0 (P:=l.prog) (w:=w) (mg:=mg) (base:=base) (k:=2) F18 { N:=n_p_walks_to,B:=b_p_walks_to,K:=K,fs:=fsOf [("powered",spPw)] } sc_wt rfl c_p_walks_to m_wt (sp:=spWT) (by walk_at "o") (hfs_of (mC ⟨⟨_,_,_,(O14).mono (by omega),m14,F14.kp,b14⟩,mN⟩)) (mC ⟨n12,mN⟩) ⟨n1,n2,n3⟩ (show tld b_p_walks_to=false by decide +kernel) (show hat b_p_walks_to=false by decide +kernel) rfl rfl (body_wt rfl (show fsOf _ "powered"=some (spPw) from lookup_here) )
 have O19:=code_ok0 (P:=l.prog) (w:=w) (mg:=mg) (base:=base) (k:=3) F19 { N:=n_p_greatest_within,B:=b_p_greatest_within,K:=K,fs:=fsOf [("walk_sums",spWalkG),("walks_to",spWT)] } sc_gw rfl c_p_greatest_within m_gw (sp:=spGW) (by walk_at "o") (hfs_of (mC ⟨⟨_,_,_,(O17).mono (by omega),m17,F17.kp,b17⟩,(mC ⟨⟨_,_,_,(O18).mono (by omega),m18,F18.kp,b18⟩,mN⟩)⟩)) (mC ⟨n7,(mC ⟨n9,(mC ⟨n13,mN⟩)⟩)⟩) ⟨n1,n2,n3⟩ (show tld b_p_greatest_within=false by decide +kernel) (show hat b_p_greatest_within=false by decide +kernel) rfl rfl (body_gw rfl (show fsOf _ "walk_sums"=some (spWalkG) from lookup_here) (show fsOf _ "walks_to"=some (spWT) from((lookup_skip (by decide +kernel)).trans lookup_here)) )
 have O20:=code_ok0 (P:=l.prog) (w:=w) (mg:=mg) (base:=base) (k:=4) F20 { N:=n_p_enough,B:=b_p_enough,K:=K,fs:=fsOf [("greatest_within",spGW)] } sc_en rfl c_p_enough m_en (sp:=spEn) (by walk_at "o") (hfs_of (mC ⟨⟨_,_,_,(O19).mono (by omega),m19,F19.kp,b19⟩,mN⟩)) (mC ⟨n14,mN⟩) ⟨n1,n2,n3⟩ (show tld b_p_enough=false by decide +kernel) (show hat b_p_enough=false by decide +kernel) rfl rfl (body_en rfl (show fsOf _ "greatest_within"=some (spGW) from lookup_here) )
 have O21:=code_ok0 (P:=l.prog) (w:=w) (mg:=mg) (base:=base) (k:=5) F21 { N:=n_p_shows_enough,B:=b_p_shows_enough,K:=K,fs:=fsOf [("is_machine",spIsM),("are_sizes",spSizes),("are_numbers",spAreN),("walk_sums",spWalkG)] } sc_se rfl c_p_shows_enough m_se (sp:=spSE) (by walk_at "o") (hfs_of (mC ⟨⟨_,_,_,(O8).mono (by omega),m8,F8.kp,b8⟩,(mC ⟨⟨_,_,_,(O9).mono (by omega),m9,F9.kp,b9⟩,(mC ⟨⟨_,_,_,(O5).mono (by omega),m5,F5.kp,b5⟩,(mC ⟨⟨_,_,_,(O17).mono (by omega),m17,F17.kp,b17⟩,mN⟩)⟩)⟩)⟩)) (mC ⟨n10,(mC ⟨n14,(mC ⟨n7,(mC ⟨n15,(mC ⟨n16,mN⟩)⟩)⟩)⟩)⟩) ⟨n1,n2,n3⟩ (show tld b_p_shows_enough=false by decide +kernel) (show hat b_p_shows_enough=false by decide +kernel) rfl rfl (body_se rfl ⟨(show fsOf _ "is_machine"=some (spIsM) from lookup_here),(show fsOf _ "are_sizes"=some (spSizes) from((lookup_skip (by decide +kernel)).trans lookup_here)),(show fsOf _ "are_numbers"=some (spAreN) from((lookup_skip (by decide +kernel)).trans ((lookup_skip (by decide +kernel)).trans lookup_here))),(show fsOf _ "walk_sums"=some (spWalkG) from((lookup_skip (by decide +kernel)).trans ((lookup_skip (by decide +kernel)).trans ((lookup_skip (by decide +kernel)).trans lookup_here))))⟩ )
 have O22:=code_ok0 (P:=l.prog) (w:=w) (mg:=mg) (base:=base) (k:=0) F22 { N:=n_p_are_below,B:=b_p_are_below,K:=K,fs:=fsOf [] } sc_below rfl c_p_are_below m_below (sp:=spBelow) (by walk_at "o") (hfs_of mN) (mC ⟨n10,mN⟩) ⟨n1,n2,n3⟩ (show tld b_p_are_below=false by decide +kernel) (show hat b_p_are_below=false by decide +kernel) rfl rfl (body_below rfl  )
 have O23:=code_ok0 (P:=l.prog) (w:=w) (mg:=mg) (base:=base) (k:=3) F23 { N:=n_p_too_little,B:=b_p_too_little,K:=K,fs:=fsOf [("walk_sums",spWalkG),("are_below",spBelow)] } sc_tl rfl c_p_too_little m_tl (sp:=spTL) (by walk_at "o") (hfs_of (mC ⟨⟨_,_,_,(O17).mono (by omega),m17,F17.kp,b17⟩,(mC ⟨⟨_,_,_,(O22).mono (by omega),m22,F22.kp,b22⟩,mN⟩)⟩)) (mC ⟨n13,mN⟩) ⟨n1,n2,n3⟩ (show tld b_p_too_little=false by decide +kernel) (show hat b_p_too_little=false by decide +kernel) rfl rfl (body_tlG rfl (show fsOf _ "walk_sums"=some (spWalkG) from lookup_here) (show fsOf _ "are_below"=some (spBelow) from((lookup_skip (by decide +kernel)).trans lookup_here)) )
 have O24:=code_ok0 (P:=l.prog) (w:=w) (mg:=mg) (base:=base) (k:=5) F24 { N:=n_p_shows_too_little,B:=b_p_shows_too_little,K:=K,fs:=fsOf [("is_machine",spIsM),("are_sizes",spSizes),("is_within",spWithinX),("are_numbers",spAreN),("walk_sums",spWalkG),("are_below",spBelow)] } sc_shows rfl c_p_shows_too_little m_shows (sp:=spShowX) (by walk_at "o") (hfs_of (mC ⟨⟨_,_,_,(O8).mono (by omega),m8,F8.kp,b8⟩,(mC ⟨⟨_,_,_,(O9).mono (by omega),m9,F9.kp,b9⟩,(mC ⟨⟨_,_,_,(O2).mono (by omega),m2,F2.kp,b2⟩,(mC ⟨⟨_,_,_,(O5).mono (by omega),m5,F5.kp,b5⟩,(mC ⟨⟨_,_,_,(O17).mono (by omega),m17,F17.kp,b17⟩,(mC ⟨⟨_,_,_,(O22).mono (by omega),m22,F22.kp,b22⟩,mN⟩)⟩)⟩)⟩)⟩)⟩)) (mC ⟨n7,(mC ⟨n9,mN⟩)⟩) ⟨n1,n2,n3⟩ (show tld b_p_shows_too_little=false by decide +kernel) (show hat b_p_shows_too_little=false by decide +kernel) rfl rfl (body_showX (C:={ N:=n_p_shows_too_little,B:=b_p_shows_too_little,K:=K,fs:=fsOf [("is_machine",spIsM),("are_sizes",spSizes),("is_within",spWithinX),("are_numbers",spAreN),("walk_sums",spWalkG),("are_below",spBelow)] }) rfl ⟨(show fsOf _ "is_machine"=some (spIsM) from lookup_here),(show fsOf _ "are_sizes"=some (spSizes) from((lookup_skip (by decide +kernel)).trans lookup_here)),(show fsOf _ "is_within"=some (spWithinX) from((lookup_skip (by decide +kernel)).trans ((lookup_skip (by decide +kernel)).trans lookup_here))),(show fsOf _ "are_numbers"=some (spAreN) from((lookup_skip (by decide +kernel)).trans ((lookup_skip (by decide +kernel)).trans ((lookup_skip (by decide +kernel)).trans lookup_here)))),(show fsOf _ "walk_sums"=some (spWalkG) from((lookup_skip (by decide +kernel)).trans ((lookup_skip (by decide +kernel)).trans ((lookup_skip (by decide +kernel)).trans ((lookup_skip (by decide +kernel)).trans lookup_here))))),(show fsOf _ "are_below"=some (spBelow) from((lookup_skip (by decide +kernel)).trans ((lookup_skip (by decide +kernel)).trans ((lookup_skip (by decide +kernel)).trans ((lookup_skip (by decide +kernel)).trans ((lookup_skip (by decide +kernel)).trans lookup_here))))))⟩ ⟨_,gc1⟩)
 have O25:=code_ok0 (P:=l.prog) (w:=w) (mg:=mg) (base:=base) (k:=0) F25 { N:=n_p_rooms_in_bounds,B:=b_p_rooms_in_bounds,K:=K,fs:=fsOf [] } sc_rin rfl c_p_rooms_in_bounds m_rin (sp:=spRIn) (by walk_at "o") (hfs_of mN) (mC ⟨n9,(mC ⟨n13,mN⟩)⟩) ⟨n1,n2,n3⟩ (show tld b_p_rooms_in_bounds=false by decide +kernel) (show hat b_p_rooms_in_bounds=false by decide +kernel) rfl rfl (body_rin rfl  )
 have O26:=code_ok0 (P:=l.prog) (w:=w) (mg:=mg) (base:=base) (k:=0) F26 { N:=n_p_room_behind,B:=b_p_room_behind,K:=K,fs:=fsOf [] } sc_rb rfl c_p_room_behind m_rb (sp:=spRBx) (by walk_at "o") (hfs_of mN) mN ⟨n1,n2,n3⟩ (show tld b_p_room_behind=false by decide +kernel) (show hat b_p_room_behind=false by decide +kernel) rfl rfl (body_rbx rfl  )
 have O27:=code_ok0 (P:=l.prog) (w:=w) (mg:=mg) (base:=base) (k:=1) F27 { N:=n_p_machine_in_bounds,B:=b_p_machine_in_bounds,K:=K,fs:=fsOf [("room_behind",spRBx)] } sc_min rfl c_p_machine_in_bounds m_min (sp:=spMInx) (by walk_at "o") (hfs_of (mC ⟨⟨_,_,_,(O26).mono (by omega),m26,F26.kp,b26⟩,mN⟩)) (mC ⟨n12,(mC ⟨n8,mN⟩)⟩) ⟨n1,n2,n3⟩ (show tld b_p_machine_in_bounds=false by decide +kernel) (show hat b_p_machine_in_bounds=false by decide +kernel) rfl rfl (body_minx rfl (show fsOf _ "room_behind"=some (spRBx) from lookup_here) )
 have O28:=code_ok0 (P:=l.prog) (w:=w) (mg:=mg) (base:=base) (k:=2) F28 { N:=n_p_machine_of,B:=b_p_machine_of,K:=K,fs:=fsOf [("trimmed",spTrimX),("machine_in_bounds",spMInx),("rooms_in_bounds",spRIn)] } sc_mof rfl c_p_machine_of m_mof (sp:=spMOfO) (by walk_at "o") (hfs_of (mC ⟨⟨_,_,_,(O12).mono (by omega),m12,F12.kp,b12⟩,(mC ⟨⟨_,_,_,(O27).mono (by omega),m27,F27.kp,b27⟩,(mC ⟨⟨_,_,_,(O25).mono (by omega),m25,F25.kp,b25⟩,mN⟩)⟩)⟩)) mN ⟨n1,n2,n3⟩ (show tld b_p_machine_of=false by decide +kernel) (show hat b_p_machine_of=false by decide +kernel) rfl rfl (body_mofO rfl (show fsOf _ "trimmed"=some (spTrimX) from lookup_here) (show fsOf _ "machine_in_bounds"=some (spMInx) from((lookup_skip (by decide +kernel)).trans lookup_here)) (show fsOf _ "rooms_in_bounds"=some (spRIn) from((lookup_skip (by decide +kernel)).trans ((lookup_skip (by decide +kernel)).trans lookup_here))) )
 have O29:=code_ok0 (P:=l.prog) (w:=w) (mg:=mg) (base:=base) (k:=0) F29 { N:=n_cell_at,B:=b_cell_at,K:=K,fs:=fsOf [] } sc_cell rfl c_cell_at m_cell (sp:=spCell K) (by walk_at "o") (hfs_of mN) (mC ⟨n7,mN⟩) ⟨n1,n2,n3⟩ (show tld b_cell_at=false by decide +kernel) (show hat b_cell_at=false by decide +kernel) rfl rfl (body_cell (C:={ N:=n_cell_at,B:=b_cell_at,K:=K,fs:=fsOf [] }) rfl  )
 have O30:=box_fn (code_ok0 (P:=l.prog) (w:=w) (mg:=mg) (base:=base) (k:=1) F30 { N:=n_box,B:=b_box,K:=K,fs:=fsOf [("_law_cell_at",spCell K)] } sc_box rfl c_box m_box (sp:=spBox0 K) (by walk_at "o") (hfs_of (mC ⟨⟨_,_,_,(O29).mono (by omega),m29,F29.kp,b29⟩,mN⟩)) (mC ⟨n17,(mC ⟨n5,mN⟩)⟩) ⟨n1,n2,n3⟩ (show tld b_box=false by decide +kernel) (show hat b_box=false by decide +kernel) rfl rfl (body_box (C:={ N:=n_box,B:=b_box,K:=K,fs:=fsOf [("_law_cell_at",spCell K)] }) rfl (show fsOf _ "_law_cell_at"=some (spCell K) from lookup_here) ))
 have O31:=take_fn rfl (code_ok0 (P:=l.prog) (w:=w) (mg:=mg) (base:=base) (k:=0) F31 { N:=n_take,B:=b_take,K:=K,fs:=fsOf [] } sc_take rfl c_take m_take (sp:=spTake0) (by walk_at "o") (hfs_of mN) mN ⟨n1,n2,n3⟩ (show tld b_take=false by decide +kernel) (show hat b_take=false by decide +kernel) rfl rfl (body_take rfl  ))
 have O32:∀n,FnOk l.prog w K mg base CX0 (n+0+1) f32 (W.fnOf "_law_same" "_law_same" (defArgs (top 38)) (defBody (top 38)) (defScope (top 38)) .none kV32 dc32 pm32 an32 cd32 ct32) ["_law_found","_law_due"] (spSame n):=by
  intro n
  induction n with
  |zero=>exact code_ok0 (P:=l.prog) (w:=w) (mg:=mg) (base:=base) (k:=0+0) F32 { N:=n_same,B:=b_same,K:=K,fs:=fsOf [] } sc_same rfl c_same m_same (by walk_at "o") (hfs_of mN) (mC ⟨n10,(mC ⟨n4,(mC ⟨n5,(mC ⟨n6,(mC ⟨n7,(mC ⟨n9,(mC ⟨n18,(mC ⟨n8,(mC ⟨n16,mN⟩)⟩)⟩)⟩)⟩)⟩)⟩)⟩)⟩) ⟨n1,n2,n3⟩ (show tld b_same=false by decide +kernel) (show hat b_same=false by decide +kernel) rfl rfl (body_same (C:={ N:=n_same,B:=b_same,K:=K,fs:=fsOf [] }) rfl (fun m h=>absurd h (by omega)) )
  |succ m ih=>exact code_ok0 (P:=l.prog) (w:=w) (mg:=mg) (base:=base) (k:=m+0+1) F32 { N:=n_same,B:=b_same,K:=K,fs:=fsOf [("_law_same",spSame m)] } sc_same rfl c_same m_same (by walk_at "o") (hfs_of (mC ⟨⟨_,_,_,(ih).mono (by omega),m32,F32.kp,b32⟩,mN⟩)) (mC ⟨n10,(mC ⟨n4,(mC ⟨n5,(mC ⟨n6,(mC ⟨n7,(mC ⟨n9,(mC ⟨n18,(mC ⟨n8,(mC ⟨n16,mN⟩)⟩)⟩)⟩)⟩)⟩)⟩)⟩)⟩) ⟨n1,n2,n3⟩ (show tld b_same=false by decide +kernel) (show hat b_same=false by decide +kernel) rfl rfl (body_same (C:={ N:=n_same,B:=b_same,K:=K,fs:=fsOf [("_law_same",spSame m)] }) rfl (fun m h=>by cases h;exact(show fsOf _ "_law_same"=some (spSame m) from lookup_here)) )
 have O33:=code_ok0 (P:=l.prog) (w:=w) (mg:=mg) (base:=base) (k:=0) F33 { N:=n_good,B:=b_good,K:=K,fs:=fsOf [] } sc_good rfl c_good m_good (sp:=spGood) (by walk_at "o") (hfs_of mN) mN ⟨n1,n2,n3⟩ (show tld b_good=false by decide +kernel) (show hat b_good=false by decide +kernel) rfl rfl (body_good rfl  )
 have O34:=code_ok0 (P:=l.prog) (w:=w) (mg:=mg) (base:=base) (k:=0) F34 { N:=n_bad,B:=b_bad,K:=K,fs:=fsOf [] } sc_bad rfl c_bad m_bad (sp:=spBad) (by walk_at "o") (hfs_of mN) mN ⟨n1,n2,n3⟩ (show tld b_bad=false by decide +kernel) (show hat b_bad=false by decide +kernel) rfl rfl (body_bad rfl  )
 have O35:=code_ok0 (P:=l.prog) (w:=w) (mg:=mg) (base:=base) (k:=0) F35 { N:=n_sums,B:=b_sums,K:=K,fs:=fsOf [] } sc_sums rfl c_sums m_sums (sp:=spSums) (by walk_at "o") (hfs_of mN) (mC ⟨n9,(mC ⟨n13,(mC ⟨n19,mN⟩)⟩)⟩) ⟨n1,n2,n3⟩ (show tld b_sums=false by decide +kernel) (show hat b_sums=false by decide +kernel) rfl rfl (body_sums rfl  )
 have O36:=code_ok0 (P:=l.prog) (w:=w) (mg:=mg) (base:=base) (k:=6) F36 { N:=n_good_right,B:=b_good_right,K:=K,fs:=fsOf [("_law_good",spGood),("_law_take",spTake),("machine_of",spMOfO),("enough",spEn),("shows_enough",spSE),("_law_sums",spSums),("too_little",spTL)] } sc_GR rfl c_good_right m_GR (sp:=spGR) (by walk_at "o") (hfs_of (mC ⟨⟨_,_,_,(O33).mono (by omega),m33,F33.kp,b33⟩,(mC ⟨⟨_,_,_,(O31).mono (by omega),m31,F31.kp,b31⟩,(mC ⟨⟨_,_,_,(O28).mono (by omega),m28,F28.kp,b28⟩,(mC ⟨⟨_,_,_,(O20).mono (by omega),m20,F20.kp,b20⟩,(mC ⟨⟨_,_,_,(O21).mono (by omega),m21,F21.kp,b21⟩,(mC ⟨⟨_,_,_,(O35).mono (by omega),m35,F35.kp,b35⟩,(mC ⟨⟨_,_,_,(O23).mono (by omega),m23,F23.kp,b23⟩,mN⟩)⟩)⟩)⟩)⟩)⟩)⟩)) (mC ⟨n16,mN⟩) ⟨n1,n2,n3⟩ (show tld b_good_right=false by decide +kernel) (show hat b_good_right=false by decide +kernel) rfl rfl (body_GR rfl ⟨(show fsOf _ "_law_good"=some (spGood) from lookup_here),(show fsOf _ "_law_take"=some (spTake) from((lookup_skip (by decide +kernel)).trans lookup_here)),(show fsOf _ "machine_of"=some (spMOfO) from((lookup_skip (by decide +kernel)).trans ((lookup_skip (by decide +kernel)).trans lookup_here))),(show fsOf _ "enough"=some (spEn) from((lookup_skip (by decide +kernel)).trans ((lookup_skip (by decide +kernel)).trans ((lookup_skip (by decide +kernel)).trans lookup_here)))),(show fsOf _ "shows_enough"=some (spSE) from((lookup_skip (by decide +kernel)).trans ((lookup_skip (by decide +kernel)).trans ((lookup_skip (by decide +kernel)).trans ((lookup_skip (by decide +kernel)).trans lookup_here))))),(show fsOf _ "_law_sums"=some (spSums) from((lookup_skip (by decide +kernel)).trans ((lookup_skip (by decide +kernel)).trans ((lookup_skip (by decide +kernel)).trans ((lookup_skip (by decide +kernel)).trans ((lookup_skip (by decide +kernel)).trans lookup_here)))))),(show fsOf _ "too_little"=some (spTL) from((lookup_skip (by decide +kernel)).trans ((lookup_skip (by decide +kernel)).trans ((lookup_skip (by decide +kernel)).trans ((lookup_skip (by decide +kernel)).trans ((lookup_skip (by decide +kernel)).trans ((lookup_skip (by decide +kernel)).trans lookup_here)))))))⟩ )
 have O37:=code_ok0 (P:=l.prog) (w:=w) (mg:=mg) (base:=base) (k:=6) F37 { N:=n_bad_right,B:=b_bad_right,K:=K,fs:=fsOf [("_law_bad",spBad),("_law_take",spTake),("machine_of",spMOfO),("enough",spEn),("_law_sums",spSums),("_law_same",spSame 2),("too_little",spTL),("shows_too_little",spShowX)] } sc_BR rfl c_bad_right m_BR (sp:=spGR) (by walk_at "o") (hfs_of (mC ⟨⟨_,_,_,(O34).mono (by omega),m34,F34.kp,b34⟩,(mC ⟨⟨_,_,_,(O31).mono (by omega),m31,F31.kp,b31⟩,(mC ⟨⟨_,_,_,(O28).mono (by omega),m28,F28.kp,b28⟩,(mC ⟨⟨_,_,_,(O20).mono (by omega),m20,F20.kp,b20⟩,(mC ⟨⟨_,_,_,(O35).mono (by omega),m35,F35.kp,b35⟩,(mC ⟨⟨_,_,_,(O32 2).mono (by omega),m32,F32.kp,b32⟩,(mC ⟨⟨_,_,_,(O23).mono (by omega),m23,F23.kp,b23⟩,(mC ⟨⟨_,_,_,(O24).mono (by omega),m24,F24.kp,b24⟩,mN⟩)⟩)⟩)⟩)⟩)⟩)⟩)⟩)) (mC ⟨n7,(mC ⟨n20,mN⟩)⟩) ⟨n1,n2,n3⟩ (show tld b_bad_right=false by decide +kernel) (show hat b_bad_right=false by decide +kernel) rfl rfl (body_BR rfl ⟨(show fsOf _ "_law_bad"=some (spBad) from lookup_here),(show fsOf _ "_law_take"=some (spTake) from((lookup_skip (by decide +kernel)).trans lookup_here)),(show fsOf _ "machine_of"=some (spMOfO) from((lookup_skip (by decide +kernel)).trans ((lookup_skip (by decide +kernel)).trans lookup_here))),(show fsOf _ "enough"=some (spEn) from((lookup_skip (by decide +kernel)).trans ((lookup_skip (by decide +kernel)).trans ((lookup_skip (by decide +kernel)).trans lookup_here)))),(show fsOf _ "_law_sums"=some (spSums) from((lookup_skip (by decide +kernel)).trans ((lookup_skip (by decide +kernel)).trans ((lookup_skip (by decide +kernel)).trans ((lookup_skip (by decide +kernel)).trans lookup_here))))),(show fsOf _ "_law_same"=some (spSame 2) from((lookup_skip (by decide +kernel)).trans ((lookup_skip (by decide +kernel)).trans ((lookup_skip (by decide +kernel)).trans ((lookup_skip (by decide +kernel)).trans ((lookup_skip (by decide +kernel)).trans lookup_here)))))),(show fsOf _ "too_little"=some (spTL) from((lookup_skip (by decide +kernel)).trans ((lookup_skip (by decide +kernel)).trans ((lookup_skip (by decide +kernel)).trans ((lookup_skip (by decide +kernel)).trans ((lookup_skip (by decide +kernel)).trans ((lookup_skip (by decide +kernel)).trans lookup_here))))))),(show fsOf _ "shows_too_little"=some (spShowX) from((lookup_skip (by decide +kernel)).trans ((lookup_skip (by decide +kernel)).trans ((lookup_skip (by decide +kernel)).trans ((lookup_skip (by decide +kernel)).trans ((lookup_skip (by decide +kernel)).trans ((lookup_skip (by decide +kernel)).trans ((lookup_skip (by decide +kernel)).trans lookup_here))))))))⟩ )
 exact code_ok0 (P:=l.prog) (w:=w) (mg:=mg) (base:=base) (k:=59) F38 { N:=n_law,B:=b_law,K:=K,fs:=fsOf [("_law_box",spBox K),("_law_good_right",spGR),("_law_bad_right",spGR)] } sc_law rfl c_law m_law (sp:=spLaw K) (by walk_at "o") (hfs_of (mC ⟨⟨_,_,_,(O30).mono (by omega),m30,F30.kp,b30⟩,(mC ⟨⟨_,_,_,(O36).mono (by omega),m36,F36.kp,b36⟩,(mC ⟨⟨_,_,_,(O37).mono (by omega),m37,F37.kp,b37⟩,mN⟩)⟩)⟩)) (mC ⟨n7,(mC ⟨n15,(mC ⟨n13,mN⟩)⟩)⟩) ⟨n1,n2,n3⟩ (show tld b_law=false by decide +kernel) (show hat b_law=false by decide +kernel) rfl rfl (body_law (C:={ N:=n_law,B:=b_law,K:=K,fs:=fsOf [("_law_box",spBox K),("_law_good_right",spGR),("_law_bad_right",spGR)] }) rfl (show fsOf _ "_law_box"=some (spBox K) from lookup_here) (show fsOf _ "_law_good_right"=some (spGR) from((lookup_skip (by decide +kernel)).trans lookup_here)) (show fsOf _ "_law_bad_right"=some (spGR) from((lookup_skip (by decide +kernel)).trans ((lookup_skip (by decide +kernel)).trans lookup_here))) )
theorem walk {l:W.OpenLaw} {q:Program} {loose:List Str} {XP:(Str->Option Value)->Heap->Prop} {d:DefRec} {K:Params->W.Frag} {bs:List Addr} {m t:Nat} (hn:l.most=some 63) (hdf:d.params.defaults=[]) (e:∀P,bs=(K P).map (·.1))
  (F:∀(w:World) (mg:Str->Option Value) (fa:Addr) (h:Heap),(K w.params).In h->h.Ns mainGlobals mg->mg d.name=some (.ref fa)->
   ∃fd:FuncData,(∀(s:Shared) (u:Value),BindsTo s fd ⟨[u],[]⟩ [("_law_script",u)])/\∀base:Heap,(K w.params).In base->base.Ns mainGlobals mg->FnOk l.prog w (K w.params) mg base CX0 60 fa fd ["_law_script"] (spLaw (K w.params))):
  W.WalkX q loose XP (W.X.obsZ bs) (W.X.valZ K m t) l.row.toRowW d [] (fun f vs=>PySem.call f vs):=
 fun w s₀ s₁ mg mb G y a o pm cd doc dV kV h1 h2 h3 h4 h5 h6 args vals cs La=>L2.walk_of (YP:=fun w h=>(K w.params).In h) (n:=63) (k:=60) (x:="_law_script") (CX:=fun _=>CX0) (sp:=fun w=>spLaw (K w.params)) hn (by decide) hdf ⟨rfl,by decide,by decide,rfl⟩ (fun _ _ Y=>Y) F (fun _ _ a ns hl _ hS=>⟨a,ns,rfl,hS,hl,fun _=>rfl⟩) (fun _ _ _ _ _ z=>z) w s₀ s₁ mg mb G (W.InK.keeps w _ _ (W.X.z_facts e y).2.1 La.keeps) a o pm cd doc dV kV h1 h2 h3 h4 h5 h6 args vals cs
end K71
end
open PySem PySem.W PyProof.Rows
noncomputable def PySem.W.Fast.tw12430371088249127087 : PySem.Program := PySem.Challenge.pw_runbound_k71_whole_known_codes
theorem PySem.W.Fast.te12430371088249127087 : PySem.Challenge.pw_runbound_k71_whole_known_codes = PySem.W.Fast.tw12430371088249127087 := rfl
set_option maxRecDepth 100000 in
set_option maxHeartbeats 0 in
theorem PySem.Challenge.cw_runbound_k71_whole_known_codes_holds : PySem.Challenge.rw_runbound_k71_whole_known_codes.Holds := by
 w_on; o_law; z_head; (case hw => w_witness2)
 k_fill
 refine K71.walk (l := PySem.Challenge.rw_runbound_k71_whole_known_codes) rfl rfl (fun _ => rfl) ?F
 case F =>
  intro w mg fa h KX G hmg
  refine' K71.all_mk KX G hmg (K71.fnd_mk ?a1 ?l1 ?c1 ?k1) (K71.fnd_mk ?a2 ?l2 ?c2 ?k2) (K71.fnd_mk ?a3 ?l3 ?c3 ?k3) (K71.fnd_mk ?a4 ?l4 ?c4 ?k4) (K71.fnd_mk ?a5 ?l5 ?c5 ?k5) (K71.fnd_mk ?a6 ?l6 ?c6 ?k6) (K71.fnd_mk ?a7 ?l7 ?c7 ?k7) (K71.fnd_mk ?a8 ?l8 ?c8 ?k8) (K71.fnd_mk ?a9 ?l9 ?c9 ?k9) (K71.fnd_mk ?a10 ?l10 ?c10 ?k10) (K71.fnd_mk ?a11 ?l11 ?c11 ?k11) (K71.fnd_mk ?a12 ?l12 ?c12 ?k12) (K71.fnd_mk ?a13 ?l13 ?c13 ?k13) (K71.fnd_mk ?a14 ?l14 ?c14 ?k14) (K71.fnd_mk ?a15 ?l15 ?c15 ?k15) (K71.fnd_mk ?a16 ?l16 ?c16 ?k16) (K71.fnd_mk ?a17 ?l17 ?c17 ?k17) (K71.fnd_mk ?a18 ?l18 ?c18 ?k18) (K71.fnd_mk ?a19 ?l19 ?c19 ?k19) (K71.fnd_mk ?a20 ?l20 ?c20 ?k20) (K71.fnd_mk ?a21 ?l21 ?c21 ?k21) (K71.fnd_mk ?a22 ?l22 ?c22 ?k22) (K71.fnd_mk ?a23 ?l23 ?c23 ?k23) (K71.fnd_mk ?a24 ?l24 ?c24 ?k24) (K71.fnd_mk ?a25 ?l25 ?c25 ?k25) (K71.fnd_mk ?a26 ?l26 ?c26 ?k26) (K71.fnd_mk ?a27 ?l27 ?c27 ?k27) (K71.fnd_mk ?a28 ?l28 ?c28 ?k28) (K71.fnd_mk ?a29 ?l29 ?c29 ?k29) (K71.fnd_mk ?a30 ?l30 ?c30 ?k30) (K71.fnd_mk ?a31 ?l31 ?c31 ?k31) (K71.fnd_mk ?a32 ?l32 ?c32 ?k32) (K71.fnd_mk ?a33 ?l33 ?c33 ?k33) (K71.fnd_mk ?a34 ?l34 ?c34 ?k34) (K71.fnd_mk ?a35 ?l35 ?c35 ?k35) (K71.fnd_mk ?a36 ?l36 ?c36 ?k36) (K71.fnd_mk ?a37 ?l37 ?c37 ?k37) (K71.fnd_mk ?a38 ?l38 ?c38 ?k38) ?z1 ?z2 ?z3 ?z4 ?z5 ?z6 ?z7 ?z8 ?z9 ?z10 ?z11 ?z12 ?z13 ?z14 ?z15 ?z16 ?z17 ?z18 ?z19 ?z20 ?gc1
  (case a1 => k_is); (case l1 => k_is); (case c1 => k_is); (case k1 => k_is)
  (case a2 => k_is); (case l2 => k_is); (case c2 => k_is); (case k2 => k_is)
  (case a3 => k_is); (case l3 => k_is); (case c3 => k_is); (case k3 => k_is)
  (case a4 => k_is); (case l4 => k_is); (case c4 => k_is); (case k4 => k_is)
  (case a5 => k_is); (case l5 => k_is); (case c5 => k_is); (case k5 => k_is)
  (case a6 => k_is); (case l6 => k_is); (case c6 => k_is); (case k6 => k_is)
  (case a7 => k_is); (case l7 => k_is); (case c7 => k_is); (case k7 => k_is)
  (case a8 => k_is); (case l8 => k_is); (case c8 => k_is); (case k8 => k_is)
  (case a9 => k_is); (case l9 => k_is); (case c9 => k_is); (case k9 => k_is)
  (case a10 => k_is); (case l10 => k_is); (case c10 => k_is); (case k10 => k_is)
  (case a11 => k_is); (case l11 => k_is); (case c11 => k_is); (case k11 => k_is)
  (case a12 => k_is); (case l12 => k_is); (case c12 => k_is); (case k12 => k_is)
  (case a13 => k_is); (case l13 => k_is); (case c13 => k_is); (case k13 => k_is)
  (case a14 => k_is); (case l14 => k_is); (case c14 => k_is); (case k14 => k_is)
  (case a15 => k_is); (case l15 => k_is); (case c15 => k_is); (case k15 => k_is)
  (case a16 => k_is); (case l16 => k_is); (case c16 => k_is); (case k16 => k_is)
  (case a17 => k_is); (case l17 => k_is); (case c17 => k_is); (case k17 => k_is)
  (case a18 => k_is); (case l18 => k_is); (case c18 => k_is); (case k18 => k_is)
  (case a19 => k_is); (case l19 => k_is); (case c19 => k_is); (case k19 => k_is)
  (case a20 => k_is); (case l20 => k_is); (case c20 => k_is); (case k20 => k_is)
  (case a21 => k_is); (case l21 => k_is); (case c21 => k_is); (case k21 => k_is)
  (case a22 => k_is); (case l22 => k_is); (case c22 => k_is); (case k22 => k_is)
  (case a23 => k_is); (case l23 => k_is); (case c23 => k_is); (case k23 => k_is)
  (case a24 => k_is); (case l24 => k_is); (case c24 => k_is); (case k24 => k_is)
  (case a25 => k_is); (case l25 => k_is); (case c25 => k_is); (case k25 => k_is)
  (case a26 => k_is); (case l26 => k_is); (case c26 => k_is); (case k26 => k_is)
  (case a27 => k_is); (case l27 => k_is); (case c27 => k_is); (case k27 => k_is)
  (case a28 => k_is); (case l28 => k_is); (case c28 => k_is); (case k28 => k_is)
  (case a29 => k_is); (case l29 => k_is); (case c29 => k_is); (case k29 => k_is)
  (case a30 => k_is); (case l30 => k_is); (case c30 => k_is); (case k30 => k_is)
  (case a31 => k_is); (case l31 => k_is); (case c31 => k_is); (case k31 => k_is)
  (case a32 => k_is); (case l32 => k_is); (case c32 => k_is); (case k32 => k_is)
  (case a33 => k_is); (case l33 => k_is); (case c33 => k_is); (case k33 => k_is)
  (case a34 => k_is); (case l34 => k_is); (case c34 => k_is); (case k34 => k_is)
  (case a35 => k_is); (case l35 => k_is); (case c35 => k_is); (case k35 => k_is)
  (case a36 => k_is); (case l36 => k_is); (case c36 => k_is); (case k36 => k_is)
  (case a37 => k_is); (case l37 => k_is); (case c37 => k_is); (case k37 => k_is)
  (case a38 => k_is); (case l38 => k_is); (case c38 => k_is); (case k38 => k_is)
  (case z1 => k_is)
  (case z2 => k_is)
  (case z3 => k_is)
  (case z4 => k_is)
  (case z5 => k_is)
  (case z6 => k_is)
  (case z7 => k_is)
  (case z8 => k_is)
  (case z9 => k_is)
  (case z10 => k_is)
  (case z11 => k_is)
  (case z12 => k_is)
  (case z13 => k_is)
  (case z14 => k_is)
  (case z15 => k_is)
  (case z16 => k_is)
  (case z17 => k_is)
  (case z18 => k_is)
  (case z19 => k_is)
  (case z20 => k_is)
  (case gc1 => k_is)