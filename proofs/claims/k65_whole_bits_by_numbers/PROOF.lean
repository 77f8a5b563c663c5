import PyProof.Rows.All
import Wide.All
import OpenK.AllK
import Wide.FinOn
import Lean
import PyProof.EqAt
import PyProof.EqKinds
import PyProof.TupleCall
import PyProof.Rows.TupAdd
import PyProof.Rows.SortStr
import PyProof.Rows.SortWalk
import PyProof.CollectIter
import PyProof.Rows.Tup
import PyProof.TupleOfSeq
import PyProof.ReprRoads
import PyProof.CallStr
import PyProof.SeqRoads2
import KE.KDictList
import KE.KSortTup
import KE.KUnpack
import PyProof.SetRoads
import PyProof.Rows.SetFrom
import PyProof.Rows.SortShell
import PySem.Challenge.RW_runbound_k65_whole_bits_by_numbers
set_option genSizeOf false
set_option Elab.async false
set_option compiler.extract_closed false
set_option linter.all false
set_option maxRecDepth 100000
set_option tactic.hygienic false
namespace L2
open PySem PySem.Spec PyProof.Rows
section
variable {prog:Program} {w:World} {A:Around} {E:Value->Shared->Prop} {s:Shared}
theorem typeIs_none' (s:Shared):s.TypeIs .none "NoneType":=rfl
theorem hash_none {Q:Int->Shared->Prop} (h:Q 0xFCA86420 { s with toks:=s.toks+1 }):wpAny (model prog w) A (pyHash .none) Q E s:=by
 unfold pyHash
 have hv:[Value.none].any Value.onHeap=false:=rfl
 refine wpAny_bind ?_
 rw[cRoomFor,if_neg (by rw[hv];exact Bool.false_ne_true)];refine wpAny_pure ?_
 refine wpAny_bind (wpAny_specialOf (typeIs_none' s) F.slot_NoneType_hash.lookup ?_)
 show wpAny _ _ (if(some (Value.builtin "NoneType.__hash__") == some Value.none)=true then _ else _) Q E s
 rw[if_neg (by rw[beq_builtin_none];exact Bool.false_ne_true)]
 refine wpAny_bind (wpAny_specialOf (typeIs_none' s) F.slot_NoneType_hash.lookup ?_)
 show wpAny _ _ (callSpecialIfBoundUnlessNone? (.none) "__hash__" _ >>= _) Q E s
 refine wpAny_bind (wpAny_callSpecialIfBoundUnlessNone?_slot (typeIs_none' s) F.slot_NoneType_hash
  (wpAny_call_entry F.slot_NoneType_hash (typeIs_none' s) F.entry_NoneType_hash
   (show wpAny _ _ (do ret (<- mkInt 0xFCA86420)) _ _ s from wpAny_ret_mkInt ?_) (F.args_NoneType_hash_1 _)))
 exact wpAny_pure h
end
inductive Key where
 |inl (i:Int)|inr (x:Str)|non
 deriving DecidableEq
noncomputable def keyIs:Key->Value->Bool
 | .inl k,v=>Value.isInt k v
 | .inr x,v=>Value.isStrOf x v
 | .non,.none=>true
 | .non,_=>false
noncomputable def keyH (w:World):Key->Int
 | .inl k=>hashInt k
 | .inr x=>hashStr w x
 | .non=>0xFCA86420
theorem keyIs_shape:∀{k:Key} {v:Value},keyIs k v=true->(∃i t,k=Key.inl i/\v=Value.int i t)\/(∃x t,k=Key.inr x/\v=Value.str x t)\/(k=Key.non/\v=Value.none)
 | .inl i,v,h=>by
  obtain⟨t,e⟩:=Value.isInt_shape (k:=i) (v:=v) h
  exact .inl ⟨i,t,rfl,e⟩
 | .inr x,v,h=>by
  obtain⟨t,e⟩:=Value.isStrOf_shape (x:=x) (v:=v) h
  exact .inr (.inl ⟨x,t,rfl,e⟩)
 | .non,v,h=>by cases v<;>first|exact .inr (.inr ⟨rfl,rfl⟩)|cases h
theorem keyIs_int (i:Int) (t:Tok):keyIs (.inl i) (.int i t)=true:=by simp[keyIs,Value.isInt]
theorem keyIs_str (x:Str) (t:Tok):keyIs (.inr x) (.str x t)=true:=by simp[keyIs,Value.isStrOf]
theorem key_ll (a b:Int):decide ((Key.inl a:Key)=Key.inl b)=(a == b):=by
 by_cases e:a=b
 .rw[e,decide_eq_true rfl,beq_self_eq_true]
 .rw[decide_eq_false (fun q=>e (Key.inl.inj q)),beq_eq_false_iff_ne.mpr e]
theorem key_rr (a b:Str):decide ((Key.inr a:Key)=Key.inr b)=decide (a=b):=by
 by_cases e:a=b
 .rw[e,decide_eq_true rfl,decide_eq_true rfl]
 .rw[decide_eq_false (fun q=>e (Key.inr.inj q)),decide_eq_false e]
theorem key_no {a b:Key} (h:a≠b):decide (a=b)=false:=decide_eq_false h
noncomputable def mixKind (prog:Program) (w:World):PySem.KeyKind prog w Key where
 is:=keyIs
 hash:=keyH w
 inj:=fun v a b ha hb=>by
  rcases keyIs_shape ha with⟨i,t,rfl,rfl⟩|⟨x,t,rfl,rfl⟩|⟨rfl,rfl⟩<;>rcases keyIs_shape hb with⟨j,u,rfl,e⟩|⟨y,u,rfl,e⟩|⟨rfl,e⟩<;>
   first|rfl|(injection e with e1 _;rw[e1])|exact nomatch e
 byValue:=fun k v h=>by
  rcases keyIs_shape h with⟨i,t,rfl,rfl⟩|⟨x,t,rfl,rfl⟩|⟨rfl,rfl⟩<;>rfl
 pyHash:=fun hv h=>by
  rcases keyIs_shape hv with⟨i,t,rfl,rfl⟩|⟨x,t,rfl,rfl⟩|⟨rfl,rfl⟩
  .exact wpAny_pyHash_int h
  .exact wpAny_pyHash_str h
  .exact hash_none h
 eqBool:=fun {A E s a b u v Q} hu hv h=>by
  rcases keyIs_shape hu with⟨i,t,rfl,rfl⟩|⟨x,t,rfl,rfl⟩|⟨rfl,rfl⟩
  .rcases keyIs_shape hv with⟨j,u,rfl,rfl⟩|⟨y,u,rfl,rfl⟩|⟨rfl,rfl⟩
   .rw[key_ll]at h;exact wpAny_eqBool_int h
   .rw[key_no (a:=Key.inl i) (b:=Key.inr y) (fun q=>nomatch q)]at h;exact SeqAt.EqAt.int_str i t y u _ _ _ _ h
   .rw[key_no (a:=Key.inl i) (b:=Key.non) (fun q=>nomatch q)]at h;exact SeqAt.EqAt.int_none i t _ _ _ _ h
  .rcases keyIs_shape hv with⟨j,u,rfl,rfl⟩|⟨y,u,rfl,rfl⟩|⟨rfl,rfl⟩
   .rw[key_no (a:=Key.inr x) (b:=Key.inl j) (fun q=>nomatch q)]at h;exact SeqAt.EqAt.str_int x t j u _ _ _ _ h
   .rw[key_rr]at h;exact wpAny_eqBool_str h
   .rw[key_no (a:=Key.inr x) (b:=Key.non) (fun q=>nomatch q)]at h;exact SeqAt.EqAt.str_none x t _ _ _ _ h
  .rcases keyIs_shape hv with⟨j,u,rfl,rfl⟩|⟨y,u,rfl,rfl⟩|⟨rfl,rfl⟩
   .rw[key_no (a:=Key.non) (b:=Key.inl j) (fun q=>nomatch q)]at h;exact SeqAt.EqAt.none_int j u _ _ _ _ h
   .rw[key_no (a:=Key.non) (b:=Key.inr y) (fun q=>nomatch q)]at h;exact SeqAt.EqAt.none_str y u _ _ _ _ h
   .rw[decide_eq_true rfl]at h;exact SeqAt.EqAt.same .none _ _ _ _ h
 «strs»:=fun k x t v h=>by
  rcases keyIs_shape h with⟨i,u,rfl,e⟩|⟨y,u,rfl,e⟩|⟨rfl,e⟩
  .exact nomatch e
  .injection e with e1 _
   subst e1
   cases v<;>rfl
  .exact nomatch e
theorem mixKind_int (prog:Program) (w:World) (i:Int) (t:Tok):(mixKind prog w).is (.inl i) (.int i t)=true:=keyIs_int i t
theorem mixKind_str (prog:Program) (w:World) (x:Str) (t:Tok):(mixKind prog w).is (.inr x) (.str x t)=true:=keyIs_str x t
inductive V where
 |non|bl (b:Bool)|int (i:Int)|str (x:Str)|byt (b:Array UInt8)|flt (b:UInt64)|ref (a:Addr)|ty (n:String)
 deriving DecidableEq
noncomputable def RelV:V->Value->Prop
 | .non,u=>u=Value.none
 | .bl b,u=>u=Value.bool b
 | .int i,u=>∃t,u=Value.int i t
 | .str x,u=>∃t,u=Value.str x t
 | .byt b,u=>∃t,u=Value.bytes b t
 | .flt b,u=>∃t,u=Value.float b t
 | .ref a,u=>u=Value.ref a
 | .ty n,u=>u=Value.type n
noncomputable abbrev Vals:List V->List Value->Prop:=Paired RelV
theorem Vals.length {xs:List V} {us:List Value} (r:Vals xs us):xs.length=us.length:=Paired.length r
theorem Vals.get:∀{xs:List V} {us:List Value} {i:Nat} {x:V},Vals xs us->xs[i]?=some x->∃u,us[i]?=some u/\RelV x u
 |_,_,_,_,.nil,e=>by simp at e
 |_,_,0,_,.cons r _,e=>by simp at e;subst e;exact⟨_,rfl,r⟩
 |_,_,i+1,x,.cons _ t,e=>by
  obtain⟨u,h1,h2⟩:=Vals.get (i:=i) (x:=x) t (by simpa using e)
  exact⟨u,by simpa using h1,h2⟩
theorem Vals.set {x:V} {u:Value} (r:RelV x u):∀{xs:List V} {us:List Value} (i:Nat),Vals xs us->Vals (xs.set i x) (us.set i u)
 |_,_,_,.nil=>.nil
 |_,_,0,.cons _ t=>.cons r t
 |_,_,i+1,.cons q t=>.cons q (Vals.set r i t)
theorem Vals.append:∀{xs ys:List V} {us ws:List Value},Vals xs us->Vals ys ws->Vals (xs++ys) (us++ws)
 |_,_,_,_,.nil,s=>s
 |_,_,_,_,.cons r t,s=>.cons r (Vals.append t s)
theorem Vals.take:∀{xs:List V} {us:List Value} (n:Nat),Vals xs us->Vals (xs.take n) (us.take n)
 |_,_,0,_=>.nil
 |_,_,_+1,.nil=>.nil
 |_,_,n+1,.cons r t=>.cons r (Vals.take n t)
theorem Vals.drop:∀{xs:List V} {us:List Value} (n:Nat),Vals xs us->Vals (xs.drop n) (us.drop n)
 |_,_,0,r=>r
 |_,_,_+1,.nil=>.nil
 |_,_,n+1,.cons _ t=>Vals.drop n t
noncomputable def RelO:Option V->Option Value->Prop
 |some v,some u=>RelV v u
 |none,none=>True
 |_,_=>False
noncomputable def KV {κ:Type}:List (κ×V)->List (κ×Value)->Prop:=Paired fun(p:κ×V) (q:κ×Value)=>p.1=q.1/\RelV p.2 q.2
noncomputable def kV:Key->V
 | .inl i=>.int i
 | .inr x=>.str x
 | .non=>.non
inductive HO where
 |lst (xs:List V)
 |tup (xs:List V)
 |dK (kvs:List (Key×V))|dT (kvs:List (List Key×V))
 |set (S:Int->Bool) (n:Nat)
 |ins (C dx:Addr) (fs:List (Str×V))
 |own (x:Addr)
 |xd (fs:List (Str×V))
 |met (f x:Addr)
 |rng (lo hi:Int)
 |frz (o:Obj) (u:HO)
 |tbl (ps:Array Value)
 |ext (φ:Heap->Prop)
noncomputable abbrev Hp:=Addr->Option HO
noncomputable def upd (H:Hp) (a:Addr) (o:HO):Hp:=fun b=>if b=a then some o else H b
theorem upd_same {H:Hp} {a:Addr} {o:HO}:upd H a o a=some o:=by unfold upd;rw[if_pos rfl]
theorem upd_ne {H:Hp} {a b:Addr} {o:HO} (h:b≠a):upd H a o b=H b:=by unfold upd;rw[if_neg h]
theorem upd_upd {H:Hp} {a:Addr} {o u:HO}:upd (upd H a o) a u=upd H a u:=by
 funext b;unfold upd;split<;>rfl
theorem ne_of_none {H:Hp} {a b:Addr} {o:HO} (h:H a=some o) (h':H b=none):a≠b:=by
 intro e;subst e;rw[h]at h';cases h'
def TupD (h:Heap) (a:Addr) (items:Array Value):Prop:=∃o,h.get? a=some o/\o.cls=.type "tuple"/\(∃n,o.data=.seq items n)/\o.dict=none
theorem TupD.tup {h:Heap} {a:Addr} {items:Array Value} (x:TupD h a items):IsTup h a items:=let⟨o,e,c,⟨n,d⟩,_⟩:=x;⟨o,e,c,n,d⟩
theorem TupD.new (h:Heap) (items:Array Value):TupD (h.push { cls:=.type "tuple",data:=.seq items }) h.objs.size items:=⟨_,Heap.get?_push_size _ rfl,rfl,⟨_,rfl⟩,rfl⟩
section
variable (P:Program) (w:World)
noncomputable def ObjOk (H:Hp) (h:Heap) (a:Addr):HO->Prop
 | .lst xs=>xs.length<=sizeLine/\∃(its:List Value) (n:Nat),Vals xs its/\h.get? a=some { cls:=.type "list",data:=.seq its.toArray n }
 | .tup xs=>xs.length<=sizeLine/\∃its:List Value,Vals xs its/\TupD h a its.toArray
 | .dK kvs=>kvs.length<=sizeLine/\(a == sysModules)=false/\∃vs,KV kvs vs/\h.DictOf (mixKind P w) a vs
 | .dT kvs=>kvs.length<=sizeLine/\(a == sysModules)=false/\∃xs:List (List Key×Addr×Value),
   Paired (fun(p:List Key×V) (q:List Key×Addr×Value)=>p.1=q.1/\H q.2.1=some (.tup (p.1.map kV))/\RelV p.2 q.2.2) kvs xs/\
   ∃o es ep,h.get? a=some o/\o.ExactDict/\o.data=.dict es ep/\es.toList=xs.map (entryOfKey (tupleKind (mixKind P w)))/\(xs.map (·.1)).Nodup
 | .set S n=>h.SetOf (intKind P w) a S n
 | .ins C dx fs=>H dx=some (.own a)/\fs.length<=1000/\dx≠a/\h.get? a=some (W.instObj C dx)/\
   ∃mA,h.Ns1 dx mA/\(∀f,RelO (fs.lookup f) (mA f))/\PySem.Within mA (fs.map (·.1))
 | .own _=>∃o,h.get? a=some o
 | .xd fs=>∃mA,h.Ns1 a mA/\∀f,RelO (fs.lookup f) (mA f)
 | .rng lo hi=>∃t u v,h.get? a=some { cls:=.type "range",data:=.fields #[.int lo t,.int hi u,.int 1 v] }
 | .frz o u=>h.get? a=some o/\ObjOk H h a u
 | .tbl ps=>h.get? a=some { cls:=.none,data:=.fields ps }
 | .met f x=>h.get? a=some (W.methodObj (.ref f) (.ref x))
 | .ext φ=>φ h/\(∃o,h.get? a=some o)/\∀h1 h2:Heap,φ h1->(∀o,h1.get? a=some o->h2.get? a=some o)->φ h2
def HOk (H:Hp) (h:Heap):Prop:=∀a o,H a=some o->ObjOk P w H h a o
end
section
variable {P:Program} {w:World} {H H':Hp} {h h':Heap} {a:Addr} {o:HO}
theorem ObjOk.lt (x:ObjOk P w H h a o):a<h.objs.size:=by
 cases o with
 |lst xs=>obtain⟨_,_,_,_,e⟩:=x;exact Heap.lt_size e
 |tup xs=>obtain⟨_,_,_,p⟩:=x;exact p.tup.lt
 |dK kvs=>obtain⟨_,_,_,_,o,_,_,e,_⟩:=x;exact Heap.lt_size e
 |dT kvs=>obtain⟨_,_,_,_,o,_,_,e,_⟩:=x;exact Heap.lt_size e
 |set S n=>obtain⟨o,_,_,_,e,_⟩:=x;exact Heap.lt_size e
 |ins C dx fs=>obtain⟨_,_,_,e,_⟩:=x;exact Heap.lt_size e
 |own y=>obtain⟨_,e⟩:=x;exact Heap.lt_size e
 |xd fs=>obtain⟨_,⟨_,_,_,e,_⟩,_⟩:=x;exact Heap.lt_size e
 |rng lo hi=>obtain⟨_,_,_,e⟩:=x;exact Heap.lt_size e
 |frz ob u=>obtain⟨e,_⟩:=x;exact Heap.lt_size e
 |tbl ps=>exact Heap.lt_size (show h.get? a=some _ from x)
 |met f y=>exact Heap.lt_size (show h.get? a=some _ from x)
 |ext φ=>obtain⟨_,⟨_,e⟩,_⟩:=x;exact Heap.lt_size e
theorem Paired.mapP {α β:Type} {F G:α->β->Prop}:∀{l₁:List α} {l₂:List β},Paired F l₁ l₂->(∀a b,F a b->G a b)->Paired G l₁ l₂
 |_,_,.nil,_=>.nil
 |_,_,.cons r t,f=>.cons (f _ _ r) (Paired.mapP t f)
theorem ObjOk.stay (x:ObjOk P w H h a o) (k:∀b u,(b=a\/H b=some (.own a))->h.get? b=some u->h'.get? b=some u)
  (ho:∀b,H b=some (.own a)->H' b=some (.own a)) (ht:∀b xs,H b=some (.tup xs)->H' b=some (.tup xs)):ObjOk P w H' h' a o:=by
 induction o with
 |lst xs=>obtain⟨z,its,n,r,e⟩:=x;exact⟨z,its,n,r,k _ _ (.inl rfl) e⟩
 |tup xs=>obtain⟨z,its,r,ob,e,c⟩:=x;exact⟨z,its,r,ob,k _ _ (.inl rfl) e,c⟩
 |dK kvs=>obtain⟨z,y,vs,r,ob,es,ep,e,c⟩:=x;exact⟨z,y,vs,r,ob,es,ep,k _ _ (.inl rfl) e,c⟩
 |dT kvs=>
  obtain⟨z,y,xs,r,ob,es,ep,e,c⟩:=x
  exact⟨z,y,xs,Paired.mapP r fun p q z=>⟨z.1,ht _ _ z.2.1,z.2.2⟩,ob,es,ep,k _ _ (.inl rfl) e,c⟩
 |set S n=>obtain⟨ob,es,ep,t,e,c⟩:=x;exact⟨ob,es,ep,t,k _ _ (.inl rfl) e,c⟩
 |ins C dx fs=>
  obtain⟨d,z,ne,e,mA,⟨od,es,ep,e2,c⟩,r⟩:=x
  exact⟨ho _ d,z,ne,k _ _ (.inl rfl) e,mA,⟨od,es,ep,k _ _ (.inr d) e2,c⟩,r⟩
 |own y=>obtain⟨ob,e⟩:=x;exact⟨ob,k _ _ (.inl rfl) e⟩
 |xd fs=>obtain⟨mA,⟨od,es,ep,e,c⟩,r⟩:=x;exact⟨mA,⟨od,es,ep,k _ _ (.inl rfl) e,c⟩,r⟩
 |rng lo hi=>obtain⟨t,u,v,e⟩:=x;exact⟨t,u,v,k _ _ (.inl rfl) e⟩
 |frz ob u ih=>obtain⟨e,q⟩:=x;exact⟨k _ _ (.inl rfl) e,ih q⟩
 |tbl ps=>
  have e:h.get? a=some { cls:=.none,data:=.fields ps }:=x
  show h'.get? a=some { cls:=.none,data:=.fields ps }
  exact k a _ (.inl rfl) e
 |met f y=>
  have e:h.get? a=some (W.methodObj (.ref f) (.ref y)):=x
  show h'.get? a=some (W.methodObj (.ref f) (.ref y))
  exact k a _ (.inl rfl) e
 |ext φ=>obtain⟨p,⟨o,e⟩,st⟩:=x;exact⟨st _ _ p fun o q=>k _ _ (.inl rfl) q,⟨o,k _ _ (.inl rfl) e⟩,st⟩
theorem HOk.lt (x:HOk P w H h) (e:H a=some o):a<h.objs.size:=(x a o e).lt
theorem HOk.fresh (x:HOk P w H h) (e:h.objs.size<=a):H a=none:=by
 cases q:H a with
 |none=>rfl
 |some u=>exact absurd (Nat.lt_of_lt_of_le (x.lt q) e) (Nat.lt_irrefl _)
theorem HOk.kept (x:HOk P w H h) (k:∀b u,h.get? b=some u->h'.get? b=some u):HOk P w H h':=fun a o e=>
 (x a o e).stay (fun b u _ q=>k b u q) (fun _ q=>q) fun _ _ q=>q
theorem HOk.laid (x:HOk P w H h) (k:∀b u,h.get? b=some u->h'.get? b=some u) (hp:h.objs.size<=a) (new:ObjOk P w (upd H a o) h' a o):HOk P w (upd H a o) h':=fun b u e=>by
 have hn:=x.fresh hp
 by_cases hb:b=a
 .subst hb;rw[upd_same]at e;cases e;exact new
 .rw[upd_ne hb]at e
  exact(x b u e).stay (fun c v _ q=>k c v q) (fun c q=>by rw[upd_ne (ne_of_none q hn)];exact q) fun c xs q=>by rw[upd_ne (ne_of_none q hn)];exact q
end
def Rd (H:Hp) (a:Addr) (u:HO):Prop:=H a=some u\/∃o,H a=some (.frz o u)
theorem Rd.ok {P:Program} {w:World} {H:Hp} {h:Heap} {a:Addr} {u:HO} (r:Rd H a u) (x:HOk P w H h):ObjOk P w H h a u:=by
 rcases r with r|⟨o,r⟩
 .exact x a u r
 .obtain⟨_,q⟩:=x a _ r
  exact q
noncomputable def Mut:Option HO->Prop
 |some (.lst _)=>True
 |some (.dK _)=>True
 |some (.dT _)=>True
 |some (.set _ _)=>True
 |some (.ins _ _ _)=>True
 |some (.ext _)=>True
 |_=>False
section
variable {P:Program} {w:World} {H:Hp} {h h':Heap} {x e:Addr} {o':HO}
theorem HOk.write (ok:HOk P w H h) (mu:Mut (H x)) (he:e=x\/H e=some (.own x)) (k:∀b u,b≠e->h.get? b=some u->h'.get? b=some u) (heo:∃u,h'.get? e=some u)
  (new:ObjOk P w (upd H x o') h' x o'):HOk P w (upd H x o') h':=fun b u q=>by
 have nown:∀c y,H c=some (.own y)->c≠x:=fun c y r z=>by subst z;rw[r]at mu;exact mu
 have ntup:∀c xs,H c=some (.tup xs)->c≠x:=fun c xs r z=>by subst z;rw[r]at mu;exact mu
 by_cases hb:b=x
 .subst hb;rw[upd_same]at q;cases q;exact new
 .rw[upd_ne hb]at q
  by_cases hbe:b=e
  .have q':H b=some (.own x):=by
    rcases he with z|z
    .exact absurd (hbe.trans z) hb
    .rw[hbe];exact z
   rw[q]at q';cases q'
   obtain⟨v,hv⟩:=heo
   exact⟨v,by rw[hbe];exact hv⟩
  .refine(ok b u q).stay (fun c v hc r=>k c v ?_ r) (fun c r=>by rw[upd_ne (nown c b r)];exact r) fun c xs r=>by rw[upd_ne (ntup c xs r)];exact r
   rcases hc with rfl|hc
   .exact hbe
   .rintro rfl
    rcases he with z|z
    .exact nown c b hc z
    .rw[hc]at z;cases z;exact hb rfl
end
structure Un (fs ex:List Addr) (H H':Hp) (h h':Heap):Prop where
 keep:∀b o,h.get? b=some o->H b=none->b∉fs->b∉ex->h'.get? b=some o
 slot:∀b o,h.get? b=some o->H b=none->b∈fs->b∉ex->∃sl,h'.get? b=some { o with slots:=sl }
 free:∀b o,h.get? b=some o->H b=none->b∉ex->H' b=none
 there:∀b o,h.get? b=some o->b∉ex->∃o',h'.get? b=some o'
 tups:∀b xs,H b=some (.tup xs)->H' b=some (.tup xs)
 frzs:∀b o u,H b=some (.frz o u)->H' b=some (.frz o u)
 tbls:∀b ps,H b=some (.tbl ps)->∃more,H' b=some (.tbl (ps++more))
section
variable {fs fs' ex ex':List Addr} {H H1 H2:Hp} {h h1 h2 h':Heap} {a x e:Addr} {o:HO}
theorem Un.any (u:Un fs ex H H1 h h1) {b:Addr} {ob:Obj} (q:h.get? b=some ob) (n:H b=none) (hx:b∉ex):∃sl,h1.get? b=some { ob with slots:=sl }:=by
 by_cases hb:b∈fs
 .exact u.slot b ob q n hb hx
 .exact⟨ob.slots,u.keep b ob q n hb hx⟩
theorem Un.kept (k:∀b u,h.get? b=some u->h'.get? b=some u):Un fs ex H H h h':=
 ⟨fun b ob q _ _ _=>k b ob q,fun b ob q _ _ _=>⟨ob.slots,k b ob q⟩,fun _ _ _ n _=>n,fun b ob q _=>⟨ob,k b ob q⟩,fun _ _ q=>q,fun _ _ _ q=>q,fun _ ps q=>⟨#[],by rw[q];simp⟩⟩
theorem Un.refl:Un fs ex H H h h:=Un.kept fun _ _ q=>q
theorem Un.laid (k:∀b u,h.get? b=some u->h'.get? b=some u) (hp:h.objs.size<=a) (hn:H a=none):Un fs ex H (upd H a o) h h' where
 keep:=fun b u q _ _ _=>k b u q
 slot:=fun b u q _ _ _=>⟨u.slots,k b u q⟩
 free:=fun b u q n _=>by rw[upd_ne (Nat.ne_of_lt (Nat.lt_of_lt_of_le (Heap.lt_size q) hp))];exact n
 there:=fun b u q _=>⟨u,k b u q⟩
 tups:=fun b xs q=>by rw[upd_ne (ne_of_none q hn)];exact q
 frzs:=fun b u xs q=>by rw[upd_ne (ne_of_none q hn)];exact q
 tbls:=fun b ps q=>⟨#[],by rw[upd_ne (ne_of_none q hn),q];simp⟩
theorem Un.write (mu:Mut (H x)) (he:e=x\/H e=some (.own x)) (k:∀b u,b≠e->h.get? b=some u->h'.get? b=some u) (heo:∃u,h'.get? e=some u):Un fs ex H (upd H x o) h h':=by
 have hx:∀b,H b=none->b≠x:=fun b n z=>by subst z;rw[n]at mu;exact mu
 have hb:∀b,H b=none->b≠e:=fun b n z=>by
  subst z
  rcases he with r|r
  .exact hx b n r
  .rw[n]at r;cases r
 have hm:∀b u,H b=some u->¬Mut (some u)->b≠x:=fun b u q nm z=>by subst z;rw[q]at mu;exact nm mu
 refine⟨fun b u q n _ _=>k b u (hb b n) q,fun b u q n _ _=>⟨u.slots,k b u (hb b n) q⟩,fun b u q n _=>by rw[upd_ne (hx b n)];exact n,fun b u q _=>?_,
  fun b xs q=>by rw[upd_ne (hm b _ q fun z=>z)];exact q,fun b u xs q=>by rw[upd_ne (hm b _ q fun z=>z)];exact q,fun b ps q=>⟨#[],by rw[upd_ne (hm b _ q fun z=>z),q];simp⟩⟩
 by_cases hbe:b=e
 .subst hbe;exact heo
 .exact⟨u,k b u hbe q⟩
end
noncomputable def trk (h:Heap) (H:Hp):List Addr:=(List.range h.objs.size).filter fun a=>(H a).isSome
noncomputable def hidT (h:Heap) (H:Hp):Heap:=W.hideAll h (trk h H)
theorem hidT_size (h:Heap) (H:Hp):(hidT h H).objs.size=h.objs.size:=W.hideAll_size _ _
theorem hidT_get {h:Heap} {H:Hp} {b:Addr} {o:Obj} (e:h.get? b=some o) (n:H b=none):(hidT h H).get? b=some o:=
 W.hideAll_get _ e fun hm=>by
  have q:(H b).isSome=true:=(List.mem_filter.mp hm).2
  rw[n]at q;simp at q
theorem of_hidT {h:Heap} {H:Hp} {b:Addr} {o:Obj} (e:(hidT h H).get? b=some o):h.get? b=some o/\H b=none:=by
 have e':h.get? b=some o:=W.of_hideAll (trk h H) e
 refine⟨e',?_⟩
 cases q:H b with
 |none=>rfl
 |some x=>
  have hm:b∈trk h H:=List.mem_filter.mpr ⟨List.mem_range.mpr (Heap.lt_size e'),by simp[q]⟩
  have z:(hidT h H).get? b=none:=W.hideAll_none (trk h H) hm
  rw[z]at e;cases e
noncomputable def allNews (g h:Heap) (L:Addr):List (Addr×Obj):=(List.range h.objs.size).filterMap fun a=>if a=L\/(g.get? a).isSome=true then none else(h.get? a).map fun o=>(a,o)
noncomputable def rest (g h:Heap) (L d:Addr):List (Addr×Obj):=(allNews g h L).filter fun p=>decide (p.1≠d)
structure Mod (K:W.Frag) (mg:Str->Option Value) (base:Heap):Prop where
 kin:K.In base
 glob:base.Ns mainGlobals mg
 blt:∃mb,base.Ns builtinsNs mb/\∀x:Str,x≠"__name__"->mb x=bootBuiltins x
 nolimit:base.NoLimit
set_option genInjectivity false
structure Cx where
 prog:Program
 w:World
 K:W.Frag
 mg:Str->Option Value
 base:Heap
 A:Around
 N:List Str
 s₀:Shared
 H₀:Hp
 env:Env
 outer:List Env
 stack:List Env
 ex:List Addr
 fn:Str->Bool
 calm:Bool
 pn:List (Addr×Obj)
 xe:Value->Shared->Prop
set_option genInjectivity true
noncomputable def frs (l:List Env):List Addr:=l.filterMap (·.frame)
noncomputable abbrev Cx.fs (X:Cx):List Addr:=frs X.outer
def Vis (sc:Scope) (x:Str):Prop:=sc.names.lookup x=some .local\/sc.names.lookup x=some .cell\/sc.names.lookup x=some .free
def Loc (sc:Scope) (x:Str):Prop:=sc.names.lookup x=some .local\/sc.names.lookup x=some .cell
def Look (env:Env) (h:Heap) (m:Str->Option Value) (x:Str) (u:Value):Prop:=
 (env.kindOf x=some .local/\m x=some u)\/((env.kindOf x=some .cell\/env.kindOf x=some .free)/\∃c,env.cells.lookup x=some c/\h.IsCell c (some u))
structure Cx.Ok (X:Cx):Prop where
 mod:Mod X.K X.mg X.base
 kind:X.env.scope.kind=.function
 glob:X.env.globals=mainGlobals
 blt:X.env.builtins=builtinsNs
 above:X.s₀.heap.objs.size<=X.env.locals
 inj:∀x y c,X.env.cells.lookup x=some c->X.env.cells.lookup y=some c->x=y
 has:∀x,(X.env.kindOf x=some .cell\/X.env.kindOf x=some .free)->∃c,X.env.cells.lookup x=some c
 cab:∀x c,X.fn x=true->X.env.cells.lookup x=some c->X.s₀.heap.objs.size<=c
 hd:X.calm=true->X.A.handled=none
 frames:X.A.frames=some X.stack
 stk:X.stack=X.outer\/(X.stack=X.env :: X.outer/\X.env.frame=some X.env.locals)
 exf:∀b∈X.ex,b≠X.env.locals/\∀x c,X.env.cells.lookup x=some c->c≠b
 bs:∀b o,X.base.get? b=some o->X.s₀.heap.get? b=some o/\X.H₀ b=none
 bsz:X.base.objs.size<=X.s₀.heap.objs.size
 noex:∀b o,X.base.get? b=some o->b∉X.ex
 exfs:∀b∈X.ex,b∉X.fs
 funs:X.s₀.heap.FunFrames X.base X.outer
 frf:∀b∈X.fs,X.H₀ b=none
structure Inv (X:Cx) (pins:List (Addr×Obj)) (σ:List (Option V)) (H:Hp) (s:Shared):Prop where
 ok:X.Ok
 os:s.os=X.s₀.os
 bare:AllBare s.gens
 base:Un X.fs X.ex X.H₀ H X.s₀.heap s.heap
 loc:∃m,s.heap.Ns X.env.locals m/\∀(i:Nat) (x:Str) (v:V),X.N[i]?=some x->σ[i]?=some (some v)->Vis X.env.scope x->∃u,RelV v u/\Look X.env s.heap m x u
 cell:∀x c,X.env.cells.lookup x=some c->∃v,s.heap.IsCell c v
 free:H X.env.locals=none
 freeC:∀x c,X.env.cells.lookup x=some c->H c=none
 pin:∀p∈X.pn++pins,s.heap.get? p.1=some p.2/\H p.1=none/\p.1≠X.env.locals/\p.1∉X.fs/\∀v,p.2.data≠.cell v
 hok:HOk X.prog X.w H s.heap
 len:σ.length=X.N.length
section
variable {X:Cx} {pins:List (Addr×Obj)} {σ:List (Option V)} {H H':Hp} {s:Shared} {h':Heap}
theorem Cx.Ok.nofr (ok:X.Ok) {b:Addr} {o:Obj} (e:X.base.get? b=some o):b∉X.fs:=fun hb=>by
 have:=(ok.funs.mem hb).1
 rw[e]at this;cases this
theorem Inv.bs (I:Inv X pins σ H s):∀b o,X.base.get? b=some o->s.heap.get? b=some o/\H b=none:=fun b o e=>
 ⟨I.base.keep b o (I.ok.bs b o e).1 (I.ok.bs b o e).2 (I.ok.nofr e) (I.ok.noex b o e),I.base.free b o (I.ok.bs b o e).1 (I.ok.bs b o e).2 (I.ok.noex b o e)⟩
theorem Inv.bk (I:Inv X pins σ H s):∀b o,X.base.get? b=some o->s.heap.get? b=some o:=fun b o e=>(I.bs b o e).1
theorem Inv.mod (I:Inv X pins σ H s):Mod X.K X.mg X.base:=I.ok.mod
theorem Inv.kIn (I:Inv X pins σ H s):X.K.In s.heap:=I.ok.mod.kin.keeps I.bk
theorem Inv.fr (I:Inv X pins σ H s):∃m,Fr X.base X.env.locals s.heap m:=
 let⟨m,hn,_⟩:=I.loc
 ⟨m,hn,I.bk,Nat.le_trans I.ok.bsz I.ok.above⟩
theorem Inv.lt (I:Inv X pins σ H s):X.env.locals<s.heap.objs.size:=let⟨_,hn,_⟩:=I.loc;hn.lt
theorem Inv.sz (I:Inv X pins σ H s):X.s₀.heap.objs.size<=s.heap.objs.size:=Nat.le_trans I.ok.above (Nat.le_of_lt I.lt)
theorem Inv.nofs (I:Inv X pins σ H s) {a:Addr} (h:s.heap.objs.size<=a):a∉X.fs:=fun hb=>by
 obtain⟨_,o,ho,_⟩:=I.ok.funs.mem hb
 exact absurd (Nat.lt_of_lt_of_le (Heap.lt_size ho) (Nat.le_trans I.sz h)) (Nat.lt_irrefl _)
theorem Inv.cne (I:Inv X pins σ H s):∀x c,X.env.cells.lookup x=some c->c≠X.env.locals:=fun x c e z=>by
 obtain⟨v,o,ho,hd⟩:=I.cell x c e
 obtain⟨m,⟨o',es,ep,ho',hd',_⟩,_⟩:=I.loc
 rw[z,ho']at ho;cases ho;rw[hd']at hd;cases hd
theorem Inv.funs (I:Inv X pins σ H s):s.heap.FunFrames X.base X.outer:=by
 have all:∀(l:List Env),(∀b∈frs l,b∈X.fs)->X.s₀.heap.FunFrames X.base l->s.heap.FunFrames X.base l:=by
  intro l
  induction l with
  |nil=>intro _ _;trivial
  |cons env r ih=>
   intro hs hl
   obtain⟨hk,⟨L,o,hf,hn,ho,hd⟩,hr⟩:=hl
   have hL:L∈X.fs:=hs L (by unfold frs;rw[List.filterMap_cons,hf];exact List.mem_cons_self)
   obtain⟨sl,e⟩:=I.base.slot L o ho (I.ok.frf L hL) hL fun z=>I.ok.exfs L z hL
   exact⟨hk,⟨L,_,hf,hn,e,hd⟩,ih (fun b hb=>hs b (by unfold frs;rw[List.filterMap_cons,hf];exact List.mem_cons_of_mem _ hb)) hr⟩
 exact all X.outer (fun _ hb=>hb) I.ok.funs
theorem Inv.stack (I:Inv X pins σ H s):s.heap.FunFrames X.base X.stack:=by
 rcases I.ok.stk with e|⟨e,hf⟩
 .rw[e];exact I.funs
 .rw[e]
  obtain⟨m,hn,_⟩:=I.loc
  refine .cons (by rw[I.ok.kind];decide) hf hn ?_ I.funs
  exact Heap.get?_none_of_le (Nat.le_trans I.ok.bsz I.ok.above)
theorem Inv.stkSub (I:Inv X pins σ H s):∀b∈frs X.stack,b∈X.env.locals :: X.fs:=fun b hb=>by
 rcases I.ok.stk with e|⟨e,hf⟩
 .rw[e]at hb;exact List.mem_cons_of_mem _ hb
 .rw[e]at hb
  unfold frs at hb
  rw[List.filterMap_cons,hf]at hb
  exact hb
theorem Inv.stkFree (I:Inv X pins σ H s):∀b∈frs X.stack,H b=none:=fun b hb=>by
 rcases List.mem_cons.mp (I.stkSub b hb)with e|hb
 .rw[e];exact I.free
 .obtain⟨_,o,ho,_⟩:=I.ok.funs.mem hb
  exact I.base.free b o ho (I.ok.frf b hb) fun z=>I.ok.exfs b z hb
theorem Inv.step {g':Array GenState} {t':Nat} {d':Drawn} {ch:List Addr} (I:Inv X pins σ H s)
  (hch:∀b∈ch,(b∈X.ex\/X.s₀.heap.objs.size<=b)/\b≠X.env.locals/\(∀x c,X.env.cells.lookup x=some c->c≠b)/\∀p∈X.pn++pins,p.1≠b)
  (keep:∀b o,b≠X.env.locals->b∉X.fs->b∉ch->s.heap.get? b=some o->H b=none->h'.get? b=some o)
  (slot:∀b o,b≠X.env.locals->b∈X.fs->b∉ch->s.heap.get? b=some o->H b=none->∃sl,h'.get? b=some { o with slots:=sl }) (free:∀b o,b∉ch->s.heap.get? b=some o->H b=none->H' b=none)
  (there:∀b o,b∉ch->s.heap.get? b=some o->∃o',h'.get? b=some o')
  (tups:∀b xs,H b=some (.tup xs)->H' b=some (.tup xs)) (frzs:∀b o u,H b=some (.frz o u)->H' b=some (.frz o u)) (tbls:∀b ps,H b=some (.tbl ps)->∃more,H' b=some (.tbl (ps++more)))
  (ns:∀m,s.heap.Ns X.env.locals m->h'.Ns X.env.locals m) (hok:HOk X.prog X.w H' h') (hg:AllBare g'):
  Inv X pins σ H' { s with heap:=h',gens:=g',drawn:=d',toks:=t' }:=by
 have neL:∀b o,X.s₀.heap.get? b=some o->b≠X.env.locals:=fun b o e=>Nat.ne_of_lt (Nat.lt_of_lt_of_le (Heap.lt_size e) I.ok.above)
 have neC:∀b o,X.s₀.heap.get? b=some o->b∉X.ex->b∉ch:=fun b o e hx hb=>by
  rcases(hch b hb).1 with z|z
  .exact hx z
  .exact absurd (Nat.lt_of_lt_of_le (Heap.lt_size e) z) (Nat.lt_irrefl _)
 have cellK:∀x c,X.env.cells.lookup x=some c->∀v,s.heap.IsCell c v->h'.IsCell c v:=fun x c e v ⟨o,ho,hd⟩=>by
  have nch:c∉ch:=fun z=>(hch c z).2.2.1 x c e rfl
  by_cases hc:c∈X.fs
  .obtain⟨sl,q⟩:=slot c o (I.cne x c e) hc nch ho (I.freeC x c e)
   exact⟨_,q,hd⟩
  .exact⟨o,keep c o (I.cne x c e) hc nch ho (I.freeC x c e),hd⟩
 refine⟨I.ok,I.os,hg,⟨fun b o e n hb hx=>?_,fun b o e n hb hx=>?_,fun b o e n hx=>?_,fun b o e hx=>?_,fun b xs e=>tups b xs (I.base.tups b xs e),fun b o xs e=>frzs b o xs (I.base.frzs b o xs e),fun b ps e=>?_⟩,?_,fun x c e=>?_,?_,fun x c e=>?_,fun p hp=>?_,hok,I.len⟩
 .exact keep b o (neL b o e) hb (neC b o e hx) (I.base.keep b o e n hb hx) (I.base.free b o e n hx)
 .obtain⟨sl,e1⟩:=I.base.slot b o e n hb hx
  obtain⟨sl',e2⟩:=slot b _ (neL b o e) hb (neC b o e hx) e1 (I.base.free b o e n hx)
  exact⟨sl',e2⟩
 .obtain⟨o',e1⟩:=I.base.there b o e hx
  exact free b o' (neC b o e hx) e1 (I.base.free b o e n hx)
 .obtain⟨o',e1⟩:=I.base.there b o e hx
  exact there b o' (neC b o e hx) e1
 .obtain⟨m1,e1⟩:=I.base.tbls b ps e
  obtain⟨m2,e2⟩:=tbls b _ e1
  exact⟨m1++m2,by rw[e2,Array.append_assoc]⟩
 .obtain⟨m,hn,hl⟩:=I.loc
  refine⟨m,ns m hn,fun i x v e1 e2 e3=>?_⟩
  obtain⟨u,r,l⟩:=hl i x v e1 e2 e3
  refine⟨u,r,?_⟩
  rcases l with l|⟨k,c,e,z⟩
  .exact .inl l
  .exact .inr ⟨k,c,e,cellK x c e _ z⟩
 .obtain⟨v,z⟩:=I.cell x c e
  exact⟨v,cellK x c e v z⟩
 .obtain⟨m,⟨o,_,_,ho,_⟩,_⟩:=I.loc
  exact free _ o (fun z=>(hch _ z).2.1 rfl) ho I.free
 .obtain⟨v,o,ho,hd⟩:=I.cell x c e
  exact free c o (fun z=>(hch c z).2.2.1 x c e rfl) ho (I.freeC x c e)
 .obtain⟨e,n,ne,nf,d⟩:=I.pin p hp
  have nch:p.1∉ch:=fun z=>(hch p.1 z).2.2.2 p hp rfl
  exact⟨keep p.1 p.2 ne nf nch e n,free p.1 p.2 nch e n,ne,nf,d⟩
theorem Inv.un {t':Nat} (I:Inv X pins σ H s) (u:Un X.fs [] H H' s.heap h') (hok:HOk X.prog X.w H' h'):Inv X pins σ H' { s with heap:=h',toks:=t' }:=by
 obtain⟨m,⟨o,es,ep,ho,r⟩,_⟩:=id I.loc
 obtain⟨sl,hL⟩:=u.any ho I.free (by simp)
 exact I.step (g':=s.gens) (d':=s.drawn) (ch:=[]) (fun _ z=>nomatch z) (fun b o _ hb _ e n=>u.keep b o e n hb (by simp)) (fun b o _ hb _ e n=>u.slot b o e n hb (by simp)) (fun b o _ e n=>u.free b o e n (by simp)) (fun b o _ e=>u.there b o e (by simp)) u.tups u.frzs u.tbls (fun m' hm=>by
  obtain⟨o',es',ep',ho',r'⟩:=hm
  rw[ho]at ho';cases ho'
  exact⟨_,es',ep',hL,r'⟩) hok I.bare
theorem Inv.call {g':Array GenState} {t':Nat} {d':Drawn} {ch:List Addr} (I:Inv X pins σ H s) (u:Un (frs X.stack) ch H H' s.heap h') (hok:HOk X.prog X.w H' h') (hg:AllBare g')
  (hch:∀b∈ch,(b∈X.ex\/X.s₀.heap.objs.size<=b)/\b≠X.env.locals/\(∀x c,X.env.cells.lookup x=some c->c≠b)/\∀p∈X.pn++pins,p.1≠b):
  Inv X pins σ H' { s with heap:=h',gens:=g',drawn:=d',toks:=t' }:=by
 obtain⟨m,⟨o,es,ep,ho,r⟩,_⟩:=id I.loc
 obtain⟨sl,hL⟩:=u.any ho I.free fun z=>(hch _ z).2.1 rfl
 exact I.step (ch:=ch) hch (fun b o hL hb hc e n=>u.keep b o e n (fun z=>(List.mem_cons.mp (I.stkSub b z)).elim hL hb) hc) (fun b o _ _ hc e n=>u.any e n hc) (fun b o hc e n=>u.free b o e n hc) (fun b o hc e=>u.there b o e hc) u.tups u.frzs u.tbls (fun m' hm=>by
  obtain⟨o',es',ep',ho',r'⟩:=hm
  rw[ho]at ho';cases ho'
  exact⟨_,es',ep',hL,r'⟩) hok hg
theorem Inv.turned {t':Nat} {it:Addr} (I:Inv X pins σ H s) (k:∀b o,b≠it->s.heap.get? b=some o->h'.get? b=some o) (hn:H it=none) (hL:it≠X.env.locals)
  (h1:it∈X.ex\/X.s₀.heap.objs.size<=it) (h2:∀x c,X.env.cells.lookup x=some c->c≠it) (h3:∀p∈X.pn++pins,p.1≠it):Inv X pins σ H { s with heap:=h',toks:=t' }:=by
 have nit:∀b u,H b=some u->b≠it:=fun b u e z=>by rw[z,hn]at e;cases e
 refine I.step (g':=s.gens) (d':=s.drawn) (ch:=[it]) (fun b hb=>?_) (fun b o _ _ hc e _=>k b o (fun z=>hc (by simp[z])) e) (fun b o _ _ hc e _=>⟨o.slots,k b o (fun z=>hc (by simp[z])) e⟩) (fun _ _ _ _ n=>n)
  (fun b o hc e=>⟨o,k b o (fun z=>hc (by simp[z])) e⟩) (fun _ _ e=>e) (fun _ _ _ e=>e) (fun b ps e=>⟨#[],by rw[e];simp⟩) (fun m hm=>?_) (fun b u e=>?_) I.bare
 .have e:b=it:=by simpa using hb
  subst e
  exact⟨h1,hL,h2,h3⟩
 .obtain⟨o,es,ep,ho,r⟩:=hm
  exact⟨o,es,ep,k _ o (Ne.symm hL) ho,r⟩
 .refine(I.hok b u e).stay (fun c v hc q=>k c v ?_ q) (fun _ q=>q) fun _ _ q=>q
  rcases hc with z|z
  .rw[z];exact nit b u e
  .exact nit c _ z
theorem Inv.tok (I:Inv X pins σ H s) (t:Nat):Inv X pins σ H { s with toks:=t }:=I.un (h':=s.heap) (t':=t) Un.refl I.hok
theorem Inv.kept {t':Nat} (I:Inv X pins σ H s) (k:∀b u,s.heap.get? b=some u->h'.get? b=some u):Inv X pins σ H { s with heap:=h',toks:=t' }:=I.un (Un.kept k) (I.hok.kept k)
theorem Inv.laid {a:Addr} {o:HO} {t':Nat} (I:Inv X pins σ H s) (k:∀b u,s.heap.get? b=some u->h'.get? b=some u) (hp:s.heap.objs.size<=a) (new:ObjOk X.prog X.w (upd H a o) h' a o):
  Inv X pins σ (upd H a o) { s with heap:=h',toks:=t' }:=I.un (Un.laid k hp (I.hok.fresh hp)) (I.hok.laid k hp new)
theorem Inv.write {x e:Addr} {o:HO} {t':Nat} (I:Inv X pins σ H s) (mu:Mut (H x)) (he:e=x\/H e=some (.own x)) (k:∀b u,b≠e->s.heap.get? b=some u->h'.get? b=some u) (heo:∃u,h'.get? e=some u)
  (new:ObjOk X.prog X.w (upd H x o) h' x o):Inv X pins σ (upd H x o) { s with heap:=h',toks:=t' }:=I.un (Un.write mu he k heo) (I.hok.write mu he k heo new)
theorem Inv.weak {σ':List (Option V)} (I:Inv X pins σ H s) (hl:σ'.length=σ.length) (w:∀(i:Nat) v,σ'[i]?=some (some v)->σ[i]?=some (some v)):Inv X pins σ' H s:=
 ⟨I.ok,I.os,I.bare,I.base,let⟨m,hn,hl'⟩:=I.loc;⟨m,hn,fun i x v e1 e2 e3=>hl' i x v e1 (w i v e2) e3⟩,I.cell,I.free,I.freeC,I.pin,I.hok,hl.trans I.len⟩
theorem Inv.pins_of {pins':List (Addr×Obj)} (I:Inv X pins σ H s) (h:∀p∈pins',s.heap.get? p.1=some p.2/\H p.1=none/\p.1≠X.env.locals/\p.1∉X.fs/\∀v,p.2.data≠.cell v):Inv X pins' σ H s:=
 ⟨I.ok,I.os,I.bare,I.base,I.loc,I.cell,I.free,I.freeC,fun p hp=>(List.mem_append.mp hp).elim (fun z=>I.pin p (List.mem_append_left _ z)) (h p),I.hok,I.len⟩
theorem nodup_ix {N:List Str} (hN:N.Nodup) {i j:Nat} {x:Str} (a:N[i]?=some x) (b:N[j]?=some x):i=j:=by
 obtain⟨h1,e1⟩:=List.getElem?_eq_some_iff.mp a
 obtain⟨h2,e2⟩:=List.getElem?_eq_some_iff.mp b
 exact(List.getElem_inj hN).mp (e1.trans e2.symm)
theorem store_ok2 {M:Model} {A:Around} {E:Value->Shared->Prop} {i:Nat} {x:Str} {v:V} {u:Value} {Q:Unit->Shared->Prop} (I:Inv X pins σ H s) (hN:X.N.Nodup) (hi:X.N[i]?=some x) (hx:Loc X.env.scope x) (r:RelV v u)
  (h:∀s',Inv X pins (σ.set i (some v)) H s'->(∃a,Heap.SameBut a s.heap s'.heap/\(a=X.env.locals\/X.env.cells.lookup x=some a))->Q () s') (hf:X.fn x=true\/X.env.scope.names.lookup x=some .local:=by first|exact .inl rfl|exact .inr rfl|assumption):wpAny M A (storeName X.env x u) Q E s:=by
 obtain⟨m,hn,hl⟩:=id I.loc
 have hcls:(X.env.scope.kind == .class || (X.env.scope.kind == .module&&X.env.locals != X.env.globals))=false:=by rw[I.ok.kind];rfl
 have hiσ:i<σ.length:=by rw[I.len];exact(List.getElem?_eq_some_iff.mp hi).1
 have cne:=I.cne
 have tracked:∀{a:Addr} {h':Heap},(∃o,s.heap.get? a=some o/\H a=none)->Heap.SameBut a s.heap h'->HOk X.prog X.w H h':=fun {a h'} ha hs b ob e=>by
  obtain⟨_,_,hfree⟩:=ha
  refine(I.hok b ob e).stay (fun c w' hc q=>(hs.2 c ?_).trans q) (fun _ q=>q) fun _ _ q=>q
  rintro rfl
  rcases hc with rfl|hc
  .rw[hfree]at e;cases e
  .rw[hfree]at hc;cases hc
 rcases hx with hk|hk
 .refine wpAny_storeName_local hk hn (fun h' hn' hs=>?_) hcls
  obtain⟨oL,_,_,hoL,_⟩:=id hn
  refine h _ ⟨I.ok,I.os,I.bare,⟨fun b o e n hb hx=>?_,fun b o e n hb hx=>?_,I.base.free,fun b o e hx=>?_,I.base.tups,I.base.frzs,I.base.tbls⟩,⟨_,hn',fun j y v' e1 e2 e3=>?_⟩,fun y c e=>?_,I.free,I.freeC,fun p hp=>?_,tracked ⟨oL,hoL,I.free⟩ hs,by simpa using I.len⟩ ⟨_,hs,.inl rfl⟩
  .exact(hs.2 b (Nat.ne_of_lt (Nat.lt_of_lt_of_le (Heap.lt_size e) I.ok.above))).trans (I.base.keep b o e n hb hx)
  .obtain⟨sl,e1⟩:=I.base.slot b o e n hb hx
   exact⟨sl,(hs.2 b (Nat.ne_of_lt (Nat.lt_of_lt_of_le (Heap.lt_size e) I.ok.above))).trans e1⟩
  .obtain⟨o',e1⟩:=I.base.there b o e hx
   exact⟨o',(hs.2 b (Nat.ne_of_lt (Nat.lt_of_lt_of_le (Heap.lt_size e) I.ok.above))).trans e1⟩
  .by_cases hj:j=i
   .subst hj
    rw[hi]at e1;cases e1
    rw[List.getElem?_set_self hiσ]at e2
    cases e2
    exact⟨u,r,.inl ⟨hk,by simp⟩⟩
   .rw[List.getElem?_set_ne (Ne.symm hj)]at e2
    obtain⟨u',r',q⟩:=hl j y v' e1 e2 e3
    refine⟨u',r',?_⟩
    rcases q with⟨k,e⟩|⟨k,c,e,z⟩
    .refine .inl ⟨k,?_⟩
     have:y≠x:=fun e=>hj (nodup_ix hN e1 (e ▸ hi))
     simp[this,e]
    .exact .inr ⟨k,c,e,z.sameBut hs (cne y c e)⟩
  .obtain⟨w',z⟩:=I.cell y c e
   exact⟨w',z.sameBut hs (cne y c e)⟩
  .obtain⟨e,n,ne,nf,d⟩:=I.pin p hp
   exact⟨(hs.2 p.1 ne).trans e,n,ne,nf,d⟩
 .have hfn:X.fn x=true:=by
   rcases hf with z|z
   .exact z
   .rw[z]at hk;cases hk
  obtain⟨c,hc⟩:=I.ok.has x (.inl hk)
  obtain⟨w',z⟩:=I.cell x c hc
  refine wpAny_storeName_cell I.ok.kind hk hc z (fun h' hc' hs=>?_)
  obtain⟨oc,hoc,hocd⟩:=id z
  refine h { s with heap:=h' } ⟨I.ok,I.os,I.bare,⟨fun b o e n hb hx=>?_,fun b o e n hb hx=>?_,I.base.free,fun b o e hx=>?_,I.base.tups,I.base.frzs,I.base.tbls⟩,⟨m,hn.sameBut hs (Ne.symm (cne x c hc)),fun j y v' e1 e2 e3=>?_⟩,fun y c' e=>?_,I.free,I.freeC,fun p hp=>?_,tracked ⟨oc,hoc,I.freeC x c hc⟩ hs,by simpa using I.len⟩ ⟨c,hs,.inr hc⟩
  .exact(hs.2 b (Nat.ne_of_lt (Nat.lt_of_lt_of_le (Heap.lt_size e) (I.ok.cab x c hfn hc)))).trans (I.base.keep b o e n hb hx)
  .obtain⟨sl,e1⟩:=I.base.slot b o e n hb hx
   exact⟨sl,(hs.2 b (Nat.ne_of_lt (Nat.lt_of_lt_of_le (Heap.lt_size e) (I.ok.cab x c hfn hc)))).trans e1⟩
  .obtain⟨o',e1⟩:=I.base.there b o e hx
   exact⟨o',(hs.2 b (Nat.ne_of_lt (Nat.lt_of_lt_of_le (Heap.lt_size e) (I.ok.cab x c hfn hc)))).trans e1⟩
  .by_cases hj:j=i
   .subst hj
    rw[hi]at e1;cases e1
    rw[List.getElem?_set_self hiσ]at e2
    cases e2
    exact⟨u,r,.inr ⟨.inl hk,c,hc,hc'⟩⟩
   .rw[List.getElem?_set_ne (Ne.symm hj)]at e2
    obtain⟨u',r',q⟩:=hl j y v' e1 e2 e3
    refine⟨u',r',?_⟩
    rcases q with q|⟨k,c',e,z'⟩
    .exact .inl q
    .refine .inr ⟨k,c',e,z'.sameBut hs ?_⟩
     rintro rfl
     exact hj (nodup_ix hN e1 (I.ok.inj _ _ _ e hc ▸ hi))
  .by_cases hcc:c'=c
   .subst hcc;exact⟨_,hc'⟩
   .obtain⟨w2,z2⟩:=I.cell y c' e
    exact⟨w2,z2.sameBut hs hcc⟩
  .obtain⟨e,n,ne,nf,d⟩:=I.pin p hp
   refine⟨(hs.2 p.1 ?_).trans e,n,ne,nf,d⟩
   intro q
   rw[q,hoc]at e
   have q':oc=p.2:=Option.some.inj e
   exact d w' (by rw[<- q'];exact hocd)
theorem store_ok {M:Model} {A:Around} {E:Value->Shared->Prop} {i:Nat} {x:Str} {v:V} {u:Value} {Q:Unit->Shared->Prop} (I:Inv X pins σ H s) (hN:X.N.Nodup) (hi:X.N[i]?=some x) (hx:Loc X.env.scope x) (r:RelV v u)
  (h:∀s',Inv X pins (σ.set i (some v)) H s'->Q () s') (hf:X.fn x=true\/X.env.scope.names.lookup x=some .local:=by first|exact .inl rfl|exact .inr rfl|assumption):wpAny M A (storeName X.env x u) Q E s:=
 store_ok2 I hN hi hx r (fun s' I' _=>h s' I') hf
theorem Inv.call' {s':Shared} {ch:List Addr} (I:Inv X pins σ H s) (ho:s'.os=s.os) (u:Un (frs X.stack) ch H H' s.heap s'.heap) (hok:HOk X.prog X.w H' s'.heap) (hg:AllBare s'.gens)
  (hch:∀b∈ch,(b∈X.ex\/X.s₀.heap.objs.size<=b)/\b≠X.env.locals/\(∀x c,X.env.cells.lookup x=some c->c≠b)/\∀p∈X.pn++pins,p.1≠b):Inv X pins σ H' s':=by
 obtain⟨h',g',d',t',o'⟩:=s'
 have e:o'=s.os:=ho
 subst e
 exact I.call (g':=g') (t':=t') (d':=d') u hok hg hch
end
noncomputable abbrev XK:=Value->Option Addr->Hp->Prop
noncomputable abbrev St:=List (Option V)
noncomputable abbrev VK:=V->Hp->Prop
noncomputable abbrev TE:=St->Hp->VK->Prop
noncomputable abbrev TT:=St->Hp->(Bool->Hp->Prop)->Prop
noncomputable abbrev TA:=St->Hp->(List V->Hp->Prop)->Prop
structure Ends where
 nx:St->Hp->Prop
 rt:VK
 bk:St->Hp->Prop:=fun _ _=>False
 ct:St->Hp->Prop:=fun _ _=>False
noncomputable abbrev TS:=Ends->St->Hp->Prop
def EP (X:Cx) (pins:List (Addr×Obj)) (σ:St) (Q:VK) (u:Value) (s':Shared):Prop:=∃v H',Inv X pins σ H' s'/\RelV v u/\Q v H'
def TP (X:Cx) (pins:List (Addr×Obj)) (σ:St) (Q:Bool->Hp->Prop) (b:Bool) (s':Shared):Prop:=∃H',Inv X pins σ H' s'/\Q b H'
def AP (X:Cx) (pins:List (Addr×Obj)) (σ:St) (Q:List V->Hp->Prop) (us:List Value) (s':Shared):Prop:=∃vs H',Inv X pins σ H' s'/\Vals vs us/\Q vs H'
def SP (X:Cx) (pins:List (Addr×Obj)) (D:Ends) (f:Flow) (s':Shared):Prop:=
 match f with
 | .next=>∃σ' H',Inv X pins σ' H' s'/\D.nx σ' H'
 | .brk=>∃σ' H',Inv X pins σ' H' s'/\D.bk σ' H'
 | .cont=>∃σ' H',Inv X pins σ' H' s'/\D.ct σ' H'
 | .ret u=>∃v σ' H',Inv X pins σ' H' s'/\RelV v u/\D.rt v H'
def PE (X:Cx) (e:Expr) (t:TE):Prop:=
 ∀(pins:List (Addr×Obj)) (s:Shared) (σ:St) (H:Hp) (Q:VK),Inv X pins σ H s->t σ H Q->wpAny (model X.prog X.w) X.A (eval e X.env) (EP X pins σ Q) X.xe s
def PT (X:Cx) (e:Expr) (t:TT):Prop:=
 ∀(pins:List (Addr×Obj)) (s:Shared) (σ:St) (H:Hp) (Q:Bool->Hp->Prop),Inv X pins σ H s->t σ H Q->wpAny (model X.prog X.w) X.A (isTrue e X.env (eval e X.env)) (TP X pins σ Q) X.xe s
def PW (X:Cx) (e:Expr) (t:TT):Prop:=
 ∀(whole:Sem Value) (pins:List (Addr×Obj)) (s:Shared) (σ:St) (H:Hp) (Q:Bool->Hp->Prop),Inv X pins σ H s->t σ H Q->wpAny (model X.prog X.w) X.A (isTrue e X.env whole) (TP X pins σ Q) X.xe s
theorem PW.pt {X:Cx} {e:Expr} {t:TT} (h:PW X e t):PT X e t:=h _
def PA (X:Cx) (es:List Expr) (t:TA):Prop:=
 ∀(pos:Pos) (pins:List (Addr×Obj)) (s:Shared) (σ:St) (H:Hp) (Q:List V->Hp->Prop),Inv X pins σ H s->t σ H Q->wpAny (model X.prog X.w) X.A (spliced (backTo pos (starEach es X.env))) (AP X pins σ Q) X.xe s
def PS (X:Cx) (st:Stmt) (t:TS):Prop:=
 ∀(pins:List (Addr×Obj)) (s:Shared) (σ:St) (H:Hp) (D:Ends),Inv X pins σ H s->t D σ H->wpAny (model X.prog X.w) X.A (exec st X.env) (SP X pins D) X.xe s
def PSs (X:Cx) (st:List Stmt) (t:TS):Prop:=
 ∀(pins:List (Addr×Obj)) (s:Shared) (σ:St) (H:Hp) (D:Ends),Inv X pins σ H s->t D σ H->wpAny (model X.prog X.w) X.A (execs st X.env) (SP X pins D) X.xe s
theorem thn {α:Type} {t:Sem α} {Q Q':α->Shared->Prop} {M:Model} {A:Around} {E:Value->Shared->Prop} {s:Shared} (h:wpAny M A t Q E s) (hQ:∀a s,Q a s->Q' a s):wpAny M A t Q' E s:=wpAny_mono h hQ fun _ _ x=>x
section
variable {X:Cx}
theorem bin {a b:Expr} {ta tb:TE} (ha:PE X a ta) (hb:PE X b tb) {pins:List (Addr×Obj)} {s:Shared} {σ:St} {H:Hp} {R:V->V->Hp->Prop} (I:Inv X pins σ H s) (h:ta σ H fun x H1=>tb σ H1 fun y H2=>R x y H2)
  {α:Type} {Q:α->Shared->Prop} {f:Value->Value->Sem α}
  (hf:∀v u s2 x y H2,Inv X pins σ H2 s2->RelV x v->RelV y u->R x y H2->wpAny (model X.prog X.w) X.A (f v u) Q X.xe s2):
  wpAny (model X.prog X.w) X.A (eval a X.env) (fun v s₁=>wpAny (model X.prog X.w) X.A (eval b X.env) (fun u s₂=>wpAny (model X.prog X.w) X.A (f v u) Q X.xe s₂) X.xe s₁) X.xe s:=by
 refine thn (ha pins s σ H _ I h) fun v s1 ⟨x,H1,I1,r1,q1⟩=>?_
 refine thn (hb pins s1 σ H1 _ I1 q1) fun u s2 ⟨y,H2,I2,r2,q2⟩=>?_
 exact hf v u s2 x y H2 I2 r1 r2 q2
noncomputable def tVar (i:Nat):TE:=fun σ H Q=>∃v,σ[i]?=some (some v)/\Q v H
noncomputable def tC (v:V):TE:=fun _ H Q=>Q v H
theorem pe_var {i:Nat} {x:Str} {pos:Pos} (hN:X.N[i]?=some x) (hv:Vis X.env.scope x) (hd:(x == ("__debug__":Str))=false:=by decide) (hcd:(x == ("__classdict__":Str))=false:=by decide):PE X (.Name x pos) (tVar i):=by
 intro pins s σ H Q I h
 obtain⟨v,e,h⟩:=h
 obtain⟨m,hn,hl⟩:=I.loc
 obtain⟨u,r,l⟩:=hl i x v hN e hv
 have fin:EP X pins σ Q u s:=⟨v,H,I,r,h⟩
 rcases l with⟨hk,hm⟩|⟨hk,c,hc,hcell⟩
 .exact wpAny_Name (wpAny_loadName_local I.ok.kind hk hn hm fin) hd
 .rcases hk with hk|hk
  .exact wpAny_Name (wpAny_loadName_cell I.ok.kind hk hc hcell fin) hd
  .exact wpAny_Name (wpAny_loadName_free I.ok.kind hk hc hcell fin hcd) hd
theorem pe_int {i j pos}:PE X (.Constant (.int i) j pos) (tC (.int i)):=fun _ _ _ H _ I h=>wpAny_Constant_int ⟨.int i,H,I.tok _,⟨_,rfl⟩,h⟩
theorem pe_bl {b j pos}:PE X (.Constant (.bool b) j pos) (tC (.bl b)):=fun _ _ _ H _ I h=>Constant_bool ⟨.bl b,H,I,rfl,h⟩
theorem pe_non {j pos}:PE X (.Constant .none j pos) (tC .non):=fun _ _ _ H _ I h=>Constant_none ⟨.non,H,I,rfl,h⟩
theorem pe_str {x j pos}:PE X (.Constant (.str x) j pos) (tC (.str x)):=fun _ _ _ H _ I h=>Calls.Constant_str ⟨.str x,H,I.tok _,⟨_,rfl⟩,h⟩
def Gl (X:Cx) (x:Str):Prop:=X.env.kindOf x=some .globalImplicit
theorem ld_glob {E:Value->Shared->Prop} {pins:List (Addr×Obj)} {s:Shared} {σ:St} {H:Hp} {x:Str} {u:Value} {pos:Pos} {Q:Value->Shared->Prop} (I:Inv X pins σ H s) (hg:Gl X x) (hm:X.mg x=some u) (h:Q u s)
  (hd:(x == ("__debug__":Str))=false:=by decide):wpAny (model X.prog X.w) X.A (eval (.Name x pos) X.env) Q E s:=
 Calls.Name_function_global I.ok.kind hg (Calls.loadGlobal_global (by rw[I.ok.glob];exact I.mod.glob.keeps I.bk) hm h) hd
theorem ld_blt {E:Value->Shared->Prop} {pins:List (Addr×Obj)} {s:Shared} {σ:St} {H:Hp} {x:Str} {u:Value} {pos:Pos} {Q:Value->Shared->Prop} (I:Inv X pins σ H s) (hg:Gl X x) (hm:X.mg x=none) (hv:bootBuiltins x=some u) (h:Q u s)
  (hn:x≠"__name__":=by decide) (hd:(x == ("__debug__":Str))=false:=by decide):wpAny (model X.prog X.w) X.A (eval (.Name x pos) X.env) Q E s:=by
 obtain⟨mb,h1,h2⟩:=I.mod.blt
 exact Calls.Name_function_global I.ok.kind hg (Calls.loadGlobal_builtin (by rw[I.ok.glob];exact I.mod.glob.keeps I.bk) hm (by rw[I.ok.blt];exact h1.keeps I.bk) ((h2 x hn).trans hv) h) hd
variable {a b:Expr} {ta tb:TE} {pos:Pos}
def PC (X:Cx) (op:CmpOp) (a b:Expr) (t:TE):Prop:=
 ∀(pins:List (Addr×Obj)) (s:Shared) (σ:St) (H:Hp) (Q:VK),Inv X pins σ H s->t σ H Q->
  wpAny (model X.prog X.w) X.A (eval a X.env) (fun v s₁=>wpAny (model X.prog X.w) X.A (eval b X.env) (fun u s₂=>wpAny (model X.prog X.w) X.A (compareOp op v u) (EP X pins σ Q) X.xe s₂) X.xe s₁) X.xe s
noncomputable def tB (t:TE):TT:=fun σ H Q=>t σ H fun x H1=>∃c,x=.bl c/\Q c H1
theorem pe_cmp {op:CmpOp} {t:TE} (h:PC X op a b t) (h1:behindInMarks op b=false:=by rfl):PE X (.Compare a [op] [b] pos) t:=fun pins s σ H Q I hw=>wpAny_Compare1 (h pins s σ H Q I hw) h1
theorem pt_cmp {op:CmpOp} {t:TE} (h:PC X op a b t) (h1:behindInMarks op b=false:=by rfl):PT X (.Compare a [op] [b] pos) (tB t):=by
 intro pins s σ H Q I hw
 refine wpAny_isTrue_Compare1 (thn (h pins s σ H _ I hw) fun v s1 h1=>thn h1 fun u s2 h2=>thn h2 fun c s3 ⟨x,H1,I1,r1,q1⟩=>?_) h1
 obtain⟨d,rfl,q⟩:=q1
 cases r1
 exact wpAny_truthy_bool ⟨H1,I1,q⟩
variable {tA tB':TT} {rest:List Expr}
noncomputable def tAnd (t u:TT):TT:=fun σ H Q=>t σ H fun c H1=>if c=true then u σ H1 Q else Q false H1
noncomputable def tOr (t u:TT):TT:=fun σ H Q=>t σ H fun c H1=>if c=true then Q true H1 else u σ H1 Q
noncomputable def tNot (t:TT):TT:=fun σ H Q=>t σ H fun c H1=>Q (!c) H1
theorem pw_and1 (ha:PT X a tA):PW X (.BoolOp .And [a] pos) tA:=by
 intro wh pins s σ H Q I h
 refine isTrue_and (thn (ha pins s σ H Q I h) fun c s1 e=>?_)
 cases c with
 |true=>exact isTrue_and_nil e
 |false=>exact e
theorem pw_or1 (ha:PT X a tA):PW X (.BoolOp .Or [a] pos) tA:=by
 intro wh pins s σ H Q I h
 refine isTrue_or (thn (ha pins s σ H Q I h) fun c s1 e=>?_)
 cases c with
 |false=>exact isTrue_or_nil e
 |true=>exact e
theorem pw_and (ha:PT X a tA) (hb:PW X (.BoolOp .And (b :: rest) pos) tB'):PW X (.BoolOp .And (a :: b :: rest) pos) (tAnd tA tB'):=by
 intro wh pins s σ H Q I h
 refine isTrue_and (thn (ha pins s σ H _ I h) fun c s1 ⟨H1,I1,q1⟩=>?_)
 cases c with
 |true=>exact hb wh pins s1 σ H1 Q I1 q1
 |false=>exact⟨H1,I1,q1⟩
theorem pw_or (ha:PT X a tA) (hb:PW X (.BoolOp .Or (b :: rest) pos) tB'):PW X (.BoolOp .Or (a :: b :: rest) pos) (tOr tA tB'):=by
 intro wh pins s σ H Q I h
 refine isTrue_or (thn (ha pins s σ H _ I h) fun c s1 ⟨H1,I1,q1⟩=>?_)
 cases c with
 |true=>exact⟨H1,I1,q1⟩
 |false=>exact hb wh pins s1 σ H1 Q I1 q1
theorem pt_not (ha:PT X a tA):PT X (.UnaryOp .Not a pos) (tNot tA):=by
 intro pins s σ H Q I h
 exact isTrue_not (ha pins s σ H (fun c H1=>Q (!c) H1) I h)
noncomputable def tAndV (ta tb:TE):TE:=fun σ H Q=>ta σ H fun x H1=>∃c,x=.bl c/\if c=true then tb σ H1 Q else Q (.bl false) H1
noncomputable def tOrV (ta tb:TE):TE:=fun σ H Q=>ta σ H fun x H1=>∃c,x=.bl c/\if c=true then Q (.bl true) H1 else tb σ H1 Q
noncomputable def tNotV (ta:TE):TE:=fun σ H Q=>ta σ H fun x H1=>∃c,x=.bl c/\Q (.bl (!c)) H1
theorem pe_one {op} {t:TE} (h:PE X a t):PE X (.BoolOp op [a] pos) t:=fun pins s σ H Q I hw=>BoolOp_one (h pins s σ H Q I hw)
theorem pe_and (ha:PE X a ta) (hb:PE X (.BoolOp .And (b :: rest) pos) tb):PE X (.BoolOp .And (a :: b :: rest) pos) (tAndV ta tb):=by
 intro pins s σ H Q I h
 refine BoolOp_and (thn (ha pins s σ H _ I h) fun v s1 ⟨x,H1,I1,r1,q1⟩=>?_)
 obtain⟨c,rfl,q1⟩:=q1
 cases r1
 refine wpAny_truthy_bool ?_
 cases c with
 |true=>exact hb pins s1 σ H1 Q I1 q1
 |false=>exact⟨.bl false,H1,I1,rfl,q1⟩
theorem pe_or (ha:PE X a ta) (hb:PE X (.BoolOp .Or (b :: rest) pos) tb):PE X (.BoolOp .Or (a :: b :: rest) pos) (tOrV ta tb):=by
 intro pins s σ H Q I h
 refine BoolOp_or (thn (ha pins s σ H _ I h) fun v s1 ⟨x,H1,I1,r1,q1⟩=>?_)
 obtain⟨c,rfl,q1⟩:=q1
 cases r1
 refine wpAny_truthy_bool ?_
 cases c with
 |false=>exact hb pins s1 σ H1 Q I1 q1
 |true=>exact⟨.bl true,H1,I1,rfl,q1⟩
theorem pe_not (ha:PE X a ta):PE X (.UnaryOp .Not a pos) (tNotV ta):=by
 intro pins s σ H Q I h
 refine UnaryOp_ (thn (ha pins s σ H _ I h) fun v s1 ⟨x,H1,I1,r1,q1⟩=>?_)
 obtain⟨c,rfl,q1⟩:=q1
 cases r1
 exact not_of (wpAny_truthy_bool ⟨.bl (!c),H1,I1,rfl,q1⟩)
noncomputable def tIf (t:TT) (ta tb:TE):TE:=fun σ H Q=>t σ H fun c H1=>if c=true then ta σ H1 Q else tb σ H1 Q
theorem pe_ifExp {c:Expr} (hc:PT X c tA) (ha:PE X a ta) (hb:PE X b tb):PE X (.IfExp c a b pos) (tIf tA ta tb):=by
 intro pins s σ H Q I h
 refine wpAny_IfExp (thn (hc pins s σ H _ I h) fun d s1 ⟨H1,I1,q1⟩=>?_)
 cases d with
 |true=>exact ha pins s1 σ H1 Q I1 q1
 |false=>exact hb pins s1 σ H1 Q I1 q1
end
def SqL (K:W.Frag) (H:Hp) (a:Addr) (xs:List V):Prop:=
 Rd H a (.lst xs)\/
  ∃(o:Obj) (its:Array Value) (n:Nat),K.lookup a=some o/\o.cls=.type "list"/\o.dict=none/\o.data=.seq its n/\its.size<=sizeLine/\Vals xs its.toList
def SqT (K:W.Frag) (H:Hp) (a:Addr) (xs:List V):Prop:=
 Rd H a (.tup xs)\/
  ∃(o:Obj) (its:Array Value) (n:Nat),K.lookup a=some o/\o.cls=.type "tuple"/\o.data=.seq its n/\its.size<=sizeLine/\Vals xs its.toList
noncomputable def absV:Value->Option V
 | .none=>some .non
 | .bool b=>some (.bl b)
 | .int i _=>some (.int i)
 | .str x _=>some (.str x)
 | .bytes b _=>some (.byt b)
 | .float b _=>some (.flt b)
 | .ref a=>some (.ref a)
 | .type n=>some (.ty n)
 |_=>none
theorem RelV.abs {x:V} {u:Value} (r:RelV x u):absV u=some x:=by
 cases x with
 |non=>cases r;rfl
 |bl _=>cases r;rfl
 |int _=>obtain⟨t,rfl⟩:=r;rfl
 |str _=>obtain⟨t,rfl⟩:=r;rfl
 |byt _=>obtain⟨t,rfl⟩:=r;rfl
 |flt _=>obtain⟨t,rfl⟩:=r;rfl
 |ref _=>cases r;rfl
 |ty _=>cases r;rfl
theorem RelV.inj {x y:V} {u:Value} (r:RelV x u) (q:RelV y u):x=y:=Option.some.inj (r.abs.symm.trans q.abs)
theorem Vals.inj:∀{xs ys:List V} {us:List Value},Vals xs us->Vals ys us->xs=ys
 |_,_,_,.nil,.nil=>rfl
 |_,_,_,.cons r t,.cons r' t'=>by rw[r.inj r',Vals.inj t t']
section
variable {X:Cx} {pins:List (Addr×Obj)} {σ:St} {H:Hp} {s:Shared} {a:Addr} {xs ys:List V}
theorem SqL.of {K:W.Frag} (h:H a=some (.lst xs)):SqL K H a xs:=.inl (.inl h)
theorem SqT.of {K:W.Frag} (h:H a=some (.tup xs)):SqT K H a xs:=.inl (.inl h)
theorem Inv.list (I:Inv X pins σ H s) (h:SqL X.K H a xs):∃its:List Value,Vals xs its/\PlainL s.heap a its.toArray/\xs.length<=sizeLine:=by
 rcases h with h|⟨o,its,n,hk,hc,hd,hs,hz,r⟩
 .obtain⟨z,its,n,r,e⟩:=h.ok I.hok
  exact⟨its,r,⟨_,n,e,rfl,rfl,rfl⟩,z⟩
 .refine⟨its.toList,r,⟨o,n,I.kIn a o hk,hc,hd,by simpa using hs⟩,?_⟩
  have e:=r.length
  simp only[Array.length_toList]at e
  omega
theorem Inv.tuple (I:Inv X pins σ H s) (h:SqT X.K H a xs):∃its:List Value,Vals xs its/\IsTup s.heap a its.toArray/\xs.length<=sizeLine:=by
 rcases h with h|⟨o,its,n,hk,hc,hs,hz,r⟩
 .obtain⟨z,its,r,p⟩:=h.ok I.hok
  exact⟨its,r,p.tup,z⟩
 .refine⟨its.toList,r,⟨o,I.kIn a o hk,hc,n,by simpa using hs⟩,?_⟩
  have e:=r.length
  simp only[Array.length_toList]at e
  omega
theorem Inv.list_inj (I:Inv X pins σ H s) (h:SqL X.K H a xs) (h':SqL X.K H a ys):xs=ys:=by
 obtain⟨its,r,⟨o,n,e,_,_,d⟩,_⟩:=I.list h
 obtain⟨its',r',⟨o',n',e',_,_,d'⟩,_⟩:=I.list h'
 rw[e]at e';cases e'
 rw[d]at d'
 injection d' with d1 _
 have:its=its':=by simpa using congrArg Array.toList d1
 subst this
 exact r.inj r'
theorem Inv.tuple_inj (I:Inv X pins σ H s) (h:SqT X.K H a xs) (h':SqT X.K H a ys):xs=ys:=by
 obtain⟨its,r,⟨o,e,_,n,d⟩,_⟩:=I.tuple h
 obtain⟨its',r',⟨o',e',_,n',d'⟩,_⟩:=I.tuple h'
 rw[e]at e';cases e'
 rw[d]at d'
 injection d' with d1 _
 have:its=its':=by simpa using congrArg Array.toList d1
 subst this
 exact r.inj r'
end
noncomputable abbrev Cx.wish (X:Cx) (E:Value->Shared->Prop):Cx:={ X with xe:=E }
noncomputable abbrev Cx.nox (X:Cx):Cx:=X.wish fun _ _=>False
theorem Cx.Ok.wish {X:Cx} (ok:X.Ok) (E:Value->Shared->Prop):(X.wish E).Ok:=
 ⟨ok.mod,ok.kind,ok.glob,ok.blt,ok.above,ok.inj,ok.has,ok.cab,ok.hd,ok.frames,ok.stk,ok.exf,ok.bs,ok.bsz,ok.noex,ok.exfs,ok.funs,ok.frf⟩
theorem Cx.Ok.unwish {X:Cx} {E:Value->Shared->Prop} (ok:(X.wish E).Ok):X.Ok:=
 ⟨ok.mod,ok.kind,ok.glob,ok.blt,ok.above,ok.inj,ok.has,ok.cab,ok.hd,ok.frames,ok.stk,ok.exf,ok.bs,ok.bsz,ok.noex,ok.exfs,ok.funs,ok.frf⟩
section
variable {X:Cx} {pins:List (Addr×Obj)} {σ:St} {H:Hp} {s:Shared} {E:Value->Shared->Prop}
theorem Inv.wish (I:Inv X pins σ H s) (E:Value->Shared->Prop):Inv (X.wish E) pins σ H s:=⟨I.ok.wish E,I.os,I.bare,I.base,I.loc,I.cell,I.free,I.freeC,I.pin,I.hok,I.len⟩
theorem Inv.unwish (I:Inv (X.wish E) pins σ H s):Inv X pins σ H s:=⟨I.ok.unwish,I.os,I.bare,I.base,I.loc,I.cell,I.free,I.freeC,I.pin,I.hok,I.len⟩
theorem SP.unwish {D:Ends} {f:Flow} {s':Shared} (h:SP (X.wish E) pins D f s'):SP X pins D f s':=by
 cases f with
 |next=>obtain⟨σ',H',I,q⟩:=h;exact⟨σ',H',I.unwish,q⟩
 |brk=>obtain⟨σ',H',I,q⟩:=h;exact⟨σ',H',I.unwish,q⟩
 |cont=>obtain⟨σ',H',I,q⟩:=h;exact⟨σ',H',I.unwish,q⟩
 |ret u=>obtain⟨v,σ',H',I,r,q⟩:=h;exact⟨v,σ',H',I.unwish,r,q⟩
theorem PSs.nox {st:List Stmt} {t:TS} (h:PSs X.nox st t):PSs X st t:=fun pins s σ H D I hw=>
 wpAny_mono (h pins s σ H D (I.wish _) hw) (fun _ _ q=>q.unwish) fun _ _ z=>False.elim z
end
section
variable {X:Cx} {st:Stmt} {rest:List Stmt} {t u:TS} {e:Expr} {te:TE} {pos:Pos}
noncomputable def tNext:TS:=fun D σ H=>D.nx σ H
noncomputable def tSeq (t u:TS):TS:=fun D σ H=>t { D with nx:=u D } σ H
theorem pss_nil:PSs X [] tNext:=fun _ _ σ H _ I h=>wpAny_execs_nil ⟨σ,H,I,h⟩
theorem pss_cons (h1:PS X st t) (h2:PSs X rest u):PSs X (st :: rest) (tSeq t u):=by
 intro pins s σ H D I h
 refine wpAny_execs_cons (thn (h1 pins s σ H { D with nx:=u D } I h) fun f s1 q=>?_)
 cases f with
 |next=>
  obtain⟨σ',H',I',q⟩:=q
  exact h2 pins s1 σ' H' D I' q
 |ret v=>exact q
 |brk=>exact q
 |cont=>exact q
theorem Inv.quiet {pins:List (Addr×Obj)} {σ:St} {H:Hp} {s:Shared} (I:Inv X pins σ H s):interactive X.env=false:=by simp[interactive,I.ok.kind]
noncomputable def tDrop (te:TE):TS:=fun D σ H=>te σ H fun _ H1=>D.nx σ H1
theorem ps_expr (he:PE X e te) (hs:swapsWith e none pos.line X.env=pure false:=by rfl):PS X (.Expr e pos) (tDrop te):=by
 intro pins s σ H D I h
 exact wpAny_Expr_any (thn (he pins s σ H _ I h) fun v s1 ⟨x,H1,I1,r1,q1⟩=>⟨σ,H1,I1,q1⟩) I.quiet hs
noncomputable def tRet (te:TE):TS:=fun D σ H=>te σ H D.rt
theorem ps_ret (he:PE X e te):PS X (.Return (some e) pos) (tRet te):=by
 intro pins s σ H D I h
 exact wpAny_Return_some (thn (he pins s σ H _ I h) fun v s1 ⟨x,H1,I1,r1,q1⟩=>⟨x,σ,H1,I1,r1,q1⟩)
noncomputable def tIfS (c:TT) (t u:TS):TS:=fun D σ H=>c σ H fun b H1=>if b=true then t D σ H1 else u D σ H1
theorem ps_if {c:Expr} {a b:List Stmt} {tc:TT} (hc:PT X c tc) (ha:PSs X a t) (hb:PSs X b u):PS X (.If c a b pos) (tIfS tc t u):=by
 intro pins s σ H D I h
 refine wpAny_If (thn (hc pins s σ H _ I h) fun d s1 ⟨H1,I1,q1⟩=>?_)
 cases d with
 |true=>exact ha pins s1 σ H1 D I1 q1
 |false=>exact hb pins s1 σ H1 D I1 q1
noncomputable def tNever:TS:=fun _ _ _=>False
theorem ps_never:PS X st tNever:=fun _ _ _ _ _ _ h=>h.elim
end
noncomputable abbrev TG:=V->St->Hp->(St->Hp->Prop)->Prop
noncomputable abbrev TGs:=List V->St->Hp->(St->Hp->Prop)->Prop
def PG (X:Cx) (target:Expr) (t:TG):Prop:=
 ∀(pins:List (Addr×Obj)) (s:Shared) (σ:St) (H:Hp) (v:V) (u:Value) (Q:St->Hp->Prop),Inv X pins σ H s->RelV v u->t v σ H Q->
  wpAny (model X.prog X.w) X.A (assign target X.env u) (fun _ s'=>∃σ' H',Inv X pins σ' H' s'/\Q σ' H') X.xe s
def PGs (X:Cx) (ts:List Expr) (t:TGs):Prop:=
 ∀(pins:List (Addr×Obj)) (s:Shared) (σ:St) (H:Hp) (vs:List V) (us:List Value) (Q:St->Hp->Prop),Inv X pins σ H s->Vals vs us->t vs σ H Q->
  wpAny (model X.prog X.w) X.A (assignInOrder ((assignEach ts X.env).map (·.2)) us) (fun _ s'=>∃σ' H',Inv X pins σ' H' s'/\Q σ' H') X.xe s
noncomputable abbrev TSet:=V->V->V->Hp->(Hp->Prop)->Prop
def PSet (X:Cx) (t:TSet):Prop:=
 ∀(pins:List (Addr×Obj)) (s:Shared) (σ:St) (H:Hp) (o i v:V) (ov iv u:Value) (Q:Hp->Prop),Inv X pins σ H s->RelV o ov->RelV i iv->RelV v u->t o i v H Q->
  wpAny (model X.prog X.w) X.A (setItem ov iv u) (fun _ s'=>∃H',Inv X pins σ H' s'/\Q H') X.xe s
noncomputable abbrev TIp:=V->V->Hp->VK->Prop
def PIp (X:Cx) (op:Operator) (t:TIp):Prop:=
 ∀(pins:List (Addr×Obj)) (s:Shared) (σ:St) (H:Hp) (x y:V) (v u:Value) (Q:VK),Inv X pins σ H s->RelV x v->RelV y u->t x y H Q->
  wpAny (model X.prog X.w) X.A (inplaceOp op v u) (EP X pins σ Q) X.xe s
section
variable {X:Cx} {pos:Pos}
noncomputable def gName (i:Nat):TG:=fun v σ H Q=>Q (σ.set i (some v)) H
theorem pg_name {i:Nat} {x:Str} (hN:X.N.Nodup) (hi:X.N[i]?=some x) (hx:Loc X.env.scope x) (hf:X.fn x=true\/X.env.scope.names.lookup x=some .local:=by first|exact .inl rfl|exact .inr rfl|assumption):PG X (.Name x pos) (gName i):=by
 intro pins s σ H v u Q I r h
 exact wpAny_assign_Name (store_ok I hN hi hx r (fun s' I'=>⟨_,H,I',h⟩) hf)
noncomputable def gNil:TGs:=fun vs σ H Q=>vs=[]/\Q σ H
noncomputable def gCons (t:TG) (u:TGs):TGs:=fun vs σ H Q=>∃v r,vs=v :: r/\t v σ H fun σ' H'=>u r σ' H' Q
theorem pgs_nil:PGs X [] gNil:=by
 intro pins s σ H vs us Q I r h
 obtain⟨e,h⟩:=h
 subst e
 cases r
 exact assignInOrder_nil ⟨σ,H,I,h⟩
theorem pgs_cons {e:Expr} {es:List Expr} {t:TG} {u:TGs} (h1:PG X e t) (h2:PGs X es u)
  (hs:(assignEach (e :: es) X.env).map (·.2)=assign e X.env :: (assignEach es X.env).map (·.2):=by rfl):PGs X (e :: es) (gCons t u):=by
 intro pins s σ H vs us Q I r h
 obtain⟨v,vr,e1,h⟩:=h
 subst e1
 cases r with
 |cons r rr=>
  rw[hs]
  refine assignInOrder_cons (thn (h1 pins s σ H _ _ _ I r h) fun _ s1 ⟨σ1,H1,I1,q1⟩=>?_)
  exact h2 pins s1 σ1 H1 _ _ Q I1 rr q1
noncomputable def gTup (K:W.Frag) (n:Nat) (t:TGs):TG:=fun v σ H Q=>∃a xs,v=.ref a/\SqT K H a xs/\xs.length=n/\t xs σ H Q
theorem pg_tup {es:List Expr} {k:Nat} {t:TGs} {n:Nat} (hc:X.calm=true) (h:PGs X es t)
  (hn:(assignEach es X.env).length=n:=by rfl) (hst:(assignEach es X.env).findIdx? (·.1)=none:=by rfl):PG X (.Tuple es k pos) (gTup X.K n t):=by
 intro pins s σ H v u Q I r hw
 obtain⟨a,xs,e1,hq,hl,hw⟩:=hw
 subst e1
 cases r
 obtain⟨its,rv,ht,hz⟩:=I.tuple hq
 refine assign_Tuple_tuple (I.ok.hd hc) ht (by simp[hn,<- hl,rv.length]) hst fun h' hx=>?_
 have I1:Inv X pins σ H { s with heap:=h' }:=I.kept (t':=s.toks) fun b o e=>hx b o (Nat.ne_of_lt (Heap.lt_size e)) e
 exact h pins _ σ H xs _ Q I1 (by simpa using rv) hw
noncomputable def gSub (to ti:TE) (t:TSet):TG:=fun v σ H Q=>to σ H fun o H1=>ti σ H1 fun i H2=>t o i v H2 fun H3=>Q σ H3
theorem pg_sub {o i:Expr} {to ti:TE} {t:TSet} (ho:PE X o to) (hi:PE X i ti) (hs:PSet X t)
  (ha:∀v,assign (.Subscript o i pos) X.env v=(do
   let ov <- holding [v] (eval o X.env)
   let iv <- holding [v,ov] (eval i X.env)
   standAt pos
   holding [v,ov,iv] (setItem ov iv v)
   release [v,ov,iv] []):=by intro _;rfl):PG X (.Subscript o i pos) (gSub to ti t):=by
 intro pins s σ H v u Q I r h
 rw[ha]
 refine wpAny_bind (wpAny_holding (thn (ho pins s σ H _ I h) fun ov s1 ⟨x,H1,I1,r1,q1⟩=>?_))
 refine wpAny_bind (wpAny_holding (thn (hi pins s1 σ H1 _ I1 q1) fun iv s2 ⟨y,H2,I2,r2,q2⟩=>?_))
 refine wpAny_bind (wpAny_standAt (wpAny_bind (wpAny_holding (thn (hs pins s2 σ H2 x y v ov iv u _ I2 r1 r2 r q2) fun _ s3 ⟨H3,I3,q3⟩=>?_))))
 exact wpAny_release ⟨σ,H3,I3,q3⟩
noncomputable def tAsg (te:TE) (g:TG):TS:=fun D σ H=>te σ H fun x H1=>g x σ H1 D.nx
theorem ps_asg {tg e:Expr} {te:TE} {g:TG} (he:PE X e te) (hg:PG X tg g) (hs:swapsWithSole [tg] e pos.line X.env=pure false:=by rfl) (hw:swappedStores [tg] e X.env=pure none:=by rfl)
  (h1:(assignEach [tg] X.env).map (·.2)=[assign tg X.env]:=by rfl):PS X (.Assign [tg] e pos) (tAsg te g):=by
 intro pins s σ H D I h
 refine wpAny_Assign_stores (thn (he pins s σ H _ I h) fun v s1 ⟨x,H1,I1,r1,q1⟩=>?_) hs hw
 rw[h1]
 exact thn (hg pins s1 σ H1 x v _ I1 r1 q1) fun _ s2 q=>q
noncomputable def tAug (i:Nat) (te:TE) (ti:TIp):TS:=fun D σ H=>∃x,σ[i]?=some (some x)/\te σ H fun y H1=>ti x y H1 fun z H2=>D.nx (σ.set i (some z)) H2
theorem ps_aug {i:Nat} {x:Str} {e:Expr} {te:TE} {op:Operator} {ti:TIp} {pos':Pos} (hN:X.N.Nodup) (hi:X.N[i]?=some x) (hx:Loc X.env.scope x) (he:PE X e te) (ho:PIp X op ti) (hf:X.fn x=true\/X.env.scope.names.lookup x=some .local:=by first|exact .inl rfl|exact .inr rfl|assumption):
  PS X (.AugAssign (.Name x pos') op e pos) (tAug i te ti):=by
 intro pins s σ H D I h
 obtain⟨v,e1,h⟩:=h
 obtain⟨m,hn,hl⟩:=I.loc
 have vis:Vis X.env.scope x:=by rcases hx with k|k;exact .inl k;exact .inr (.inl k)
 obtain⟨u,r,l⟩:=hl i x v hi e1 vis
 refine wpAny_AugAssign_Name ?_
 have go:wpAny (model X.prog X.w) X.A (eval e X.env) (fun w s₂=>wpAny (model X.prog X.w) X.A (inplaceOp op u w) (fun r s₃=>wpAny (model X.prog X.w) X.A (storeName X.env x r) (fun _=>SP X pins D .next) X.xe s₃) X.xe s₂) X.xe s:=by
  refine thn (he pins s σ H _ I h) fun w s1 ⟨y,H1,I1,r1,q1⟩=>?_
  refine thn (ho pins s1 σ H1 v y u w _ I1 r r1 q1) fun z s2 ⟨zv,H2,I2,r2,q2⟩=>?_
  exact store_ok I2 hN hi hx r2 (fun s3 I3=>⟨_,H2,I3,q2⟩) hf
 rcases l with⟨hk,hm⟩|⟨hk,c,hc,hcell⟩
 .exact wpAny_loadName_local I.ok.kind hk hn hm go
 .rcases hk with hk|hk
  .exact wpAny_loadName_cell I.ok.kind hk hc hcell go
  .rcases hx with k|k
   .have:X.env.scope.names.lookup x=some .free:=hk
    rw[k]at this;cases this
   .have:X.env.scope.names.lookup x=some .free:=hk
    rw[k]at this;cases this
noncomputable def ipI (f:Int->Int->Int):TIp:=fun x y H Q=>∃i j,x=.int i/\y=.int j/\Q (.int (f i j)) H
theorem ip_add:PIp X .Add (ipI fun i j=>i+j):=by
 intro pins s σ H x y v u Q I r1 r2 h
 obtain⟨i,j,e1,e2,q⟩:=h
 subst e1;subst e2
 obtain⟨t,rfl⟩:=r1
 obtain⟨t',rfl⟩:=r2
 exact iadd_int ⟨.int _,H,I.tok _,⟨_,rfl⟩,q⟩
theorem ip_sub:PIp X .Sub (ipI fun i j=>i-j):=by
 intro pins s σ H x y v u Q I r1 r2 h
 obtain⟨i,j,e1,e2,q⟩:=h
 subst e1;subst e2
 obtain⟨t,rfl⟩:=r1
 obtain⟨t',rfl⟩:=r2
 exact isub_int ⟨.int _,H,I.tok _,⟨_,rfl⟩,q⟩
end
section
variable {X:Cx} {pos:Pos}
noncomputable def tWhile (c:TT) (tb:TS):TS:=fun D σ H=>∃W:Nat->St->Hp->Prop,(∃m,W m σ H)/\∀m σ H,W m σ H->
 c σ H fun b H1=>if b=true then ∃N:St->Hp->Prop,(∀σ' H',N σ' H'->∃m',m'<m/\W m' σ' H')/\tb { D with nx:=N,ct:=N,bk:=D.nx } σ H1 else D.nx σ H1
theorem ps_while {c:Expr} {body:List Stmt} {tc:TT} {tb:TS} (hp:PassesOwn (model X.prog X.w) X.A X.env X.xe) (hc:PT X c tc) (hb:PSs X body tb):PS X (.While c body [] pos) (tWhile tc tb):=by
 intro pins s σ H D I h
 obtain⟨W,⟨m0,w0⟩,turn⟩:=h
 refine wpAny_While (codeAny_whileLoop (fun n s'=>∃σ' H',Inv X pins σ' H' s'/\W n σ' H') ?_ m0 ⟨σ,H,I,w0⟩)
 rintro n s1 ⟨σ1,H1,I1,w1⟩
 refine wpAny_passesOwn hp (thn (hc pins s1 σ1 H1 _ I1 (turn n σ1 H1 w1)) fun b s2 ⟨H2,I2,q2⟩=>?_)
 cases b with
 |true=>
  obtain⟨N,hN,q2⟩:=q2
  rw[if_pos rfl]
  refine wpAny_passesOwn hp (thn (hb pins s2 σ1 H2 _ I2 q2) fun f s3 q3=>?_)
  cases f with
  |next=>
   obtain⟨σ3,H3,I3,n3⟩:=q3
   obtain⟨m',hm,w3⟩:=hN σ3 H3 n3
   exact⟨m',hm,σ3,H3,I3,w3⟩
  |cont=>
   obtain⟨σ3,H3,I3,n3⟩:=q3
   obtain⟨m',hm,w3⟩:=hN σ3 H3 n3
   exact⟨m',hm,σ3,H3,I3,w3⟩
  |brk=>exact q3
  |ret v=>exact q3
 |false=>
  rw[if_neg Bool.false_ne_true]
  exact wpAny_execs_nil ⟨σ1,H2,I2,q2⟩
end
structure It where
 go:Nat->Hp->Prop
 yld:Nat->Hp->V->Hp->Prop
 stop:Nat->Hp->Prop
def FpOk (X:Cx) (pins:List (Addr×Obj)) (H:Hp) (b:Addr):Prop:=
 H b=none/\b≠X.env.locals/\b∉X.fs/\(b∈X.ex\/X.s₀.heap.objs.size<=b)/\(∀x c,X.env.cells.lookup x=some c->c≠b)/\∀p∈X.pn++pins,p.1≠b
theorem Inv.fpOk {X:Cx} {pins:List (Addr×Obj)} {σ:St} {H H':Hp} {s:Shared} {b:Addr} (I:Inv X pins σ H s) (hb:s.heap.objs.size<=b) (hn:H' b=none):FpOk X pins H' b:=by
 refine⟨hn,Nat.ne_of_gt (Nat.lt_of_lt_of_le I.lt hb),I.nofs hb,.inr (Nat.le_trans I.sz hb),fun x c e z=>?_,fun p hp z=>?_⟩
 .obtain⟨v,q⟩:=I.cell x c e
  exact absurd (Nat.lt_of_lt_of_le q.lt (by rw[z];exact hb)) (Nat.lt_irrefl _)
 .exact absurd (Nat.lt_of_lt_of_le (Heap.lt_size (I.pin p hp).1) (by rw[z];exact hb)) (Nat.lt_irrefl _)
structure Turn (P:Program) (w:World) (K:W.Frag) (tg:Expr) (J:It) (fp:List Addr) (it:Addr) (tn:Nat->Heap->Prop):Prop where
 mem:it∈fp
 obj:∀i h,tn i h->∀b∈fp,∃o,h.get? b=some o/\∀v,o.data≠.cell v
 keep:∀i h h',tn i h->(∀b∈fp,∀o,h.get? b=some o->h'.get? b=some o)->tn i h'
 item:∀(X:Cx),X.prog=P->X.w=w->X.K=K->X.calm=true->∀(i:Nat) (pins:List (Addr×Obj)) (s:Shared) (σ:St) (H:Hp) (E:Value->Shared->Prop),Inv X pins σ H s->(∀b∈fp,FpOk X pins H b)->tn i s.heap->J.go i H->
  wpAny (model P w) X.A (pyNext (.ref it)) (fun r s1=>∃u,r=some u/\
   wpAny (model P w) X.A (letOwnedTupleGo tg (.ref it) u) (fun _ s2=>∃x H',Inv X pins σ H' s2/\RelV x u/\J.yld i H x H'/\tn (i+1) s2.heap/\∀b∈fp,H' b=none) E s1) E s
 done:∀(X:Cx),X.prog=P->X.w=w->X.K=K->X.calm=true->∀(i:Nat) (pins:List (Addr×Obj)) (s:Shared) (σ:St) (H:Hp) (E:Value->Shared->Prop),Inv X pins σ H s->(∀b∈fp,FpOk X pins H b)->tn i s.heap->J.stop i H->
  wpAny (model P w) X.A (pyNext (.ref it)) (fun r s1=>r=none/\Inv X pins σ H s1) E s
 self:∀(A:Around) (i:Nat) (s:Shared) (Q:Value->Shared->Prop) (E:Value->Shared->Prop),tn i s.heap->Q (.ref it) s->wpAny (model P w) A (pyIter (.ref it)) Q E s
noncomputable abbrev TI:=St->Hp->(It->Hp->Prop)->Prop
def PIE (X:Cx) (pins:List (Addr×Obj)) (σ:St) (tg:Expr) (R:It->Hp->Prop) (itv:Value) (s2:Shared):Prop:=
 ∃(it:Addr) (fp:List Addr) (tn:Nat->Heap->Prop) (J:It) (H':Hp),itv=.ref it/\Inv X pins σ H' s2/\Turn X.prog X.w X.K tg J fp it tn/\tn 0 s2.heap/\(∀b∈fp,FpOk X pins H' b)/\R J H'
def PI (X:Cx) (tg iter:Expr) (wi:TI):Prop:=
 ∀(pins:List (Addr×Obj)) (s:Shared) (σ:St) (H:Hp) (R:It->Hp->Prop),Inv X pins σ H s->wi σ H R->
  wpAny (model X.prog X.w) X.A (eval iter X.env) (fun v s1=>wpAny (model X.prog X.w) X.A (pyIter v) (PIE X pins σ tg R) X.xe s1) X.xe s
theorem go_of {M:Model} {A:Around} {E:Value->Shared->Prop} {s:Shared} {tg:Expr} {it:Addr} {u:Value} {o:Obj} {n:String} {vs:Array Value} {Q:Unit->Shared->Prop} (ho:s.heap.get? it=some o) (hc:o.cls=.type n) (hd:o.data=.fields vs)
  (hn:["enumerate","zip","dict_itemiterator","dict_reverseitemiterator","odict_iterator","itertools.zip_longest","itertools.pairwise"].contains n=false) (hQ:Q () s):wpAny M A (letOwnedTupleGo tg (.ref it) u) Q E s:=by
 unfold letOwnedTupleGo
 cases tg<;>first
  |exact wpAny_pure hQ
  |(cases u<;>first
    |exact wpAny_pure hQ
    |(refine wpAny_bind (wpAny_load ho ?_)
      rw[hc,hd]
      show wpAny M A (if(["enumerate","zip","dict_itemiterator","dict_reverseitemiterator","odict_iterator","itertools.zip_longest","itertools.pairwise"].contains n&&vs[0]? == some (rawInt _))=true then _ else _) Q E s
      rw[if_neg (by intro h;rw[hn,Bool.false_and]at h;cases h)]
      exact wpAny_pure hQ))
noncomputable def Itl (K:W.Frag) (a:Addr):It:=
 ⟨fun i H=>∃xs x,SqL K H a xs/\xs[i]?=some x,fun i H x H'=>H'=H/\∀xs,SqL K H a xs->xs[i]?=some x,fun i H=>∃xs,SqL K H a xs/\xs.length<=i⟩
noncomputable def Itt (K:W.Frag) (a:Addr):It:=
 ⟨fun i H=>∃xs x,SqT K H a xs/\xs[i]?=some x,fun i H x H'=>H'=H/\∀xs,SqT K H a xs->xs[i]?=some x,fun i H=>∃xs,SqT K H a xs/\xs.length<=i⟩
noncomputable def Itr (lo:Int) (n:Nat):It:=⟨fun i _=>i<n,fun i H x H'=>H'=H/\x=.int (lo+i),fun i _=>n<=i⟩
theorem turn_list {P:Program} {w:World} {K:W.Frag} {tg:Expr} (a it:Addr):Turn P w K tg (Itl K a) [it] it (fun i h=>h.IsListIter it a i) where
 mem:=by simp
 obj:=fun i h st b hb=>by
  have e:b=it:=by simpa using hb
  subst e
  obtain⟨o,e,c,d⟩:=st
  exact⟨o,e,fun v z=>by rw[d]at z;cases z⟩
 keep:=fun i h h' st k=>st.at fun o e=>k it (by simp) o e
 item:=by
  intro X hP hw hK hc i pins s σ H E I hf st hg
  subst hP hw hK
  obtain⟨xs,x,hq,hx⟩:=hg
  obtain⟨its,rv,p,hz⟩:=I.list hq
  obtain⟨u,hu,ru⟩:=rv.get hx
  obtain⟨f0,f1,f2,f3,f4,f5⟩:=hf it (by simp)
  refine wpAny_pyNext_list_item st p.isList (x:=u) (by simpa using hu) fun h' st' sb=>?_
  have I1:Inv X pins σ H { s with heap:=h' }:=I.turned (t':=s.toks) (fun b o hb e=>(sb.2 b hb).trans e) f0 f1 f3 f4 f5
  obtain⟨o,e,c,d⟩:=id st'
  exact⟨u,rfl,go_of (s:={ s with heap:=h' }) e c d (by decide) ⟨x,H,I1,ru,⟨rfl,fun ys hy=>by rw[I.list_inj hy hq];exact hx⟩,st',fun b hb=>(hf b hb).1⟩⟩
 done:=by
  intro X hP hw hK hc i pins s σ H E I hf st hg
  subst hP hw hK
  obtain⟨xs,hq,hx⟩:=hg
  obtain⟨its,rv,p,hz⟩:=I.list hq
  obtain⟨f0,f1,f2,f3,f4,f5⟩:=hf it (by simp)
  have hl:=rv.length
  exact wpAny_pyNext_list_end (I.ok.hd hc) st p.isList (by simp;omega) fun h' eb=>⟨rfl,I.turned (t':=s.toks) (fun b o hb e=>eb b o hb e) f0 f1 f3 f4 f5⟩
 self:=fun _ _ _ _ _ st h=>wpAny_pyIter_listiter st h
theorem turn_tuple {P:Program} {w:World} {K:W.Frag} {tg:Expr} (a it:Addr):Turn P w K tg (Itt K a) [it] it (fun i h=>h.IsTupleIter it a i) where
 mem:=by simp
 obj:=fun i h st b hb=>by
  have e:b=it:=by simpa using hb
  subst e
  obtain⟨o,e,c,d⟩:=st
  exact⟨o,e,fun v z=>by rw[d]at z;cases z⟩
 keep:=fun i h h' st k=>st.at fun o e=>k it (by simp) o e
 item:=by
  intro X hP hw hK hc i pins s σ H E I hf st hg
  subst hP hw hK
  obtain⟨xs,x,hq,hx⟩:=hg
  obtain⟨its,rv,p,hz⟩:=I.tuple hq
  obtain⟨u,hu,ru⟩:=rv.get hx
  obtain⟨f0,f1,f2,f3,f4,f5⟩:=hf it (by simp)
  refine wpAny_pyNext_tuple_item st (show s.heap.IsTuple a its.toArray from p) (x:=u) (by simpa using hu) fun h' st' sb=>?_
  have I1:Inv X pins σ H { s with heap:=h' }:=I.turned (t':=s.toks) (fun b o hb e=>(sb.2 b hb).trans e) f0 f1 f3 f4 f5
  obtain⟨o,e,c,d⟩:=id st'
  exact⟨u,rfl,go_of (s:={ s with heap:=h' }) e c d (by decide) ⟨x,H,I1,ru,⟨rfl,fun ys hy=>by rw[I.tuple_inj hy hq];exact hx⟩,st',fun b hb=>(hf b hb).1⟩⟩
 done:=by
  intro X hP hw hK hc i pins s σ H E I hf st hg
  subst hP hw hK
  obtain⟨xs,hq,hx⟩:=hg
  obtain⟨its,rv,p,hz⟩:=I.tuple hq
  obtain⟨f0,f1,f2,f3,f4,f5⟩:=hf it (by simp)
  have hl:=rv.length
  exact wpAny_pyNext_tuple_end (I.ok.hd hc) st (show s.heap.IsTuple a its.toArray from p) (by simp;omega) fun h' eb=>⟨rfl,I.turned (t':=s.toks) (fun b o hb e=>eb b o hb e) f0 f1 f3 f4 f5⟩
 self:=fun _ _ _ _ _ st h=>wpAny_pyIter_tupleiter st h
theorem turn_range {P:Program} {w:World} {K:W.Frag} {tg:Expr} (it:Addr) (lo:Int) (n:Nat):Turn P w K tg (Itr lo n) [it] it (fun i h=>IsRangeIter h it (lo+(i:Nat)*1) ((n:Int)-(i:Nat)) 1) where
 mem:=by simp
 obj:=fun i h st b hb=>by
  have e:b=it:=by simpa using hb
  subst e
  exact⟨_,st,fun v z=>by
   have z':Data.fields _=Data.cell v:=z
   cases z'⟩
 keep:=fun i h h' st k=>k it (by simp) _ st
 item:=by
  intro X hP hw hK hc i pins s σ H E I hf st hg
  subst hP hw hK
  obtain⟨f0,f1,f2,f3,f4,f5⟩:=hf it (by simp)
  have W:=Walks.range (prog:=X.prog) (w:=X.w) (I.ok.hd hc) it lo 1 n
  refine W.item i s _ _ hg st fun v h' tk hv st' kk=>?_
  obtain⟨t,rfl⟩:=hv
  have I1:Inv X pins σ H { s with heap:=h',toks:=tk }:=I.turned (fun b o hb e=>kk b o (by simpa using hb) e) f0 f1 f3 f4 f5
  refine⟨_,rfl,go_of (s:={ s with heap:=h',toks:=tk }) (n:="range_iterator") st' rfl rfl (by decide) ⟨.int (lo+i),H,I1,⟨t,?_⟩,⟨rfl,rfl⟩,st',fun b hb=>(hf b hb).1⟩⟩
  rw[Int.mul_one]
 done:=by
  intro X hP hw hK hc i pins s σ H E I hf st hg
  subst hP hw hK
  obtain⟨f0,f1,f2,f3,f4,f5⟩:=hf it (by simp)
  exact wpAny_pyNext_range_end (I.ok.hd hc) st (by have:n<=i:=hg;omega) fun h' eb=>⟨rfl,I.turned (t':=s.toks) (fun b o hb e=>eb b o hb e) f0 f1 f3 f4 f5⟩
 self:=fun _ _ _ _ _ st h=>wpAny_pyIter_rangeiter st h
section
variable {X:Cx} {tg:Expr}
theorem range_it {pins:List (Addr×Obj)} {σ:St} {H:Hp} {s:Shared} {R:It->Hp->Prop} {E:Value->Shared->Prop} {lo hi:Int} {t u v:Tok} {tk:Nat} (I:Inv X pins σ H s) (h1:-(2 ^ 62)<=lo) (h2:lo<2 ^ 62) (h3:-(2 ^ 62)<=hi) (h4:hi<2 ^ 62)
  (q:R (Itr lo (hi-lo).toNat) H):wpAny (model X.prog X.w) X.A (pyIter (.ref s.heap.objs.size)) (PIE X pins σ tg R) E { s with heap:=s.heap.push { cls:=.type "range",data:=.fields #[.int lo t,.int hi u,.int 1 v] },toks:=tk }:=by
 refine wpAny_pyIter_range (IsRange.new ..) (small_one h1 h2 h3 h4) ?_
 have I1:Inv X pins σ H { s with heap:=s.heap.push { cls:=.type "range",data:=.fields #[.int lo t,.int hi u,.int 1 v] },toks:=tk }:=I.kept fun b o e=>Heap.get?_push_of_some _ e
 refine⟨(s.heap.push { cls:=.type "range",data:=.fields #[.int lo t,.int hi u,.int 1 v] }).objs.size,[(s.heap.push { cls:=.type "range",data:=.fields #[.int lo t,.int hi u,.int 1 v] }).objs.size],_,_,H,rfl,
  I1.kept (t':=tk) fun b o e=>Heap.get?_push_of_some _ e,turn_range _ lo (hi-lo).toNat,?_,fun b hb=>?_,q⟩
 .have e1:lo+((0:Nat):Int)*1=lo:=by simp
  have e2:(((hi-lo).toNat:Nat):Int)-((0:Nat):Int)=Builtin.Range.rangeSize lo hi 1:=by rw[rangeSize_one];split<;>omega
  show IsRangeIter _ _ (lo+((0:Nat):Int)*1) ((((hi-lo).toNat:Nat):Int)-((0:Nat):Int)) 1
  rw[e1,e2]
  exact Heap.get?_push_size _ rfl
 .have e:b=(s.heap.push { cls:=.type "range",data:=.fields #[.int lo t,.int hi u,.int 1 v] }).objs.size:=by simpa using hb
  subst e
  exact I1.fpOk (Nat.le_refl _) (I1.hok.fresh (Nat.le_refl _))
noncomputable def iRng1 (ta:TA):TI:=fun σ H R=>ta σ H fun vs H1=>∃j:Int,vs=[.int j]/\-(2 ^ 62)<=j/\j<2 ^ 62/\R (Itr 0 j.toNat) H1
noncomputable def iRng2 (ta:TA):TI:=fun σ H R=>ta σ H fun vs H1=>∃i j:Int,vs=[.int i,.int j]/\(-(2 ^ 62)<=i/\i<2 ^ 62/\-(2 ^ 62)<=j/\j<2 ^ 62)/\R (Itr i (j-i).toNat) H1
theorem pi_range1 {a:Expr} {ta:TA} {p pos:Pos} (hg:Gl X "range") (hm:X.mg "range"=none) (ha:PA X [a] ta) (hs:starEach [a] X.env=[(false,eval a X.env)]:=by rfl):PI X tg (.Call (.Name "range" p) [a] [] pos) (iRng1 ta):=by
 intro pins s σ H R I h
 refine Call_ (ld_blt I hg hm boot_range (PyProof.Rows.callWith_type1 (thn (ha pos pins s σ H _ I h) fun us s1 ⟨vs,H1,I1,r1,q1⟩=>?_) hs rfl))
 obtain⟨j,e,q1,q2,q⟩:=q1
 subst e
 cases r1 with
 |cons r rr=>
  cases rr
  obtain⟨t,rfl⟩:=r
  exact call_range_1 (range_it I1 (by omega) (by omega) q1 q2 (by simpa using q))
theorem pi_range2 {a b:Expr} {ta:TA} {p pos:Pos} (hg:Gl X "range") (hm:X.mg "range"=none) (ha:PA X [a,b] ta) (hs:starEach [a,b] X.env=[(false,eval a X.env),(false,eval b X.env)]:=by rfl) (hs2:starEach [b] X.env=[(false,eval b X.env)]:=by rfl):
  PI X tg (.Call (.Name "range" p) [a,b] [] pos) (iRng2 ta):=by
 intro pins s σ H R I h
 refine Call_ (ld_blt I hg hm boot_range (PyProof.Rows.callWith_type1 (thn (ha pos pins s σ H _ I h) fun us s1 ⟨vs,H1,I1,r1,q1⟩=>?_) (by rw[hs,hs2]) (by rw[hs2];rfl)))
 obtain⟨i,j,e,⟨q1,q2,q3,q4⟩,q⟩:=q1
 subst e
 cases r1 with
 |cons r rr=>
  cases rr with
  |cons r' rr=>
   cases rr
   obtain⟨t,rfl⟩:=r
   obtain⟨t',rfl⟩:=r'
   exact call_range_2 (range_it I1 q1 q2 q3 q4 q)
noncomputable def tFor (wi:TI) (g:TG) (tb:TS):TS:=fun D σ H=>wi σ H fun J H1=>∃W:Nat->Nat->St->Hp->Prop,(∃m,W 0 m σ H1)/\∀i m σ H,W i m σ H->
 (J.stop i H/\D.nx σ H)\/(J.go i H/\∃N:St->Hp->Prop,(∀σ' H',N σ' H'->∃m',m'<m/\W (i+1) m' σ' H')/\∀x H',J.yld i H x H'->g x σ H' fun σ2 H2=>tb { D with nx:=N,ct:=N,bk:=D.nx } σ2 H2)
noncomputable def pinsAt (fp:List Addr) (h:Heap):List (Addr×Obj):=fp.filterMap fun b=>(h.get? b).map fun o=>(b,o)
theorem mem_pinsAt {fp:List Addr} {h:Heap} {b:Addr} {o:Obj} (hb:b∈fp) (e:h.get? b=some o):(b,o)∈pinsAt fp h:=List.mem_filterMap.mpr ⟨b,hb,by rw[e];rfl⟩
theorem of_pinsAt {fp:List Addr} {h:Heap} {p:Addr×Obj} (hp:p∈pinsAt fp h):p.1∈fp/\h.get? p.1=some p.2:=by
 obtain⟨b,hb,e⟩:=List.mem_filterMap.mp hp
 cases q:h.get? b with
 |none=>rw[q]at e;cases e
 |some o=>
  rw[q]at e
  have e':(b,o)=p:=Option.some.inj e
  subst e'
  exact⟨hb,q⟩
theorem Inv.pinned {pins:List (Addr×Obj)} {σ:St} {H:Hp} {s:Shared} {fp:List Addr} (I:Inv X pins σ H s) (hf:∀b∈fp,FpOk X pins H b) (ho:∀b∈fp,∃o,s.heap.get? b=some o/\∀v,o.data≠.cell v):Inv X (pins++pinsAt fp s.heap) σ H s:=
 I.pins_of fun p hp=>(List.mem_append.mp hp).elim (fun z=>I.pin p (List.mem_append_right _ z)) fun z=>by
  obtain⟨hb,e⟩:=of_pinsAt z
  obtain⟨f0,f1,f2,_⟩:=hf p.1 hb
  obtain⟨o,e',d⟩:=ho p.1 hb
  rw[e]at e';cases e'
  exact⟨e,f0,f1,f2,d⟩
theorem Inv.unpinned {pins pl:List (Addr×Obj)} {σ:St} {H:Hp} {s:Shared} (I:Inv X (pins++pl) σ H s):Inv X pins σ H s:=I.pins_of fun p hp=>I.pin p (List.mem_append_right _ (List.mem_append_left _ hp))
theorem ps_for {iter:Expr} {body:List Stmt} {wi:TI} {g:TG} {tb:TS} {pos:Pos} (hp:PassesOwn (model X.prog X.w) X.A X.env X.xe) (hc:X.calm=true) (hi:PI X tg iter wi) (hg:PG X tg g) (hb:PSs X body tb)
  (hs:∀x,foldedSetIterable iter X.env x=pure x:=by intro _;rfl):PS X (.For tg iter body [] pos) (tFor wi g tb):=by
 intro pins s σ H D I h
 refine wpAny_For (thn (hi pins s σ H _ I h) fun v s1 h1=>thn h1 fun itv s2 h2=>?_) hs
 obtain⟨it,fp,tn,J,H2,e,I2,T,st2,f2,W,⟨m0,w0⟩,turn⟩:=h2
 subst e
 have stat:∀{H':Hp},(∀b∈fp,H' b=none)->∀b∈fp,FpOk X pins H' b:=fun hn b hb=>⟨hn b hb,(f2 b hb).2⟩
 refine codeAny_forLoop_any (fun n s'=>∃i σ' H',Inv X pins σ' H' s'/\tn i s'.heap/\(∀b∈fp,H' b=none)/\W i n σ' H') ?_ m0 ⟨0,σ,H2,I2,st2,fun b hb=>(f2 b hb).1,w0⟩
 rintro n s3 ⟨i,σ3,H3,I3,st3,fr3,w3⟩
 rcases turn i n σ3 H3 w3 with⟨stop,qn⟩|⟨go,N,hN,step⟩
 .refine wpAny_passesOwn hp (thn (T.done X rfl rfl rfl hc i pins s3 σ3 H3 X.xe I3 (stat fr3) st3 stop) fun r s4 ⟨hr,I4⟩=>?_)
  subst hr
  exact wpAny_execs_nil ⟨σ3,H3,I4,qn⟩
 .refine wpAny_passesOwn hp (thn (T.item X rfl rfl rfl hc i pins s3 σ3 H3 X.xe I3 (stat fr3) st3 go) fun r s4 ⟨u,hr,h4⟩=>?_)
  subst hr
  refine wpAny_passesOwn hp (thn h4 fun _ s5 ⟨x,H5,I5,r5,y5,st5,fr5⟩=>?_)
  have I5':=I5.pinned (stat fr5) (T.obj _ _ st5)
  refine wpAny_passesOwn hp (thn (hg _ s5 σ3 H5 x u _ I5' r5 (step x H5 y5)) fun _ s6 ⟨σ6,H6,I6,q6⟩=>?_)
  refine wpAny_passesOwn hp (thn (hb _ s6 σ6 H6 _ I6 q6) fun f s7 q7=>?_)
  have again:∀{σ7:St} {H7:Hp},Inv X (pins++pinsAt fp s5.heap) σ7 H7 s7->N σ7 H7->∃m,m<n/\∃i σ' H',Inv X pins σ' H' s7/\tn i s7.heap/\(∀b∈fp,H' b=none)/\W i m σ' H':=fun {σ7 H7} I7 n7=>by
   obtain⟨m',hm,w7⟩:=hN σ7 H7 n7
   refine⟨m',hm,i+1,σ7,H7,I7.unpinned,T.keep _ _ _ st5 fun b hb o e=>(I7.pin (b,o) (List.mem_append_right _ (List.mem_append_right _ (mem_pinsAt hb e)))).1,fun b hb=>?_,w7⟩
   obtain⟨o,e,d⟩:=T.obj _ _ st5 b hb
   exact(I7.pin (b,o) (List.mem_append_right _ (List.mem_append_right _ (mem_pinsAt hb e)))).2.1
  cases f with
  |next=>obtain⟨σ7,H7,I7,n7⟩:=q7;exact again I7 n7
  |cont=>obtain⟨σ7,H7,I7,n7⟩:=q7;exact again I7 n7
  |brk=>obtain⟨σ7,H7,I7,q7⟩:=q7;exact⟨σ7,H7,I7.unpinned,q7⟩
  |ret v=>obtain⟨x7,σ7,H7,I7,r7,q7⟩:=q7;exact⟨x7,σ7,H7,I7.unpinned,r7,q7⟩
end
theorem for_range {lo:Int} {n:Nat} {g:TG} {tb:TS} {D:Ends} {σ:St} {H:Hp} (Pv:Nat->St->Hp->Prop) (h0:Pv 0 σ H)
  (hs:∀i σ H,i<n->Pv i σ H->g (.int (lo+i)) σ H fun σ2 H2=>tb { D with nx:=Pv (i+1),ct:=Pv (i+1),bk:=D.nx } σ2 H2) (hd:∀σ H,Pv n σ H->D.nx σ H):
  ∃W:Nat->Nat->St->Hp->Prop,(∃m,W 0 m σ H)/\∀i m σ H,W i m σ H->
   ((Itr lo n).stop i H/\D.nx σ H)\/((Itr lo n).go i H/\∃N:St->Hp->Prop,(∀σ' H',N σ' H'->∃m',m'<m/\W (i+1) m' σ' H')/\∀x H',(Itr lo n).yld i H x H'->g x σ H' fun σ2 H2=>tb { D with nx:=N,ct:=N,bk:=D.nx } σ2 H2):=by
 refine⟨fun i m σ H=>m=n-i/\i<=n/\Pv i σ H,⟨n,by simp,Nat.zero_le _,h0⟩,?_⟩
 rintro i m σ H ⟨rfl,hi,p⟩
 by_cases hlt:i<n
 .refine .inr ⟨hlt,Pv (i+1),fun σ' H' p'=>⟨n-(i+1),by omega,rfl,hlt,p'⟩,fun x H' y=>?_⟩
  obtain⟨e,y⟩:=y
  subst e y
  exact hs i σ _ hlt p
 .have e:i=n:=by omega
  subst e
  exact .inl ⟨Nat.le_refl _,hd σ H p⟩
noncomputable abbrev R2:=V->V->Hp->VK->Prop
def OpR (X:Cx) (f:Value->Value->Sem Value) (r:R2):Prop:=
 ∀(pins:List (Addr×Obj)) (s:Shared) (σ:St) (H:Hp) (x y:V) (v u:Value) (Q:VK),Inv X pins σ H s->RelV x v->RelV y u->r x y H Q->
  wpAny (model X.prog X.w) X.A (f v u) (EP X pins σ Q) X.xe s
def UnR (X:Cx) (f:Value->Sem Value) (r:V->Hp->VK->Prop):Prop:=
 ∀(pins:List (Addr×Obj)) (s:Shared) (σ:St) (H:Hp) (x:V) (v:Value) (Q:VK),Inv X pins σ H s->RelV x v->r x H Q->
  wpAny (model X.prog X.w) X.A (f v) (EP X pins σ Q) X.xe s
def CallR (X:Cx) (f:Value) (r:List V->Hp->VK->Prop):Prop:=
 ∀(pins:List (Addr×Obj)) (s:Shared) (σ:St) (H:Hp) (xs:List V) (us:List Value) (Q:VK),Inv X pins σ H s->Vals xs us->r xs H Q->
  wpAny (model X.prog X.w) X.A (call f us) (EP X pins σ Q) X.xe s
def TruR (X:Cx) (r:V->Hp->(Bool->Hp->Prop)->Prop):Prop:=
 ∀(pins:List (Addr×Obj)) (s:Shared) (σ:St) (H:Hp) (x:V) (v:Value) (Q:Bool->Hp->Prop),Inv X pins σ H s->RelV x v->r x H Q->
  wpAny (model X.prog X.w) X.A (truthy v) (TP X pins σ Q) X.xe s
noncomputable def tOp (r:R2) (ta tb:TE):TE:=fun σ H Q=>ta σ H fun x H1=>tb σ H1 fun y H2=>r x y H2 Q
noncomputable def tUn (r:V->Hp->VK->Prop) (ta:TE):TE:=fun σ H Q=>ta σ H fun x H1=>r x H1 Q
noncomputable def rI (C:Int->Int->Prop) (g:Int->Int->V):R2:=fun x y H Q=>∃i j,x=.int i/\y=.int j/\C i j/\Q (g i j) H
noncomputable def rI0 (g:Int->Int->V):R2:=fun x y H Q=>∃i j,x=.int i/\y=.int j/\Q (g i j) H
noncomputable def rU (g:Int->V):V->Hp->VK->Prop:=fun x H Q=>∃i,x=.int i/\Q (g i) H
section
variable {X:Cx} {a b c:Expr} {ta tb tc:TE} {pos:Pos}
theorem binT (ha:PE X a ta) (hb:PE X b tb) {pins:List (Addr×Obj)} {s:Shared} {σ:St} {H:Hp} {R:V->V->Hp->Prop} (I:Inv X pins σ H s)
  (h:ta σ H fun x H1=>tb σ H1 fun y H2=>R x y H2) {Q:Value->Shared->Prop} {f:Value->Value->Sem Value}
  (hf:∀v u s2 x y H2,Inv X pins σ H2 s2->RelV x v->RelV y u->R x y H2->wpAny (model X.prog X.w) X.A (f v u) Q X.xe s2):
  wpAny (model X.prog X.w) X.A (eval a X.env) (fun v s₁=>wpAny (model X.prog X.w) X.A (eval b X.env) (fun u s₂=>wpAny (model X.prog X.w) X.A (f v u) Q X.xe s₂) X.xe s₁) X.xe s:=by
 refine thn (ha pins s σ H _ I h) fun v s1 ⟨x,H1,I1,r1,q1⟩=>?_
 refine thn (hb pins s1 σ H1 _ I1 q1) fun u s2 ⟨y,H2,I2,r2,q2⟩=>?_
 exact hf v u s2 x y H2 I2 r1 r2 q2
theorem pe_op {op:Operator} {r:R2} (ho:OpR X (binaryOp op) r) (ha:PE X a ta) (hb:PE X b tb):PE X (.BinOp a op b pos) (tOp r ta tb):=by
 intro pins s σ H Q I h
 exact wpAny_BinOp (binT ha hb I h fun v u s2 x y H2 I2 rx ry q=>ho pins s2 σ H2 x y v u Q I2 rx ry q)
theorem pe_un {op:UnaryOp} {r:V->Hp->VK->Prop} (ho:UnR X (unaryOp op) r) (ha:PE X a ta):PE X (.UnaryOp op a pos) (tUn r ta):=by
 intro pins s σ H Q I h
 exact UnaryOp_ (thn (ha pins s σ H _ I h) fun v s1 ⟨x,H1,I1,r1,q1⟩=>ho pins s1 σ H1 x v Q I1 r1 q1)
theorem opI {f:Value->Value->Sem Value} {C:Int->Int->Prop} {g:Int->Int->Int}
  (rule:∀(i j:Int) (t u:Tok) (s:Shared) (Q:Value->Shared->Prop) (E:Value->Shared->Prop),C i j->Q (.int (g i j) s.toks) { s with toks:=s.toks+1 }->wpAny (model X.prog X.w) X.A (f (.int i t) (.int j u)) Q E s):
  OpR X f (rI C fun i j=>.int (g i j)):=by
 intro pins s σ H x y v u Q I rx ry h
 obtain⟨i,j,rfl,rfl,hc,q⟩:=h
 obtain⟨t,rfl⟩:=rx
 obtain⟨t',rfl⟩:=ry
 exact rule i j t t' s _ _ hc ⟨.int (g i j),H,I.tok _,⟨_,rfl⟩,q⟩
theorem opI0 {f:Value->Value->Sem Value} {g:Int->Int->Int}
  (rule:∀(i j:Int) (t u:Tok) (s:Shared) (Q:Value->Shared->Prop) (E:Value->Shared->Prop),Q (.int (g i j) s.toks) { s with toks:=s.toks+1 }->wpAny (model X.prog X.w) X.A (f (.int i t) (.int j u)) Q E s):
  OpR X f (rI0 fun i j=>.int (g i j)):=by
 intro pins s σ H x y v u Q I rx ry h
 obtain⟨i,j,rfl,rfl,q⟩:=h
 obtain⟨t,rfl⟩:=rx
 obtain⟨t',rfl⟩:=ry
 exact rule i j t t' s _ _ ⟨.int (g i j),H,I.tok _,⟨_,rfl⟩,q⟩
theorem opB0 {f:Value->Value->Sem Value} {g:Int->Int->Bool}
  (rule:∀(i j:Int) (t u:Tok) (s:Shared) (Q:Value->Shared->Prop) (E:Value->Shared->Prop),Q (.bool (g i j)) s->wpAny (model X.prog X.w) X.A (f (.int i t) (.int j u)) Q E s):
  OpR X f (rI0 fun i j=>.bl (g i j)):=by
 intro pins s σ H x y v u Q I rx ry h
 obtain⟨i,j,rfl,rfl,q⟩:=h
 obtain⟨t,rfl⟩:=rx
 obtain⟨t',rfl⟩:=ry
 exact rule i j t t' s _ _ ⟨.bl (g i j),H,I,rfl,q⟩
def CDiv (i j:Int):Prop:=0<j/\j<1073741824
def CPow (i j:Int):Prop:=0<=j/\j<=1000000/\i.natAbs<2 ^ 64
def CMul (i j:Int):Prop:=(-(2 ^ 64)<i/\i<2 ^ 64)\/(-(2 ^ 64)<j/\j<2 ^ 64)
theorem CMul.ok {i j:Int} (h:CMul i j):IntMulOk i j:=by
 rcases h with⟨h1,h2⟩|⟨h1,h2⟩
 .exact .of_left (intBits_le_64 h1 h2)
 .exact .of_right (intBits_le_64 h1 h2)
theorem two_pow_nn (k:Nat):(0:Int)<=2 ^ k:=by
 rw[two_pow_cast]
 exact Int.natCast_nonneg _
theorem op_add:OpR X (binaryOp .Add) (rI0 fun i j=>.int (i+j)):=opI0 fun _ _ _ _ _ _ _ q=>add_int q
theorem op_sub:OpR X (binaryOp .Sub) (rI0 fun i j=>.int (i-j)):=opI0 fun _ _ _ _ _ _ _ q=>sub_int q
theorem op_fdiv:OpR X (binaryOp .FloorDiv) (rI CDiv fun i j=>.int (i / j)):=opI fun i j _ _ _ _ _ hc q=>by
 have h1:(0:Int)<j:=hc.1
 have h2:j<1073741824:=hc.2
 exact floordiv_int (by omega) (by rw[Int.fdiv_eq_ediv_of_nonneg i (by omega)];exact q) (.inl (PyProof.noPylong_small (by omega)))
theorem op_mod:OpR X (binaryOp .Mod) (rI (fun _ j=>0<j) fun i j=>.int (i % j)):=opI fun i j _ _ _ _ _ hc q=>by
 have h1:(0:Int)<j:=hc
 exact mod_int' (by omega) (by rw[Int.fmod_eq_emod_of_nonneg i (by omega)];exact q)
theorem op_pow:OpR X (binaryOp .Pow) (rI CPow fun i j=>.int (i ^ j.toNat)):=opI fun _ _ _ _ _ _ _ hc q=>pow_int_small hc.1 hc.2.1 hc.2.2 q
theorem op_shr:OpR X (binaryOp .RShift) (rI (fun _ j=>0<=j) fun i j=>.int (i / 2 ^ j.toNat)):=opI fun i j _ _ _ _ _ hc q=>
 rshift_int hc (by rw[Int.fdiv_eq_ediv_of_nonneg i (two_pow_nn _)];exact q)
theorem op_and:OpR X (binaryOp .BitAnd) (rI0 fun i j=>.int (Builtin.bitAnd i j)):=opI0 fun _ _ _ _ _ _ _ q=>and_int q
theorem unI {f:Value->Sem Value} {g:Int->Int}
  (rule:∀(i:Int) (t:Tok) (s:Shared) (Q:Value->Shared->Prop) (E:Value->Shared->Prop),Q (.int (g i) s.toks) { s with toks:=s.toks+1 }->wpAny (model X.prog X.w) X.A (f (.int i t)) Q E s):
  UnR X f (rU fun i=>.int (g i)):=by
 intro pins s σ H x v Q I rx h
 obtain⟨i,rfl,q⟩:=h
 obtain⟨t,rfl⟩:=rx
 exact rule i t s _ _ ⟨.int (g i),H,I.tok _,⟨_,rfl⟩,q⟩
theorem un_neg:UnR X (unaryOp .USub) (rU fun i=>.int (-i)):=unI fun _ _ _ _ _ q=>neg_int q
end
noncomputable def scal:V->V->Bool
 | .non,.non=>true | .non,.int _=>true | .int _,.non=>true | .non,.bl _=>true | .bl _,.non=>true | .non,.str _=>true | .str _,.non=>true
 | .int _,.int _=>true | .bl _,.bl _=>true | .str _,.str _=>true | .byt _,.byt _=>true
 | .int _,.str _=>true | .str _,.int _=>true | .bl _,.str _=>true | .str _,.bl _=>true
 |_,_=>false
noncomputable def rEq:R2:=fun x y H Q=>scal x y=true/\Q (.bl (decide (x=y))) H
noncomputable def rNe:R2:=fun x y H Q=>scal x y=true/\Q (.bl (!decide (x=y))) H
theorem dec_int {i j:Int}:decide (V.int i=V.int j)=(i == j):=by
 rw[Bool.eq_iff_iff]
 simp
theorem dec_bl {i j:Bool}:decide (V.bl i=V.bl j)=(i == j):=by
 rw[Bool.eq_iff_iff]
 simp
theorem dec_str {i j:Str}:decide (V.str i=V.str j)=(i == j):=by
 rw[Bool.eq_iff_iff]
 simp
theorem dec_byt {i j:Array UInt8}:decide (V.byt i=V.byt j)=(i.toList == j.toList):=by
 rw[Bool.eq_iff_iff]
 cases i
 cases j
 simp
section
variable {X:Cx} {a b c:Expr} {ta tb tc:TE} {pos:Pos}
theorem fin_bl {pins:List (Addr×Obj)} {σ:St} {H:Hp} {s:Shared} {Q:VK} {k k':Bool} (I:Inv X pins σ H s) (q:Q (.bl k) H) (e:k=k'):EP X pins σ Q (.bool k') s:=by
 subst e
 exact⟨.bl k,H,I,rfl,q⟩
theorem op_eq:OpR X (compareOp .Eq) rEq:=by
 intro pins s σ H x y v u Q I rx ry h
 obtain⟨hs,q⟩:=h
 cases x with
 |non=>
  cases rx
  cases y with
  |non=>cases ry;exact PySem.EqNone.eq_none_none (fin_bl I q (by simp))
  |bl j=>cases ry;exact PySem.EqNone.eq_none_bool (fin_bl I q (by simp))
  |int j=>obtain⟨t',rfl⟩:=ry;exact PySem.EqNone.eq_none_int (fin_bl I q (by simp))
  |str j=>obtain⟨t',rfl⟩:=ry;exact PySem.EqNone.eq_none_str (fin_bl I q (by simp))
  |_=>exact absurd (show false=true from hs) Bool.false_ne_true
 |bl i=>
  cases rx
  cases y with
  |non=>cases ry;exact PySem.EqNone.eq_bool_none (fin_bl I q (by simp))
  |bl j=>cases ry;exact eq_bool (fin_bl I q dec_bl)
  |str j=>obtain⟨t',rfl⟩:=ry;exact PySem.EqMixed.eq_bool_str (fin_bl I q (by simp))
  |_=>exact absurd (show false=true from hs) Bool.false_ne_true
 |int i=>
  obtain⟨t,rfl⟩:=rx
  cases y with
  |non=>cases ry;exact PySem.EqNone.eq_int_none (fin_bl I q (by simp))
  |int j=>obtain⟨t',rfl⟩:=ry;exact eq_int (fin_bl I q dec_int)
  |str j=>obtain⟨t',rfl⟩:=ry;exact PySem.EqMixed.eq_int_str (fin_bl I q (by simp))
  |_=>exact absurd (show false=true from hs) Bool.false_ne_true
 |str i=>
  obtain⟨t,rfl⟩:=rx
  cases y with
  |non=>cases ry;exact PySem.EqNone.eq_str_none (fin_bl I q (by simp))
  |bl j=>cases ry;exact PySem.EqMixed.eq_str_bool (fin_bl I q (by simp))
  |int j=>obtain⟨t',rfl⟩:=ry;exact PySem.EqMixed.eq_str_int (fin_bl I q (by simp))
  |str j=>obtain⟨t',rfl⟩:=ry;exact eq_str (fin_bl I q dec_str)
  |_=>exact absurd (show false=true from hs) Bool.false_ne_true
 |byt i=>
  obtain⟨t,rfl⟩:=rx
  cases y with
  |byt j=>obtain⟨t',rfl⟩:=ry;exact W.eq_bytes (fin_bl I q dec_byt)
  |_=>exact absurd (show false=true from hs) Bool.false_ne_true
 |_=>cases y<;>exact absurd (show false=true from hs) Bool.false_ne_true
theorem op_ne:OpR X (compareOp .NotEq) rNe:=by
 intro pins s σ H x y v u Q I rx ry h
 obtain⟨hs,q⟩:=h
 cases x with
 |non=>
  cases rx
  cases y with
  |non=>cases ry;exact PySem.EqNone.ne_none_none (fin_bl I q (by simp))
  |bl j=>cases ry;exact PySem.EqNone.ne_none_bool (fin_bl I q (by simp))
  |int j=>obtain⟨t',rfl⟩:=ry;exact PySem.EqNone.ne_none_int (fin_bl I q (by simp))
  |str j=>obtain⟨t',rfl⟩:=ry;exact PySem.EqNone.ne_none_str (fin_bl I q (by simp))
  |_=>exact absurd (show false=true from hs) Bool.false_ne_true
 |bl i=>
  cases rx
  cases y with
  |non=>cases ry;exact PySem.EqNone.ne_bool_none (fin_bl I q (by simp))
  |bl j=>cases ry;exact ne_bool (fin_bl I q (congrArg not dec_bl))
  |str j=>obtain⟨t',rfl⟩:=ry;exact PySem.EqMixed.ne_bool_str (fin_bl I q (by simp))
  |_=>exact absurd (show false=true from hs) Bool.false_ne_true
 |int i=>
  obtain⟨t,rfl⟩:=rx
  cases y with
  |non=>cases ry;exact PySem.EqNone.ne_int_none (fin_bl I q (by simp))
  |int j=>obtain⟨t',rfl⟩:=ry;exact ne_int (fin_bl I q (congrArg not dec_int))
  |str j=>obtain⟨t',rfl⟩:=ry;exact PySem.EqMixed.ne_int_str (fin_bl I q (by simp))
  |_=>exact absurd (show false=true from hs) Bool.false_ne_true
 |str i=>
  obtain⟨t,rfl⟩:=rx
  cases y with
  |non=>cases ry;exact PySem.EqNone.ne_str_none (fin_bl I q (by simp))
  |bl j=>cases ry;exact PySem.EqMixed.ne_str_bool (fin_bl I q (by simp))
  |int j=>obtain⟨t',rfl⟩:=ry;exact PySem.EqMixed.ne_str_int (fin_bl I q (by simp))
  |str j=>obtain⟨t',rfl⟩:=ry;exact ne_str (fin_bl I q (congrArg not dec_str))
  |_=>exact absurd (show false=true from hs) Bool.false_ne_true
 |byt i=>
  obtain⟨t,rfl⟩:=rx
  cases y with
  |byt j=>obtain⟨t',rfl⟩:=ry;exact W.ne_bytes (fin_bl I q (congrArg not dec_byt))
  |_=>exact absurd (show false=true from hs) Bool.false_ne_true
 |_=>cases y<;>exact absurd (show false=true from hs) Bool.false_ne_true
theorem op_lt:OpR X (compareOp .Lt) (rI0 fun i j=>.bl (decide (i<j))):=opB0 fun _ _ _ _ _ _ _ q=>lt_int q
theorem op_le:OpR X (compareOp .LtE) (rI0 fun i j=>.bl (decide (i<=j))):=opB0 fun _ _ _ _ _ _ _ q=>le_int q
theorem op_gt:OpR X (compareOp .Gt) (rI0 fun i j=>.bl (decide (j<i))):=opB0 fun _ _ _ _ _ _ _ q=>gt_int q
theorem op_ge:OpR X (compareOp .GtE) (rI0 fun i j=>.bl (decide (j<=i))):=opB0 fun _ _ _ _ _ _ _ q=>ge_int q
theorem op_isN:OpR X (compareOp .Is) (fun x y H Q=>y=.non/\Q (.bl (decide (x=.non))) H):=by
 intro pins s σ H x y v u Q I rx ry h
 obtain⟨rfl,q⟩:=h
 cases ry
 refine is_none_gen (fin_bl I q ?_)
 cases x<;>first
  |(cases rx;rfl)
  |(obtain⟨t,rfl⟩:=rx;rfl)
theorem op_notN:OpR X (compareOp .IsNot) (fun x y H Q=>y=.non/\Q (.bl (!decide (x=.non))) H):=by
 intro pins s σ H x y v u Q I rx ry h
 obtain⟨rfl,q⟩:=h
 cases ry
 refine isnot_none_gen (fin_bl I q ?_)
 cases x<;>first
  |(cases rx;rfl)
  |(obtain⟨t,rfl⟩:=rx;rfl)
theorem OpR.or {f:Value->Value->Sem Value} {r r':R2} (h:OpR X f r) (h':OpR X f r'):OpR X f (fun x y H Q=>r x y H Q\/r' x y H Q):=by
 intro pins s σ H x y v u Q I rx ry q
 rcases q with q|q
 .exact h pins s σ H x y v u Q I rx ry q
 .exact h' pins s σ H x y v u Q I rx ry q
theorem pe_cmpR {op:CmpOp} {r:R2} (ho:OpR X (compareOp op) r) (ha:PE X a ta) (hb:PE X b tb) (hm:behindInMarks op b=false):PE X (.Compare a [op] [b] pos) (tOp r ta tb):=by
 intro pins s σ H Q I h
 exact wpAny_Compare1 (binT ha hb I h fun v u s2 x y H2 I2 rx ry q=>ho pins s2 σ H2 x y v u Q I2 rx ry q) hm
noncomputable def tTest (t:TE):TT:=fun σ H Q=>t σ H fun x H'=>∃k,x=.bl k/\Q k H'
theorem pt_cmpR {op:CmpOp} {r:R2} (ho:OpR X (compareOp op) r) (ha:PE X a ta) (hb:PE X b tb) (hm:behindInMarks op b=false):PT X (.Compare a [op] [b] pos) (tTest (tOp r ta tb)):=by
 intro pins s σ H Q I h
 refine wpAny_isTrue_Compare1 (thn (ha pins s σ H _ I h) fun v s1 ⟨x,H1,I1,r1,q1⟩=>thn (hb pins s1 σ H1 _ I1 q1) fun u s2 ⟨y,H2,I2,r2,q2⟩=>
  thn (ho pins s2 σ H2 x y v u _ I2 r1 r2 q2) fun c s3 ⟨z,H3,I3,r3,k,e,q3⟩=>?_) hm
 subst e
 cases r3
 exact wpAny_truthy_bool ⟨H3,I3,q3⟩
noncomputable def tChain (r r':R2) (ta tb tc:TE):TE:=fun σ H Q=>ta σ H fun x H1=>tb σ H1 fun y H2=>r x y H2 fun z H3=>∃k,z=.bl k/\
 (if k=true then tc σ H3 fun w' H4=>r' y w' H4 Q else Q (.bl false) H3)
theorem pe_chain {op op':CmpOp} {r r':R2} (ho:OpR X (compareOp op) r) (ho':OpR X (compareOp op') r') (ha:PE X a ta) (hb:PE X b tb) (hc:PE X c tc)
  (hm:lastMarks [op,op'] [b,c]=false:=by with_unfolding_all rfl):PE X (.Compare a [op,op'] [b,c] pos) (tChain r r' ta tb tc):=by
 intro pins s σ H Q I h
 refine Compare_chain (thn (ha pins s σ H _ I h) fun v s1 ⟨x,H1,I1,r1,q1⟩=>chain_link (thn (hb pins s1 σ H1 _ I1 q1) fun u s2 ⟨y,H2,I2,r2,q2⟩=>
  thn (ho pins s2 σ H2 x y v u _ I2 r1 r2 q2) fun d s3 ⟨z,H3,I3,r3,k,e,q3⟩=>?_)) hm
 subst e
 cases r3
 refine wpAny_truthy_bool ?_
 cases k with
 |false=>exact ite_ff ⟨.bl false,H3,I3,rfl,q3⟩
 |true=>exact ite_tt (chain_last (thn (hc pins s3 σ H3 _ I3 q3) fun w' s4 ⟨z',H4,I4,r4,q4⟩=>ho' pins s4 σ H4 y z' u w' Q I4 r2 r4 q4))
theorem pt_chain {op op':CmpOp} {r r':R2} (ho:OpR X (compareOp op) r) (ho':OpR X (compareOp op') r') (ha:PE X a ta) (hb:PE X b tb) (hc:PE X c tc)
  (hm:lastMarks [op,op'] [b,c]=false:=by with_unfolding_all rfl):PT X (.Compare a [op,op'] [b,c] pos) (tTest (tChain r r' ta tb tc)):=by
 intro pins s σ H Q I h
 refine isTrue_chain (thn (ha pins s σ H _ I h) fun v s1 ⟨x,H1,I1,r1,q1⟩=>test_link (thn (hb pins s1 σ H1 _ I1 q1) fun u s2 ⟨y,H2,I2,r2,q2⟩=>
  thn (ho pins s2 σ H2 x y v u _ I2 r1 r2 q2) fun d s3 ⟨z,H3,I3,r3,k,e,q3⟩=>?_)) hm
 subst e
 cases r3
 refine wpAny_truthy_bool ?_
 cases k with
 |false=>
  obtain⟨k',e',q'⟩:=q3
  cases e'
  exact ite_ff ⟨H3,I3,q'⟩
 |true=>
  refine ite_tt (test_last (thn (hc pins s3 σ H3 _ I3 q3) fun w' s4 ⟨z',H4,I4,r4,q4⟩=>thn (ho' pins s4 σ H4 y z' u w' _ I4 r2 r4 q4) fun d' s5 ⟨z2,H5,I5,r5,k2,e2,q5⟩=>?_))
  subst e2
  cases r5
  exact wpAny_truthy_bool ⟨H5,I5,q5⟩
def TruV (K:W.Frag) (x:V) (H:Hp) (k:Bool):Prop:=
 match x with
 | .non=>k=false
 | .bl b=>k=b
 | .int i=>k=(i != 0)
 | .str y=>y.length<=sizeLine/\k=((y.length:Int) != 0)
 | .byt y=>y.size<=sizeLine/\k=((y.size:Int) != 0)
 | .ref p=>(∃xs,SqL K H p xs/\k=!xs.isEmpty)\/(∃xs,SqT K H p xs/\k=!xs.isEmpty)\/∃kvs,H p=some (.dK kvs)/\k=!kvs.isEmpty
 |_=>False
theorem isEmpty_kv {κ:Type} {kvs:List (κ×V)} {vs:List (κ×Value)} (r:KV kvs vs):(!vs.isEmpty)=!kvs.isEmpty:=by
 cases r<;>rfl
theorem isEmpty_of {xs:List V} {its:List Value} (r:Vals xs its):(!its.toArray.isEmpty)=!xs.isEmpty:=by
 cases r<;>simp
theorem line63:(sizeLine:Nat)<2 ^ 63:=by rw[sizeLine_eq];decide
theorem tru_ok:TruR X (fun x H Q=>∃k,TruV X.K x H k/\Q k H):=by
 intro pins s σ H x v Q I rx h
 obtain⟨k,e,q⟩:=h
 have hl:=line63
 have hs:sizeLine=16777216:=sizeLine_eq
 cases x with
 |non=>
  cases rx
  have e':k=false:=e
  subst e'
  exact truthy_none ⟨H,I,q⟩
 |bl b=>
  cases rx
  have e':k=b:=e
  subst e'
  exact wpAny_truthy_bool ⟨H,I,q⟩
 |int i=>
  obtain⟨t,rfl⟩:=rx
  have e':k=(i != 0):=e
  subst e'
  exact PySem.P.truthy_int ⟨H,I,q⟩
 |str y=>
  obtain⟨t,rfl⟩:=rx
  obtain⟨hy,e'⟩:y.length<=sizeLine/\k=((y.length:Int) != 0):=e
  subst e'
  exact PySem.P.truthy_str (by omega) ⟨H,I.tok _,q⟩
 |byt y=>
  obtain⟨t,rfl⟩:=rx
  obtain⟨hy,e'⟩:y.size<=sizeLine/\k=((y.size:Int) != 0):=e
  subst e'
  exact W.truthy_bytes (by omega) ⟨H,I.tok _,q⟩
 |ref p=>
  cases rx
  have e':(∃xs,SqL X.K H p xs/\k=!xs.isEmpty)\/(∃xs,SqT X.K H p xs/\k=!xs.isEmpty)\/∃kvs,H p=some (.dK kvs)/\k=!kvs.isEmpty:=e
  rcases e' with⟨xs,hx,e'⟩|⟨xs,hx,e'⟩|⟨kvs,hx,e'⟩
  .subst e'
   obtain⟨its,r,pl,hz⟩:=I.list hx
   have hlen:=r.length
   exact wpAny_truthy_list pl.isList (by simp only[List.size_toArray];omega) ⟨H,I.tok _,by rw[isEmpty_of r];exact q⟩
  .subst e'
   obtain⟨its,r,pl,hz⟩:=I.tuple hx
   have hlen:=r.length
   exact truthy_tuple pl (by simp only[List.size_toArray];omega) ⟨H,I.tok _,by rw[isEmpty_of r];exact q⟩
  .subst e'
   obtain⟨hz,hS,vs,r,m⟩:kvs.length<=sizeLine/\(p == sysModules)=false/\∃vs,KV kvs vs/\s.heap.DictOf (mixKind X.prog X.w) p vs:=I.hok p _ hx
   have hlen:kvs.length=vs.length:=Paired.length r
   exact wpAny_truthy_dict hS m (by omega) ⟨H,I.tok _,by rw[isEmpty_kv r];exact q⟩
 |_=>exact(show False from e).elim
theorem pt_truth (ha:PE X a ta) (he:∀whole,isTrue a X.env whole=(do let v <- whole;standAt a.pos;holding [v] (truthy v))):
  PT X a (fun σ H Q=>ta σ H fun x H'=>∃k,TruV X.K x H' k/\Q k H'):=by
 intro pins s σ H Q I h
 exact isTrue_plain (thn (ha pins s σ H _ I h) fun v s1 ⟨x,H1,I1,r1,q1⟩=>tru_ok pins s1 σ H1 x v Q I1 r1 q1) (he _)
theorem op_add_str:OpR X (binaryOp .Add) (fun x y H Q=>∃i j,x=.str i/\y=.str j/\i.length+j.length<=sizeLine/\Q (.str (i++j)) H):=by
 intro pins s σ H x y v u Q I rx ry h
 obtain⟨i,j,rfl,rfl,hz,q⟩:=h
 obtain⟨t,rfl⟩:=rx
 obtain⟨t',rfl⟩:=ry
 exact add_str (fun t' tk=>⟨.str (i++j),H,I.tok _,⟨_,rfl⟩,q⟩) hz
theorem vals1 {x:V} {us:List Value} (r:Vals [x] us):∃u,us=[u]/\RelV x u:=by
 cases r with
 |cons r1 r2=>cases r2;exact⟨_,rfl,r1⟩
theorem vals2 {x y:V} {us:List Value} (r:Vals [x,y] us):∃u w',us=[u,w']/\RelV x u/\RelV y w':=by
 cases r with
 |cons r1 r2=>
  cases r2 with
  |cons r3 r4=>cases r4;exact⟨_,_,rfl,r1,r3⟩
theorem call_abs:CallR X (.builtin "abs") (fun xs H Q=>∃i,xs=[.int i]/\Q (.int (if i<0 then -i else i)) H):=by
 intro pins s σ H xs us Q I r h
 obtain⟨i,rfl,q⟩:=h
 obtain⟨u,rfl,t,rfl⟩:=vals1 r
 exact call_abs_int fun u tk=>⟨.int (if i<0 then -i else i),H,I.tok _,⟨_,rfl⟩,q⟩
theorem call_min2 (hc:X.calm=true):CallR X (.builtin "min") (fun xs H Q=>∃i j,xs=[.int i,.int j]/\Q (.int (if j<i then j else i)) H):=by
 intro pins s σ H xs us Q I r h
 obtain⟨i,j,rfl,q⟩:=h
 obtain⟨u,w',rfl,⟨t,rfl⟩,⟨t',rfl⟩⟩:=vals2 r
 refine min_two_ints (I.ok.hd hc) fun h' tk k=>⟨_,H,I.kept k,?_,q⟩
 by_cases hj:j<i
 .rw[if_pos hj,if_pos hj];exact⟨_,rfl⟩
 .rw[if_neg hj,if_neg hj];exact⟨_,rfl⟩
theorem call_int1:CallR X (.type "int") (fun xs H Q=>(∃i,xs=[.int i]/\Q (.int i) H)\/∃k,xs=[.bl k]/\Q (.int (if k then 1 else 0)) H):=by
 intro pins s σ H xs us Q I r h
 rcases h with⟨i,rfl,q⟩|⟨k,rfl,q⟩
 .obtain⟨u,rfl,t,rfl⟩:=vals1 r
  exact call_int_int ⟨.int i,H,I,⟨_,rfl⟩,q⟩
 .obtain⟨u,rfl,r1⟩:=vals1 r
  cases r1
  exact call_int_bool ⟨.int (if k then 1 else 0),H,I.tok _,⟨_,rfl⟩,q⟩
theorem call_str_int:CallR X (.type "str") (fun xs H Q=>∃i,xs=[.int i]/\i.natAbs.log2<1920/\Q (.str (toString i)) H):=by
 intro pins s σ H xs us Q I r h
 obtain⟨i,rfl,hz,q⟩:=h
 obtain⟨u,rfl,t,rfl⟩:=vals1 r
 exact PySem.P.str_of_int hz ⟨.str _,H,I.tok _,⟨_,rfl⟩,q⟩
def LenV (K:W.Frag) (x:V) (H:Hp) (n:Nat):Prop:=
 match x with
 | .str y=>y.length<=sizeLine/\n=y.length
 | .byt y=>y.size<=sizeLine/\n=y.size
 | .ref p=>(∃xs,SqL K H p xs/\n=xs.length)\/∃xs,SqT K H p xs/\n=xs.length
 |_=>False
theorem call_len:CallR X (.builtin "len") (fun xs H Q=>∃x n,xs=[x]/\LenV X.K x H n/\Q (.int n) H):=by
 intro pins s σ H xs us Q I r h
 obtain⟨x,n,rfl,e,q⟩:=h
 obtain⟨u,rfl,rx⟩:=vals1 r
 have hl:=line63
 have hs:sizeLine=16777216:=sizeLine_eq
 cases x with
 |str y=>
  obtain⟨t,rfl⟩:=rx
  obtain⟨hy,e'⟩:y.length<=sizeLine/\n=y.length:=e
  subst e'
  exact len_str (by omega) ⟨.int _,H,I.tok _,⟨_,rfl⟩,q⟩
 |byt y=>
  obtain⟨t,rfl⟩:=rx
  obtain⟨hy,e'⟩:y.size<=sizeLine/\n=y.size:=e
  subst e'
  exact W.len_bytes (by omega) ⟨.int _,H,I.tok _,⟨_,rfl⟩,q⟩
 |ref p=>
  cases rx
  have e':(∃xs,SqL X.K H p xs/\n=xs.length)\/∃xs,SqT X.K H p xs/\n=xs.length:=e
  rcases e' with⟨xs,hx,e'⟩|⟨xs,hx,e'⟩
  .subst e'
   obtain⟨its,r',pl,hz⟩:=I.list hx
   have hlen:=r'.length
   exact Calls.call_len_list pl.isList (by simp only[List.size_toArray];omega) ⟨.int xs.length,H,I.tok _,⟨_,by simp only[List.size_toArray];rw[hlen]⟩,q⟩
  .subst e'
   obtain⟨its,r',pl,hz⟩:=I.tuple hx
   have hlen:=r'.length
   exact len_tuple pl (by simp only[List.size_toArray];omega) ⟨.int xs.length,H,I.tok _,⟨_,by simp only[List.size_toArray];rw[hlen]⟩,q⟩
 |_=>exact(show False from e).elim
end
structure ObjM (h:Heap) (x dx C:Addr) (mA:Str->Option Value):Prop where
 obj:h.get? x=some (W.instObj C dx)
 ns:h.Ns1 dx mA
 ne:dx≠x
section
variable {prog:Program} {w:World} {A:Around} {E:Value->Shared->Prop} {s:Shared} {K:W.Frag} {x dx C f:Addr} {mA:Str->Option Value} {name:Str} {v:Value}
end
section
variable {P:Program} {w:World} {H H':Hp} {h h':Heap} {a C dx:Addr} {fs fs':List (Str×V)}
end
structure Cls (K:W.Frag) (C:Addr):Prop where
 pg:W.plainGet K C Str.empty=true
 hd:W.hasDictIn K C=true
 po:W.plainOver K C=true
 sa:W.findIn K (.ref C) "__setattr__"=some (some (.builtin "object.__setattr__"))
structure Con (K:W.Frag) (C:Addr) (f:Str) (v:V) (u:Value):Prop where
 at_:W.findIn K (.ref C) f=some (some u)
 rel:RelV v u
 get:W.specialIn K u "__get__"=some none
 cp:W.copiedNames.contains f=false
structure Meth (K:W.Frag) (C:Addr) (m:Str) (f:Addr):Prop where
 at_:W.findIn K (.ref C) m=some (some (.ref f))
 fn:W.isFn K (.ref f)=true
 kp:W.keepIn K (.ref f)=true
section
variable {X:Cx} {pins:List (Addr×Obj)} {σ:St} {H:Hp} {s:Shared} {a C dx:Addr} {fs:List (Str×V)} {f:Str} {v:V} {A:Around} {E:Value->Shared->Prop}
end
section
variable {X:Cx} {o e value:Expr} {f:Str} {pos pos' tpos:Pos} {ta tv:TE}
end
section
variable {X:Cx} {pins:List (Addr×Obj)} {σ:St} {H:Hp} {s:Shared} {A:Around} {E:Value->Shared->Prop} {Q:Value->Shared->Prop} {c:Value} {b:Bool}
inductive TyOf (K:W.Frag) (H:Hp):V->Value->Prop where
 |non:TyOf K H .non (.type "NoneType")
 |bl (x:Bool):TyOf K H (.bl x) (.type "bool")
 |int (i:Int):TyOf K H (.int i) (.type "int")
 |str (x:Str):TyOf K H (.str x) (.type "str")
 |flt (x:UInt64):TyOf K H (.flt x) (.type "float")
 |lst {a:Addr} {xs:List V} (e:H a=some (.lst xs)):TyOf K H (.ref a) (.type "list")
 |frz {a:Addr} {o:Obj} {xs:List V} (e:H a=some (.frz o (.lst xs))):TyOf K H (.ref a) (.type "list")
 |tup {a:Addr} {xs:List V} (e:H a=some (.tup xs)):TyOf K H (.ref a) (.type "tuple")
 |dK {a:Addr} {kvs:List (Key×V)} (e:H a=some (.dK kvs)):TyOf K H (.ref a) (.type "dict")
 |dT {a:Addr} {kvs:List (List Key×V)} (e:H a=some (.dT kvs)):TyOf K H (.ref a) (.type "dict")
 |ins {a C dx:Addr} {fs:List (Str×V)} (e:H a=some (.ins C dx fs)) (cl:Cls K C) (ha:W.findIn K (.ref C) "__class__"=some (some (.builtin "object.__class__")))
   (hn:W.specialIn K (.builtin "object.__class__") "__get__"=some (some (.builtin "getset_descriptor.__get__"))) (htk:W.takesIn K (.builtin "object.__class__")=some true)
   (hm:W.mroIn K C (.type "object")=some true):TyOf K H (.ref a) (.ref C)
end
structure Room (k:Nat) (A:Around):Prop where
 hd:A.handled=none
 dp:A.depth+3*k+5<recursionLimit
 un:A.units+16*k+200<cLine
 gd:A.guards=some []
theorem Room.mono {j k:Nat} {A:Around} (r:Room k A) (h:j<=k):Room j A:=⟨r.hd,by have:=r.dp;omega,by have:=r.un;omega,r.gd⟩
theorem Room.deeper {k:Nat} {A:Around} (r:Room (k+1) A) (env:Env):Room k (A.deeper env):=
 ⟨r.hd,by have:=r.dp;show A.depth+1+3*k+5<_;omega,by have:=r.un;show A.units+3+16*k+200<_;omega,r.gd⟩
theorem Room.depth {k:Nat} {A:Around} (r:Room k A):A.depth<recursionLimit:=by have:=r.dp;omega
theorem Room.units {k:Nat} {A:Around} (r:Room k A):A.units+64<cLine:=by have:=r.un;omega
noncomputable def tNil:TA:=fun _ H Q=>Q [] H
noncomputable def tCons (ta:TE) (tr:TA):TA:=fun σ H Q=>ta σ H fun x H1=>tr σ H1 fun xs H2=>Q (x :: xs) H2
section
variable {X:Cx} {e:Expr} {es:List Expr} {te:TE} {t:TA} {pos:Pos}
theorem pa_nil:PA X [] tNil:=fun _ _ _ _ H Q I h=>Calls.spliced_nil ⟨[],H,I,.nil,h⟩
theorem pa_cons (ha:PE X e te) (hr:PA X es t) (hs:starEach (e :: es) X.env=(false,eval e X.env) :: starEach es X.env:=by rfl):PA X (e :: es) (tCons te t):=by
 intro pos pins s σ H Q I h
 rw[hs]
 show wpAny _ _ (spliced ((false,eval e X.env) :: backTo pos (starEach es X.env))) _ _ s
 refine Calls.spliced_cons (thn (ha pins s σ H _ I h) fun u s1 ⟨x,H1,I1,r1,q1⟩=>?_)
 exact thn (hr pos pins s1 σ H1 _ I1 q1) fun us s2 ⟨xs,H2,I2,r2,q2⟩=>⟨x :: xs,H2,I2,.cons r1 r2,q2⟩
noncomputable def tTup (t:TA):TE:=fun σ H Q=>t σ H fun xs H1=>xs.length<=sizeLine/\∀p,H1 p=none->Q (.ref p) (upd H1 p (.tup xs))
noncomputable def tLst (t:TA):TE:=fun σ H Q=>t σ H fun xs H1=>xs.length<=sizeLine/\∀p,H1 p=none->Q (.ref p) (upd H1 p (.lst xs))
theorem pe_tup {x1} (h:PA X es t):PE X (.Tuple es x1 pos) (tTup t):=by
 intro pins s σ H Q I hq
 refine wpAny_Tuple_spliced (thn (h pos pins s σ H _ I hq) fun us s1 ⟨xs,H1,I1,r,z,q⟩=>⟨by rw[<- r.length];exact z,?_⟩)
 have hf:H1 s1.heap.objs.size=none:=I1.hok.fresh (Nat.le_refl _)
 refine⟨.ref s1.heap.objs.size,upd H1 s1.heap.objs.size (.tup xs),I1.laid (t':=s1.toks) (fun b u e=>Heap.get?_push_of_some _ e) (Nat.le_refl _) ?_,rfl,q _ hf⟩
 exact⟨z,us,r,⟨_,Heap.get?_push_size _ rfl,rfl,⟨_,rfl⟩,rfl⟩⟩
theorem pe_lst (h:PA X es t):PE X (.List es pos) (tLst t):=by
 intro pins s σ H Q I hq
 refine wpAny_List_spliced (thn (h pos pins s σ H _ I hq) fun us s1 ⟨xs,H1,I1,r,z,q⟩=>⟨by rw[<- r.length];exact z,?_⟩)
 have hf:H1 s1.heap.objs.size=none:=I1.hok.fresh (Nat.le_refl _)
 refine⟨.ref s1.heap.objs.size,upd H1 s1.heap.objs.size (.lst xs),I1.laid (t':=s1.toks) (fun b u e=>Heap.get?_push_of_some _ e) (Nat.le_refl _) ?_,rfl,q _ hf⟩
 exact⟨z,us,0,r,Heap.get?_push_size _ rfl⟩
end
noncomputable abbrev Sp:=List V->Hp->VK->XK->Prop
noncomputable abbrev CXT:=List Env->Hp->Shared->XK->Value->Shared->Prop
structure Env0 (P:Program) (w:World) (K:W.Frag) (mg:Str->Option Value) (base:Heap) (A:Around) (outer:List Env) (s:Shared) (H:Hp):Prop where
 frames:A.frames=some outer
 mod:Mod K mg base
 bs:∀b o,base.get? b=some o->s.heap.get? b=some o/\H b=none
 bsz:base.objs.size<=s.heap.objs.size
 funs:s.heap.FunFrames base outer
 frf:∀b∈frs outer,H b=none
 hok:HOk P w H s.heap
 bare:AllBare s.gens
def CE (outer:List Env) (P:Program) (w:World) (H:Hp) (s:Shared) (Q:VK) (u:Value) (s':Shared):Prop:=
 ∃v H',s'.os=s.os/\AllBare s'.gens/\Un (frs outer) [] H H' s.heap s'.heap/\HOk P w H' s'.heap/\RelV v u/\Q v H'
def CR (CX:CXT) (outer:List Env) (P:Program) (w:World) (H:Hp) (s:Shared) (Q:VK) (E:XK) (r:Result) (s':Shared):Prop:=
 match r with
 | .ok (.ret u)=>CE outer P w H s Q u s'
 | .ok _=>False
 | .error e=>CX outer H s E e s'
structure FnOk (P:Program) (w:World) (K:W.Frag) (mg:Str->Option Value) (base:Heap) (CX:CXT) (k:Nat) (f:Addr) (fd:FuncData) (ps:List Str) (sp:Sp):Prop where
 len:∀vs H Q E,sp vs H Q E->vs.length=ps.length
 run:∀(A:Around) (outer:List Env) (s:Shared) (H:Hp) (args:Args) (us:List Value) (vs:List V) (Q:VK) (E:XK),Room k A->Env0 P w K mg base A outer s H->BindsTo s fd args (ps.zip us)->Vals vs us->sp vs H Q E->
  codeAny (model P w) A (.call (.ref f) args) (CR CX outer P w H s Q E) s
theorem FnOk.mono {P:Program} {w:World} {K:W.Frag} {mg:Str->Option Value} {base:Heap} {CX:CXT} {j k:Nat} {f:Addr} {fd:FuncData} {ps:List Str} {sp:Sp} (F:FnOk P w K mg base CX j f fd ps sp) (h:j<=k):
  FnOk P w K mg base CX k f fd ps sp:=⟨F.len,fun A outer s H args us vs Q E hr=>F.run A outer s H args us vs Q E (hr.mono h)⟩
section
variable {X:Cx} {pins:List (Addr×Obj)} {σ:St} {H:Hp} {s s':Shared}
theorem Inv.env0 (I:Inv X pins σ H s):Env0 X.prog X.w X.K X.mg X.base X.A X.stack s H:=
 ⟨I.ok.frames,I.ok.mod,I.bs,Nat.le_trans I.ok.bsz I.sz,I.stack,I.stkFree,I.hok,I.bare⟩
theorem Inv.after {Q:VK} {u:Value} (I:Inv X pins σ H s) (h:CE X.stack X.prog X.w H s Q u s'):EP X pins σ Q u s':=by
 obtain⟨v,H',os,bare,un,hok,r,q⟩:=h
 obtain⟨hh,g,d,t,os'⟩:=s'
 obtain rfl:os'=s.os:=os
 exact⟨v,H',I.call (h':=hh) (g':=g) (d':=d) (t':=t) (ch:=[]) un hok bare (fun b z=>absurd z (by simp)),r,q⟩
end
noncomputable def tCall (sp:Sp) (dvs:List V) (E:XK) (t:TA):TE:=fun σ H Q=>t σ H fun vs H1=>sp (vs++dvs) H1 Q E
def Binds (K:W.Frag) (fd:FuncData) (ps:List Str) (ds:List Value):Prop:=
 ∀(s:Shared) (us:List Value),K.In s.heap->(us++ds).length=ps.length->BindsTo s fd ⟨us,[]⟩ (ps.zip (us++ds))
theorem Binds.all {K:W.Frag} {fd:FuncData} {ps:List Str} (h:∀us:List Value,us.length=ps.length->bindArgs fd ⟨us,[]⟩=pure (ps.zip us)):Binds K fd ps []:=fun s us _ hl=>by
 rw[List.append_nil]at hl ⊢
 exact .of_eq (h us hl)
section
variable {X:Cx} {CX:CXT} {k:Nat} {f C:Addr} {fd:FuncData} {ps:List Str} {sp:Sp} {dvs:List V} {ds:List Value} {E:XK} {x m:Str} {p pos apos:Pos} {e o:Expr} {es:List Expr} {ta:TE} {t:TA}
structure Mk (K:W.Frag) (C f:Addr):Prop where
 makes:W.makesIn K C=true
 init:W.findIn K (.ref C) "__init__"=some (some (.ref f))
 fn:W.isFn K (.ref f)=true
 kp:W.keepIn K (.ref C)=true
end
section
variable {X:Cx} {CX:CXT} {k:Nat} {f C:Addr} {fd:FuncData} {ps ks:List Str} {sp:Sp} {E:XK} {x m:Str} {p pos apos kpos:Pos} {e o:Expr} {es:List Expr} {kws:List Keyword} {te ta:TE} {t tk:TA} {nm:Option Str}
structure KBinds (K:W.Frag) (fd:FuncData) (ps ks:List Str) (g:List Value->List Value->List Value) (gV:List V->List V->List V):Prop where
 to:∀(s:Shared) (us ws:List Value),K.In s.heap->(g us ws).length=ps.length->BindsTo s fd ⟨us,ks.zip ws⟩ (ps.zip (g us ws))
 rel:∀{vs:List V} {us:List Value} {zs:List V} {ws:List Value},Vals vs us->Vals zs ws->Vals (gV vs zs) (g us ws)
variable {g:List Value->List Value->List Value} {gV:List V->List V->List V}
end
structure FnScope (N P:List Str) (sc:Scope):Prop where
 kind:sc.kind=.function
 co:sc.isCoroutine=false
 gen:sc.isGenerator=false
 nd:N.Nodup
 pre:N.take P.length=P
 par:∀x∈P,sc.names.lookup x=some .local\/sc.names.lookup x=some .cell
 nofree:∀y∈sc.names,y.2≠.free
theorem bindL_out {kindOf:Str->Option NameKind} {x:Str}:∀{binds:List (Str×Value)} {m:Str->Option Value},(∀v,(x,v)∉binds)->bindL kindOf binds m x=m x
 | [],_,_=>rfl
 |(n,v) :: r,m,h=>by
  unfold bindL
  rw[bindL_out fun w hw=>h w (List.mem_cons_of_mem _ hw)]
  split
  .have:x≠n:=by rintro rfl;exact h v List.mem_cons_self
   simp[this]
  .rfl
theorem bindC_out {kindOf:Str->Option NameKind} {x:Str}:∀{binds:List (Str×Value)} {m:Str->Option Value},(∀v,(x,v)∉binds)->bindC kindOf binds m x=m x
 | [],_,_=>rfl
 |(n,v) :: r,m,h=>by
  unfold bindC
  rw[bindC_out fun w hw=>h w (List.mem_cons_of_mem _ hw)]
  split
  .rfl
  .have:x≠n:=by rintro rfl;exact h v List.mem_cons_self
   simp[this]
theorem bindL_get {kindOf:Str->Option NameKind} {x:Str} {v:Value}:∀{P:List Str} {vs:List Value} {i:Nat} {m:Str->Option Value},P.Nodup->P[i]?=some x->vs[i]?=some v->kindOf x=some .local->
  bindL kindOf (P.zip vs) m x=some v
 | [],_,_,_,_,h,_,_=>by simp at h
 |_ :: _,[],_,_,_,_,h,_=>by simp at h
 |p :: P,w :: vs,0,m,nd,h1,h2,hk=>by
  simp at h1 h2;subst h1;subst h2
  show bindL kindOf ((p,w) :: P.zip vs) m p=_
  unfold bindL
  rw[bindL_out fun v hv=>(List.nodup_cons.mp nd).1 (List.of_mem_zip hv).1,if_pos hk]
  simp
 |p :: P,w :: vs,i+1,m,nd,h1,h2,hk=>by
  show bindL kindOf ((p,w) :: P.zip vs) m x=_
  unfold bindL
  exact bindL_get (i:=i) (List.nodup_cons.mp nd).2 (by simpa using h1) (by simpa using h2) hk
theorem bindC_get {kindOf:Str->Option NameKind} {x:Str} {v:Value}:∀{P:List Str} {vs:List Value} {i:Nat} {m:Str->Option Value},P.Nodup->P[i]?=some x->vs[i]?=some v->kindOf x≠some .local->
  bindC kindOf (P.zip vs) m x=some v
 | [],_,_,_,_,h,_,_=>by simp at h
 |_ :: _,[],_,_,_,_,h,_=>by simp at h
 |p :: P,w :: vs,0,m,nd,h1,h2,hk=>by
  simp at h1 h2;subst h1;subst h2
  show bindC kindOf ((p,w) :: P.zip vs) m p=_
  unfold bindC
  rw[bindC_out fun v hv=>(List.nodup_cons.mp nd).1 (List.of_mem_zip hv).1,if_neg hk]
  simp
 |p :: P,w :: vs,i+1,m,nd,h1,h2,hk=>by
  show bindC kindOf ((p,w) :: P.zip vs) m x=_
  unfold bindC
  exact bindC_get (i:=i) (List.nodup_cons.mp nd).2 (by simpa using h1) (by simpa using h2) hk
noncomputable def start (N:List Str) (vs:List V):St:=vs.map some++List.replicate (N.length-vs.length) none
noncomputable def cxOf (CX:CXT) (P:Program) (w:World) (K:W.Frag) (mg:Str->Option Value) (base:Heap) (N:List Str) (qual:Str) (scope:Scope) (f:Addr) (cd:Value) (A:Around) (outer:List Env) (s:Shared) (H:Hp) (E:XK):Cx where
 prog:=P
 w:=w
 K:=K
 mg:=mg
 base:=base
 A:=A.deeper (envOfC qual scope s.heap.objs.size f cd)
 N:=N
 s₀:=s
 H₀:=H
 env:=envOfC qual scope s.heap.objs.size f cd
 outer:=outer
 stack:=envOfC qual scope s.heap.objs.size f cd :: outer
 ex:=[]
 calm:=true
 fn:=fun _=>true
 pn:=[]
 xe:=fun e s'=>wpAny (model P w) (A.deeper (envOfC qual scope s.heap.objs.size f cd)) (leaving (envOfC qual scope s.heap.objs.size f cd) e) (fun _ s''=>CX outer H s E e s'') (fun e' s''=>CX outer H s E e' s'') s'
theorem cell_has {sc:Scope} {n:Nat} {x:Str} (h:sc.names.lookup x=some .cell):∃c,(cellsFrom n sc.names []).lookup x=some c:=by
 have q:=W.cellsFrom_some sc.names n [] (.inl h)
 exact Option.isSome_iff_exists.mp q
theorem inv_start {CX:CXT} {P:Program} {w:World} {K:W.Frag} {mg:Str->Option Value} {base:Heap} {N ps:List Str} {qual:Str} {scope:Scope} {f:Addr} {cd:Value} {A:Around} {outer:List Env} {s s1:Shared} {H:Hp} {E:XK} {us:List Value} {vs:List V}
  (S:FnScope N ps scope) (hd:A.handled=none) (e0:Env0 P w K mg base A outer s H) (hl:vs.length=ps.length) (r:Vals vs us)
  (x:InCallC s s.heap.objs.size (bindL (envOfC qual scope s.heap.objs.size f cd).kindOf (ps.zip us) fun _=>none) (cellsFrom (s.heap.objs.size+1) scope.names []) (bindC (envOfC qual scope s.heap.objs.size f cd).kindOf (ps.zip us) fun _=>none) s1):
  Inv (cxOf CX P w K mg base N qual scope f cd A outer s H E) [] (start N vs) H s1:=by
 have hpl:ps.length<=N.length:=by have:=congrArg List.length S.pre;rw[List.length_take]at this;omega
 obtain⟨h1,tk,rfl,hk⟩:=x.done
 have noA:∀b:Addr,b∉(cxOf CX P w K mg base N qual scope f cd A outer s H E).ex:=fun b z=>absurd (show b∈([]:List Addr) from z) (by simp)
 refine⟨⟨e0.mod,S.kind,rfl,rfl,Nat.le_refl _,fun y z c h1 h2=>?_,fun y hy=>?_,fun y c _ h=>?_,fun _=>hd,Around.frames_deeper e0.frames,.inr ⟨rfl,rfl⟩,fun b z=>absurd z (noA b),e0.bs,e0.bsz,fun b _ _=>noA b,fun b z=>absurd z (noA b),e0.funs,e0.frf⟩,
  rfl,e0.bare,Un.kept hk,⟨_,x.toInCall.ns,fun i y v h1 h2 h3=>?_⟩,fun y c h=>⟨_,x.cell y c h⟩,e0.hok.fresh (Nat.le_refl _),fun y c h=>?_,fun p hp=>absurd (show p∈([]:List (Addr×Obj)) from hp) (by simp),e0.hok.kept hk,?_⟩
 .exact name_of_addr x.apart (PySem.mem_of_lookup h1) (PySem.mem_of_lookup h2)
 .have hy:scope.names.lookup y=some .cell\/scope.names.lookup y=some .free:=hy
  rcases hy with hy|hy
  .exact cell_has hy
  .exact absurd rfl (S.nofree _ (PySem.mem_of_lookup hy))
 .exact Nat.le_of_lt (x.above y c (PySem.mem_of_lookup h))
 .have hi:i<vs.length:=by
   unfold start at h2
   by_cases hi:i<vs.length
   .exact hi
   .rw[List.getElem?_append_right (by simpa using hi)]at h2
    rw[List.getElem?_replicate]at h2
    split at h2<;>cases h2
  have ha:vs[i]?=some v:=by
   unfold start at h2
   rw[List.getElem?_append_left (by simpa using hi),List.getElem?_map]at h2
   cases e:vs[i]? with
   |none=>rw[e]at h2;cases h2
   |some a=>rw[e]at h2;cases h2;rfl
  obtain⟨u,hu,rv⟩:=r.get ha
  have hp:ps[i]?=some y:=by
   rw[<- S.pre,List.getElem?_take_of_lt (by omega)];exact h1
  have ndP:ps.Nodup:=by rw[<- S.pre];exact S.nd.sublist (List.take_sublist _ _)
  refine⟨u,rv,?_⟩
  rcases S.par y (List.mem_of_getElem? hp)with k|k
  .exact .inl ⟨k,bindL_get ndP hp hu k⟩
  .obtain⟨c,e⟩:=cell_has (n:=s.heap.objs.size+1) k
   refine .inr ⟨.inl k,c,e,?_⟩
   have q:=x.cell y c e
   rw[bindC_get ndP hp hu (by show scope.names.lookup y≠_;rw[k];decide)]at q
   exact q
 .exact e0.hok.fresh (Nat.le_of_lt (x.above y c (PySem.mem_of_lookup h)))
 .unfold start
  show _=N.length
  rw[List.length_append,List.length_map,List.length_replicate]
  omega
theorem fn_of {CX:CXT} {P:Program} {w:World} {K:W.Frag} {mg:Str->Option Value} {base:Heap} {k:Nat} {f:Addr} {name qual:Str} {params:Arguments} {body:List Stmt} {scope:Scope} {dV kV doc pm cdv ct oc:Value} {an od:Option Addr}
  {osl:Array (Option Value)} {N ps:List Str} {sp:Sp} (lk:K.lookup f=some ⟨oc,od,.func (W.fnOf name qual params body scope dV kV doc pm an cdv ct),osl⟩) (hcd:W.codeIn K cdv qual=true) (S:FnScope N ps scope)
  (len:∀vs H Q E,sp vs H Q E->vs.length=ps.length)
  (hbody:∀(A:Around) (outer:List Env) (s:Shared) (H:Hp) (vs:List V) (Q:VK) (E:XK),Room k (A.deeper (envOfC qual scope s.heap.objs.size f cdv))->sp vs H Q E->
   ∃t,PSs (cxOf CX P w K mg base N qual scope f cdv A outer s H E) body t/\t { nx:=fun _ H'=>Q .non H',rt:=Q } (start N vs) H):
  FnOk P w K mg base CX (k+1) f (W.fnOf name qual params body scope dV kV doc pm an cdv ct) ps sp:=by
 refine⟨len,fun A outer s H args us vs Q E hr e0 hb r hsp=>?_⟩
 have hl:=len _ _ _ _ hsp
 have KX:K.In s.heap:=e0.mod.kin.keeps fun b o e=>(e0.bs b o e).1
 have lim:s.heap.NoLimit:=e0.mod.nolimit.keeps fun b o e=>(e0.bs b o e).1
 have hkind:∀y∈ps.zip us,scope.names.lookup y.1=some .local\/(scope.names.lookup y.1=some .cell/\((cellsFrom (s.heap.objs.size+1) scope.names []).lookup y.1).isSome=true):=fun⟨n,v⟩ hy=>by
  rcases S.par n (List.of_mem_zip hy).1 with q|q
  .exact .inl q
  .exact .inr ⟨q,W.cellsFrom_some _ _ _ (.inl q)⟩
 refine codeAny_call_function hr.depth (KX _ _ lk) rfl S.co S.gen rfl (W.codeRec_of KX hcd) (hb _ _ _ _ ?_)
 refine wpAny_newFunctionEnv_cells S.kind hkind fun env he s1 x=>?_
 subst he
 refine⟨lim.keeps x.toInCall.keep,codeAny_func ?_⟩
 obtain⟨t,ht,hq⟩:=hbody A outer s H vs Q E (hr.deeper _) hsp
 have I:Inv (cxOf CX P w K mg base N qual scope f cdv A outer s H E) [] (start N vs) H s1:=inv_start S hr.hd e0 hl r x
 refine wpAny_mono (ht [] s1 (start N vs) H _ I hq) (fun fl s' hs=>?_) fun e s' hs=>hs
 have fin:∀{σ':St} {H':Hp} {v:V} {u:Value},Inv (cxOf CX P w K mg base N qual scope f cdv A outer s H E) [] σ' H' s'->RelV v u->Q v H'->CE outer P w H s Q u s':=
  fun {σ' H' v u} J rv q=>⟨v,H',J.os,J.bare,J.base,J.hok,rv,q⟩
 cases fl with
 |ret u=>
  obtain⟨v,σ',H',J,rv,q⟩:=hs
  exact fin J rv q
 |next=>
  obtain⟨σ',H',J,q⟩:=hs
  exact fin (v:=V.non) (u:=Value.none) J rfl q
 |brk=>
  obtain⟨_,_,_,q⟩:=hs
  exact False.elim q
 |cont=>
  obtain⟨_,_,_,q⟩:=hs
  exact False.elim q
section
variable {X:Cx} {x:Str} {p pos:Pos} {e:Expr} {es:List Expr} {t:TA} {id T:String} {r:List V->Hp->VK->Prop}
noncomputable def tCB (r:List V->Hp->VK->Prop) (t:TA):TE:=fun σ H Q=>t σ H fun vs H1=>r vs H1 Q
theorem pe_callB (hc:CallR X (.builtin id) r) (hg:Gl X x) (hm:X.mg x=none) (hv:bootBuiltins x=some (.builtin id)) (ha:PA X (e :: es) t) (hn:x≠"__name__":=by decide) (hdb:(x == ("__debug__":Str))=false:=by decide)
  (he:starEach (e :: es) X.env=(false,eval e X.env) :: starEach es X.env:=by rfl) (hpl:(backTo pos (starEach es X.env)).any (·.1)=false:=by rfl):PE X (.Call (.Name x p) (e :: es) [] pos) (tCB r t):=by
 intro pins s σ H Q I h
 refine wpAny_Call_Name_kw (ld_blt I hg hm hv ?_ hn hdb)
 exact PyProof.Rows.callWith_builtin1 (thn (ha pos pins s σ H _ I h) fun us s1 ⟨vs,H1,I1,r1,q1⟩=>hc pins s1 σ H1 vs us Q I1 r1 q1) he hpl
theorem pe_callTy (hc:CallR X (.type T) r) (hg:Gl X x) (hm:X.mg x=none) (hv:bootBuiltins x=some (.type T)) (ha:PA X (e :: es) t) (hn:x≠"__name__":=by decide) (hdb:(x == ("__debug__":Str))=false:=by decide)
  (he:starEach (e :: es) X.env=(false,eval e X.env) :: starEach es X.env:=by rfl) (hpl:(backTo pos (starEach es X.env)).any (·.1)=false:=by rfl):PE X (.Call (.Name x p) (e :: es) [] pos) (tCB r t):=by
 intro pins s σ H Q I h
 refine wpAny_Call_Name_kw (ld_blt I hg hm hv ?_ hn hdb)
 exact PyProof.Rows.callWith_type1 (thn (ha pos pins s σ H _ I h) fun us s1 ⟨vs,H1,I1,r1,q1⟩=>hc pins s1 σ H1 vs us Q I1 r1 q1) he hpl
end
end L2
namespace HT
open PySem PyProof.Rows
section
open PySem.SeqAt
open PySem.AutoSeq1 (wpAny_loadPart')
open PySem.MeetsSeq PySem.MeetsSeq2 PySem.MeetsSeq3
end
section
variable {prog:Program} {w:World} {A:Around} {E:Value->Shared->Prop} {s:Shared}
theorem cat_tup {t b:Addr} {vs ws:List Value} {Q:Value->Shared->Prop} (ht:IsTup s.heap t vs.toArray) (hb:IsTup s.heap b ws.toArray) (hv:vs≠[])
  (h1:ws=[]->Q (.ref t) s) (h2:ws≠[]->Q (.ref s.heap.objs.size) { s with heap:=s.heap.push { cls:=.type "tuple",data:=.seq (vs++ws).toArray } })
  (hsz:vs.length+ws.length<=sizeLine):wpAny (model prog w) A (binaryOp .Add (.ref t) (.ref b)) Q E s:=by
 obtain⟨⟨cls,dd,data,sl⟩,ho,hc,n,hd⟩:=id ht
 obtain⟨⟨cls2,dd2,data2,sl2⟩,ho2,hc2,n2,hd2⟩:=id hb
 simp only at hc hd hc2 hd2
 subst hc hd hc2 hd2
 have e:vs.toArray++ws.toArray=(vs++ws).toArray:=by simp
 by_cases hw:ws=[]
 .exact concat_meets ⟨_,ho,rfl⟩ ⟨_,ho2,rfl⟩ noFill_tuple_add seq_tuple_add PySem.F.slot_tuple_add PySem.F.entry_tuple_add (PySem.F.args_tuple_add_2 _ _)
   (tuple_addW1 t b vs.toArray ws.toArray n n2 dd dd2 sl sl2 (by simpa using hv) (by simp[hw])) ⟨ho,ho2,h1 hw⟩
 .refine concat_meets ⟨_,ho,rfl⟩ ⟨_,ho2,rfl⟩ noFill_tuple_add seq_tuple_add PySem.F.slot_tuple_add PySem.F.entry_tuple_add (PySem.F.args_tuple_add_2 _ _)
   (tuple_addW2 t b vs.toArray ws.toArray n n2 dd dd2 sl sl2 (by simpa using hv) (by simpa using hw) (by rw[List.size_toArray,List.size_toArray];exact hsz)) ⟨ho,ho2,?_⟩
  rw[e]
  exact h2 hw
noncomputable def sIx (n d:Nat):Option Int->Nat
 |none=>d
 |some v=>if v<0 then(v+(n:Int)).toNat else min v.toNat n
theorem sIx_le (n d:Nat) (hd:d<=n) (o:Option Int):sIx n d o<=n:=by
 cases o with
 |none=>exact hd
 |some v=>
  show(if v<0 then(v+(n:Int)).toNat else min v.toNat n)<=n
  by_cases hv:v<0
  .rw[if_pos hv];omega
  .rw[if_neg hv];exact Nat.min_le_right _ _
theorem clip_eq (v:Int) (n d:Nat):(if v<0 then max (v+(n:Int)) 0 else min v (n:Int))=((sIx n d (some v):Nat):Int):=by
 show(if v<0 then max (v+(n:Int)) 0 else min v (n:Int))=(((if v<0 then(v+(n:Int)).toNat else min v.toNat n):Nat):Int)
 by_cases hv:v<0
 .simp only[if_pos hv];omega
 .simp only[if_neg hv];omega
theorem adjust_gen (lo hi:Option Int) (n:Nat):Builtin.Slice.sliceAdjust lo hi 1 (n:Int)=(((sIx n 0 lo:Nat):Int),((sIx n n hi:Nat):Int)):=by
 have h1:¬((1:Int)<0):=by omega
 unfold Builtin.Slice.sliceAdjust
 simp only[h1,if_false]
 refine Prod.ext ?_ ?_
 .cases lo with
  |none=>rfl
  |some v=>exact clip_eq v n 0
 .cases hi with
  |none=>rfl
  |some v=>exact clip_eq v n n
theorem places_gen (i j:Nat):Builtin.Slice.slicePlaces (i:Int) (j:Int) 1=j-i:=by
 unfold Builtin.Slice.slicePlaces
 have h1:(1:Int) > 0:=by omega
 simp only[h1,if_true,Int.ediv_one]
 split<;>omega
theorem slicePart_ {v:Value} {o:Option Int} {Q:Option Int->Shared->Prop} (p:IsPart v o) (h:Q o s):wpAny (model prog w) A (Builtin.Slice.slicePartIndex v) Q E s:=by
 cases p with
 |none=>exact slicePart_none h
 |int i t=>exact slicePart_int h
theorem sliceApplied_gen {sl:Addr} {vl vu:Value} {lo hi:Option Int} {n:Nat} {Q:Int×Int×Nat->Shared->Prop} (hs:s.heap.IsSliceOf sl vl vu .none) (pl:IsPart vl lo) (pu:IsPart vu hi)
  (h:Q (((sIx n 0 lo:Nat):Int),1,sIx n n hi-sIx n 0 lo) s):wpAny (model prog w) A (Builtin.Slice.sliceApplied (.ref sl) (pure (n:Int))) Q E s:=by
 obtain⟨os,hos,hcs,hds⟩:=id hs
 unfold Builtin.Slice.sliceApplied Builtin.Slice.sliceFields
 refine wpAny_bind (wpAny_bind (wpAny_field hos hds (x:=vl) rfl (wpAny_bind (wpAny_field hos hds (x:=vu) rfl (wpAny_bind (wpAny_field hos hds (x:=.none) rfl (wpAny_pure ?_)))))))
 refine wpAny_bind (slicePart_none ?_)
 show wpAny _ _ (if((1:Int) == 0)=true then _ else _) _ _ s
 rw[if_neg (by decide)]
 refine wpAny_bind (slicePart_ pl (wpAny_bind (slicePart_ pu (wpAny_bind (wpAny_pure ?_)))))
 show wpAny _ _ (match Builtin.Slice.sliceAdjust lo hi 1 (n:Int)with|(lo,hi)=>pure (lo,(1:Int),Builtin.Slice.slicePlaces lo hi 1)) _ _ s
 rw[adjust_gen lo hi n]
 show wpAny _ _ (pure (((sIx n 0 lo:Nat):Int),(1:Int),Builtin.Slice.slicePlaces ((sIx n 0 lo:Nat):Int) ((sIx n n hi:Nat):Int) 1)) _ _ s
 rw[places_gen]
 exact wpAny_pure h
theorem pick_gen (xs:Array Value) (i k:Nat):((List.range k).filterMap fun(m:Nat)=>xs[((i:Int)+(m:Int)*1).toNat]?).toArray=((xs.toList.drop i).take k).toArray:=by
 have e:(fun(m:Nat)=>xs[((i:Int)+(m:Int)*1).toNat]?)=fun m=>xs[i+m]?:=by
  funext m
  have:((i:Int)+(m:Int)*1).toNat=i+m:=by omega
  rw[this]
 rw[e]
 have:=pick_run xs i k
 rw[List.filterMap_map]at this
 have e2:((fun x=>xs[x]?)∘fun x=>i+x)=fun m=>xs[i+m]?:=rfl
 rw[e2]at this
 rw[this]
theorem getItem_tuple_cut {t sl:Addr} {items:Array Value} {vl vu:Value} {lo hi:Option Int} {Q:Value->Shared->Prop} (ht:IsTup s.heap t items) (hs:s.heap.IsSliceOf sl vl vu .none) (pl:IsPart vl lo) (pu:IsPart vu hi)
  (hw:¬(sIx items.size 0 lo=0/\sIx items.size items.size hi=items.size))
  (h:Q (.ref s.heap.objs.size) { s with heap:=s.heap.push { cls:=.type "tuple",data:=.seq ((items.toList.drop (sIx items.size 0 lo)).take (sIx items.size items.size hi-sIx items.size 0 lo)).toArray } })
  (hsz:items.size<=sizeLine):wpAny (model prog w) A (getItem (.ref t) (.ref sl)) Q E s:=by
 have htake:sizeOk (.seq ((items.toList.drop (sIx items.size 0 lo)).take (sIx items.size items.size hi-sIx items.size 0 lo)).toArray):=by
  show((items.toList.drop (sIx items.size 0 lo)).take (sIx items.size items.size hi-sIx items.size 0 lo)).toArray.size<=sizeLine
  rw[List.size_toArray,List.length_take,List.length_drop,Array.length_toList]
  omega
 have hj:sIx items.size items.size hi<=items.size:=sIx_le _ _ (Nat.le_refl _) hi
 obtain⟨os,hos,hcs,hds⟩:=id hs
 have hTs:s.TypeIs (.ref sl) "slice":=⟨os,hos,hcs⟩
 unfold getItem
 try with_reducible refine wpAny_holding ?_
 first|refine wpAny_bind (wpAny_pure ?_)|skip
 refine wpAny_bind (wpAny_sequenceKey ht.typeIs (by decide) ?_)
 refine wpAny_bind (wpAny_callSpecial?_slot (name:=Str.ofString "__getitem__") ht.typeIs PyProof.Rows.slot_tuple_getitem
  (wpAny_call_entry PyProof.Rows.slot_tuple_getitem ht.typeIs entry_tuple_getitem ?_ (args_tuple_getitem _ _)))
 show wpAny _ _ (Builtin.Tuple.tupleItemsOf (.ref t) >>= _) _ _ s
 refine wpAny_bind (tupleItemsOf_ ht ?_)
 refine wpAny_bind (wpAny_typeOf hTs ?_)
 rw[if_pos (by decide)]
 refine wpAny_bind (sliceApplied_gen hs pl pu ?_)
 have hno:¬((((sIx items.size 0 lo:Nat):Int) == 0&&(1:Int) == 1&&(sIx items.size items.size hi-sIx items.size 0 lo) == items.size)=true):=by
  intro q
  rw[Bool.and_eq_true,Bool.and_eq_true]at q
  have q1:((sIx items.size 0 lo:Nat):Int)=0:=eq_of_beq q.1.1
  have q2:sIx items.size items.size hi-sIx items.size 0 lo=items.size:=eq_of_beq q.2
  exact hw ⟨by omega,by omega⟩
 show wpAny _ _ (if(((sIx items.size 0 lo:Nat):Int) == 0&&(1:Int) == 1&&(sIx items.size items.size hi-sIx items.size 0 lo) == items.size)=true then _ else _) _ _ s
 rw[if_neg hno,pick_gen]
 first
  |exact wpAny_bind (m:=Builtin.Tuple.tupleExact _) (wpAny_newObj_type (wpAny_pure ⟨_,rfl,wpAny_pure h⟩) htake)
  |exact wpAny_bind (m:=Builtin.Tuple.tupleExact _) (wpAny_newObj_type (wpAny_bind (wpAny_pure (wpAny_pure ⟨_,rfl,wpAny_pure h⟩))) htake)
  |exact wpAny_bind (wpAny_bind (m:=Builtin.Tuple.tupleExact _) (wpAny_newObj_type (wpAny_pure (wpAny_pure ⟨_,rfl,wpAny_pure h⟩)) htake))
  |exact wpAny_bind (wpAny_bind (m:=Builtin.Tuple.tupleExact _) (wpAny_newObj_type (wpAny_pure ⟨_,rfl,wpAny_pure h⟩) htake))
end
end HT
namespace L2
open PySem PySem.Spec PyProof.Rows
noncomputable abbrev TO:=St->Hp->(Option Int->Hp->Prop)->Prop
def PO (X:Cx) (e:Option Expr) (t:TO):Prop:=
 ∀(pins:List (Addr×Obj)) (s:Shared) (σ:St) (H:Hp) (Q:Option Int->Hp->Prop),Inv X pins σ H s->t σ H Q->
  wpAny (model X.prog X.w) X.A (evalPart e X.env) (fun u s'=>∃o H',Inv X pins σ H' s'/\IsPart u o/\Q o H') X.xe s
noncomputable def tNoPart:TO:=fun _ H Q=>Q none H
noncomputable def tPart (t:TE):TO:=fun σ H Q=>t σ H fun x H1=>∃i,x=.int i/\Q (some i) H1
theorem intsAre_of {ns:List Int}:∀{us:List Value},Vals (ns.map V.int) us->IntsAre us ns:=by
 induction ns with
 |nil=>intro us r;rw[List.map_nil]at r;cases r;exact .nil
 |cons n ns ih=>
  intro us r
  rw[List.map_cons]at r
  cases r with
  |cons r1 r2=>
   obtain⟨t,e⟩:=r1
   subst e
   exact .cons n t (ih r2)
section
variable {X:Cx} {e:Expr} {te:TE} {lo hi:Option Expr} {tl th:TO} {pos p2:Pos}
theorem po_none:PO X none tNoPart:=by
 intro pins s σ H Q I h
 rw[evalPart_none]
 exact wpAny_pure ⟨none,H,I,.none,h⟩
theorem po_some (h:PE X e te):PO X (some e) (tPart te):=by
 intro pins s σ H Q I hw
 rw[evalPart_some]
 refine thn (h pins s σ H _ I hw) fun u s1 ⟨x,H1,I1,r1,q1⟩=>?_
 obtain⟨i,rfl,q⟩:=q1
 obtain⟨t,rfl⟩:=r1
 exact⟨some i,H1,I1,.int i t,q⟩
def SlR (X:Cx) (r:V->Option Int->Option Int->Hp->VK->Prop):Prop:=
 ∀(pins:List (Addr×Obj)) (s:Shared) (σ:St) (H:Hp) (x:V) (v vl vu:Value) (lo hi:Option Int) (sl:Addr) (Q:VK),Inv X pins σ H s->RelV x v->s.heap.IsSliceOf sl vl vu .none->IsPart vl lo->IsPart vu hi->r x lo hi H Q->
  ∃T id,typeLookup (.type T) "__getitem__"=pure (some (.builtin id))/\s.TypeIs v T/\wpAny (model X.prog X.w) X.A (getItem v (.ref sl)) (EP X pins σ Q) X.xe s
theorem SlR.or {r r':V->Option Int->Option Int->Hp->VK->Prop} (h:SlR X r) (h':SlR X r'):SlR X (fun x lo hi H Q=>r x lo hi H Q\/r' x lo hi H Q):=by
 intro pins s σ H x v vl vu lo hi sl Q I rx hs pl pu q
 rcases q with q|q
 .exact h pins s σ H x v vl vu lo hi sl Q I rx hs pl pu q
 .exact h' pins s σ H x v vl vu lo hi sl Q I rx hs pl pu q
noncomputable def tSl (r:V->Option Int->Option Int->Hp->VK->Prop) (te:TE) (tl th:TO):TE:=fun σ H Q=>te σ H fun x H1=>tl σ H1 fun l H2=>th σ H2 fun u H3=>r x l u H3 Q
theorem pe_slice {r:V->Option Int->Option Int->Hp->VK->Prop} (hr:SlR X r) (he:PE X e te) (hl:PO X lo tl) (hu:PO X hi th):PE X (.Subscript e (.Slice lo hi none p2) pos) (tSl r te tl th):=by
 intro pins s σ H Q I h
 refine Subscript_ (thn (he pins s σ H _ I h) fun v s1 ⟨x,H1,I1,r1,q1⟩=>?_)
 refine wpAny_Slice (thn (hl pins s1 σ H1 _ I1 q1) fun vl s2 ⟨l,H2,I2,pl,q2⟩=>thn (hu pins s2 σ H2 _ I2 q2) fun vu s3 ⟨u,H3,I3,pu,q3⟩=>?_)
 rw[evalPart_none]
 refine wpAny_pure ?_
 have I4:Inv X pins σ H3 { s3 with heap:=s3.heap.push { cls:=.type "slice",data:=.fields #[vl,vu,.none] } }:=I3.kept (t':=s3.toks) fun b ob q=>Heap.get?_push_of_some _ q
 obtain⟨T,id,hT,ht,hg⟩:=hr pins { s3 with heap:=s3.heap.push { cls:=.type "slice",data:=.fields #[vl,vu,.none] } } σ H3 x v vl vu l u s3.heap.objs.size Q I4 r1 (Heap.IsSliceOf.new ..) pl pu q3
 show wpAny (model X.prog X.w) X.A (subscriptTail e (.Slice lo hi none p2) v (.ref s3.heap.objs.size)) (EP X pins σ Q) X.xe { s3 with heap:=s3.heap.push { cls:=.type "slice",data:=.fields #[vl,vu,.none] } }
 exact tail_any (ops:=[.ref s3.heap.objs.size,v]) ht hT hg (by with_unfolding_all rfl)
noncomputable def cutV (xs:List V) (lo hi:Option Int):List V:=(xs.drop (HT.sIx xs.length 0 lo)).take (HT.sIx xs.length xs.length hi-HT.sIx xs.length 0 lo)
theorem cutV_length (xs:List V) (lo hi:Option Int):(cutV xs lo hi).length<=xs.length:=by
 unfold cutV
 rw[List.length_take,List.length_drop]
 omega
noncomputable def rSlT (K:W.Frag):V->Option Int->Option Int->Hp->VK->Prop:=fun x lo hi H Q=>∃a xs,x=.ref a/\SqT K H a xs/\
 ¬(HT.sIx xs.length 0 lo=0/\HT.sIx xs.length xs.length hi=xs.length)/\∀p,H p=none->Q (.ref p) (upd H p (.tup (cutV xs lo hi)))
theorem sl_tup:SlR X (rSlT X.K):=by
 intro pins s σ H x v vl vu lo hi sl Q I rx hs pl pu h
 obtain⟨a,xs,rfl,hx,hw,q⟩:=h
 cases rx
 obtain⟨its,r,ht,hz⟩:=I.tuple hx
 have hlen:its.toArray.size=xs.length:=by rw[List.size_toArray];exact r.length.symm
 refine⟨"tuple",_,PyProof.Rows.slot_tuple_getitem.lookup,ht.typeIs,?_⟩
 refine HT.getItem_tuple_cut ht hs pl pu (by rw[hlen];exact hw) ?_ (by rw[hlen];exact hz)
 rw[hlen]
 refine⟨.ref s.heap.objs.size,_,I.laid (t':=s.toks) (o:=.tup (cutV xs lo hi)) (fun b ob q=>Heap.get?_push_of_some _ q) (Nat.le_refl _) ?_,rfl,q _ (I.hok.fresh (Nat.le_refl _))⟩
 exact⟨Nat.le_trans (cutV_length xs lo hi) hz,_,(r.drop (HT.sIx xs.length 0 lo)).take (HT.sIx xs.length xs.length hi-HT.sIx xs.length 0 lo),TupD.new _ _⟩
noncomputable def rCatT (K:W.Frag):R2:=fun x y H Q=>∃a b xs ys,x=.ref a/\y=.ref b/\SqT K H a xs/\SqT K H b ys/\xs≠[]/\xs.length+ys.length<=sizeLine/\
 (ys=[]->Q (.ref a) H)/\(ys≠[]->∀p,H p=none->Q (.ref p) (upd H p (.tup (xs++ys))))
theorem Vals.nil_iff {xs:List V} {us:List Value} (r:Vals xs us):us=[]↔xs=[]:=by
 cases r with
 |nil=>simp
 |cons _ _=>simp
theorem op_catT:OpR X (binaryOp .Add) (rCatT X.K):=by
 intro pins s σ H x y v u Q I rx ry h
 obtain⟨a,b,xs,ys,rfl,rfl,ha,hb,hx,hz,q1,q2⟩:=h
 cases rx
 cases ry
 obtain⟨its,r1,p1,_⟩:=I.tuple ha
 obtain⟨its2,r2,p2,_⟩:=I.tuple hb
 refine HT.cat_tup p1 p2 (fun z=>hx (r1.nil_iff.mp z)) (fun z=>⟨.ref a,H,I,rfl,q1 (r2.nil_iff.mp z)⟩) (fun z=>?_) (by rw[<- r1.length,<- r2.length];exact hz)
 refine⟨.ref s.heap.objs.size,_,I.laid (t':=s.toks) (o:=.tup (xs++ys)) (fun b ob q=>Heap.get?_push_of_some _ q) (Nat.le_refl _) ?_,rfl,q2 (fun w=>z (r2.nil_iff.mpr w)) _ (I.hok.fresh (Nat.le_refl _))⟩
 exact⟨by rw[List.length_append];exact hz,_,r1.append r2,TupD.new _ _⟩
end
noncomputable def ixN (n:Nat) (i:Int):Option Nat:=if 0<=i then(if i<n then some i.toNat else none)else if -(n:Int)<=i then some (i+n).toNat else none
noncomputable def atI {α:Type} (xs:List α) (i:Int):Option α:=(ixN xs.length i).bind fun j=>xs[j]?
theorem ixN_seq {n:Nat} {i:Int} {j:Nat} (h:ixN n i=some j):seqIndex? i n=some j/\j<n/\-(n:Int)<=i/\i<n:=by
 unfold ixN at h
 by_cases h0:0<=i
 .rw[if_pos h0]at h
  by_cases h1:i<n
  .rw[if_pos h1]at h
   have e:i.toNat=j:=Option.some.inj h
   exact⟨by rw[seqIndex_of h0 h1,e],by omega,by omega,h1⟩
  .rw[if_neg h1]at h;cases h
 .rw[if_neg h0]at h
  by_cases h1:-(n:Int)<=i
  .rw[if_pos h1]at h
   have e:(i+n).toNat=j:=Option.some.inj h
   exact⟨by rw[seqIndex_neg (by omega) h1,e],by omega,h1,by omega⟩
  .rw[if_neg h1]at h;cases h
theorem atI_get {α:Type} {xs:List α} {i:Int} {v:α} (h:atI xs i=some v):∃j,seqIndex? i xs.length=some j/\xs[j]?=some v/\j<xs.length/\-(xs.length:Int)<=i/\i<xs.length:=by
 unfold atI at h
 cases e:ixN xs.length i with
 |none=>rw[e]at h;cases h
 |some j=>
  rw[e]at h
  obtain⟨h1,h2,h3,h4⟩:=ixN_seq e
  exact⟨j,h1,h,h2,h3,h4⟩
theorem atI_nat {α:Type} {xs:List α} {j:Nat} {v:α} (h:xs[j]?=some v):atI xs (j:Int)=some v:=by
 have hj:j<xs.length:=(List.getElem?_eq_some_iff.mp h).1
 have e:ixN xs.length (j:Int)=some j:=by
  unfold ixN
  rw[if_pos (by omega),if_pos (by omega)];simp
 unfold atI;rw[e];exact h
def PlainIx (b:Expr):Prop:=∀o i,subscripted b false o i=operate [o,i] (getItem o i)
def IxR (X:Cx) (r:R2):Prop:=
 ∀(value slice:Expr) (pins:List (Addr×Obj)) (s:Shared) (σ:St) (H:Hp) (x y:V) (v u:Value) (Q:VK),Inv X pins σ H s->RelV x v->RelV y u->r x y H Q->
  subscripted slice false v u=operate [v,u] (getItem v u)->wpAny (model X.prog X.w) X.A (subscriptTail value slice v u) (EP X pins σ Q) X.xe s
def MtR (X:Cx) (id:String) (r:V->List V->Hp->VK->Prop):Prop:=
 ∀(pins:List (Addr×Obj)) (s:Shared) (σ:St) (H:Hp) (x:V) (xs:List V) (v:Value) (us:List Value) (Q:VK),Inv X pins σ H s->RelV x v->Vals xs us->r x xs H Q->
  wpAny (model X.prog X.w) X.A (call (.builtin id) (v :: us)) (EP X pins σ Q) X.xe s
section
variable {X:Cx} {a b:Expr} {ta tb:TE} {pos:Pos}
theorem IxR.or {r r':R2} (h:IxR X r) (h':IxR X r'):IxR X (fun x y H Q=>r x y H Q\/r' x y H Q):=by
 intro value slice pins s σ H x y v u Q I rx ry q hs
 rcases q with q|q
 .exact h value slice pins s σ H x y v u Q I rx ry q hs
 .exact h' value slice pins s σ H x y v u Q I rx ry q hs
theorem pe_ix {r:R2} (hr:IxR X r) (ha:PE X a ta) (hb:PE X b tb) (hs:PlainIx b):PE X (.Subscript a b pos) (tOp r ta tb):=by
 intro pins s σ H Q I h
 exact Subscript_ (binT ha hb I h fun v u s2 x y H2 I2 rx ry q=>hr a b pins s2 σ H2 x y v u Q I2 rx ry q (hs _ _))
noncomputable def rIxL (K:W.Frag):R2:=fun x y H Q=>∃p xs i v,x=.ref p/\y=.int i/\SqL K H p xs/\atI xs i=some v/\Q v H
noncomputable def rIxT (K:W.Frag):R2:=fun x y H Q=>∃p xs i v,x=.ref p/\y=.int i/\SqT K H p xs/\atI xs i=some v/\Q v H
noncomputable def rIxS:R2:=fun x y H Q=>∃z i c,x=.str z/\y=.int i/\z.length<=sizeLine/\atI z.cps.toList i=some c/\Q (.str ⟨#[c]⟩) H
theorem ix_list:IxR X (rIxL X.K):=by
 intro value slice pins s σ H x y v u Q I rx ry h hs
 obtain⟨p,xs,i,z,rfl,rfl,hq,he,q⟩:=h
 cases rx
 obtain⟨t,rfl⟩:=ry
 obtain⟨its,r,pl,hz⟩:=I.list hq
 obtain⟨j,h1,h2,h3,h4,h5⟩:=atI_get he
 obtain⟨w,ew,rw'⟩:=r.get h2
 have hl:=r.length
 have hn:=line63
 have fin:EP X pins σ Q w s:=⟨z,H,I,rw',q⟩
 by_cases h0:0<=i
 .have hj:i.toNat=j:=by
   rw[seqIndex_of h0 h5]at h1
   exact Option.some.inj h1
  exact item_listR pl.isList h0 (by omega) (by rw[hj];simpa using ew) fin hs
 .have hj:(i+(its.toArray.size:Int)).toNat=j:=by
   rw[seqIndex_neg (by omega) h4]at h1
   rw[List.size_toArray,<- hl]
   exact Option.some.inj h1
  exact subscriptTail_builtinR (x:=w) pl.isList.typeIs slot_list_getitem.lookup
   (wpAny_getItem_list_neg (Q:=fun r s'=>r=w/\EP X pins σ Q r s') pl.isList (by omega) (by rw[List.size_toArray]<;>omega) (by omega) (by rw[hj];simpa using ew) ⟨rfl,fin⟩) hs
theorem ix_tup:IxR X (rIxT X.K):=by
 intro value slice pins s σ H x y v u Q I rx ry h hs
 obtain⟨p,xs,i,z,rfl,rfl,hq,he,q⟩:=h
 cases rx
 obtain⟨t,rfl⟩:=ry
 obtain⟨its,r,pl,hz⟩:=I.tuple hq
 obtain⟨j,h1,h2,h3,h4,h5⟩:=atI_get he
 obtain⟨w,ew,rw'⟩:=r.get h2
 have hl:=r.length
 have hn:=line63
 have fin:EP X pins σ Q w s:=⟨z,H,I,rw',q⟩
 exact subscriptTail_builtinR (x:=w) pl.typeIs slot_tuple_getitem.lookup
  (getItem_tuple (j:=j) (Q:=fun r s'=>r=w/\EP X pins σ Q r s') pl (by omega) (by omega) (by rw[List.size_toArray,<- hl];exact h1) (by simpa using ew) ⟨rfl,fin⟩) hs
theorem ix_str:IxR X rIxS:=by
 intro value slice pins s σ H x y v u Q I rx ry h hs
 obtain⟨z,i,c,rfl,rfl,hz,he,q⟩:=h
 obtain⟨t,rfl⟩:=rx
 obtain⟨t',rfl⟩:=ry
 obtain⟨j,h1,h2,h3,h4,h5⟩:=atI_get he
 have hl:z.cps.toList.length=z.length:=by simp[Str.length]
 rw[hl]at h1 h4 h5
 have hn:=line63
 exact tail_any (typeIs_str s z t) slot_str_getitem.lookup (getItem_str (c:=c) (by
  have e1:decide (i < -(2 ^ 63:Int))=false:=decide_eq_false (by omega)
  have e2:decide (i ≥ 2 ^ 63)=false:=decide_eq_false (by omega)
  rw[e1,e2,Bool.or_false]) (by rw[h1];simpa using h2) ⟨.str ⟨#[c]⟩,H,I.tok _,⟨_,rfl⟩,q⟩) hs
noncomputable def rIx (K:W.Frag):R2:=fun x y H Q=>rIxL K x y H Q\/rIxT K x y H Q\/rIxS x y H Q
theorem ix_seq:IxR X (rIx X.K):=ix_list.or (ix_tup.or ix_str)
theorem mapSeq_set (its:List Value) (n j:Nat) (u:Value):Obj.mapSeq (·.setIfInBounds j u) { cls:=.type "list",data:=.seq its.toArray n }={ cls:=.type "list",data:=.seq (its.set j u).toArray n }:=by
 simp[Obj.mapSeq]
theorem Inv.lst {pins:List (Addr×Obj)} {σ:St} {H:Hp} {s:Shared} {p:Addr} {xs:List V} (I:Inv X pins σ H s) (h:H p=some (.lst xs)):
  ∃(its:List Value) (n:Nat),Vals xs its/\s.heap.get? p=some { cls:=.type "list",data:=.seq its.toArray n }/\xs.length<=sizeLine:=by
 obtain⟨z,its,n,r,e⟩:=I.hok p _ h
 exact⟨its,n,r,e,z⟩
theorem Inv.lstUpd {pins:List (Addr×Obj)} {σ:St} {H:Hp} {s:Shared} {p:Addr} {xs ys:List V} {its its':List Value} {n n':Nat} {f:Obj->Obj} (I:Inv X pins σ H s) (h:H p=some (.lst xs))
  (ho:s.heap.get? p=some { cls:=.type "list",data:=.seq its.toArray n }) (hf:f { cls:=.type "list",data:=.seq its.toArray n }={ cls:=.type "list",data:=.seq its'.toArray n' }) (r:Vals ys its') (hz:ys.length<=sizeLine) (t:Nat):
  Inv X pins σ (upd H p (.lst ys)) { s with heap:=s.heap.update p f,toks:=t }:=by
 have e:(s.heap.update p f).get? p=some { cls:=.type "list",data:=.seq its'.toArray n' }:=by
  rw[Heap.get?_update_self f ho (by rw[hf]<;>rfl),hf]
 refine I.write (x:=p) (e:=p) (by rw[h];trivial) (.inl rfl) (fun b u hb q=>(Heap.get?_update_other _ _ (Ne.symm hb)).trans q) ⟨_,e⟩ ?_
 exact⟨hz,its',n',r,e⟩
noncomputable def rSetL:V->V->V->Hp->(Hp->Prop)->Prop:=fun o i v H Q=>∃p xs k j,o=.ref p/\i=.int k/\H p=some (.lst xs)/\ixN xs.length k=some j/\Q (upd H p (.lst (xs.set j v)))
theorem set_list:PSet X rSetL:=by
 intro pins s σ H o i v ov iv u Q I ro ri rv h
 obtain⟨p,xs,k,j,rfl,rfl,hp,hj,q⟩:=h
 cases ro
 obtain⟨t,rfl⟩:=ri
 obtain⟨its,n,r,ho,hz⟩:=I.lst hp
 obtain⟨h1,h2,h3,h4⟩:=ixN_seq hj
 have hl:=r.length
 have hn:=line63
 have I':Inv X pins σ (upd H p (.lst (xs.set j v))) { s with heap:=s.heap.update p (Obj.mapSeq (·.setIfInBounds j u)) }:=
  I.lstUpd hp ho (mapSeq_set its n j u) (r.set rv j) (by rw[List.length_set];exact hz) s.toks
 by_cases h0:0<=k
 .have hk:k.toNat=j:=by
   rw[seqIndex_of h0 h4]at h1
   exact Option.some.inj h1
  exact W.ki_setAt ho h0 (by omega) (by rw[List.size_toArray,<- hl];exact h4) (by rw[hk];exact⟨_,I',q⟩)
 .have hk:(k+(its.toArray.size:Int)).toNat=j:=by
   rw[seqIndex_neg (by omega) h3]at h1
   rw[List.size_toArray,<- hl]
   exact Option.some.inj h1
  exact W.ki_setBack ho (by omega) (by rw[List.size_toArray,<- hl];exact h3) (by omega) (by rw[hk];exact⟨_,I',q⟩)
theorem slice_bounds (lo hi:Option Int) (n:Nat):(sliceBounds lo hi none n).1=((HT.sIx n 0 lo:Nat):Int)/\(sliceBounds lo hi none n).2.1=((HT.sIx n n hi:Nat):Int)/\(sliceBounds lo hi none n).2.2=1:=by
 refine⟨?_,?_,rfl⟩
 .cases lo with
  |none=>simp[sliceBounds,HT.sIx]
  |some i=>
   simp only[sliceBounds,HT.sIx,Option.getD_none,show(1:Int) > 0 by decide,if_true]
   by_cases h:i<0
   .simp only[h,if_true]<;>omega
   .simp only[h,if_false]<;>omega
 .cases hi with
  |none=>simp[sliceBounds,HT.sIx]
  |some i=>
   simp only[sliceBounds,HT.sIx,Option.getD_none,show(1:Int) > 0 by decide,if_true]
   by_cases h:i<0
   .simp only[h,if_true]<;>omega
   .simp only[h,if_false]<;>omega
theorem slicePick_cut (its:List Value) (lo hi:Option Int):slicePick its.toArray lo hi none=((its.drop (HT.sIx its.length 0 lo)).take (HT.sIx its.length its.length hi-HT.sIx its.length 0 lo)).toArray:=by
 obtain⟨h1,h2,h3⟩:=slice_bounds lo hi its.toArray.size
 unfold slicePick
 rw[h1,h2,h3]
 simp only[sliceRange_one,pick_run,List.size_toArray]<;>rfl
noncomputable def rSlL (K:W.Frag):V->Option Int->Option Int->Hp->VK->Prop:=fun x lo hi H Q=>∃a xs,x=.ref a/\SqL K H a xs/\∀p,H p=none->Q (.ref p) (upd H p (.lst (cutV xs lo hi)))
theorem sl_list:SlR X (rSlL X.K):=by
 intro pins s σ H x v vl vu lo hi sl Q I rx hs pl pu h
 obtain⟨a,xs,rfl,hx,q⟩:=h
 cases rx
 obtain⟨its,r,ht,hz⟩:=I.list hx
 have hlen:=r.length
 refine⟨"list",_,slot_list_getitem.lookup,ht.isList.typeIs,?_⟩
 refine wpAny_getItem_list_slice ht.isList hs pl pu .none (by simp) ?_ (by rw[List.size_toArray]<;>omega)
 rw[slicePick_cut,<- hlen]
 refine⟨.ref s.heap.objs.size,_,I.laid (t':=s.toks) (o:=.lst (cutV xs lo hi)) (fun b ob q=>Heap.get?_push_of_some _ q) (Nat.le_refl _) ?_,rfl,q _ (I.hok.fresh (Nat.le_refl _))⟩
 exact⟨Nat.le_trans (cutV_length xs lo hi) hz,_,0,(r.drop (HT.sIx xs.length 0 lo)).take (HT.sIx xs.length xs.length hi-HT.sIx xs.length 0 lo),Heap.get?_push_size _ rfl⟩
noncomputable def flatV:V->Bool
 | .non=>true
 | .bl _=>true
 | .int _=>true
 | .str _=>true
 |_=>false
noncomputable def eqV:V->V->Bool
 | .non,.non=>true
 | .bl a,.bl b=>a == b
 | .bl a,.int b=>(if a then 1 else 0) == b
 | .int a,.bl b=>a == (if b then 1 else 0)
 | .int a,.int b=>a == b
 | .str a,.str b=>a == b
 |_,_=>false
theorem eqAt_V {A:Around} {s:Shared} {y x:V} {u v:Value} (ry:RelV y u) (rx:RelV x v) (fy:flatV y=true) (fx:flatV x=true):SeqAt.EqAt A s u v (eqV y x):=by
 cases y with
 |non=>
  cases ry
  cases x with
  |non=>cases rx;exact SeqAt.EqAt.same _
  |bl b=>cases rx;exact SeqAt.EqAt.none_bool b
  |int b=>obtain⟨t,rfl⟩:=rx;exact SeqAt.EqAt.none_int b t
  |str b=>obtain⟨t,rfl⟩:=rx;exact SeqAt.EqAt.none_str b t
  |_=>exact absurd (show false=true from fx) Bool.false_ne_true
 |bl a=>
  cases ry
  cases x with
  |non=>cases rx;exact SeqAt.EqAt.bool_none a
  |bl b=>cases rx;exact SeqAt.EqAt.bool_bool a b
  |int b=>obtain⟨t,rfl⟩:=rx;exact SeqAt.EqAt.bool_int a b t
  |str b=>obtain⟨t,rfl⟩:=rx;exact SeqAt.EqAt.bool_str a b t
  |_=>exact absurd (show false=true from fx) Bool.false_ne_true
 |int a=>
  obtain⟨t',rfl⟩:=ry
  cases x with
  |non=>cases rx;exact SeqAt.EqAt.int_none a t'
  |bl b=>cases rx;exact SeqAt.EqAt.int_bool a t' b
  |int b=>obtain⟨t,rfl⟩:=rx;exact SeqAt.EqAt.int_int a t' b t
  |str b=>obtain⟨t,rfl⟩:=rx;exact SeqAt.EqAt.int_str a t' b t
  |_=>exact absurd (show false=true from fx) Bool.false_ne_true
 |str a=>
  obtain⟨t',rfl⟩:=ry
  cases x with
  |non=>cases rx;exact SeqAt.EqAt.str_none a t'
  |bl b=>cases rx;exact SeqAt.EqAt.str_bool a t' b
  |int b=>obtain⟨t,rfl⟩:=rx;exact SeqAt.EqAt.str_int a t' b t
  |str b=>obtain⟨t,rfl⟩:=rx;exact SeqAt.EqAt.str_str a t' b t
  |_=>exact absurd (show false=true from fx) Bool.false_ne_true
 |_=>exact absurd (show false=true from fy) Bool.false_ne_true
noncomputable def eqU (x:V) (u:Value):Bool:=match u with
 | .none=>eqV .non x
 | .bool b=>eqV (.bl b) x
 | .int i _=>eqV (.int i) x
 | .str z _=>eqV (.str z) x
 |_=>false
theorem eqU_of {x y:V} {u:Value} (r:RelV y u) (f:flatV y=true):eqU x u=eqV y x:=by
 cases y with
 |non=>cases r;rfl
 |bl b=>cases r;rfl
 |int i=>obtain⟨t,rfl⟩:=r;rfl
 |str z=>obtain⟨t,rfl⟩:=r;rfl
 |_=>exact absurd (show false=true from f) Bool.false_ne_true
theorem any_eqU {x:V}:∀{xs:List V} {us:List Value},Vals xs us->xs.all flatV=true->us.any (eqU x)=xs.any fun y=>eqV y x
 |_,_,.nil,_=>rfl
 |y :: xs,u :: us,.cons r t,f=>by
  rw[List.all_cons,Bool.and_eq_true]at f
  rw[List.any_cons,List.any_cons,eqU_of r f.1,any_eqU t f.2]
theorem mem_eqAt {A:Around} {s:Shared} {x:V} {v:Value} (rx:RelV x v) (fx:flatV x=true):∀{xs:List V} {us:List Value},Vals xs us->xs.all flatV=true->∀u∈us,SeqAt.EqAt A s u v (eqU x u)
 |_,_,.nil,_=>fun u hu=>by cases hu
 |y :: xs,u :: us,.cons r t,f=>fun u' hu=>by
  rw[List.all_cons,Bool.and_eq_true]at f
  rcases List.mem_cons.mp hu with rfl|hu
  .rw[eqU_of r f.1];exact eqAt_V r rx f.1 fx
  .exact mem_eqAt rx fx t f.2 u' hu
noncomputable def inV (x:V) (xs:List V):Bool:=xs.any fun y=>eqV y x
noncomputable def rIn (K:W.Frag) (neg:Bool):R2:=fun x y H Q=>∃p xs,y=.ref p/\(SqL K H p xs\/SqT K H p xs)/\flatV x=true/\xs.all flatV=true/\Q (.bl (if neg then !inV x xs else inV x xs)) H
theorem op_in_seq:OpR X (compareOp .In) (rIn X.K false):=by
 intro pins s σ H x y v u Q I rx ry h
 obtain⟨p,xs,rfl,hq,fx,fs,q⟩:=h
 cases ry
 rcases hq with hq|hq
 .obtain⟨its,r,pl,hz⟩:=I.list hq
  refine SeqAt.in_listAt (eqU x) pl.isList (fun w hw=>mem_eqAt rx fx r fs w (by simpa using hw)) ⟨.bl _,H,I,rfl,?_⟩
  rw[show its.toArray.any (eqU x)=its.any (eqU x) by simp,any_eqU r fs]
  exact q
 .obtain⟨its,r,pl,hz⟩:=I.tuple hq
  refine SeqAt.in_tupleAt (eqU x) pl (fun w hw=>mem_eqAt rx fx r fs w (by simpa using hw)) ⟨.bl _,H,I,rfl,?_⟩
  rw[show its.toArray.any (eqU x)=its.any (eqU x) by simp,any_eqU r fs]
  exact q
theorem op_notIn_seq:OpR X (compareOp .NotIn) (rIn X.K true):=by
 intro pins s σ H x y v u Q I rx ry h
 obtain⟨p,xs,rfl,hq,fx,fs,q⟩:=h
 cases ry
 rcases hq with hq|hq
 .obtain⟨its,r,pl,hz⟩:=I.list hq
  refine SeqAt.notIn_listAt (eqU x) pl.isList (fun w hw=>mem_eqAt rx fx r fs w (by simpa using hw)) ⟨.bl _,H,I,rfl,?_⟩
  rw[show its.toArray.any (eqU x)=its.any (eqU x) by simp,any_eqU r fs]
  exact q
 .obtain⟨its,r,pl,hz⟩:=I.tuple hq
  refine SeqAt.notIn_tupleAt (eqU x) pl (fun w hw=>mem_eqAt rx fx r fs w (by simpa using hw)) ⟨.bl _,H,I,rfl,?_⟩
  rw[show its.toArray.any (eqU x)=its.any (eqU x) by simp,any_eqU r fs]
  exact q
theorem CallR.or {f:Value} {r r':List V->Hp->VK->Prop} (h:CallR X f r) (h':CallR X f r'):CallR X f (fun xs H Q=>r xs H Q\/r' xs H Q):=by
 intro pins s σ H xs us Q I rs q
 rcases q with q|q
 .exact h pins s σ H xs us Q I rs q
 .exact h' pins s σ H xs us Q I rs q
theorem call_list_of:CallR X (.type "list") (fun xs H Q=>∃p ys,xs=[.ref p]/\(SqL X.K H p ys\/SqT X.K H p ys)/\∀l,H l=none->Q (.ref l) (upd H l (.lst ys))):=by
 intro pins s σ H xs us Q I r h
 obtain⟨p,ys,rfl,hq,q⟩:=h
 obtain⟨u,rfl,rx⟩:=vals1 r
 cases rx
 have fin:∀(its:List Value),Vals ys its->ys.length<=sizeLine->∀(h':Heap) (c':Nat),(∀b o',s.heap.get? b=some o'->h'.get? b=some o')->
   h'.get? s.heap.objs.size=some { cls:=.type "list",dict:=none,data:=.seq its.toArray c',slots:=#[] }->EP X pins σ Q (.ref s.heap.objs.size) { s with heap:=h' }:=fun its r' hz h' c' kp e=>
  ⟨.ref s.heap.objs.size,_,I.laid (t':=s.toks) kp (Nat.le_refl _) (show ObjOk X.prog X.w _ h' _ (.lst ys) from⟨hz,its,c',r',e⟩),rfl,q _ (I.hok.fresh (Nat.le_refl _))⟩
 rcases hq with hq|hq
 .obtain⟨its,r',pl,hz⟩:=I.list hq
  have hlen:=r'.length
  obtain⟨o,ho,hc,n,hd⟩:=pl.isList
  exact call_list_seq p (.inl rfl) ho hc hd (fun h' c' kp e=>fin its r' hz h' c' kp e) (by simp only[List.size_toArray]<;>omega)
 .obtain⟨its,r',pl,hz⟩:=I.tuple hq
  have hlen:=r'.length
  obtain⟨o,ho,hc,n,hd⟩:=pl
  exact call_list_seq p (.inr rfl) ho hc hd (fun h' c' kp e=>fin its r' hz h' c' kp e) (by simp only[List.size_toArray]<;>omega)
theorem call_tuple_of:CallR X (.type "tuple") (fun xs H Q=>∃p ys,xs=[.ref p]/\((SqL X.K H p ys/\∀l,H l=none->Q (.ref l) (upd H l (.tup ys)))\/(SqT X.K H p ys/\Q (.ref p) H))):=by
 intro pins s σ H xs us Q I r h
 obtain⟨p,ys,rfl,h⟩:=h
 obtain⟨u,rfl,rx⟩:=vals1 r
 cases rx
 rcases h with⟨hq,q⟩|⟨hq,q⟩
 .obtain⟨its,r',pl,hz⟩:=I.list hq
  have hlen:=r'.length
  refine call_tuple_list pl.isList (fun h' kp=>?_) (by simp only[List.size_toArray]<;>omega)
  have I1:Inv X pins σ H { s with heap:=h' }:=I.kept (t':=s.toks) kp
  have I2:Inv X pins σ (upd H h'.objs.size (.tup ys)) { s with heap:=h'.push { cls:=.type "tuple",data:=.seq its.toArray } }:=
   I1.laid (t':=s.toks) (fun b o e=>Heap.get?_push_of_some _ e) (Nat.le_refl _) (show ObjOk X.prog X.w _ _ _ (.tup ys) from⟨hz,its,r',TupD.new _ _⟩)
  exact⟨.ref h'.objs.size,_,I2,rfl,q _ (I1.hok.fresh (Nat.le_refl _))⟩
 .obtain⟨its,r',pl,hz⟩:=I.tuple hq
  exact call_tuple_same pl ⟨.ref p,H,I,rfl,q⟩
def tyV (K:W.Frag) (T:String) (x:V) (H:Hp):Prop:=match x with
 | .str _=>T="str"
 | .int _=>T="int"
 | .ref p=>(T="list"/\∃xs,SqL K H p xs)\/(T="tuple"/\((∃o,K.lookup p=some o/\o.cls=.type "tuple"/\o.dict=none)\/∃xs,H p=some (.tup xs)))\/
   (T="dict"/\((∃kvs,H p=some (.dK kvs))\/∃kvs,H p=some (.dT kvs)))\/(T="set"/\∃S n,H p=some (.set S n))
 |_=>False
theorem tyV_is {pins:List (Addr×Obj)} {σ:St} {H:Hp} {s:Shared} {T:String} {x:V} {v:Value} (I:Inv X pins σ H s) (r:RelV x v) (ty:tyV X.K T x H):
  s.TypeIs v T/\∀a,v=.ref a->∃ob,s.heap.get? a=some ob/\ob.dict=none:=by
 cases x with
 |str z=>
  obtain⟨t,rfl⟩:=r
  cases(show T="str" from ty)
  exact⟨typeIs_str s z t,fun _ e=>nomatch e⟩
 |int i=>
  obtain⟨t,rfl⟩:=r
  cases(show T="int" from ty)
  exact⟨typeIs_int s i t,fun _ e=>nomatch e⟩
 |ref p=>
  cases r
  rcases ty with⟨rfl,xs,hq⟩|⟨rfl,⟨o,hk,hc,hd⟩|⟨xs,hk⟩⟩|⟨rfl,hk⟩|⟨rfl,S,n,hk⟩
  .obtain⟨its,_,pl,_⟩:=I.list hq
   refine⟨pl.isList.typeIs,fun a e=>?_⟩
   cases e
   obtain⟨o,n,e,c,hd,_⟩:=pl
   exact⟨o,e,hd⟩
  .refine⟨⟨o,I.kIn p o hk,hc⟩,fun a e=>?_⟩
   cases e
   exact⟨o,I.kIn _ o hk,hd⟩
  .obtain⟨_,_,_,o,e,c,_,hd⟩:=I.hok p _ hk
   refine⟨⟨o,e,c⟩,fun a e2=>?_⟩
   cases e2
   exact⟨o,e,hd⟩
  .have z:∃o,s.heap.get? p=some o/\o.ExactDict:=by
    rcases hk with⟨kvs,hk⟩|⟨kvs,hk⟩
    .obtain⟨_,_,_,_,o,_,_,e,ex,_⟩:=I.hok p _ hk
     exact⟨o,e,ex⟩
    .obtain⟨_,_,_,_,o,_,_,e,ex,_⟩:=I.hok p _ hk
     exact⟨o,e,ex⟩
   obtain⟨o,e,ex⟩:=z
   refine⟨⟨o,e,ex.1⟩,fun a e2=>?_⟩
   cases e2
   exact⟨o,e,ex.2.1⟩
  .obtain⟨o,_,_,_,e,ex,_⟩:=I.hok p _ hk
   refine⟨⟨o,e,ex.1⟩,fun a e2=>?_⟩
   cases e2
   exact⟨o,e,ex.2.1⟩
 |_=>exact False.elim ty
noncomputable def tBM0 (K:W.Frag) (T:String) (r:V->List V->Hp->VK->Prop) (to:TE):TE:=fun σ H Q=>to σ H fun x H1=>tyV K T x H1/\r x [] H1 Q
noncomputable def tBM (K:W.Frag) (T:String) (r:V->List V->Hp->VK->Prop) (to:TE) (t:TA):TE:=fun σ H Q=>to σ H fun x H1=>tyV K T x H1/\t σ H1 fun xs H2=>r x xs H2 Q
variable {o e:Expr} {es:List Expr} {to:TE} {t:TA} {name:Str} {apos cpos:Pos} {T id:String} {r:V->List V->Hp->VK->Prop}
theorem pe_bm0 (pa:PlainAttrs T) (slot:Slot T name id) (hty:typeOf (.builtin id)=pure (.type "method_descriptor")) (hm:MtR X id r) (ho:PE X o to)
  (hbase:attributeBase o name X.env (eval o X.env)=eval o X.env:=by rfl) (hline:(apos.endLine == cpos.line)=true:=by rfl):PE X (.Call (.Attribute o name apos) [] [] cpos) (tBM0 X.K T r to):=by
 intro pins s σ H Q I h
 refine wpAny_Call_method0_late hbase hline (thn (ho pins s σ H _ I h) fun v s1 ⟨x,H1,I1,r1,ty,q1⟩=>?_)
 obtain⟨h1,h2⟩:=tyV_is I1 r1 ty
 exact⟨T,id,pa,slot,hty,h1,h2,Calls.callWith_builtin rfl (PySem.evalArgs_none (hm pins s1 σ H1 x [] v [] Q I1 r1 .nil q1))⟩
theorem pe_bm (pa:PlainAttrs T) (slot:Slot T name id) (hty:typeOf (.builtin id)=pure (.type "method_descriptor")) (hm:MtR X id r) (ho:PE X o to) (ha:PA X (e :: es) t)
  (hbase:attributeBase o name X.env (eval o X.env)=eval o X.env:=by rfl)
  (hfew:((backTo cpos (starEach (e :: es) X.env)).all (fun x=>!x.1)&&(backToKw cpos (keywordEach [] X.env)).all (fun x=>x.1.isSome)
   && decide ((e :: es).length+([]:List Keyword).length+(if([]:List Keyword).isEmpty then 0 else 1)<30))=true:=by rfl)
  (hline:(apos.endLine == cpos.line)=true:=by rfl) (hs:starEach (e :: es) X.env=(false,eval e X.env) :: starEach es X.env:=by rfl) (hplain:(backTo cpos (starEach es X.env)).any (·.1)=false:=by rfl):
  PE X (.Call (.Attribute o name apos) (e :: es) [] cpos) (tBM X.K T r to t):=by
 intro pins s σ H Q I h
 refine wpAny_Call_method_late hbase hfew hline rfl (thn (ho pins s σ H _ I h) fun v s1 ⟨x,H1,I1,r1,ty,q1⟩=>?_)
 obtain⟨h1,h2⟩:=tyV_is I1 r1 ty
 refine⟨T,id,pa,slot,hty,h1,h2,?_⟩
 have hA:=ha cpos pins s1 σ H1 _ I1 q1
 rw[hs]at hA ⊢
 refine Calls.callWith_builtin (by show(false || (backTo cpos (starEach es X.env)).any (·.1))=false;rw[hplain]<;>rfl) (Calls.evalArgs_plain ?_)
 exact thn hA fun us s2 ⟨vs,H2,I2,r2,q2⟩=>hm pins s2 σ H2 x vs v us Q I2 r1 r2 q2
end
def MtM (X:Cx) (id:String) (r:V->List V->Hp->VK->Prop):Prop:=
 ∀(pins:List (Addr×Obj)) (s:Shared) (σ:St) (H:Hp) (x:V) (xs:List V) (v:Value) (us:List Value) (Q:VK),Inv X pins σ H s->RelV x v->Vals xs us->r x xs H Q->
  wpAny (model X.prog X.w) X.A (call (.builtin id) (v :: us)) (EP X pins σ Q) X.xe s
theorem Vals.one:∀{x:V} {us:List Value},Vals [x] us->∃u,us=[u]/\RelV x u
 |_,_,.cons r .nil=>⟨_,rfl,r⟩
theorem Vals.zero:∀{us:List Value},Vals [] us->us=[]
 |_,.nil=>rfl
theorem Vals.rep {xs:List V} {us:List Value} (h:Vals xs us):∀k:Nat,Vals (List.replicate k xs).flatten (List.replicate k us).flatten
 |0=>.nil
 |k+1=>by
  rw[List.replicate_succ,List.replicate_succ,List.flatten_cons,List.flatten_cons]
  exact Vals.append h (Vals.rep h k)
theorem foldl_rep (its:List Value):∀(k:Nat) (acc:List Value),
  List.foldl (fun x1 x2=>x1++x2) acc.toArray (List.replicate k its.toArray)=(acc++(List.replicate k its).flatten).toArray
 |0,acc=>by simp
 |k+1,acc=>by
  have e:acc.toArray++its.toArray=(acc++its).toArray:=by simp
  have e2:(acc++its)++(List.replicate k its).flatten=acc++(List.replicate (k+1) its).flatten:=by
   rw[List.replicate_succ,List.flatten_cons,List.append_assoc]
  rw[<- e2,<- foldl_rep its k (acc++its),<- e,List.replicate_succ,List.foldl_cons]
section
variable {X:Cx} {pins:List (Addr×Obj)} {σ:St} {H:Hp} {s:Shared} {l b:Addr} {xs ys zs:List V}
theorem Inv.lset {its its':List Value} {n:Nat} {f:Array Value->Array Value} {t':Nat} (I:Inv X pins σ H s) (hH:H l=some (.lst xs))
  (e:s.heap.get? l=some { cls:=.type "list",data:=.seq its.toArray n }) (hf:f its.toArray=its'.toArray) (hv:Vals ys its') (hz:ys.length<=sizeLine):
  Inv X pins σ (upd H l (.lst ys)) { s with heap:=s.heap.update l (Obj.mapSeq f),toks:=t' }:=by
 have q:=PySem.IsL.update e f
 rw[hf]at q
 refine I.write (x:=l) (e:=l) (by rw[hH];exact trivial) (.inl rfl) (fun b' u hb hu=>(Heap.get?_update_other s.heap (Obj.mapSeq f) (Ne.symm hb)).trans hu) ⟨_,q⟩ ?_
 exact⟨hz,its',_,hv,q⟩
theorem Inv.lnew {its:List Value} {t':Nat} (I:Inv X pins σ H s) (hv:Vals ys its) (hz:ys.length<=sizeLine):
  Inv X pins σ (upd H s.heap.objs.size (.lst ys)) { s with heap:=s.heap.push { cls:=.type "list",data:=.seq its.toArray },toks:=t' }:=
 I.laid (fun _ _ q=>Heap.get?_push_of_some _ q) (Nat.le_refl _) ⟨hz,its,0,hv,Heap.get?_push_size _ rfl⟩
theorem Inv.fresh (I:Inv X pins σ H s):H s.heap.objs.size=none:=I.hok.fresh (Nat.le_refl _)
theorem Inv.lstM (I:Inv X pins σ H s) (hH:H l=some (.lst xs)):xs.length<=sizeLine/\∃(its:List Value) (n:Nat),Vals xs its/\xs.length=its.length/\s.heap.get? l=some { cls:=.type "list",data:=.seq its.toArray n }:=by
 obtain⟨z,its,n,r,e⟩:=I.hok l _ hH
 exact⟨z,its,n,r,r.length,e⟩
theorem notLongL {n:Nat} (h:n<=sizeLine):Builtin.List.listTooLong n=false:=by
 unfold Builtin.List.listTooLong
 exact decide_eq_false (by omega)
end
section
variable {X:Cx}
noncomputable def rAppend:V->List V->Hp->VK->Prop:=fun x vs H Q=>∃l xs y,x=.ref l/\vs=[y]/\H l=some (.lst xs)/\xs.length<sizeLine/\Q .non (upd H l (.lst (xs++[y])))
theorem mt_append:MtM X "list.append" rAppend:=by
 intro pins s σ H x vs v us Q I rx rv h
 obtain⟨l,xs,y,rfl,rfl,hH,hz,q⟩:=h
 cases rx
 obtain⟨u,rfl,ru⟩:=rv.one
 obtain⟨z,its,n,r,hl,e⟩:=I.lstM hH
 refine call_meets F.slot_list_append ⟨_,e,rfl⟩ F.entry_list_append (F.args_list_append_2 _ _) (PySem.list_append l its.toArray n u (by rw[List.size_toArray];omega)) ⟨e,?_⟩
 refine⟨.non,_,I.lset (its':=its++[u]) hH e (by simp) (r.append (.cons ru .nil)) ?_,rfl,q⟩
 rw[List.length_append,List.length_singleton]
 omega
noncomputable def rCat:R2:=fun x y H Q=>∃l b xs zs,x=.ref l/\y=.ref b/\H l=some (.lst xs)/\H b=some (.lst zs)/\xs.length+zs.length<=sizeLine/\∀p,H p=none->Q (.ref p) (upd H p (.lst (xs++zs)))
theorem op_cat:OpR X (binaryOp .Add) rCat:=by
 intro pins s σ H x y v u Q I rx ry h
 obtain⟨l,b,xs,zs,rfl,rfl,hH,hB,hz,q⟩:=h
 cases rx
 cases ry
 obtain⟨z,its,n,r,hl,e⟩:=I.lstM hH
 obtain⟨z2,its2,n2,r2,hl2,e2⟩:=I.lstM hB
 refine PySem.P.add_list e e2 ?_ (by rw[List.size_toArray,List.size_toArray];omega)
 have ea:its.toArray++its2.toArray=(its++its2).toArray:=by simp
 rw[ea]
 exact⟨.ref _,_,I.lnew (t':=s.toks) (r.append r2) (by rw[List.length_append];omega),rfl,q _ I.fresh⟩
noncomputable def rRep:R2:=fun x y H Q=>∃l k xs,x=.ref l/\y=.int k/\H l=some (.lst xs)/\-(2 ^ 63)<=k/\k<2 ^ 63/\xs.length*k.toNat<=sizeLine/\
 ∀p,H p=none->Q (.ref p) (upd H p (.lst (List.replicate k.toNat xs).flatten))
theorem len_rep {α:Type} (xs:List α) (k:Nat):(List.replicate k xs).flatten.length=k*xs.length:=by
 induction k with
 |zero=>simp
 |succ k ih=>rw[List.replicate_succ,List.flatten_cons,List.length_append,ih,Nat.succ_mul,Nat.add_comm]
theorem op_rep:OpR X (binaryOp .Mult) rRep:=by
 intro pins s σ H x y v u Q I rx ry h
 obtain⟨l,k,xs,rfl,rfl,hH,h1,h2,hz,q⟩:=h
 cases rx
 obtain⟨t,rfl⟩:=ry
 obtain⟨z,its,n,r,hl,e⟩:=I.lstM hH
 have hlen:its.toArray.size*k.toNat<=sizeLine:=by rw[List.size_toArray,<- hl];exact hz
 have hcap:¬its.toArray.size*k.toNat > (2 ^ 63-1) / 8:=by
  have:(sizeLine:Nat)<=(2 ^ 63-1) / 8:=by decide
  omega
 have hfit:¬(!Builtin.List.listFitsIndex k)=true:=by
  rw[fitsIndex_both h1 h2]
  exact Bool.false_ne_true
 have hlong:¬Builtin.List.listTooLong (its.toArray.size*k.toNat)=true:=by
  rw[notLongL hlen]
  exact Bool.false_ne_true
 have hnew:List.foldl (fun x1 x2=>x1++x2) #[] (List.replicate (if its.toArray.isEmpty=true then 0 else k.toNat) its.toArray)=(List.replicate k.toNat its).flatten.toArray:=by
  have f0:∀m:Nat,List.foldl (fun x1 x2=>x1++x2) #[] (List.replicate m its.toArray)=(List.replicate m its).flatten.toArray:=fun m=>by
   have:=foldl_rep its m []
   rw[List.nil_append]at this
   exact this
  rw[f0]
  cases its with
  |nil=>simp
  |cons a r'=>rw[if_neg (by simp)]
 refine wpAny_binaryOp_repeat_ref (T:="list") (U:="int") (by decide) ⟨_,e,rfl⟩ (fun s'=>typeIs_int s' k t) noFill_list_mul F.fills_int_mul F.slot_int_rmul repeat_list F.slot_int_index.lookup
  (call_meets F.slot_int_rmul (typeIs_int s k t) F.entry_int_rmul (F.args_int_rmul_2 _ _) (int___rmul___int_list k t l its.toArray n)
   ⟨e,rfl,⟨_,e,rfl⟩,call_meets F.slot_list_mul ⟨_,e,rfl⟩ F.entry_list_mul (F.args_list_mul_2 _ _) (AutoListH.list___mul___list_int_3 l its.toArray n k t hfit hcap hlong) ⟨e,?_⟩⟩)
 rw[hnew]
 exact⟨.ref _,_,I.lnew (t':=s.toks) (r.rep k.toNat) (by rw[len_rep,Nat.mul_comm];exact hz),rfl,q _ I.fresh⟩
end
section
variable {prog:Program} {w:World} {A:Around} {E:Value->Shared->Prop} {s:Shared}
end
section
variable {X:Cx}
end
end L2
namespace Att
open PySem PySem.W PySem.Calls PyProof.Rows
theorem ints_of_wellAll {P:Params} {h:Heap}:∀(ns:List Int) (vs:List Value),WellAll P h vs (ns.map WData.int)->IntsAre vs ns:=by
 intro ns
 induction ns with
 |nil=>
  intro vs w
  rw[List.map_nil]at w
  cases w
  exact .nil
 |cons n ns ih=>
  intro vs w
  rw[List.map_cons]at w
  cases w with
  |cons a b=>
   cases a
   exact .cons _ _ (ih _ b)
theorem script_of {l:OpenLaw} {n:Nat} (hn:l.most=some n) {P:Params} {h:Heap} {args:List WData} {vals:List Value}
  (hpre:l.row.toRowW.claim.pre args=true) (hwl:WellAll P h vals args):
  ∃a vs ns,vals=[Value.ref a]/\args=[WData.list (ns.map WData.int)]/\h.get? a=some { cls:=.type "list",data:=.seq vs.toArray }/\IntsAre vs ns/\ns.length<=n:=by
 have hsh:WShape.hasAll [] args [.list .int]=true:=(pre_splitW hpre).1
 have hc:l.pre.holds [] { args:=args }=true:=(pre_splitW hpre).2
 obtain⟨d,r,rfl,h1,h2⟩:=hasAllW_cons hsh
 obtain rfl:=hasAllW_nil h2
 obtain⟨xs,rfl,h3⟩:=hasW_list h1
 obtain⟨ns,rfl⟩:=items_int h3
 have hlen:ns.length<=n:=by
  unfold OpenLaw.pre at hc
  have h4:(WTm.not (.lt (.lit (.int (n:Int))) (.len (.arg 0)))).holds [] { args:=[.list (ns.map .int)] }=true:=by
   have h4:=(holds_andW hc).1
   rw[hn]at h4
   exact h4
  have h5:=condW_of h4 (w_not (w_lt w_lit (w_len_list (w_arg rfl))))
  rw[List.length_map]at h5
  refine Nat.le_of_not_lt fun q=>?_
  have q':(n:Int)<((ns.length:Nat):Int):=by omega
  first
   |(rw[decide_eq_true q']at h5;exact absurd h5 (by decide))
   |(simp at h5;omega)
 cases hwl with
 |cons w1 w2=>
  cases w2
  cases w1 with
  |list ho hall=>exact⟨_,_,ns,rfl,rfl,ho,ints_of_wellAll ns _ hall,hlen⟩
theorem post_true (l:OpenLaw) (args:List WData):l.row.toRowW.claim.post args (.bool true) args=true:=
 postW_of (r:=l.row.toRowW) (X:=(true == true))
  (show WShape.has [] (.bool true) .bool=true by first|rfl|decide|simp[WShape.has,WShape.arms,WShape.armsAll])
  (show(WTm.eq .res (.lit (.bool true))).value [] { args:=args,res:=some (.bool true),after:=args }=some (.bool (true == true)) from w_eq_bool (w_res rfl) w_lit) rfl
theorem attach_call {l:OpenLaw} {n:Nat} {q:Program} {loose:List Str} {XP:(Str->Option Value)->Heap->Prop} {YP:World->Heap->Prop} {d:DefRec}
  (hn:l.most=some n) (hdf:d.params.defaults=[])
  (call:∀(w:World) (s₀ s₁:Shared) (mg mb:Str->Option Value) (fa:Addr) (o:Obj) (pm cd doc:Value) (a:Addr) (vs:List Value) (ns:List Int),
   Ground q loose [] XP w s₀ mg mb s₁.heap->YP w s₁.heap->
   s₁.heap.get? fa=some o->o.data=.func (docDef d.name d.params d.body d.scope pm cd doc)->s₁.heap.CodeRec cd d.name->mg d.name=some (.ref fa)->
   s₁.heap.get? a=some { cls:=.type "list",data:=.seq vs.toArray }->IntsAre vs ns->ns.length<=n->s₁.gens=#[]->
   codeAny (model l.prog w) callerA (.call (.ref fa) ⟨[.ref a],[]⟩) (fun r s'=>r=.ok (.ret (.bool true))/\OldK s₁.heap s'.heap/\s'.os=s₁.os/\AllBare s'.gens) s₁):
  WalkO q loose XP YP l.row.toRowW d [] (fun f vs=>PySem.call f vs):=by
 intro w s₀ s₁ mg mb G Y fa o pm cd doc dV kV ho hd hcd hD hmg hg args vals as hpre hlay hrd hwl hlo
 obtain rfl:dV=.none:=Dflts.none hD hdf
 obtain rfl:kV=.none:=Dflts.noKw hD
 obtain⟨a,vs,ns,rfl,rfl,hobj,hints,hlen⟩:=script_of hn hpre hwl
 refine enter_call (codeAny_mono (call w s₀ s₁ mg mb fa o pm cd doc a vs ns G Y ho (fd_plain hd) hcd hmg hobj hints hlen hg) fun r s' hq=>?_)
 obtain⟨rfl,h2,h3,h4⟩:=hq
 exact⟨.inl ⟨.bool true,.bool true,[],rfl,fun _=>rfl,.bool true,post_true l _,fun _=>⟨List.Pairwise.nil,fun _ hm=>(nomatch hm)⟩⟩,h2,h3,h4⟩
section
variable {prog:Program} {w:World} {A:Around} {E:Value->Shared->Prop} {s:Shared} {K:Frag}
end
end Att
namespace L2
open PySem PySem.Spec PyProof.Rows
theorem vals_ints:∀{vs:List Value} {ns:List Int},IntsAre vs ns->Vals (ns.map V.int) vs
 |_,_,.nil=>.nil
 |_,_,.cons n t h=>.cons ⟨t,rfl⟩ (vals_ints h)
def Only (H:Hp):Prop:=∀b,H b=none\/∃o xs,H b=some (.frz o (.lst xs))
theorem law_call {P:Program} {w:World} {K:W.Frag} {mg mb:Str->Option Value} {CX:CXT} {k:Nat} {fa a:Addr} {fd:FuncData} {x:Str} {sp:Sp} {s₁:Shared} {vs:List Value} {ns:List Int}
  (KX:K.In s₁.heap) (hns:s₁.heap.Ns mainGlobals mg) (hb:s₁.heap.Ns builtinsNs mb) (hbb:∀x:Str,x≠"__name__"->mb x=bootBuiltins x) (hlim:s₁.heap.NoLimit) (hg:s₁.gens=#[])
  (ha:s₁.heap.get? a=some { cls:=.type "list",data:=.seq vs.toArray }) (hi:IntsAre vs ns) (hl:ns.length<=sizeLine) (hr:Room k callerA)
  (F:∀base:Heap,K.In base->base.Ns mainGlobals mg->FnOk P w K mg base CX k fa fd [x] sp) (hbind:∀(s:Shared) (u:Value),BindsTo s fd ⟨[u],[]⟩ [(x,u)])
  (hsp:∀H:Hp,Only H->SqL K H a (ns.map V.int)->sp [.ref a] H (fun v _=>v=.bl true) fun _ _ _=>False)
  (hCX:∀H e s',CX [] H s₁ (fun _ _ _=>False) e s'->False):
  codeAny (model P w) callerA (.call (.ref fa) ⟨[.ref a],[]⟩) (fun r s'=>r=.ok (.ret (.bool true))/\OldK s₁.heap s'.heap/\s'.os=s₁.os/\AllBare s'.gens) s₁:=by
 have rv:=vals_ints hi
 have lenV:=hi.length
 have core:∀H:Hp,Only H->SqL K H a (ns.map V.int)->HOk P w H s₁.heap->(∀b,H b≠none->b=a)->(H a≠none->K.lookup a=none)->
   codeAny (model P w) callerA (.call (.ref fa) ⟨[.ref a],[]⟩) (fun r s'=>r=.ok (.ret (.bool true))/\OldK s₁.heap s'.heap/\s'.os=s₁.os/\AllBare s'.gens) s₁:=by
  intro H hO hS hok hA hK
  have base_of:∀{b:Addr} {o:Obj},s₁.heap.get? b=some o->H b=none->(hidT s₁.heap H).get? b=some o:=fun e n=>hidT_get e n
  have noA:∀{b:Addr} {o:Obj} {es:Array DictEntry} {ep:Nat},s₁.heap.get? b=some o->o.data=.dict es ep->H b=none:=fun {b o es ep} e d=>by
   cases q:H b with
   |none=>rfl
   |some u=>
    have e':b=a:=hA b (by rw[q];simp)
    subst e'
    rw[ha]at e;cases e
    have d':Data.seq vs.toArray _=Data.dict es ep:=d
    cases d'
  have nsK:∀{b:Addr} {m:Str->Option Value},s₁.heap.Ns b m->(hidT s₁.heap H).Ns b m:=fun {b m} ⟨o,es,ep,e,d,r⟩=>⟨o,es,ep,base_of e (noA e d),d,r⟩
  have hKb:K.In (hidT s₁.heap H):=fun b o e=>base_of (KX b o e) (by
   cases q:H b with
   |none=>rfl
   |some u=>
    have e':b=a:=hA b (by rw[q];simp)
    subst e'
    rw[hK (by rw[q];simp)]at e;cases e)
  have hM:Mod K mg (hidT s₁.heap H):=⟨hKb,nsK hns,⟨mb,nsK hb,hbb⟩,let⟨mc,h1,h2⟩:=hlim;⟨mc,nsK h1,h2⟩⟩
  have e0:Env0 P w K mg (hidT s₁.heap H) callerA [] s₁ H:=⟨rfl,hM,fun b o e=>of_hidT e,Nat.le_of_eq (hidT_size _ _),trivial,fun b hb=>absurd (show b∈([]:List Addr) from hb) (by simp),hok,.of_eq hg⟩
  refine codeAny_mono ((F _ hKb (nsK hns)).run callerA [] s₁ H ⟨[.ref a],[]⟩ [.ref a] [.ref a] _ _ hr e0 (hbind s₁ (.ref a)) (.cons rfl .nil) (hsp H hO hS)) fun r s' h=>?_
  cases r with
  |error e=>exact(hCX H e s' h).elim
  |ok fl=>
   cases fl with
   |next=>exact False.elim h
   |brk=>exact False.elim h
   |cont=>exact False.elim h
   |ret u=>
    obtain⟨v,H',os,bare,un,hok',r',q⟩:=h
    have q':v=.bl true:=q
    subst q'
    obtain rfl:u=Value.bool true:=r'
    refine⟨rfl,OldK.of_keep fun b o e=>?_,os,bare⟩
    cases q:H b with
    |none=>exact un.keep b o e q (by intro z;exact absurd (show b∈([]:List Addr) from z) (by simp)) (by simp)
    |some u=>
     rcases hO b with z|⟨ob,xs,z⟩
     .rw[q]at z;cases z
     .have z2:=un.frzs b ob _ z
      obtain⟨e1,_⟩:=hok b _ z
      obtain⟨e2,_⟩:=hok' b _ z2
      rw[e]at e1;cases e1
      exact e2
 cases hk:K.lookup a with
 |some o=>
  have e:=KX a o hk
  rw[ha]at e
  cases e
  refine core (fun _=>none) (fun _=>.inl rfl) (.inr ⟨_,vs.toArray,_,hk,rfl,rfl,rfl,by rw[List.size_toArray,lenV];exact hl,by simpa using rv⟩) (fun b u z=>by have z':(none:Option HO)=some u:=z;cases z') (fun b z=>absurd rfl z) fun z=>absurd rfl z
 |none=>
  refine core (fun b=>if b=a then some (.frz { cls:=.type "list",data:=.seq vs.toArray } (.lst (ns.map V.int)))else none) (fun b=>?_) (.inl (.inr ⟨{ cls:=.type "list",data:=.seq vs.toArray },if_pos rfl⟩)) (fun b u z=>?_) (fun b z=>?_) fun _=>hk
  .by_cases hb:b=a
   .exact .inr ⟨_,_,if_pos hb⟩
   .exact .inl (if_neg hb)
  .by_cases hb:b=a
   .have z':=(if_pos hb).symm.trans z
    cases z'
    subst hb
    exact⟨ha,by rw[List.length_map];exact hl,vs,_,rv,ha⟩
   .have z':=(if_neg hb).symm.trans z
    cases z'
  .by_cases hb:b=a
   .exact hb
   .exact absurd (if_neg hb) z
theorem walk_of {l:W.OpenLaw} {n k:Nat} {q:Program} {loose:List Str} {XP:(Str->Option Value)->Heap->Prop} {YP:World->Heap->Prop} {d:DefRec} {K:Params->W.Frag} {CX:World->CXT} {sp:World->Sp} {x:Str}
  (hn:l.most=some n) (hn2:n<=sizeLine) (hdf:d.params.defaults=[]) (hr:Room k callerA)
  (hY:∀(w:World) (h:Heap),YP w h->(K w.params).In h)
  (F:∀(w:World) (mg:Str->Option Value) (fa:Addr) (h:Heap),(K w.params).In h->h.Ns mainGlobals mg->mg d.name=some (.ref fa)->
   ∃fd:FuncData,(∀(s:Shared) (u:Value),BindsTo s fd ⟨[u],[]⟩ [(x,u)])/\
    ∀base:Heap,(K w.params).In base->base.Ns mainGlobals mg->FnOk l.prog w (K w.params) mg base (CX w) k fa fd [x] (sp w))
  (hsp:∀(w:World) (H:Hp) (a:Addr) (ns:List Int),ns.length<=n->Only H->SqL (K w.params) H a (ns.map V.int)->sp w [.ref a] H (fun v _=>v=.bl true) fun _ _ _=>False)
  (hCX:∀(w:World) (H:Hp) (s:Shared) (e:Value) (s':Shared),CX w [] H s (fun _ _ _=>False) e s'->False):
  W.WalkO q loose XP YP l.row.toRowW d [] (fun f vs=>PySem.call f vs):=by
 refine Att.attach_call hn hdf fun w s₀ s₁ mg mb fa o pm cd doc a vs ns G Y ho hd hcd hmg hobj hints hlen hg=>?_
 have KX:=hY w _ Y
 obtain⟨fd,hb,hF⟩:=F w mg fa _ KX G.T.g hmg
 exact law_call KX G.T.g G.T.b G.T.builtins G.T.nolimit hg hobj hints (Nat.le_trans hlen hn2) hr hF hb (fun H hO hS=>hsp w H a ns hlen hO hS) fun H e s'=>hCX w H s₁ e s'
noncomputable def defArgs (s:Stmt):Arguments:=match s with
 | .FunctionDef _ a _ _ _ _ _ _ _ _=>a
 |_=>{ posonlyargs:=[],args:=[],vararg:=none,kwonlyargs:=[],kw_defaults:=[],kwarg:=none,defaults:=[] }
noncomputable def defBody (s:Stmt):List Stmt:=match s with
 | .FunctionDef _ _ b _ _ _ _ _ _ _=>b
 |_=>[]
noncomputable def defScope (s:Stmt):Scope:=match s with
 | .FunctionDef _ _ _ _ _ _ sc _ _ _=>sc
 |_=>{ kind:=.function,names:=[],isGenerator:=false,isCoroutine:=false }
noncomputable abbrev CX0:CXT:=fun _ _ _ _ _ _=>False
noncomputable abbrev E0:XK:=fun _ _ _=>False
structure Fun (K:W.Frag) (x qual:Str) (st:Stmt) (f:Addr) (fd:FuncData):Prop where
 ex:∃(oc:Value) (od:Option Addr) (kV doc pm:Value) (an:Option Addr) (cdv ct:Value) (osl:Array (Option Value)),
  fd=W.fnOf x qual (defArgs st) (defBody st) (defScope st) .none kV doc pm an cdv ct/\K.lookup f=some ⟨oc,od,.func fd,osl⟩/\W.codeIn K cdv qual=true
 kp:W.keepIn K (.ref f)=true
section
variable {P:Program} {w:World} {K:W.Frag} {mg:Str->Option Value} {base:Heap}
theorem Fun.ok {x qual:Str} {st:Stmt} {f:Addr} {fd:FuncData} {N ps:List Str} {k:Nat} {sp:Sp} (F:Fun K x qual st f fd) (S:FnScope N ps (defScope st)) (len:∀vs H Q E,sp vs H Q E->vs.length=ps.length)
  (hbody:∀(cdv:Value) (A:Around) (outer:List Env) (s:Shared) (H:Hp) (vs:List V) (Q:VK) (E:XK),Room k (A.deeper (envOfC qual (defScope st) s.heap.objs.size f cdv))->sp vs H Q E->
   ∃t,PSs (cxOf CX0 P w K mg base N qual (defScope st) f cdv A outer s H E).nox (defBody st) t/\t { nx:=fun _ H'=>Q .non H',rt:=Q } (start N vs) H):FnOk P w K mg base CX0 (k+1) f fd ps sp:=by
 obtain⟨oc,od,kV,doc,pm,an,cdv,ct,osl,rfl,lk,hcd⟩:=F.ex
 refine fn_of lk hcd S len fun A outer s H vs Q E hr hsp=>?_
 obtain⟨t,h,q⟩:=hbody cdv A outer s H vs Q E hr hsp
 exact⟨t,h.nox,q⟩
theorem Fun.binds {x qual:Str} {st:Stmt} {f:Addr} {fd:FuncData} {ps:List Str} (F:Fun K x qual st f fd)
  (h:∀(kV doc pm:Value) (an:Option Addr) (cdv ct:Value) (us:List Value),us.length=ps.length->bindArgs (W.fnOf x qual (defArgs st) (defBody st) (defScope st) .none kV doc pm an cdv ct) ⟨us,[]⟩=pure (ps.zip us)):Binds K fd ps []:=by
 obtain⟨oc,od,kV,doc,pm,an,cdv,ct,osl,rfl,lk,hcd⟩:=F.ex
 exact .all (h kV doc pm an cdv ct)
theorem fun_mk {x qual:Str} {st:Stmt} {f:Addr} {oc:Value} {od an:Option Addr} {osl:Array (Option Value)} {kV doc pm cdv ct:Value} (l:K.lookup f=some ⟨oc,od,.func (W.fnOf x qual (defArgs st) (defBody st) (defScope st) .none kV doc pm an cdv ct),osl⟩)
  (c:W.codeIn K cdv qual=true) (k:W.keepIn K (.ref f)=true):Fun K x qual st f (W.fnOf x qual (defArgs st) (defBody st) (defScope st) .none kV doc pm an cdv ct):=⟨⟨oc,od,kV,doc,pm,an,cdv,ct,osl,rfl,l,c⟩,k⟩
end
theorem small1000 {n:Nat} (h:n<=1000):n<sizeLine:=Nat.lt_of_le_of_lt h (by decide)
section
variable {X:Cx}
theorem pv (i:Nat) {x:Str} {pos:Pos} (hN:X.N[i]?=some x:=by rfl) (hv:Vis X.env.scope x:=by first|exact Or.inl rfl|exact Or.inr (Or.inl rfl)|exact Or.inr (Or.inr rfl)) (hd:(x == ("__debug__":Str))=false:=by decide)
  (hcd:(x == ("__classdict__":Str))=false:=by decide):PE X (.Name x pos) (tVar i):=pe_var hN hv hd hcd
end
def Same (H H':Hp):Prop:=∀b o,H b=some o->H' b=some o
theorem Same.refl (H:Hp):Same H H:=fun _ _ h=>h
theorem Same.trans {H H1 H2:Hp} (a:Same H H1) (b:Same H1 H2):Same H H2:=fun c o h=>b c o (a c o h)
theorem Same.free {H H':Hp} (e:Same H H') {l:Addr} (h:H' l=Option.none):H l=Option.none:=by
 cases q:H l with
 |none=>rfl
 |some o=>
  rw[e l o q]at h
  cases h
theorem Same.seq {K:W.Frag} {H H':Hp} {a:Addr} {xs:List V} (e:Same H H') (h:SqL K H a xs):SqL K H' a xs:=by
 rcases h with(h|⟨o,h⟩)|h
 .exact .inl (.inl (e _ _ h))
 .exact .inl (.inr ⟨o,e _ _ h⟩)
 .exact .inr h
noncomputable def closL (cells:List (Str×Addr)):List (Str×NameKind)->List (Str×Addr)->List (Str×Addr)
 | [],acc=>acc
 |(n,k) :: r,acc=>if k == .free then closL cells r ((n,(cells.lookup n).getD 0) :: acc)else closL cells r acc
noncomputable def closF (env:Env) (x:Str×NameKind) (r:List (Str×Addr)):Sem (ForInStep (List (Str×Addr))):=
 match x with|(name,kind)=>if(kind == .free)=true then(do let a <- cellOf env name;pure (ForInStep.yield ((name,a) :: r)))else pure (ForInStep.yield r)
theorem closGo {env:Env}:∀(names:List (Str×NameKind)) (acc:List (Str×Addr)),(∀n,(n,NameKind.free)∈names->∃c,env.cells.lookup n=some c)->
   forIn names acc (closF env)=(pure (closL env.cells names acc):Sem _):=by
  intro names
  induction names with
  |nil=>intro acc _;rfl
  |cons x r ih=>
   intro acc hh
   obtain⟨n,k⟩:=x
   rw[List.forIn_cons]
   have hr:=fun m hm=>hh m (List.mem_cons_of_mem _ hm)
   by_cases hk:k=.free
   .subst hk
    obtain⟨c,hc⟩:=hh n List.mem_cons_self
    have e1:cellOf env n=(pure c:Sem Addr):=by unfold cellOf;rw[hc]
    have e2:closF env (n,NameKind.free) acc=pure (ForInStep.yield ((n,c) :: acc)):=by
     unfold closF
     dsimp only
     rw[if_pos (by rfl),e1]
     rfl
    rw[e2]
    have e3:=ih ((n,c) :: acc) hr
    have e4:closL env.cells ((n,NameKind.free) :: r) acc=closL env.cells r ((n,c) :: acc):=by
     show(if(NameKind.free == NameKind.free)=true then _ else _)=_
     rw[if_pos (by rfl),hc]
     rfl
    rw[e4,<- e3]
    rfl
   .have hb:(k == NameKind.free)=false:=by simpa using hk
    have e2:closF env (n,k) acc=pure (ForInStep.yield acc):=by
     unfold closF
     dsimp only
     rw[if_neg (by rw[hb];exact Bool.false_ne_true)]
    rw[e2]
    have e4:closL env.cells ((n,k) :: r) acc=closL env.cells r acc:=by
     show(if(k == NameKind.free)=true then _ else _)=_
     rw[if_neg (by rw[hb];exact Bool.false_ne_true)]
    rw[e4,<- ih acc hr]
    rfl
theorem closFor {env:Env} {scope:Scope} (h:∀n,(n,NameKind.free)∈scope.names->∃c,env.cells.lookup n=some c):closureFor scope env=pure (closL env.cells scope.names []):=by
 have e:=closGo (env:=env) scope.names [] h
 unfold closureFor
 have q:∀f:Str×NameKind->List (Str×Addr)->Sem (ForInStep (List (Str×Addr))),(∀x r,f x r=closF env x r)->(forIn scope.names ([]:List (Str×Addr)) f >>= fun r=>pure r)=(pure (closL env.cells scope.names []):Sem _):=by
  intro f hf
  have:f=closF env:=funext fun x=>funext fun r=>hf x r
  rw[this,e]
  rfl
 refine q _ fun x r=>?_
 obtain⟨n,k⟩:=x
 unfold closF
 first|done|(dsimp only;done)|(dsimp only;cases hk:k == NameKind.free<;>simp[hk])
set_option tactic.hygienic true in
theorem closL_mem {cells:List (Str×Addr)}:∀{names:List (Str×NameKind)} {acc:List (Str×Addr)} {n:Str} {c:Addr},(n,c)∈closL cells names acc->(n,c)∈acc\/((n,NameKind.free)∈names/\c=(cells.lookup n).getD 0)
 | [],_,_,_,h=>.inl h
 |(m,k) :: r,acc,n,c,h=>by
  unfold closL at h
  split at h
  .rename_i hk
   have hk':k=.free:=by simpa using hk
   subst hk'
   rcases closL_mem h with q|⟨q,e⟩
   .rcases List.mem_cons.mp q with q|q
    .cases q;exact .inr ⟨List.mem_cons_self,rfl⟩
    .exact .inl q
   .exact .inr ⟨List.mem_cons_of_mem _ q,e⟩
  .rcases closL_mem h with q|⟨q,e⟩
   .exact .inl q
   .exact .inr ⟨List.mem_cons_of_mem _ q,e⟩
set_option tactic.hygienic true in
theorem closL_has {cells:List (Str×Addr)}:∀{names:List (Str×NameKind)} {acc:List (Str×Addr)} {n:Str},((n,NameKind.free)∈names\/∃c,(n,c)∈acc)->∃c,(n,c)∈closL cells names acc
 | [],_,_,h=>by
  rcases h with h|h
  .simp at h
  .exact h
 |(m,k) :: r,acc,n,h=>by
  unfold closL
  split
  .rename_i hk
   refine closL_has ?_
   rcases h with h|⟨c,h⟩
   .rcases List.mem_cons.mp h with h|h
    .cases h;exact .inr ⟨_,List.mem_cons_self⟩
    .exact .inl h
   .exact .inr ⟨c,List.mem_cons_of_mem _ h⟩
  .rename_i hk
   refine closL_has ?_
   rcases h with h|h
   .rcases List.mem_cons.mp h with h|h
    .cases h;exact absurd rfl hk
    .exact .inl h
   .exact .inr h
theorem cellsFrom_app:∀(names:List (Str×NameKind)) (n:Nat) (acc:List (Str×Addr)),cellsFrom n names acc=cellsFrom n names []++acc
 | [],_,_=>rfl
 |(x,k) :: r,n,acc=>by
  unfold cellsFrom
  split
  .rw[cellsFrom_app r (n+1) ((x,n) :: acc),cellsFrom_app r (n+1) [(x,n)],List.append_assoc]
   rfl
  .exact cellsFrom_app r n acc
theorem lookup_some_of_mem {α:Type}:∀{l:List (Str×α)} {n:Str} {c:α},(n,c)∈l->∃c',l.lookup n=some c'
 |(k,v) :: r,n,c,h=>by
  rw[List.lookup_cons]
  cases hb:n == k with
  |true=>exact⟨v,rfl⟩
  |false=>
   rcases List.mem_cons.mp h with e|h
   .cases e;simp at hb
   .exact lookup_some_of_mem h
theorem relabel_lookup {env:Env}:∀{names:List (Str×NameKind)} {x:Str} {k':NameKind},
  (names.map fun(n,k)=>if(k == NameKind.free&&env.scope.kind == .function&&env.kindOf n == some .cell)then(n,NameKind.cell)else(n,k)).lookup x=some k'->∃k,names.lookup x=some k/\(k'=k\/(k=.free/\k'=.cell))
 | [],_,_,h=>by simp at h
 |(n,k) :: r,x,k',h=>by
  have ih:=@relabel_lookup env r x k'
  rw[List.map_cons]at h
  by_cases hc:(k == NameKind.free&&env.scope.kind == .function&&env.kindOf n == some .cell)=true
  .have e1:(match ((n,k):Str×NameKind)with|(n,k)=>if(k == NameKind.free&&env.scope.kind == .function&&env.kindOf n == some .cell)=true then(n,NameKind.cell)else(n,k))=(n,NameKind.cell):=if_pos hc
   rw[e1,List.lookup_cons]at h
   rw[List.lookup_cons]
   cases hx:x == n with
   |true=>
    rw[hx]at h
    cases h
    refine⟨k,rfl,.inr ⟨?_,rfl⟩⟩
    simp only[Bool.and_eq_true]at hc
    exact beq_iff_eq.mp hc.1.1
   |false=>rw[hx]at h;exact ih h
  .have e1:(match ((n,k):Str×NameKind)with|(n,k)=>if(k == NameKind.free&&env.scope.kind == .function&&env.kindOf n == some .cell)=true then(n,NameKind.cell)else(n,k))=(n,k):=if_neg hc
   rw[e1,List.lookup_cons]at h
   rw[List.lookup_cons]
   cases hx:x == n with
   |true=>rw[hx]at h;cases h;exact⟨k,rfl,.inl rfl⟩
   |false=>rw[hx]at h;exact ih h
theorem relabel_lookup' {env:Env}:∀{names:List (Str×NameKind)} {x:Str} {k:NameKind},names.lookup x=some k ->
  ∃k',(names.map fun(n,k)=>if(k == NameKind.free&&env.scope.kind == .function&&env.kindOf n == some .cell)then(n,NameKind.cell)else(n,k)).lookup x=some k'/\(k'=k\/(k=.free/\k'=.cell))
 | [],_,_,h=>by simp at h
 |(n,k0) :: r,x,k,h=>by
  have ih:=@relabel_lookup' env r x k
  rw[List.map_cons]
  by_cases hc:(k0 == NameKind.free&&env.scope.kind == .function&&env.kindOf n == some .cell)=true
  .have e1:(match ((n,k0):Str×NameKind)with|(n,k)=>if(k == NameKind.free&&env.scope.kind == .function&&env.kindOf n == some .cell)=true then(n,NameKind.cell)else(n,k))=(n,NameKind.cell):=if_pos hc
   rw[e1,List.lookup_cons]
   rw[List.lookup_cons]at h
   cases hx:x == n with
   |true=>
    rw[hx]at h
    cases h
    refine⟨_,rfl,.inr ⟨?_,rfl⟩⟩
    simp only[Bool.and_eq_true]at hc
    exact beq_iff_eq.mp hc.1.1
   |false=>rw[hx]at h;exact ih h
  .have e1:(match ((n,k0):Str×NameKind)with|(n,k)=>if(k == NameKind.free&&env.scope.kind == .function&&env.kindOf n == some .cell)=true then(n,NameKind.cell)else(n,k))=(n,k0):=if_neg hc
   rw[e1,List.lookup_cons]
   rw[List.lookup_cons]at h
   cases hx:x == n with
   |true=>rw[hx]at h;cases h;exact⟨_,rfl,.inl rfl⟩
   |false=>rw[hx]at h;exact ih h
section
variable {M:Model} {A:Around} {E:Value->Shared->Prop} {s:Shared}
noncomputable abbrev compHeap (h:Heap) (names:List (Str×NameKind)):Heap:=pushCells (h.push { cls:=.type "dict",data:=.dict #[] }) names
theorem wpAny_compEnv {scope:Scope} {globals:Addr} {cl:List (Str×Addr)} {qual:Str} {env:Env} {Q:Env->Shared->Prop}
  (h:Q (newEnv scope s.heap.objs.size globals (cellsFrom (s.heap.objs.size+1) scope.names cl) qual none .none (some env) builtinsNs) { s with heap:=compHeap s.heap scope.names }):
  wpAny M A (newFunctionEnv scope globals cl [] qual none .none (some env)) Q E s:=by
 simp only[newFunctionEnv,Option.isSome_some,if_true]
 refine wpAny_bind (wpAny_alloc ?_)
 refine wpAny_bind (wpAny_layCells _ (fun name kind cells=>by cases hkc:kind == NameKind.cell<;>simp[hkc]) _ _ _ _ ?_)
 rw[show({ s with heap:=s.heap.push { cls:=.type "dict",data:=.dict #[] } }:Shared).heap.objs.size=s.heap.objs.size+1 from Heap.size_push ..]
 exact wpAny_bind (wpAny_pure (wpAny_pure h))
end
noncomputable def Cx.comp (X:Cx) (scope:Scope) (s₀:Shared) (H₀:Hp) (ex:List Addr):Cx:=
 { X with
  s₀:=s₀,H₀:=H₀
  env:={ newEnv scope s₀.heap.objs.size X.env.globals (cellsFrom (s₀.heap.objs.size+1) scope.names (closL X.env.cells scope.names [])) X.env.qual none .none (some X.env) builtinsNs with scope:=relabel scope X.env }
  outer:=X.stack,ex:=ex,fn:=fun x=>((cellsFrom (s₀.heap.objs.size+1) scope.names []).lookup x).isSome,pn:=[],xe:=fun _ _=>False }
structure CompSc (X:Cx) (scope:Scope):Prop where
 kind:scope.kind=.function
 names:∀x∈scope.names,x.2=.local->scope.names.lookup x.1=some .local
 one:∀n,(n,NameKind.cell)∈scope.names->scope.names.lookup n=some .cell
 free:∀n,(n,NameKind.free)∈scope.names->X.env.kindOf n=some .cell\/X.env.kindOf n=some .free
set_option tactic.hygienic true in
theorem cellsFrom_mem:∀{names:List (Str×NameKind)} {n:Nat} {x:Str} {c:Addr},(x,c)∈cellsFrom n names []->(x,NameKind.cell)∈names
 | [],_,_,_,h=>by simp[cellsFrom]at h
 |(y,k) :: r,n,x,c,h=>by
  unfold cellsFrom at h
  split at h
  .rename_i hk
   have hk':k=.cell:=by simpa using hk
   subst hk'
   rw[cellsFrom_app]at h
   rcases List.mem_append.mp h with h|h
   .exact List.mem_cons_of_mem _ (cellsFrom_mem h)
   .have h':(x,c)=(y,n):=by simpa using h
    cases h'
    exact List.mem_cons_self
  .exact List.mem_cons_of_mem _ (cellsFrom_mem h)
noncomputable def clr (own:List Nat) (σ:St):St:=own.foldl (fun σ i=>σ.set i none) σ
theorem clr_len:∀(own:List Nat) (σ:St),(clr own σ).length=σ.length
 | [],_=>rfl
 |i :: r,σ=>by
  show(clr r (σ.set i none)).length=_
  rw[clr_len r,List.length_set]
theorem clr_get:∀{own:List Nat} {σ:St} {i:Nat} {v:V},(clr own σ)[i]?=some (some v)->σ[i]?=some (some v)/\i∉own
 | [],_,_,_,h=>⟨h,by simp⟩
 |j :: r,σ,i,v,h=>by
  obtain⟨h1,h2⟩:=clr_get (own:=r) (σ:=σ.set j none) h
  by_cases e:j=i
  .subst e
   rw[List.getElem?_set]at h1
   simp at h1
  .rw[List.getElem?_set_ne e]at h1
   exact⟨h1,by simp;exact⟨fun z=>e z.symm,h2⟩⟩
theorem clr_out:∀{own:List Nat} {σ:St} {i:Nat},i∉own->(clr own σ)[i]?=σ[i]?
 | [],_,_,_=>rfl
 |j :: r,σ,i,h=>by
  have h1:i≠j:=fun z=>h (by simp[z])
  have h2:i∉r:=fun z=>h (by simp[z])
  show(clr r (σ.set j none))[i]?=_
  rw[clr_out h2,List.getElem?_set_ne (Ne.symm h1)]
section
variable {X:Cx} {pins:List (Addr×Obj)} {σ:St} {H H':Hp} {s s':Shared} {scope:Scope} {ex:List Addr} {own:List Nat}
theorem comp_cells (I:Inv X pins σ H s) (S:CompSc X scope):
  (∀x c,(closL X.env.cells scope.names []).lookup x=some c->X.env.cells.lookup x=some c)/\
  (∀x,(x,NameKind.free)∈scope.names->∃c,(closL X.env.cells scope.names []).lookup x=some c)/\
  CellsOk (compHeap s.heap scope.names) (s.heap.objs.size+1) (cellsFrom (s.heap.objs.size+1) scope.names []):=by
 have hc:∀x c,(x,c)∈closL X.env.cells scope.names []->X.env.cells.lookup x=some c:=fun x c h=>by
  rcases closL_mem h with z|⟨z,e⟩
  .simp at z
  .obtain⟨c',e'⟩:=I.ok.has x (S.free x z)
   rw[e',Option.getD_some]at e
   rw[e',e]
 refine⟨fun x c h=>hc x c (PySem.mem_of_lookup h),fun x h=>?_,?_⟩
 .obtain⟨c,q⟩:=closL_has (cells:=X.env.cells) (acc:=[]) (.inl h)
  exact lookup_some_of_mem q
 .have q:=cellsFrom_ok scope.names (s.heap.push { cls:=.type "dict",data:=.dict #[] }) (s.heap.objs.size+1) [] ⟨fun _ _ hm=>(nomatch hm),List.Pairwise.nil⟩ (by rw[Heap.size_push];exact Nat.le_refl _)
  rw[Heap.size_push]at q
  exact q
theorem comp_start (I:Inv X pins σ H s) (hex:∀b∈ex,FpOk X pins H b) (hlt:∀b∈ex,b<s.heap.objs.size) (S:CompSc X scope)
  (hown:∀i x,X.N[i]?=some x->(scope.names.lookup x=some .local\/scope.names.lookup x=some .cell)->i∈own):
  Inv (X.comp scope s H ex) [] (clr own σ) H { s with heap:=compHeap s.heap scope.names }:=by
 obtain⟨hcl,hcf,ok⟩:=comp_cells I S
 have lk:∀x c,(X.comp scope s H ex).env.cells.lookup x=some c->(cellsFrom (s.heap.objs.size+1) scope.names []).lookup x=some c\/((cellsFrom (s.heap.objs.size+1) scope.names []).lookup x=none/\X.env.cells.lookup x=some c):=fun x c h=>by
  have h':(cellsFrom (s.heap.objs.size+1) scope.names (closL X.env.cells scope.names [])).lookup x=some c:=h
  rw[cellsFrom_app,List.lookup_append]at h'
  cases q:(cellsFrom (s.heap.objs.size+1) scope.names []).lookup x with
  |some d=>rw[q]at h';exact .inl h'
  |none=>rw[q]at h';exact .inr ⟨rfl,hcl x c h'⟩
 have newC:∀x c,(cellsFrom (s.heap.objs.size+1) scope.names []).lookup x=some c->(compHeap s.heap scope.names).IsCell c none/\s.heap.objs.size+1<=c:=fun x c h=>ok.empty x c (PySem.mem_of_lookup h)
 have oldC:∀x c,X.env.cells.lookup x=some c->c<s.heap.objs.size:=fun x c h=>let⟨_,q⟩:=I.cell x c h;q.lt
 have keep:∀b o,s.heap.get? b=some o->(compHeap s.heap scope.names).get? b=some o:=fun b o e=>pushCells_keeps _ _ b o (Heap.get?_push_of_some _ e)
 have fresh:∀b,s.heap.objs.size<=b->H b=none:=fun b hb=>I.hok.fresh hb
 have loc0:(X.comp scope s H ex).env.locals=s.heap.objs.size:=rfl
 refine⟨⟨I.ok.mod,S.kind,I.ok.glob,?_,Nat.le_refl _,fun x y c h1 h2=>?_,fun x hx=>?_,fun x c hf h=>?_,I.ok.hd,I.ok.frames,.inl rfl,fun b hb=>?_,I.bs,Nat.le_trans I.ok.bsz I.sz,fun b o e hb=>?_,fun b hb=>?_,I.stack,I.stkFree⟩,
  rfl,I.bare,Un.kept keep,⟨fun _=>none,?_,fun i x v h1 h2 h3=>?_⟩,fun x c h=>?_,fresh _ (Nat.le_refl _),fun x c h=>?_,fun p hp=>absurd (show p∈([]:List (Addr×Obj)) from hp) (by simp),I.hok.kept keep,?_⟩
 .show X.env.builtins=_
  exact I.ok.blt
 .rcases lk x c h1 with q1|⟨_,q1⟩<;>rcases lk y c h2 with q2|⟨_,q2⟩
  .exact name_of_addr ok.apart (PySem.mem_of_lookup q1) (PySem.mem_of_lookup q2)
  .exact absurd (Nat.lt_of_lt_of_le (oldC y c q2) (Nat.le_trans (Nat.le_succ _) (newC x c q1).2)) (Nat.lt_irrefl _)
  .exact absurd (Nat.lt_of_lt_of_le (oldC x c q1) (Nat.le_trans (Nat.le_succ _) (newC y c q2).2)) (Nat.lt_irrefl _)
  .exact I.ok.inj x y c q1 q2
 .have hx':(relabel scope X.env).names.lookup x=some .cell\/(relabel scope X.env).names.lookup x=some .free:=hx
  have fin:∀k,scope.names.lookup x=some k->(k=.cell\/k=.free)->∃c,(cellsFrom (s.heap.objs.size+1) scope.names (closL X.env.cells scope.names [])).lookup x=some c:=fun k hk hkk=>by
   rw[cellsFrom_app,List.lookup_append]
   rcases hkk with rfl|rfl
   .obtain⟨c,q⟩:=cell_has (n:=s.heap.objs.size+1) hk
    exact⟨c,by rw[q];rfl⟩
   .obtain⟨c,q⟩:=hcf x (PySem.mem_of_lookup hk)
    cases z:(cellsFrom (s.heap.objs.size+1) scope.names []).lookup x with
    |some d=>exact⟨d,rfl⟩
    |none=>exact⟨c,by rw[q];rfl⟩
  rcases hx' with hx'|hx'<;>obtain⟨k,hk,e⟩:=relabel_lookup hx'
  .rcases e with e|⟨e,_⟩
   .exact fin k hk (.inl e.symm)
   .exact fin k hk (.inr e)
  .rcases e with e|⟨e,_⟩
   .exact fin k hk (.inr e.symm)
   .exact fin k hk (.inr e)
 .rcases lk x c h with q|⟨q,_⟩
  .have:=(newC x c q).2
   show s.heap.objs.size<=c
   omega
  .have hf':((cellsFrom (s.heap.objs.size+1) scope.names []).lookup x).isSome=true:=hf
   rw[q]at hf'
   cases hf'
 .refine⟨?_,fun x c h=>?_⟩
  .show b≠s.heap.objs.size
   exact Nat.ne_of_lt (hlt b hb)
  .rcases lk x c h with q|⟨_,q⟩
   .intro e
    rw[e]at q
    exact absurd (Nat.lt_of_lt_of_le (hlt b hb) (Nat.le_trans (Nat.le_succ _) (newC x b q).2)) (Nat.lt_irrefl _)
   .exact(hex b hb).2.2.2.2.1 x c q
 .rcases(hex b hb).2.2.2.1 with z|z
  .exact I.ok.noex b o e z
  .exact absurd (Nat.lt_of_lt_of_le (Heap.lt_size e) (Nat.le_trans I.ok.bsz z)) (Nat.lt_irrefl _)
 .intro z
  rcases List.mem_cons.mp (I.stkSub b z)with e|e
  .exact(hex b hb).2.1 e
  .exact(hex b hb).2.2.1 e
 .show(compHeap s.heap scope.names).Ns s.heap.objs.size _
  exact(Heap.Ns.new s.heap (.type "dict")).keeps (pushCells_keeps _ _)
 .obtain⟨h2,hno⟩:=clr_get h2
  have h3':(relabel scope X.env).names.lookup x=some .local\/(relabel scope X.env).names.lookup x=some .cell\/(relabel scope X.env).names.lookup x=some .free:=h3
  have h3k:∃k',(relabel scope X.env).names.lookup x=some k'/\(k'=.local\/k'=.cell\/k'=.free):=by
   rcases h3' with z|z|z
   .exact⟨_,z,.inl rfl⟩
   .exact⟨_,z,.inr (.inl rfl)⟩
   .exact⟨_,z,.inr (.inr rfl)⟩
  obtain⟨k',hk',hkk⟩:=h3k
  obtain⟨k,hk,e⟩:=relabel_lookup hk'
  have hfree:k=.free:=by
   rcases e with e|⟨e,_⟩
   .subst e
    rcases hkk with z|z|z
    .subst z;exact absurd (hown i x h1 (.inl hk)) hno
    .subst z;exact absurd (hown i x h1 (.inr hk)) hno
    .exact z
   .exact e
  subst hfree
  have hm:=PySem.mem_of_lookup hk
  have hv:Vis X.env.scope x:=by
   rcases S.free x hm with z|z
   .exact .inr (.inl z)
   .exact .inr (.inr z)
  obtain⟨m,hn,hl⟩:=I.loc
  obtain⟨u,r,l⟩:=hl i x v h1 h2 hv
  refine⟨u,r,?_⟩
  have hkind:(X.comp scope s H ex).env.kindOf x=some .cell\/(X.comp scope s H ex).env.kindOf x=some .free:=by
   show(relabel scope X.env).names.lookup x=some .cell\/(relabel scope X.env).names.lookup x=some .free
   rcases e with e|⟨_,e⟩
   .subst e;exact .inr hk'
   .subst e;exact .inl hk'
  have hcc:∃c,X.env.cells.lookup x=some c/\s.heap.IsCell c (some u):=by
   rcases l with⟨kk,_⟩|⟨_,c,e1,e2⟩
   .rcases S.free x hm with z|z
    .rw[z]at kk;cases kk
    .rw[z]at kk;cases kk
   .exact⟨c,e1,e2⟩
  obtain⟨c,e1,e2⟩:=hcc
  refine .inr ⟨hkind,c,?_,e2.keeps keep⟩
  show(cellsFrom (s.heap.objs.size+1) scope.names (closL X.env.cells scope.names [])).lookup x=some c
  rw[cellsFrom_app,List.lookup_append]
  have hnone:(cellsFrom (s.heap.objs.size+1) scope.names []).lookup x=none:=by
   cases z:(cellsFrom (s.heap.objs.size+1) scope.names []).lookup x with
   |none=>rfl
   |some d=>
    exfalso
    have q1:=S.one x (cellsFrom_mem (PySem.mem_of_lookup z))
    rw[hk]at q1
    cases q1
  obtain⟨c',q⟩:=hcf x hm
  have q':=hcl x c' q
  rw[e1]at q'
  cases q'
  rw[hnone,q]
  rfl
 .rcases lk x c h with q|⟨_,q⟩
  .exact⟨_,(newC x c q).1⟩
  .obtain⟨v,z⟩:=I.cell x c q
   exact⟨v,z.keeps keep⟩
 .rcases lk x c h with q|⟨_,q⟩
  .have:=(newC x c q).2
   exact fresh c (by omega)
  .exact I.freeC x c q
 .rw[clr_len]
  exact I.len
end
section
variable {X:Cx} {pins:List (Addr×Obj)} {σ:St} {H H':Hp} {s s':Shared} {scope:Scope} {ex:List Addr} {own:List Nat}
theorem hok_but {P:Program} {w:World} {h h':Heap} {a:Addr} (x:HOk P w H h) (hn:H a=none) (hs:∀b o,b≠a->h.get? b=some o->h'.get? b=some o):HOk P w H h':=fun b ob e=>
 (x b ob e).stay (fun c w' hc q=>hs c w' (by
  rintro rfl
  rcases hc with rfl|hc
  .rw[hn]at e;cases e
  .rw[hn]at hc;cases hc) q) (fun _ q=>q) fun _ _ q=>q
theorem comp_end {σ':St} {pins':List (Addr×Obj)} {h':Heap} (I:Inv X pins σ H s) (hex:∀b∈ex,FpOk X pins H b) (J:Inv (X.comp scope s H ex) pins' σ' H' s') (hs:Heap.SameBut s.heap.objs.size s'.heap h'):
  Inv X pins σ H' { s' with heap:=h' }:=by
 have ne:∀b o,s.heap.get? b=some o->b≠s.heap.objs.size:=fun b o e=>Nat.ne_of_lt (Heap.lt_size e)
 have u:Un (frs X.stack) ex H H' s.heap s'.heap:=J.base
 have hf:H' s.heap.objs.size=none:=J.free
 refine I.call' (s':={ s' with heap:=h' }) (ch:=ex) J.os ⟨fun b o e n hb hx=>?_,fun b o e n hb hx=>?_,u.free,fun b o e hx=>?_,u.tups,u.frzs,u.tbls⟩ (hok_but J.hok hf fun b o hb e=>(hs.2 b hb).trans e) J.bare fun b hb=>?_
 .exact(hs.2 b (ne b o e)).trans (u.keep b o e n hb hx)
 .obtain⟨sl,q⟩:=u.slot b o e n hb hx
  exact⟨sl,(hs.2 b (ne b o e)).trans q⟩
 .obtain⟨o',q⟩:=u.there b o e hx
  exact⟨o',(hs.2 b (ne b o e)).trans q⟩
 .obtain⟨f0,f1,f2,f3,f4,f5⟩:=hex b hb
  exact⟨f3,f1,f4,f5⟩
end
def PTs (X:Cx) (ifs:List Expr) (t:TT):Prop:=∀(pins:List (Addr×Obj)) (s:Shared) (σ:St) (H:Hp) (Q:Bool->Hp->Prop),Inv X pins σ H s->t σ H Q->
 wpAny (model X.prog X.w) X.A (forIn ifs true fun c r=>if r=true then do let ok <- isTrue c X.env (eval c X.env);pure (ForInStep.yield ok)else pure (ForInStep.yield r)) (TP X pins σ Q) X.xe s
theorem pts_nil {X:Cx}:PTs X [] (fun _ H Q=>Q true H):=fun pins s σ H Q I h=>wpAny_tests_nil ⟨H,I,h⟩
theorem pts_one {X:Cx} {c:Expr} {t:TT} (hc:PT X c t):PTs X [c] t:=fun pins s σ H Q I h=>wpAny_tests_one (hc pins s σ H Q I h)
def Ext (ws:List Nat) (σ σ':St):Prop:=σ'.length=σ.length/\∀j,j∉ws->σ'[j]?=σ[j]?
theorem Ext.refl {ws:List Nat} {σ:St}:Ext ws σ σ:=⟨rfl,fun _ _=>rfl⟩
theorem Ext.trans {ws:List Nat} {σ σ1 σ2:St} (a:Ext ws σ σ1) (b:Ext ws σ1 σ2):Ext ws σ σ2:=⟨b.1.trans a.1,fun j hj=>(b.2 j hj).trans (a.2 j hj)⟩
theorem Ext.mono {ws ws':List Nat} {σ σ1:St} (a:Ext ws σ σ1) (h:∀j∈ws,j∈ws'):Ext ws' σ σ1:=⟨a.1,fun j hj=>a.2 j fun z=>hj (h j z)⟩
theorem Ext.clr {ws:List Nat} {σ:St}:Ext ws σ (clr ws σ):=⟨clr_len _ _,fun j hj=>clr_out hj⟩
theorem Ext.back {ws:List Nat} {σ σ':St} (a:Ext ws (L2.clr ws σ) σ') (i:Nat) (v:V) (h:(L2.clr ws σ)[i]?=some (some v)):σ'[i]?=some (some v):=by
 obtain⟨_,q⟩:=clr_get h
 rw[a.2 i q]
 exact h
def GExt (ws:List Nat) (g:TG):Prop:=∀(x:V) (σ:St) (H:Hp) (Q:St->Hp->Prop),g x σ H Q->g x σ H fun σ2 H2=>Q σ2 H2/\Ext ws σ σ2
theorem gext_name {i:Nat} {ws:List Nat} (h:i∈ws):GExt ws (gName i):=fun x σ H Q q=>⟨q,by simp,fun j hj=>by
 have:i≠j:=fun z=>hj (z ▸ h)
 rw[List.getElem?_set_ne this]⟩
noncomputable def turnCode (e:Expr) (d:Nat) (tg iter:Expr) (ifs:List Expr) (nx:Sem Unit) (it acc:Value) (env:Env):Sem Fin:=do
 standAt iter.pos
 match <- pyNext it with
 |none=>pure (.done .next)
 |some v=>
  letOwnedTupleGo tg it v
  assign tg env v
  let mut ok:=true
  for c in ifs do
   if ok then ok <- isTrue c env (eval c env)
  if ok then nx
  again (.compLoop e d it acc env)
noncomputable abbrev TL (α:Type):=St->α->Hp->(α->Hp->Prop)->Prop
def CompRun {α:Type} (X:Cx) (D:Addr) (Is:α->Obj->Prop) (ws:List Nat) (code:Sem Unit) (t:TL α):Prop:=
 ∀(pins:List (Addr×Obj)) (s:Shared) (σ:St) (H:Hp) (a:α) (o:Obj) (N:α->Hp->Prop),Inv X pins σ H s->FpOk X pins H D->s.heap.get? D=some o->Is a o->t σ a H N->
  wpAny (model X.prog X.w) X.A code (fun _ s'=>∃σ' a' o' H',Inv X pins σ' H' s'/\Ext ws σ σ'/\s'.heap.get? D=some o'/\Is a' o'/\H' D=none/\N a' H') (fun _ _=>False) s
noncomputable def tClause {α:Type} (ws:List Nat) (g:TG) (tc:TT) (rest:TL α) (J:It):TL α:=fun σ a H1 N=>
 ∃W:Nat->Nat->α->Hp->Prop,(∃m,W 0 m a H1)/\∀i m b H,W i m b H->
  (J.stop i H/\N b H)\/(J.go i H/\∀x H',J.yld i H x H'->g x (clr ws σ) H' fun σ2 H2=>tc σ2 H2 fun ok H3=>
   if ok=true then rest σ2 b H3 (fun c H4=>∃m',m'<m/\W (i+1) m' c H4)else ∃m',m'<m/\W (i+1) m' b H3)
theorem comp_loop {α:Type} {Is:α->Obj->Prop} {X:Cx} {e:Expr} {d:Nat} {tg iter:Expr} {ifs:List Expr} {nx:Sem Unit} {it D:Addr} {fp:List Addr} {tn:Nat->Heap->Prop} {J:It} {g:TG} {tc:TT} {rest:TL α} {ws ws':List Nat}
  (hxe:X.xe=fun _ _=>False) (hcalm:X.calm=true)
  (hq:(Code.compLoop e d (.ref it) (.ref D) X.env).quiet=true) (hu:X.A.under (Code.compLoop e d (.ref it) (.ref D) X.env)=X.A)
  (hT:(model X.prog X.w).den (.compLoop e d (.ref it) (.ref D) X.env)=(turnCode e d tg iter ifs nx (.ref it) (.ref D) X.env).onRaise (fun x=>do noteFrame x X.env;theTreesLotGoes x))
  (T:Turn X.prog X.w X.K tg J fp it tn) (hg:PG X tg g) (hge:GExt ws g) (ht:PTs X ifs tc) (hn:CompRun X D Is ws' nx rest) (hws:∀j∈ws',j∈ws) (hIs:∀a o,Is a o->∀v,o.data≠.cell v) (hDf:D∉fp)
  {pins:List (Addr×Obj)} {s:Shared} {σ:St} {H:Hp} {a:α} {o:Obj} {N:α->Hp->Prop} (I:Inv X pins σ H s) (hf:∀b∈fp,FpOk X pins H b) (hD:FpOk X pins H D) (ho:s.heap.get? D=some o) (ha:Is a o) (h0:tn 0 s.heap)
  (hw:tClause ws g tc rest J σ a H N):
  codeAny (model X.prog X.w) X.A (.compLoop e d (.ref it) (.ref D) X.env) (fun r s'=>r=.ok .next/\∃a' o' H',Inv X pins (clr ws σ) H' s'/\s'.heap.get? D=some o'/\Is a' o'/\H' D=none/\N a' H') s:=by
 obtain⟨W,⟨m0,w0⟩,turn⟩:=hw
 have stat:∀{H':Hp} {pl:List (Addr×Obj)},(∀b∈D :: fp,H' b=none)->(∀b∈D :: fp,FpOk X pins H' b):=fun {H' pl} hn b hb=>by
  rcases List.mem_cons.mp hb with rfl|hb'
  .exact⟨hn _ List.mem_cons_self,hD.2⟩
  .exact⟨hn b hb,(hf b hb').2⟩
 refine codeAny_loop hq (fun n s'=>∃i b ob H',Inv X pins (clr ws σ) H' s'/\tn i s'.heap/\(∀b∈D :: fp,H' b=none)/\s'.heap.get? D=some ob/\Is b ob/\W i n b H') ?_ m0
  ⟨0,a,o,H,I.weak (clr_len _ _) (fun i v q=>(clr_get q).1),h0,fun b hb=>by
   rcases List.mem_cons.mp hb with rfl|hb'
   .exact hD.1
   .exact(hf b hb').1,ho,ha,w0⟩
 rintro n s3 ⟨i,b,ob,H3,I3,st3,fr3,o3,is3,w3⟩
 rw[hu,hT]
 refine wpAny_noted ?_
 have hE:∀{β:Type} {c:Sem β} {Q:β->Shared->Prop} {s:Shared} {E:Value->Shared->Prop},wpAny (model X.prog X.w) X.A c Q (fun _ _=>False) s->wpAny (model X.prog X.w) X.A c Q E s:=fun h=>wpAny_mono h (fun _ _ q=>q) fun _ _ q=>q.elim
 refine hE ?_
 unfold turnCode
 refine wpAny_bind (wpAny_standAt (wpAny_bind ?_))
 have hxeE:∀{β:Type} {c:Sem β} {Q:β->Shared->Prop} {s:Shared},wpAny (model X.prog X.w) X.A c Q X.xe s->wpAny (model X.prog X.w) X.A c Q (fun _ _=>False) s:=fun h=>by rw[hxe]at h;exact h
 have pD:Inv X (pins++pinsAt [D] s3.heap) (clr ws σ) H3 s3:=I3.pinned (fun b hb=>by
  have e:b=D:=by simpa using hb
  subst e
  exact stat (pl:=[]) fr3 b List.mem_cons_self) (fun b hb=>by
  have e:b=D:=by simpa using hb
  subst e
  exact⟨ob,o3,hIs _ _ is3⟩)
 have mD:(D,ob)∈pinsAt [D] s3.heap:=mem_pinsAt (by simp) o3
 have fpD:∀{H':Hp},(∀b∈fp,H' b=none)->∀b∈fp,FpOk X (pins++pinsAt [D] s3.heap) H' b:=fun {H'} hn b hb=>by
  obtain⟨_,f1,f2,f3,f4,f5⟩:=hf b hb
  refine⟨hn b hb,f1,f2,f3,f4,fun p hp=>?_⟩
  rcases List.mem_append.mp hp with q|q
  .exact f5 p (List.mem_append_left _ q)
  .rcases List.mem_append.mp q with q|q
   .exact f5 p (List.mem_append_right _ q)
   .have e:p.1=D:=by simpa using(of_pinsAt q).1
    rw[e]
    rintro rfl
    exact hDf hb
 have fr3':∀b∈fp,H3 b=none:=fun b hb=>fr3 b (List.mem_cons_of_mem _ hb)
 rcases turn i n b H3 w3 with⟨stop,qn⟩|⟨go,step⟩
 .refine thn (T.done X rfl rfl rfl hcalm i _ s3 _ H3 _ pD (fpD fr3') st3 stop) fun r s4 ⟨hr,I4⟩=>?_
  subst hr
  have q4:=I4.pin (D,ob) (List.mem_append_right _ (List.mem_append_right _ mD))
  exact wpAny_pure ⟨rfl,b,ob,H3,I4.unpinned,q4.1,is3,q4.2.1,qn⟩
 .refine thn (T.item X rfl rfl rfl hcalm i _ s3 _ H3 _ pD (fpD fr3') st3 go) fun r s4 ⟨u,hr,h4⟩=>?_
  subst hr
  refine wpAny_bind (thn h4 fun _ s5 ⟨x,H5,I5,r5,y5,st5,fr5⟩=>?_)
  have I5':=I5.pinned (fpD fr5) (T.obj _ _ st5)
  refine wpAny_bind (thn (hxeE (hg _ s5 _ H5 x u _ I5' r5 (hge x _ H5 _ (step x H5 y5)))) fun _ s6 ⟨σ6,H6,I6,q6,x6⟩=>?_)
  refine wpAny_bind (thn (hxeE (ht _ s6 σ6 H6 _ I6 q6)) fun ok s7 ⟨H7,I7,q7⟩=>?_)
  have q7D:=I7.pin (D,ob) (List.mem_append_right _ (List.mem_append_left _ (List.mem_append_right _ mD)))
  have q7f:∀b∈fp,∀o,s5.heap.get? b=some o->s7.heap.get? b=some o/\H7 b=none:=fun b hb o e =>
   let q:=I7.pin (b,o) (List.mem_append_right _ (List.mem_append_right _ (mem_pinsAt hb e)))
   ⟨q.1,q.2.1⟩
  have st7:tn (i+1) s7.heap:=T.keep _ _ _ st5 fun b hb o e=>(q7f b hb o e).1
  have fr7:∀b∈fp,H7 b=none:=fun b hb=>by
   obtain⟨o,e,_⟩:=T.obj _ _ st5 b hb
   exact(q7f b hb o e).2
  have I7':Inv X pins σ6 H7 s7:=I7.unpinned.unpinned
  cases ok with
  |false=>
   have q7':∃m',m'<n/\W (i+1) m' b H7:=q7
   obtain⟨m',hm,w7⟩:=q7'
   refine wpAny_pure ⟨rfl,m',hm,i+1,b,ob,H7,I7'.weak ?_ x6.back,st7,fun c hc=>?_,q7D.1,is3,w7⟩
   .rw[x6.1]
   .rcases List.mem_cons.mp hc with rfl|hc'
    .exact q7D.2.1
    .exact fr7 c hc'
  |true=>
   have I7p:=I7'.pinned (fun b hb=>stat (pl:=[]) (fun c hc=>by
    rcases List.mem_cons.mp hc with rfl|hc'
    .exact q7D.2.1
    .exact fr7 c hc') b (List.mem_cons_of_mem _ hb)) (T.obj _ _ st7)
   have fD:FpOk X (pins++pinsAt fp s7.heap) H7 D:=by
    obtain⟨_,f1,f2,f3,f4,f5⟩:=hD
    refine⟨q7D.2.1,f1,f2,f3,f4,fun p hp=>?_⟩
    rcases List.mem_append.mp hp with q|q
    .exact f5 p (List.mem_append_left _ q)
    .rcases List.mem_append.mp q with q|q
     .exact f5 p (List.mem_append_right _ q)
     .intro z
      exact hDf (z ▸ (of_pinsAt q).1)
   refine wpAny_bind (thn (hn _ s7 σ6 H7 b ob _ I7p fD q7D.1 is3 q7) fun _ s8 ⟨σ8,b8,o8,H8,I8,x8,e8,is8,n8,m',hm,w8⟩=>?_)
   have q8f:∀b∈fp,∀o,s7.heap.get? b=some o->s8.heap.get? b=some o/\H8 b=none:=fun b hb o e =>
    let q:=I8.pin (b,o) (List.mem_append_right _ (List.mem_append_right _ (mem_pinsAt hb e)))
    ⟨q.1,q.2.1⟩
   have x8':Ext ws (clr ws σ) σ8:=x6.trans (x8.mono hws)
   refine wpAny_pure ⟨rfl,m',hm,i+1,b8,o8,H8,I8.unpinned.weak (by rw[x8'.1]) x8'.back,T.keep _ _ _ st7 fun b hb o e=>(q8f b hb o e).1,fun c hc=>?_,e8,is8,w8⟩
   rcases List.mem_cons.mp hc with rfl|hc'
   .exact n8
   .obtain⟨o,e,_⟩:=T.obj _ _ st7 c hc'
    exact(q8f c hc' o e).2
def IsL (xs:List V) (o:Obj):Prop:=xs.length<=sizeLine/\∃(its:List Value) (n:Nat),Vals xs its/\o={ cls:=.type "list",data:=.seq its.toArray n }
theorem isL_data (xs:List V) (o:Obj) (h:IsL xs o) (v:Option Value):o.data≠.cell v:=by
 obtain⟨_,its,n,_,rfl⟩:=h
 intro z
 cases z
noncomputable def tEmit (te:TE):TL (List V):=fun σ xs H N=>te σ H fun v H'=>xs.length<sizeLine/\N (xs++[v]) H'
theorem run_emit {X:Cx} {D:Addr} {elt:Expr} {te:TE} (hxe:X.xe=fun _ _=>False) (he:PE X elt te):CompRun X D IsL [] (do let _ <- call (.builtin "list.append") [.ref D,<- eval elt X.env]) (tEmit te):=by
 intro pins s σ H xs o N I hD ho hi hq
 have I1:Inv X (pins++pinsAt [D] s.heap) σ H s:=I.pinned (fun b hb=>by
  have e:b=D:=by simpa using hb
  subst e
  exact hD) (fun b hb=>by
  have e:b=D:=by simpa using hb
  subst e
  exact⟨o,ho,isL_data _ _ hi⟩)
 have h1:=he _ s σ H _ I1 hq
 rw[hxe]at h1
 refine wpAny_bind (thn h1 fun u s1 ⟨v,H1,J1,r1,z1,n1⟩=>?_)
 have q1:=J1.pin (D,o) (List.mem_append_right _ (List.mem_append_right _ (mem_pinsAt (by simp) ho)))
 obtain⟨zx,its,n,rv,rfl⟩:=hi
 have hl:=rv.length
 refine wpAny_bind (wpAny_list_append_plain (items:=its.toArray) ⟨n,q1.1⟩ (fun h' hp hs=>?_) (by rw[List.size_toArray,<- hl];exact zx))
 obtain⟨_,f1,f2,f3,f4,f5⟩:=hD
 have J2:Inv X pins σ H1 { s1 with heap:=h' }:=J1.unpinned.turned (it:=D) (t':=s1.toks) (fun b o hb e=>(hs.2 b hb).trans e) q1.2.1 f1 f3 f4 f5
 obtain⟨n',hp⟩:=hp
 refine wpAny_pure ⟨σ,xs++[v],_,H1,J2,Ext.refl,hp,⟨?_,its++[u],n',rv.append (.cons r1 .nil),?_⟩,q1.2.1,n1⟩
 .rw[List.length_append];exact z1
 .simp
noncomputable def nestCode (e:Expr) (d:Nat) (iter:Expr) (acc:Value) (env:Env):Sem Unit:=do
 let x <- eval iter env
 standAt iter.pos
 let x <- foldedSetIterable iter env x
 let _ <- runOwn (.compStart e (d+1) (<- holding [x] (pyIter x)) acc env) env
theorem start_ok {M:Model} {A:Around} {e:Expr} {d:Nat} {it acc:Value} {env:Env} {R:Result->Shared->Prop} {s:Shared}
  (hq:(Code.compStart e d it acc env).quiet=true) (hu:A.under (Code.compStart e d it acc env)=A) (hql:∀it',(Code.compLoop e d it' acc env).quiet=true)
  (hden:M.den (.compStart e d it acc env)=(compStart e d it acc env).onRaise (fun x=>do noteFrame x env;standAt theWindowsPlace)) (hg:∃g,(clausesOf e)[d]?=some g/\g.is_async=0)
  (h0:codeAny M A (.compLoop e d it acc env) R s) (h1:∀E,wpAny M A (pyIter it) (fun it' s'=>it'=it/\s'=s) E s):codeAny M A (.compStart e d it acc env) R s:=by
 refine codeAny_of_tree ?_
 rw[hu,hden]
 refine wpAny_notedAt ?_
 obtain⟨g,eg,ea⟩:=hg
 unfold compStart
 rw[eg]
 have e1:((some g:Option Comprehension).elim false (fun x=>x.is_async != 0))=false:=by
  show(g.is_async != 0)=false
  rw[ea];rfl
 rw[e1]
 show wpAny _ _ (ask >>= _) _ _ s
 refine wpAny_bind (wpAny_askSetting (wpAny_ite ?_))
 have fin:wpAny M A (again (.compLoop e d it acc env)) (fun fin s'=>match fin with | .done f=>R (.ok f) s' | .again c=>c.quiet=true/\codeAny M A c R s') (notedBy M A env fun x s'=>R (.error x) s') s:=wpAny_pure ⟨hql it,h0⟩
 split
 .first
   |exact fin
   |exact wpAny_bind fin
   |exact wpAny_bind (wpAny_pure fin)
 .refine wpAny_bind (wpAny_rule ?_)
  refine wpAny_bind (wpAny_standAt ?_)
  refine wpAny_bind (wpAny_mono (h1 _) (fun it' s' q=>?_) fun _ _ q=>q)
  obtain⟨rfl,rfl⟩:=q
  exact fin
theorem clr_idem (own:List Nat) (σ:St):clr own (clr own σ)=clr own σ:=by
 apply List.ext_getElem?
 intro i
 by_cases h:i∈own
 .have z:∀τ:St,(clr own τ)[i]?=none\/(clr own τ)[i]?=some none:=fun τ=>by
   cases q:(clr own τ)[i]? with
   |none=>exact .inl rfl
   |some o=>
    cases o with
    |none=>exact .inr rfl
    |some v=>exact absurd h (clr_get q).2
  have hl:(clr own (clr own σ)).length=(clr own σ).length:=clr_len _ _
  rcases z (clr own σ)with a|a<;>rcases z σ with b|b<;>rw[a,b]
  .have q1:=List.getElem?_eq_none_iff.mp a
   have q2:=(List.getElem?_eq_some_iff.mp b).1
   omega
  .have q1:=List.getElem?_eq_none_iff.mp b
   have q2:=(List.getElem?_eq_some_iff.mp a).1
   omega
 .rw[clr_out h]
noncomputable def tNest {α:Type} (wi:TI) (c:It->TL α):TL α:=fun σ a H N=>wi σ H fun J H1=>c J σ a H1 N
theorem run_nest {α:Type} {Is:α->Obj->Prop} {X:Cx} {e:Expr} {d:Nat} {tg iter:Expr} {ifs:List Expr} {nx:Sem Unit} {D:Addr} {wi:TI} {g:TG} {tc:TT} {rest:TL α} {ws ws':List Nat}
  (hxe:X.xe=fun _ _=>False) (hcalm:X.calm=true)
  (hq:∀it,(Code.compLoop e (d+1) it (.ref D) X.env).quiet=true) (hu:∀it,X.A.under (Code.compLoop e (d+1) it (.ref D) X.env)=X.A)
  (hq':∀it,(Code.compStart e (d+1) it (.ref D) X.env).quiet=true) (hu':∀it,X.A.under (Code.compStart e (d+1) it (.ref D) X.env)=X.A)
  (hT:∀it,(model X.prog X.w).den (.compLoop e (d+1) it (.ref D) X.env)=(turnCode e (d+1) tg iter ifs nx it (.ref D) X.env).onRaise (fun x=>do noteFrame x X.env;theTreesLotGoes x))
  (hS:∀it,(model X.prog X.w).den (.compStart e (d+1) it (.ref D) X.env)=(compStart e (d+1) it (.ref D) X.env).onRaise (fun x=>do noteFrame x X.env;standAt theWindowsPlace))
  (hcl:∃g,(clausesOf e)[d+1]?=some g/\g.is_async=0) (hfs:∀x,foldedSetIterable iter X.env x=pure x)
  (hi:PI X tg iter wi) (hg:PG X tg g) (hge:GExt ws g) (ht:PTs X ifs tc) (hn:CompRun X D Is ws' nx rest) (hws:∀j∈ws',j∈ws) (hIs:∀a o,Is a o->∀v,o.data≠.cell v):
  CompRun X D Is ws (nestCode e d iter (.ref D) X.env) (tNest wi (tClause ws g tc rest)):=by
 intro pins s σ H a o N I hD ho ha hw
 have I1:Inv X (pins++pinsAt [D] s.heap) σ H s:=I.pinned (fun b hb=>by
  have e:b=D:=by simpa using hb
  subst e
  exact hD) (fun b hb=>by
  have e:b=D:=by simpa using hb
  subst e
  exact⟨o,ho,hIs _ _ ha⟩)
 have h1:=hi _ s σ H _ I1 hw
 rw[hxe]at h1
 unfold nestCode
 refine wpAny_bind (thn h1 fun v s1 h2=>?_)
 refine wpAny_bind (wpAny_standAt (wpAny_bind (wpAny_of_eq (hfs v) ?_)))
 refine wpAny_bind (wpAny_holding (thn h2 fun itv s2 h3=>?_))
 obtain⟨it,fp,tn,J,H2,rfl,I2,T,st2,f2,hc⟩:=h3
 have mD:(D,o)∈pinsAt [D] s.heap:=mem_pinsAt (by simp) ho
 have q2:=I2.pin (D,o) (List.mem_append_right _ (List.mem_append_right _ mD))
 have hDf:D∉fp:=fun z=>(f2 D z).2.2.2.2.2 (D,o) (List.mem_append_right _ (List.mem_append_right _ mD)) rfl
 have f2':∀b∈fp,FpOk X pins H2 b:=fun b hb=>by
  obtain⟨f0,f1,f2,f3,f4,f5⟩:=f2 b hb
  exact⟨f0,f1,f2,f3,f4,fun p hp=>f5 p (by
   rcases List.mem_append.mp hp with z|z
   .exact List.mem_append_left _ z
   .exact List.mem_append_right _ (List.mem_append_left _ z))⟩
 have L:=comp_loop (Is:=Is) (D:=D) hxe hcalm (hq _) (hu _) (hT _) T hg hge ht hn hws hIs hDf I2.unpinned f2' ⟨q2.2.1,hD.2⟩ q2.1 ha st2 hc
 have L2:=start_ok (hq' _) (hu' _) hq (hS _) hcl L (fun E=>T.self X.A 0 s2 _ E st2 ⟨rfl,rfl⟩)
 refine wpAny_bind (wpAny_runOwn (codeAny_mono L2 fun r s3 h3=>?_))
 obtain⟨rfl,a',o',H',J',e',is',n',hN⟩:=h3
 exact wpAny_pure ⟨_,a',o',H',J',Ext.clr,e',is',n',hN⟩
noncomputable def tComp (own:List Nat) (wi:TI) (g:TG) (tc:TT) (rest:TL (List V)):TE:=fun σ H Q=>wi σ H fun J H1=>tClause own g tc rest J σ [] H1 fun xs H2=>∀p,H2 p=none->Q (.ref p) (upd H2 p (.lst xs))
structure CompIn (X:Cx) (e:Expr) (scope:Scope) (tg:Expr) (iter:Expr) (ifs:List Expr) (nx:Addr->Env->Sem Unit) (g:TG) (tc:TT) (rest:TL (List V)) (own:List Nat):Prop where
 sc:CompSc X scope
 ow:∀i x,X.N[i]?=some x->(scope.names.lookup x=some .local\/scope.names.lookup x=some .cell)->i∈own
 cl:∃gs,clausesOf e=⟨tg,iter,ifs,0⟩ :: gs
 fs:∀x,foldedSetIterable iter X.env x=pure x
 calm:X.calm=true
 q:∀it D env,(Code.compLoop e 0 it (.ref D) env).quiet=true/\(Code.compStart e 0 it (.ref D) env).quiet=true
 u:∀A it D env,Around.under A (Code.compLoop e 0 it (.ref D) env)=A/\Around.under A (Code.compStart e 0 it (.ref D) env)=A
 T:∀P w it D env,(model P w).den (.compLoop e 0 it (.ref D) env)=(turnCode e 0 tg iter ifs (nx D env) it (.ref D) env).onRaise (fun x=>do noteFrame x env;theTreesLotGoes x)
 S:∀P w it D env,(model P w).den (.compStart e 0 it (.ref D) env)=(compStart e 0 it (.ref D) env).onRaise (fun x=>do noteFrame x env;standAt theWindowsPlace)
 ge:GExt own g
 inn:∀s0 H0 ex D,PG (X.comp scope s0 H0 ex) tg g/\PTs (X.comp scope s0 H0 ex) ifs tc/\∃ws',(∀j∈ws',j∈own)/\CompRun (X.comp scope s0 H0 ex) D IsL ws' (nx D (X.comp scope s0 H0 ex).env) rest
section
variable {X:Cx} {e:Expr} {scope:Scope} {tg iter:Expr} {ifs:List Expr} {nx:Addr->Env->Sem Unit} {g:TG} {tc:TT} {rest:TL (List V)} {own:List Nat} {wi:TI}
theorem comp_all (C:CompIn X e scope tg iter ifs nx g tc rest own) (hi:PI X tg iter wi) {pins:List (Addr×Obj)} {s:Shared} {σ:St} {H:Hp} {R:V->Hp->Prop} (I:Inv X pins σ H s) (hw:tComp own wi g tc rest σ H R)
  {use:Option (Value->Sem Unit)} {Q:Value->Shared->Prop} {pos:Pos}
  (fin:∀(s3 s':Shared) (H0 H':Hp) (ex:List Addr) (D:Addr) (xs:List V) (o:Obj) (σ':St),Inv X pins σ H0 s3->(∀b∈ex,FpOk X pins H0 b)->Inv (X.comp scope s3 H0 ex) [] σ' H' s'->s'.heap.get? D=some o->D<s3.heap.objs.size->X.s₀.heap.objs.size<=D->FpOk X pins H0 D->IsL xs o->H' D=none->R (.ref D) (upd H' D (.lst xs))->
   compPost (model X.prog X.w) X.A X.xe use Q (.ref D) s3.heap.objs.size (.ok .next) s'):
  wpAny (model X.prog X.w) X.A (comprehension e scope X.env pos (newList []) false (eval iter X.env) use) Q X.xe s:=by
 obtain⟨gs,hcl⟩:=C.cl
 refine wpAny_comprehension_free hcl C.fs (closFor fun n hn=>I.ok.has n (C.sc.free n hn)) C.sc.kind C.sc.names ?_
 refine thn (hi pins s σ H _ I hw) fun v s1 h1=>thn h1 fun itv s2 h2=>?_
 obtain⟨it,fp,tn,J,H2,rfl,I2,T,st2,f2,hc⟩:=h2
 refine wpAny_newObj_type (wpAny_compEnv ?_)
 have keep:∀b o,s2.heap.get? b=some o->(s2.heap.push { cls:=.type "list",dict:=none,data:=.seq ([]:List Value).toArray }).get? b=some o:=fun b o e=>Heap.get?_push_of_some _ e
 have I3:Inv X pins σ H2 { s2 with heap:=s2.heap.push { cls:=.type "list",dict:=none,data:=.seq ([]:List Value).toArray } }:=I2.kept (t':=s2.toks) keep
 have hsz:(s2.heap.push { cls:=.type "list",dict:=none,data:=.seq ([]:List Value).toArray }).objs.size=s2.heap.objs.size+1:=Heap.size_push ..
 have fD:FpOk X pins H2 s2.heap.objs.size:=I2.fpOk (Nat.le_refl _) (I2.hok.fresh (Nat.le_refl _))
 have hlt:∀b∈fp,b<s2.heap.objs.size:=fun b hb=>by
  obtain⟨o,e,_⟩:=T.obj _ _ st2 b hb
  exact Heap.lt_size e
 have hDf:s2.heap.objs.size∉fp:=fun z=>Nat.lt_irrefl _ (hlt _ z)
 have hex:∀b∈s2.heap.objs.size :: fp,FpOk X pins H2 b:=fun b hb=>by
  rcases List.mem_cons.mp hb with rfl|hb
  .exact fD
  .exact f2 b hb
 generalize hs3:({ s2 with heap:=s2.heap.push { cls:=.type "list",dict:=none,data:=.seq ([]:List Value).toArray } }:Shared)=s3 at *
 have hs3s:s3.heap.objs.size=s2.heap.objs.size+1:=by rw[<- hs3];exact hsz
 have hlt3:∀b∈s2.heap.objs.size :: fp,b<s3.heap.objs.size:=fun b hb=>by
  rw[hs3s]
  rcases List.mem_cons.mp hb with rfl|hb
  .exact Nat.lt_succ_self _
  .exact Nat.lt_succ_of_lt (hlt b hb)
 have J0:=comp_start (own:=own) I3 hex hlt3 C.sc C.ow
 obtain⟨c1,c2,ws',c4,c5⟩:=C.inn s3 H2 (s2.heap.objs.size :: fp) s2.heap.objs.size
 have kp:∀b o,s2.heap.get? b=some o->(compHeap s3.heap scope.names).get? b=some o:=fun b o e=>pushCells_keeps _ _ b o (Heap.get?_push_of_some _ (by rw[<- hs3];exact keep b o e))
 have oD:(compHeap s3.heap scope.names).get? s2.heap.objs.size=some { cls:=.type "list",dict:=none,data:=.seq ([]:List Value).toArray }:=pushCells_keeps _ _ _ _ (Heap.get?_push_of_some _ (by rw[<- hs3];exact Heap.get?_push_size _ rfl))
 have stat:∀b∈s2.heap.objs.size :: fp,FpOk (X.comp scope s3 H2 (s2.heap.objs.size :: fp)) [] H2 b:=fun b hb=>
  ⟨(hex b hb).1,(J0.ok.exf b hb).1,J0.ok.exfs b hb,.inl hb,(J0.ok.exf b hb).2,fun p hp=>absurd (show p∈([]:List (Addr×Obj)) from hp) (by simp)⟩
 have T':Turn (X.comp scope s3 H2 (s2.heap.objs.size :: fp)).prog (X.comp scope s3 H2 (s2.heap.objs.size :: fp)).w (X.comp scope s3 H2 (s2.heap.objs.size :: fp)).K tg J fp it tn:=T
 have hc':tClause own g tc rest J (clr own σ) [] H2 (fun xs H2=>∀p,H2 p=none->R (.ref p) (upd H2 p (.lst xs))):=by
  obtain⟨W,w0,turn⟩:=hc
  refine⟨W,w0,?_⟩
  rw[clr_idem]
  exact turn
 have st3:tn 0 ({ s3 with heap:=compHeap s3.heap scope.names }:Shared).heap:=T.keep _ _ _ st2 fun b hb o e=>kp b o e
 have L:=comp_loop (X:=X.comp scope s3 H2 (s2.heap.objs.size :: fp)) (Is:=IsL) (D:=s2.heap.objs.size) rfl C.calm (C.q _ _ _).1 (C.u _ _ _ _).1 (C.T _ _ _ _ _) T' c1 C.ge c2 c5 c4 isL_data hDf J0
  (fun b hb=>stat b (List.mem_cons_of_mem _ hb)) (stat _ List.mem_cons_self) oD ⟨Nat.zero_le _,[],0,.nil,rfl⟩ st3 hc'
 have L2:=start_ok (C.q _ _ _).2 (C.u _ _ _ _).2 (fun it'=>(C.q it' _ _).1) (C.S _ _ _ _ _) ⟨_,by rw[hcl];rfl,rfl⟩ L (fun E=>T.self _ 0 _ _ E st3 ⟨rfl,rfl⟩)
 refine codeAny_mono L2 fun r s' h=>?_
 obtain⟨rfl,xs,o',H',J',e',is',n',hN⟩:=h
 exact fin s3 s' H2 H' _ _ xs o' _ I3 hex J' e' (hlt3 _ List.mem_cons_self) I2.sz fD is' n' (hN _ n')
end
section
variable {X:Cx} {pins:List (Addr×Obj)} {σ:St} {H H':Hp} {s s':Shared} {D:Addr} {o:HO}
theorem Inv.track (I:Inv X pins σ H s) (f:FpOk X pins H D) (h0:X.s₀.heap.objs.size<=D) (new:ObjOk X.prog X.w (upd H D o) s.heap D o):Inv X pins σ (upd H D o) s:=by
 obtain⟨f0,f1,f2,f3,f4,f5⟩:=f
 have ne:∀b ob,X.s₀.heap.get? b=some ob->b≠D:=fun b ob e=>Nat.ne_of_lt (Nat.lt_of_lt_of_le (Heap.lt_size e) h0)
 have neT:∀b u,H b=some u->b≠D:=fun b u e z=>by rw[z,f0]at e;cases e
 refine⟨I.ok,I.os,I.bare,⟨I.base.keep,I.base.slot,fun b ob e n hx=>by rw[upd_ne (ne b ob e)];exact I.base.free b ob e n hx,I.base.there,fun b xs e=>?_,fun b ob u e=>?_,fun b ps e=>?_⟩,I.loc,I.cell,?_,fun x c e=>?_,fun p hp=>?_,fun b u e=>?_,I.len⟩
 .have q:=I.base.tups b xs e
  rw[upd_ne (neT b _ q)];exact q
 .have q:=I.base.frzs b ob u e
  rw[upd_ne (neT b _ q)];exact q
 .obtain⟨m,q⟩:=I.base.tbls b ps e
  exact⟨m,by rw[upd_ne (neT b _ q)];exact q⟩
 .rw[upd_ne (Ne.symm f1)];exact I.free
 .rw[upd_ne (f4 x c e)];exact I.freeC x c e
 .obtain⟨e,n,r⟩:=I.pin p hp
  refine⟨e,?_,r⟩
  rw[upd_ne (f5 p hp)];exact n
 .by_cases hb:b=D
  .subst hb
   rw[upd_same]at e;cases e
   exact new
  .rw[upd_ne hb]at e
   exact(I.hok b u e).stay (fun _ _ _ q=>q) (fun c q=>by rw[upd_ne (neT c _ q)];exact q) fun c xs q=>by rw[upd_ne (neT c _ q)];exact q
end
section
variable {X:Cx} {e:Expr} {scope:Scope} {tg iter:Expr} {ifs:List Expr} {nx:Addr->Env->Sem Unit} {g:TG} {tc:TT} {rest:TL (List V)} {own:List Nat} {wi:TI}
theorem pe_comp (C:CompIn X e scope tg iter ifs nx g tc rest own) (hi:PI X tg iter wi) {pos:Pos} (he:eval e X.env=comprehension e scope X.env pos (newList []) false (eval iter X.env)):PE X e (tComp own wi g tc rest):=by
 intro pins s σ H Q I hw
 rw[he]
 refine comp_all C hi I hw fun s3 s' H0 H' ex D xs o σ' I3 hex J e' hlt h0 fD is' n' hR=>?_
 obtain⟨m,hn,_⟩:=J.loc
 refine⟨m,hn,fun h' hs=>?_⟩
 have J2:=comp_end I3 hex J hs
 obtain⟨z,its,n,rv,rfl⟩:=is'
 have neC:D≠s3.heap.objs.size:=Nat.ne_of_lt hlt
 refine⟨.ref D,upd H' D (.lst xs),J2.track (o:=.lst xs) ⟨n',fD.2⟩ h0 ⟨z,its,n,rv,(hs.2 D neC).trans e'⟩,rfl,hR⟩
theorem ps_setcomp (C:CompIn X e scope tg iter ifs nx g tc rest own) (hi:PI X tg iter wi) {i:Nat} {y:Str} {py pos pos2:Pos} (hN:X.N.Nodup) (hy:X.N[i]?=some y) (hx:Loc X.env.scope y) (hf:X.fn y=true\/X.env.scope.names.lookup y=some .local)
  (he:evalThenUse e X.env (assign (.Name y py) X.env)=(do let _ <- comprehension e scope X.env pos2 (newList []) false (eval iter X.env) (some (assign (.Name y py) X.env))))
  (hsw:swapsWith e (some (.Name y py)) pos.line X.env=pure true):PS X (.Assign [.Name y py] e pos) (tAsg (tComp own wi g tc rest) (gName i)):=by
 intro pins s σ H D I hw
 rw[exec_Assign_Name_used _ _ _ _ hsw]
 refine wpAny_bind (wpAny_standAt (wpAny_bind ?_))
 rw[he]
 refine wpAny_bind (thn (Q:=fun _ s'=>SP X pins D .next s') (comp_all C hi I hw fun s3 s' H0 H' ex D' xs o σ' I3 hex J e' hlt h0 fD is' n' hR=>?_) fun _ s' q=>wpAny_pure (wpAny_pure q))
 obtain⟨m,hn,_⟩:=J.loc
 have J2:Inv X pins σ H' s':=comp_end I3 hex J (Heap.SameBut.refl ..)
 obtain⟨z,its,n,rv,rfl⟩:=is'
 have neC:D'≠s3.heap.objs.size:=Nat.ne_of_lt hlt
 have J3:Inv X pins σ (upd H' D' (.lst xs)) s':=J2.track ⟨n',fD.2⟩ h0 ⟨z,its,n,rv,e'⟩
 have fC:FpOk X pins H0 s3.heap.objs.size:=I3.fpOk (Nat.le_refl _) (I3.hok.fresh (Nat.le_refl _))
 refine wpAny_assign_Name (store_ok2 J3 hN hy hx (v:=.ref D') rfl (fun s'' J4 hs=>?_) hf)
 obtain⟨a,hsa,ha⟩:=hs
 have haC:s3.heap.objs.size≠a:=by
  rcases ha with rfl|ha
  .exact fC.2.1
  .exact fun q=>fC.2.2.2.2.1 _ _ ha q.symm
 have hn':s'.heap.Ns s3.heap.objs.size m:=hn
 refine⟨m,hn'.sameBut hsa haC,fun h' hs'=>?_⟩
 have J5:Inv X pins (σ.set i (some (.ref D'))) (upd H' D' (.lst xs)) { s'' with heap:=h' }:=J4.turned (it:=s3.heap.objs.size) (t':=s''.toks) (fun b ob hb q=>(hs'.2 b hb).trans q) (by rw[upd_ne (Ne.symm neC)];exact J.free) fC.2.1 fC.2.2.2.1 fC.2.2.2.2.1 fC.2.2.2.2.2
 exact⟨_,_,J5,hR⟩
end
noncomputable def SItr:Bool->Heap->Addr->Addr->Nat->Prop
 |true,h,it,a,i=>h.IsTupleIter it a i
 |false,h,it,a,i=>h.IsListIter it a i
noncomputable def SObj:Bool->Heap->Addr->Array Value->Prop
 |true,h,a,xs=>h.IsTuple a xs
 |false,h,a,xs=>h.IsList a xs
theorem SItr.obj {k:Bool} {h:Heap} {it a:Addr} {i:Nat} (x:SItr k h it a i):∃o,h.get? it=some o/\o.data=.fields #[.ref a,.int i 0]:=by
 cases k
 .obtain⟨o,e,_,d⟩:=x;exact⟨o,e,d⟩
 .obtain⟨o,e,_,d⟩:=x;exact⟨o,e,d⟩
theorem SItr.at {k:Bool} {h h':Heap} {it a:Addr} {i:Nat} (x:SItr k h it a i) (hk:∀o,h.get? it=some o->h'.get? it=some o):SItr k h' it a i:=by
 cases k
 .obtain⟨o,e,r⟩:=x;exact⟨o,hk o e,r⟩
 .obtain⟨o,e,r⟩:=x;exact⟨o,hk o e,r⟩
theorem SObj.at {k:Bool} {h h':Heap} {a:Addr} {xs:Array Value} (x:SObj k h a xs) (hk:∀o,h.get? a=some o->h'.get? a=some o):SObj k h' a xs:=by
 cases k
 .obtain⟨o,e,r⟩:=x;exact⟨o,hk o e,r⟩
 .obtain⟨o,e,r⟩:=x;exact⟨o,hk o e,r⟩
section
variable {prog:Program} {w:World} {A:Around} {E:Value->Shared->Prop} {s:Shared}
theorem nextOf_item {k:Bool} {it l:Addr} {i:Nat} {items:Array Value} {x:Value} {Q:Value->Shared->Prop} (hit:SItr k s.heap it l i) (hl:SObj k s.heap l items) (hx:items[i]?=some x)
  (hQ:∀h',SItr k h' it l (i+1)->Heap.SameBut it s.heap h'->Q x { s with heap:=h' }):wpAny (model prog w) A (Builtin.SmallTypes.nextOf (.ref it)) Q E s:=by
 cases k
 .exact wpAny_nextOf_list_item hit hl hx hQ
 .have hit:s.heap.IsTupleIter it l i:=hit
  have hl:s.heap.IsTuple l items:=hl
  obtain⟨o,ho,hc,hd⟩:=id hit
  obtain⟨ol,hol,_,nl,hdl⟩:=hl
  unfold Builtin.SmallTypes.nextOf
  refine wpAny_bind (wpAny_callSpecial?_slot (name:=Str.ofString "__next__") hit.typeIs F.slot_tuple_iterator_next
   (wpAny_call_entry F.slot_tuple_iterator_next hit.typeIs F.entry_tuple_iterator_next ?_ (F.args_tuple_iterator_next_1 _)))
  show wpAny _ _ (field (.ref it) 0 >>= _) _ _ s
  refine wpAny_bind (wpAny_field ho hd (x:=.ref l) rfl ?_)
  show wpAny _ _ (if(Value.ref l == Value.none)=true then _ else _) _ _ s
  rw[if_neg (show ¬((Value.ref l == Value.none)=true) from Bool.false_ne_true)]
  show wpAny _ _ (field (.ref it) 1 >>= _) _ _ s
  refine wpAny_bind (wpAny_field ho hd (x:=.int i 0) rfl ?_)
  show wpAny _ _ (seqItems? (.ref l) >>= _) _ _ s
  refine wpAny_bind (wpAny_seqItems hol hdl ?_)
  simp only[Int.toNat_natCast,hx]
  refine wpAny_bind (wpAny_setField ho hd (by simp) (wpAny_pure ⟨x,rfl,wpAny_pure (hQ _ ?_ (Heap.SameBut.update ..))⟩))
  exact⟨_,Heap.get?_update_self _ ho (Obj.isFreed_of_fields (Obj.data_mapFields hd _)),(Obj.cls_mapFields ..).trans hc,by
   rw[Obj.data_mapFields hd];simp[rawInt]⟩
theorem nextOf_end {k:Bool} {it l:Addr} {i:Nat} {items:Array Value} {Q:Value->Shared->Prop} (hh:A.handled=none) (hit:SItr k s.heap it l i) (hl:SObj k s.heap l items) (hx:items[i]?=none)
  (hE:∀h' e,Heap.ExtBut it s.heap h'->(∃o,h'.get? e=some o/\o.cls=.type "StopIteration")->E (.ref e) { s with heap:=h' }):wpAny (model prog w) A (Builtin.SmallTypes.nextOf (.ref it)) Q E s:=by
 cases k
 .exact wpAny_nextOf_list_end hh hit hl hx hE
 .have hit:s.heap.IsTupleIter it l i:=hit
  have hl:s.heap.IsTuple l items:=hl
  obtain⟨o,ho,hc,hd⟩:=id hit
  obtain⟨ol,hol,_,nl,hdl⟩:=hl
  unfold Builtin.SmallTypes.nextOf
  refine wpAny_bind (wpAny_callSpecial?_slot (name:=Str.ofString "__next__") hit.typeIs F.slot_tuple_iterator_next
   (wpAny_call_entry F.slot_tuple_iterator_next hit.typeIs F.entry_tuple_iterator_next ?_ (F.args_tuple_iterator_next_1 _)))
  show wpAny _ _ (field (.ref it) 0 >>= _) _ _ s
  refine wpAny_bind (wpAny_field ho hd (x:=.ref l) rfl ?_)
  show wpAny _ _ (if(Value.ref l == Value.none)=true then _ else _) _ _ s
  rw[if_neg (show ¬((Value.ref l == Value.none)=true) from Bool.false_ne_true)]
  show wpAny _ _ (field (.ref it) 1 >>= _) _ _ s
  refine wpAny_bind (wpAny_field ho hd (x:=.int i 0) rfl ?_)
  show wpAny _ _ (seqItems? (.ref l) >>= _) _ _ s
  refine wpAny_bind (wpAny_seqItems hol hdl ?_)
  simp only[Int.toNat_natCast,hx]
  refine wpAny_bind (wpAny_rule (wpAny_bind (wpAny_setField ho hd (by simp) ?_)))
  show wpAny _ _ (newExc (.type "StopIteration") [] >>= _) _ _ _
  refine wpAny_bind ?_
  simp only[newExc,newTuple]
  refine wpAny_bind (wpAny_newObj_type ?_ (by size_fits))
  refine wpAny_bind (m:=firstArgMember _ _) (wpAny_of_eq (a:=Value.none) (by first|rfl|(simp only[firstArgMember];rfl)) ?_)
  refine wpAny_newObj_type ?_ (by size_fits)
  simp only[raiseNew]
  refine wpAny_bind (wpAny_handled ?_)
  first|rw[show A.in1.handled=none from hh]|rw[hh]
  refine wpAny_bind (wpAny_pure (wpAny_throw ?_))
  exact hE _ _ (((Heap.SameBut.update ..).extBut.push _).push _) ⟨_,Heap.get?_push_size _ rfl,rfl⟩
end
section
variable {prog:Program} {w:World} {A:Around} {E:Value->Shared->Prop} {s:Shared}
end
noncomputable def Its (x:Str):It:=⟨fun i _=>i<x.cps.size,fun i H v H'=>H'=H/\∃c,x.cps[i]?=some c/\v=.str ⟨#[c]⟩,fun i _=>x.cps.size<=i⟩
theorem turn_str {P:Program} {w:World} {K:W.Frag} {tg:Expr} (it:Addr) (x:Str) (ty:String) (t:Tok) (hty:ty="str_ascii_iterator"\/ty="str_iterator"):
  Turn P w K tg (Its x) [it] it (fun i h=>h.IsStrIter it ty x t i) where
 mem:=by simp
 obj:=fun i h st b hb=>by
  have e:b=it:=by simpa using hb
  subst e
  obtain⟨o,e,c,d⟩:=st
  exact⟨o,e,fun v z=>by rw[d]at z;cases z⟩
 keep:=fun i h h' st k=>by
  obtain⟨o,e,r⟩:=st
  exact⟨o,k it (by simp) o e,r⟩
 item:=by
  intro X hP hw hK hc i pins s σ H E I hf st hg
  subst hP hw hK
  obtain⟨f0,f1,f2,f3,f4,f5⟩:=hf it (by simp)
  have hg':i<x.cps.size:=hg
  have hx:x.cps[i]?=some x.cps[i]:=by simp[hg']
  have fin:∀h',h'.IsStrIter it ty x t (i+1)->Heap.SameBut it s.heap h'->∃u,some (Value.str ⟨#[x.cps[i]]⟩ s.toks)=some u/\
    wpAny (model X.prog X.w) X.A (letOwnedTupleGo tg (.ref it) u) (fun _ s2=>∃y H',Inv X pins σ H' s2/\RelV y u/\(Its x).yld i H y H'/\s2.heap.IsStrIter it ty x t (i+1)/\∀b∈[it],H' b=none) E { s with heap:=h',toks:=s.toks+1 }:=fun h' st' sb=>by
   have I1:Inv X pins σ H { s with heap:=h',toks:=s.toks+1 }:=I.turned (fun b o hb e=>(sb.2 b hb).trans e) f0 f1 f3 f4 f5
   obtain⟨o,e,c,d⟩:=id st'
   refine⟨_,rfl,go_of (s:={ s with heap:=h',toks:=s.toks+1 }) e c d ?_ ⟨.str ⟨#[x.cps[i]]⟩,H,I1,⟨_,rfl⟩,⟨rfl,_,hx,rfl⟩,st',fun b hb=>(hf b hb).1⟩⟩
   rcases hty with rfl|rfl<;>decide
  rcases hty with rfl|rfl
  .exact wpAny_pyNext_ascii_item st hx fin
  .exact wpAny_pyNext_wide_item st hx fin
 done:=by
  intro X hP hw hK hc i pins s σ H E I hf st hg
  subst hP hw hK
  obtain⟨f0,f1,f2,f3,f4,f5⟩:=hf it (by simp)
  have hg':x.cps.size<=i:=hg
  have hx:x.cps[i]?=none:=by simp[hg']
  have fin:∀h',Heap.ExtBut it s.heap h'->(none:Option Value)=none/\Inv X pins σ H { s with heap:=h' }:=fun h' eb=>⟨rfl,I.turned (t':=s.toks) (fun b o hb e=>eb b o hb e) f0 f1 f3 f4 f5⟩
  rcases hty with rfl|rfl
  .exact wpAny_pyNext_ascii_end (I.ok.hd hc) st hx fin
  .exact wpAny_pyNext_wide_end (I.ok.hd hc) st hx fin
 self:=fun _ _ _ _ _ st h=>by
  rcases hty with rfl|rfl
  .exact wpAny_pyIter_striter_ascii st h
  .exact wpAny_pyIter_striter_wide st h
def Sq (k:Bool) (K:W.Frag) (H:Hp) (a:Addr) (xs:List V):Prop:=match k with
 |true=>SqT K H a xs
 |false=>SqL K H a xs
noncomputable def Itz2 (k j:Bool) (K:W.Frag) (a b:Addr):It:=
 ⟨fun i H=>∃xs ys x y,Sq k K H a xs/\Sq j K H b ys/\xs[i]?=some x/\ys[i]?=some y,
  fun i H v H'=>∃p x y,v=.ref p/\H p=none/\(∀xs,Sq k K H a xs->xs[i]?=some x)/\(∀ys,Sq j K H b ys->ys[i]?=some y)/\H'=upd H p (.tup [x,y]),
  fun i H=>∃xs ys,Sq k K H a xs/\Sq j K H b ys/\(xs.length<=i\/ys.length<=i)⟩
section
variable {X:Cx} {tg:Expr}
noncomputable def iVal (K:W.Frag) (tl:TE):TI:=fun σ H R=>tl σ H fun x H1=>
 (∃a,x=.ref a/\(∃xs,SqL K H1 a xs)/\R (Itl K a) H1)\/(∃a,x=.ref a/\(∃xs,SqT K H1 a xs)/\R (Itt K a) H1)\/∃z,x=.str z/\R (Its z) H1
theorem pi_val {l:Expr} {tl:TE} (hl:PE X l tl):PI X tg l (iVal X.K tl):=by
 intro pins s σ H R I h
 refine thn (hl pins s σ H _ I h) fun v s1 ⟨x,H1,I1,r1,q1⟩=>?_
 rcases q1 with⟨a,e,⟨xs,hq⟩,q⟩|⟨a,e,⟨xs,hq⟩,q⟩|⟨z,e,q⟩
 .subst e
  cases r1
  obtain⟨its,rv,p,hz⟩:=I1.list hq
  refine wpAny_pyIter_list p.isList ?_
  refine⟨s1.heap.objs.size,[s1.heap.objs.size],_,_,H1,rfl,I1.kept (t':=s1.toks) fun b o e=>Heap.get?_push_of_some _ e,turn_list a _,⟨_,Heap.get?_push_size _ rfl,rfl,rfl⟩,fun b hb=>?_,q⟩
  have e:b=s1.heap.objs.size:=by simpa using hb
  subst e
  exact I1.fpOk (Nat.le_refl _) (I1.hok.fresh (Nat.le_refl _))
 .subst e
  cases r1
  obtain⟨its,rv,p,hz⟩:=I1.tuple hq
  refine wpAny_pyIter_tuple (show s1.heap.IsTuple a its.toArray from p) ?_
  refine⟨s1.heap.objs.size,[s1.heap.objs.size],_,_,H1,rfl,I1.kept (t':=s1.toks) fun b o e=>Heap.get?_push_of_some _ e,turn_tuple a _,⟨_,Heap.get?_push_size _ rfl,rfl,rfl⟩,fun b hb=>?_,q⟩
  have e:b=s1.heap.objs.size:=by simpa using hb
  subst e
  exact I1.fpOk (Nat.le_refl _) (I1.hok.fresh (Nat.le_refl _))
 .subst e
  obtain⟨t,rfl⟩:=r1
  have fin:∀(ty:String),(ty="str_ascii_iterator"\/ty="str_iterator")->PIE X pins σ tg R (.ref s1.heap.objs.size) { s1 with heap:=s1.heap.push { cls:=.type ty,data:=.fields #[.str z t,.int 0 0] } }:=fun ty hty=>by
   refine⟨s1.heap.objs.size,[s1.heap.objs.size],_,_,H1,rfl,I1.kept (t':=s1.toks) fun b o e=>Heap.get?_push_of_some _ e,turn_str _ z ty t hty,⟨_,Heap.get?_push_size _ rfl,rfl,rfl⟩,fun b hb=>?_,q⟩
   have e:b=s1.heap.objs.size:=by simpa using hb
   subst e
   exact I1.fpOk (Nat.le_refl _) (I1.hok.fresh (Nat.le_refl _))
  cases ha:z.cps.all (· < 128)
  .exact wpAny_pyIter_wide ha (fin _ (.inr rfl))
  .exact wpAny_pyIter_ascii ha (fin _ (.inl rfl))
end
noncomputable def Itd (go:Nat->Hp->Prop) (val:Nat->Hp->V->Prop) (stop:Nat->Hp->Prop):It:=
 ⟨go,fun i H v H'=>∃p x,v=.ref p/\H p=none/\val i H x/\H'=upd H p (.tup [.int i,x]),stop⟩
structure EnSrc (P:Program) (w:World) (K:W.Frag) (e it:Addr) (Sx:Nat->Heap->Prop) (go:Nat->Hp->Prop) (val:Nat->Hp->V->Prop) (stop:Nat->Hp->Prop):Prop where
 ne:e≠it
 obj:∀i h,Sx i h->∃o,h.get? it=some o/\∀v,o.data≠.cell v
 keep:∀i h h',Sx i h->(∀o,h.get? it=some o->h'.get? it=some o)->Sx i h'
 item:∀(X:Cx),X.prog=P->X.w=w->X.K=K->X.calm=true->∀(i:Nat) (pins:List (Addr×Obj)) (s:Shared) (σ:St) (H:Hp),Inv X pins σ H s->H e=none->H it=none->e<s.heap.objs.size->(∃old,IsEnum s.heap e it i old)->Sx i s.heap->go i H->
  ∃n Pd Sd fp,Draws P w X.A.in1 it fp n Pd Sd/\e∉fp/\i<n/\Sd i s.heap/\(∀j h,Sd j h->Sx j h)/\∀u,Pd i u->∃x,RelV x u/\val i H x
 done:∀(X:Cx),X.prog=P->X.w=w->X.K=K->X.calm=true->∀(i:Nat) (pins:List (Addr×Obj)) (s:Shared) (σ:St) (H:Hp),Inv X pins σ H s->H e=none->H it=none->(∃old,IsEnum s.heap e it i old)->Sx i s.heap->stop i H->
  ∃Pd Sd fp,Draws P w X.A.in1 it fp i Pd Sd/\Sd i s.heap
theorem turn_enum {P:Program} {w:World} {K:W.Frag} {elts:List Expr} {kt:Nat} {pt:Pos} {e it:Addr} {Sx:Nat->Heap->Prop} {go:Nat->Hp->Prop} {val:Nat->Hp->V->Prop} {stop:Nat->Hp->Prop} (S:EnSrc P w K e it Sx go val stop):
  Turn P w K (.Tuple elts kt pt) (Itd go val stop) [e,it] e (fun i h=>(∃old,IsEnum h e it i old)/\Sx i h) where
 mem:=by simp
 obj:=fun i h st b hb=>by
  obtain⟨⟨old,he⟩,hs⟩:=st
  simp only[List.mem_cons,List.not_mem_nil,or_false]at hb
  rcases hb with rfl|rfl
  .exact⟨_,he,fun v=>(nomatch ·)⟩
  .exact S.obj i h hs
 keep:=fun i h h' st kk=>by
  obtain⟨⟨old,he⟩,hs⟩:=st
  exact⟨⟨old,kk e (by simp) _ he⟩,S.keep i h h' hs fun o q=>kk it (by simp) o q⟩
 item:=by
  intro X hP hw hK hc i pins s σ H E I hf st hg
  have hfe:=hf e (by simp)
  have hfi:=hf it (by simp)
  obtain⟨n,Pd,Sd,fp,D,hefp,hin,hsd,hsub,hval⟩:=S.item X hP hw hK hc i pins s σ H I hfe.1 hfi.1 (Heap.lt_size st.1.choose_spec) st.1 st.2 hg
  obtain⟨⟨old,he⟩,hs⟩:=st
  subst hP hw hK
  refine wpAny_pyNext_enum_itemD D he hsd hin S.ne hefp fun u h' tk hPu ho hs' hT hsz hk=>?_
  obtain⟨x,rx,vx⟩:=hval u hPu
  refine⟨_,rfl,wpAny_letOwnedTupleGo_enum (s:={ s with heap:=h',toks:=tk+1 }) ho fun h'' he'' hb=>?_⟩
  have hb':Heap.SameBut e h' h'':=hb
  have elt:e<s.heap.objs.size:=Heap.lt_size he
  have neT:s.heap.objs.size≠e:=Nat.ne_of_gt elt
  have hTn:H s.heap.objs.size=none:=I.hok.fresh (Nat.le_refl _)
  have hkk:∀c o,c∉[e,it]->s.heap.get? c=some o->h''.get? c=some o:=fun c o hc q=>by
   simp only[List.mem_cons,List.not_mem_nil,or_false,not_or]at hc
   exact(hb'.2 c hc.1).trans (hk c o hc.1 hc.2 q)
  have trk:∀c o,H c=some o->c∉[e,it]:=fun c o q hc=>by rw[(hf c hc).1]at q;cases q
  have I1:Inv X pins σ (upd H s.heap.objs.size (.tup [.int i,x])) { s with heap:=h'',toks:=tk+1 }:=by
   refine I.step (g':=s.gens) (d':=s.drawn) (t':=tk+1) (ch:=[e,it]) (fun c hc=>?_) (fun c o _ _ hc q _=>hkk c o hc q) (fun c o _ _ hc q _=>⟨o.slots,hkk c o hc q⟩)
    (fun c o _ q n=>by rw[upd_ne (Nat.ne_of_lt (Heap.lt_size q))];exact n) (fun c o hc q=>⟨o,hkk c o hc q⟩) (fun c ps q=>by rw[upd_ne (ne_of_none q hTn)];exact q) (fun c o p q=>by rw[upd_ne (ne_of_none q hTn)];exact q)
    (fun c ps q=>⟨#[],by rw[upd_ne (ne_of_none q hTn),q];simp⟩) (fun m hm=>?_) (fun c o q=>?_) I.bare
   .obtain⟨f0,f1,f2,f3,f4,f5⟩:=hf c hc
    exact⟨f3,f1,f4,f5⟩
   .obtain⟨oo,es,ep,ho,r⟩:=hm
    exact⟨oo,es,ep,hkk _ oo (fun hc=>(hf _ hc).2.1 rfl) ho,r⟩
   .by_cases hb:c=s.heap.objs.size
    .subst hb
     rw[upd_same]at q;cases q
     exact⟨by show 2<=sizeLine;decide,[.int i tk,u],.cons ⟨_,rfl⟩ (.cons rx .nil),⟨_,(hb'.2 _ neT).trans hT,rfl,⟨_,rfl⟩,rfl⟩⟩
    .rw[upd_ne hb]at q
     refine(I.hok c o q).stay (fun d q hd eq=>hkk d q ?_ eq) (fun d q=>by rw[upd_ne (ne_of_none q hTn)];exact q) fun d qs q=>by rw[upd_ne (ne_of_none q hTn)];exact q
     rcases hd with rfl|hd
     .exact trk _ _ (by assumption)
     .exact trk _ _ hd
  refine⟨.ref s.heap.objs.size,_,I1,rfl,⟨s.heap.objs.size,x,rfl,hTn,vx,rfl⟩,⟨⟨_,he''⟩,S.keep _ _ _ (hsub _ _ hs') fun o q=>(hb'.2 it (Ne.symm S.ne)).trans q⟩,fun c hc=>?_⟩
  rw[upd_ne]
  .exact(hf c hc).1
  .intro q
   subst q
   simp only[List.mem_cons,List.not_mem_nil,or_false]at hc
   rcases hc with q|q
   .exact neT q
   .obtain⟨o,e1,_⟩:=S.obj _ _ hs
    exact Nat.lt_irrefl _ (q ▸ Heap.lt_size e1)
 done:=by
  intro X hP hw hK hc i pins s σ H E I hf st hg
  have hfe:=hf e (by simp)
  have hfi:=hf it (by simp)
  obtain⟨Pd,Sd,fp,D,hsd⟩:=S.done X hP hw hK hc i pins s σ H I hfe.1 hfi.1 st.1 st.2 hg
  obtain⟨⟨old,he⟩,hs⟩:=st
  subst hP hw hK
  refine wpAny_pyNext_enum_endD D he hsd fun h' hx=>⟨rfl,?_⟩
  obtain⟨f0,f1,f2,f3,f4,f5⟩:=hfi
  exact I.turned (t':=s.toks) (fun b o hb q=>hx b o hb q) f0 f1 f3 f4 f5
 self:=fun _ _ _ _ _ st h=>by
  obtain⟨⟨old,he⟩,_⟩:=st
  exact wpAny_pyIter_enum he h
noncomputable def Ite (K:W.Frag) (a:Addr):It:=Itd (fun i H=>∃xs x,SqL K H a xs/\xs[i]?=some x) (fun i H x=>∀xs,SqL K H a xs->xs[i]?=some x) (fun i H=>∃xs,SqL K H a xs/\xs.length=i)
theorem en_list {P:Program} {w:World} {K:W.Frag} {e it a:Addr} (ne:e≠it) (na:a≠e) (nai:a≠it):EnSrc P w K e it (fun i h=>h.IsListIter it a i) (fun i H=>∃xs x,SqL K H a xs/\xs[i]?=some x) (fun i H x=>∀xs,SqL K H a xs->xs[i]?=some x) (fun i H=>∃xs,SqL K H a xs/\xs.length=i) where
 ne:=ne
 obj:=fun i h st=>by
  obtain⟨o,q,c,d⟩:=st
  exact⟨o,q,fun v z=>by rw[d]at z;cases z⟩
 keep:=fun i h h' st k=>st.at k
 item:=by
  intro X hP hw hK hc i pins s σ H I _ _ _ _ st hg
  obtain⟨xs,x,hxs,hx⟩:=hg
  subst hP hw hK
  obtain⟨its,rv,p,hz⟩:=I.list hxs
  have hl:=rv.length
  obtain⟨u,hu,ru⟩:=rv.get hx
  refine⟨_,_,_,_,Draws.list (show X.A.in1.handled=none from I.ok.hd hc) it a nai its.toArray,?_,?_,⟨st,p.isList⟩,fun j h q=>q.1,fun u' hu'=>⟨x,?_,fun ys hys=>by rw[I.list_inj hys hxs];exact hx⟩⟩
  .simp only[List.mem_cons,List.not_mem_nil,or_false,not_or]
   exact⟨ne,Ne.symm na⟩
  .have:=(List.getElem?_eq_some_iff.mp hx).1
   simp;omega
  .have e2:its[i]?=some u':=by simpa using hu'
   rw[hu]at e2
   cases e2
   exact ru
 done:=by
  intro X hP hw hK hc i pins s σ H I _ _ _ st hg
  obtain⟨xs,hxs,hx⟩:=hg
  subst hP hw hK
  obtain⟨its,rv,p,hz⟩:=I.list hxs
  have hl:=rv.length
  have e:i=its.toArray.size:=by simp;omega
  subst e
  exact⟨_,_,_,Draws.list (show X.A.in1.handled=none from I.ok.hd hc) it a nai its.toArray,st,p.isList⟩
noncomputable def Iteg (z:Str):It:=Itd (fun i _=>i<z.cps.size) (fun i _ v=>∃c,z.cps[i]?=some c/\v=.str ⟨#[c]⟩) (fun i _=>z.cps.size=i)
theorem en_str {P:Program} {w:World} {K:W.Frag} {e it:Addr} {z:Str} {t:Tok} {ty:String} (hty:ty="str_ascii_iterator"\/ty="str_iterator") (ne:e≠it):EnSrc P w K e it (fun i h=>h.IsStrIter it ty z t i) (fun i _=>i<z.cps.size) (fun i _ v=>∃c,z.cps[i]?=some c/\v=.str ⟨#[c]⟩) (fun i _=>z.cps.size=i) where
 ne:=ne
 obj:=fun i h st=>by
  obtain⟨o,q,c,d⟩:=st
  exact⟨o,q,fun v z=>by rw[d]at z;cases z⟩
 keep:=fun i h h' st k=>by
  obtain⟨o,q,r⟩:=st
  exact⟨o,k o q,r⟩
 item:=by
  intro X hP hw hK hc i pins s σ H I _ _ _ _ st hg
  subst hP hw hK
  have hh:X.A.in1.handled=none:=I.ok.hd hc
  rcases hty with rfl|rfl
  .refine⟨_,_,_,_,Draws.strAscii hh it z t,by simpa using ne,hg,st,fun j h q=>q,fun u hu=>?_⟩
   obtain⟨c,t',hc',rfl⟩:=hu
   exact⟨.str ⟨#[c]⟩,⟨_,rfl⟩,c,hc',rfl⟩
  .refine⟨_,_,_,_,Draws.strWide hh it z t,by simpa using ne,hg,st,fun j h q=>q,fun u hu=>?_⟩
   obtain⟨c,t',hc',rfl⟩:=hu
   exact⟨.str ⟨#[c]⟩,⟨_,rfl⟩,c,hc',rfl⟩
 done:=by
  intro X hP hw hK hc i pins s σ H I _ _ _ st hg
  subst hP hw hK
  have hh:X.A.in1.handled=none:=I.ok.hd hc
  have hg':z.cps.size=i:=hg
  subst hg'
  rcases hty with rfl|rfl
  .exact⟨_,_,_,Draws.strAscii hh it z t,st⟩
  .exact⟨_,_,_,Draws.strWide hh it z t,st⟩
theorem draws_tup {prog:Program} {w:World} {A:Around} (hh:A.handled=none) (it l:Addr) (hne:l≠it) (items:Array Value):
  Draws prog w A it [it,l] items.size (fun i v=>items[i]?=some v) (fun i h=>SItr true h it l i/\SObj true h l items) where
 live:=fun _ _ st=>let⟨o,ho,_⟩:=st.1.obj;⟨o,ho⟩
 frame:=fun _ _ _ st hk=>⟨st.1.at fun o e=>hk it (by simp) o e,st.2.at fun o e=>hk l (by simp) o e⟩
 item:=fun i s Q E hi st hQ=>by
  refine nextOf_item st.1 st.2 (x:=items[i]) (by simp[hi]) fun h' hit' hs'=>?_
  exact hQ _ h' s.toks (by simp[hi]) ⟨hit',st.2.at fun o e=>hs'.extBut l o hne e⟩ hs'
 done:=fun s Q E st hE=>nextOf_end hh st.1 st.2 (by simp) hE
set_option tactic.hygienic true in
open AutoSeq1 (wpAny_loadPart') in
theorem meets_enumerate_newT (l:Addr) (items:Array Value) (n:Nat) (dct:Option Addr) (sl:Array (Option Value)):
  Meets (Builtin.«enumerate.__new__» ⟨[.type "enumerate",.ref l],[]⟩) (fun _ R s=>s.heap.get? l=some { cls:=.type "tuple",dict:=dct,data:=.seq items n,slots:=sl }/\
   R (.ok (.ret (.ref (s.heap.push { cls:=.type "tuple_iterator",data:=.fields #[.ref l,.int 0 0] }).objs.size)))
    { s with heap:=(s.heap.push { cls:=.type "tuple_iterator",data:=.fields #[.ref l,.int 0 0] }).push { cls:=.type "enumerate",data:=.fields #[.none,.bool false,.ref s.heap.objs.size,rawInt 0,.none,.none] } }):=
 .of_wp fun prog w A R s h=>by
  obtain⟨hp,g,d,tk,os⟩:=s;obtain⟨hl,h⟩:=h
  have hsub:=sub_enumerate
  have hL:Heap.IsTuple (Shared.heap ⟨hp,g,d,tk,os⟩) l items:=⟨_,hl,rfl,n,rfl⟩
  wp_walk using wpAny_loadPart' hl
  refine wpAny_stack_any fun st=>wpAny_pure ?_
  split
  .rename_i c _ _ _ _ _
   cases(c == Value.type "enumerate")
   .wp_walk using wpAny_loadPart' hl,wpAny_pyIter_tuple hL
    exact⟨_,rfl,h⟩
   .wp_walk using wpAny_loadPart' hl,wpAny_pyIter_tuple hL
    exact⟨_,rfl,h⟩
  .wp_walk using wpAny_loadPart' hl,wpAny_pyIter_tuple hL
   exact⟨_,rfl,h⟩
theorem call_enumerate_tuple {prog:Program} {w:World} {A:Around} {E:Value->Shared->Prop} {s:Shared} {l:Addr} {items:Array Value} {Q:Value->Shared->Prop} (hL:s.heap.IsTuple l items)
  (h:∀h',IsEnum h' (s.heap.objs.size+1) s.heap.objs.size 0 .none->SItr true h' s.heap.objs.size l 0->h'.objs.size=s.heap.objs.size+2->
   (∀b o,s.heap.get? b=some o->h'.get? b=some o)->Q (.ref (s.heap.objs.size+1)) { s with heap:=h' }):
  wpAny (model prog w) A (call (.type "enumerate") [.ref l]) Q E s:=by
 obtain⟨⟨c,dct,dt,sl⟩,hl,hc,n,hd⟩:=hL
 replace hc:c=.type "tuple":=hc
 replace hd:dt=.seq items n:=hd
 subst hc hd
 refine callType_new F.called_enumerate (by decide) (F.typeCall_enumerate_1 _) (F.newCall_enumerate_1 _) (fun obj=>F.args_object_init_2 obj _) F.entry_enumerate_new
  (meets_enumerate_newT l items n dct sl) ⟨hl,?_⟩
 have hz:(s.heap.push { cls:=.type "tuple_iterator",data:=.fields #[.ref l,.int 0 0] }).objs.size=s.heap.objs.size+1:=Heap.size_push ..
 show _/\_
 rw[hz]
 have he:IsEnum ((s.heap.push { cls:=.type "tuple_iterator",data:=.fields #[.ref l,.int 0 0] }).push
   { cls:=.type "enumerate",data:=.fields #[.none,.bool false,.ref s.heap.objs.size,rawInt 0,.none,.none] }) (s.heap.objs.size+1) s.heap.objs.size 0 .none:=by
  have:=Heap.get?_push_size (s.heap.push { cls:=.type "tuple_iterator",data:=.fields #[.ref l,.int 0 0] })
   (o:={ cls:=.type "enumerate",data:=.fields #[.none,.bool false,.ref s.heap.objs.size,rawInt 0,.none,.none] }) rfl
  rw[hz]at this;exact this
 refine⟨⟨_,he,rfl⟩,h _ he ⟨_,Heap.get?_push_of_some _ (Heap.get?_push_size _ rfl),rfl,rfl⟩ (by rw[Heap.size_push,hz]) fun b o x=>Heap.get?_push_of_some _ (Heap.get?_push_of_some _ x)⟩
noncomputable def Itet (K:W.Frag) (a:Addr):It:=Itd (fun i H=>∃xs x,SqT K H a xs/\xs[i]?=some x) (fun i H x=>∀xs,SqT K H a xs->xs[i]?=some x) (fun i H=>∃xs,SqT K H a xs/\xs.length=i)
theorem en_tup {P:Program} {w:World} {K:W.Frag} {e it a:Addr} (ne:e≠it) (na:a≠e) (nai:a≠it):EnSrc P w K e it (fun i h=>SItr true h it a i) (fun i H=>∃xs x,SqT K H a xs/\xs[i]?=some x) (fun i H x=>∀xs,SqT K H a xs->xs[i]?=some x) (fun i H=>∃xs,SqT K H a xs/\xs.length=i) where
 ne:=ne
 obj:=fun i h st=>by
  obtain⟨o,q,d⟩:=st.obj
  exact⟨o,q,fun v z=>by rw[d]at z;cases z⟩
 keep:=fun i h h' st k=>st.at k
 item:=by
  intro X hP hw hK hc i pins s σ H I _ _ _ _ st hg
  obtain⟨xs,x,hxs,hx⟩:=hg
  subst hP hw hK
  obtain⟨its,rv,p,hz⟩:=I.tuple hxs
  have hl:=rv.length
  obtain⟨u,hu,ru⟩:=rv.get hx
  refine⟨_,_,_,_,draws_tup (show X.A.in1.handled=none from I.ok.hd hc) it a nai its.toArray,?_,?_,⟨st,p⟩,fun j h q=>q.1,fun u' hu'=>⟨x,?_,fun ys hys=>by rw[I.tuple_inj hys hxs];exact hx⟩⟩
  .simp only[List.mem_cons,List.not_mem_nil,or_false,not_or]
   exact⟨ne,Ne.symm na⟩
  .have:=(List.getElem?_eq_some_iff.mp hx).1
   simp;omega
  .have e2:its[i]?=some u':=by simpa using hu'
   rw[hu]at e2
   cases e2
   exact ru
 done:=by
  intro X hP hw hK hc i pins s σ H I _ _ _ st hg
  obtain⟨xs,hxs,hx⟩:=hg
  subst hP hw hK
  obtain⟨its,rv,p,hz⟩:=I.tuple hxs
  have hl:=rv.length
  have e:i=its.toArray.size:=by simp;omega
  subst e
  exact⟨_,_,_,draws_tup (show X.A.in1.handled=none from I.ok.hd hc) it a nai its.toArray,st,p⟩
section
variable {X:Cx}
noncomputable def iEnum (K:W.Frag) (tl:TE):TI:=fun σ H R=>tCons tl tNil σ H fun vs H1=>∃x,vs=[x]/\
 ((∃a,x=.ref a/\(∃xs,SqL K H1 a xs)/\R (Ite K a) H1)\/(∃z,x=.str z/\R (Iteg z) H1)\/∃a,x=.ref a/\(∃xs,SqT K H1 a xs)/\R (Itet K a) H1)
theorem boot_enumerate:bootBuiltins "enumerate"=some (.type "enumerate"):=by decide +kernel
theorem pi_enum {a:Expr} {tl:TE} {p pos:Pos} {elts:List Expr} {kt:Nat} {pt:Pos} (hg:Gl X "enumerate") (hm:X.mg "enumerate"=none) (ha:PA X [a] (tCons tl tNil)) (hs:starEach [a] X.env=[(false,eval a X.env)]):
  PI X (.Tuple elts kt pt) (.Call (.Name "enumerate" p) [a] [] pos) (iEnum X.K tl):=by
 intro pins s σ H R I h
 have h':tCons tl tNil σ H (fun vs H1=>∃x,vs=[x]/\((∃a,x=.ref a/\(∃xs,SqL X.K H1 a xs)/\R (Ite X.K a) H1)\/(∃z,x=.str z/\R (Iteg z) H1)\/∃a,x=.ref a/\(∃xs,SqT X.K H1 a xs)/\R (Itet X.K a) H1)):=h
 refine Call_ (ld_blt I hg hm boot_enumerate (PyProof.Rows.callWith_type1 (thn (ha pos pins s σ H _ I h') fun us s1 ⟨vs,H1,I1,r1,q1⟩=>?_) (by rw[hs];rfl) (by rfl)))
 obtain⟨x,e,q1⟩:=q1
 subst e
 cases r1 with
 |cons r rr=>
  cases rr
  rcases q1 with⟨a,rfl,⟨xs,hxs⟩,q⟩|⟨z,rfl,q⟩|⟨a,rfl,⟨xs,hxs⟩,q⟩
  .cases r
   obtain⟨its,rv,pl,hz⟩:=I1.list hxs
   refine call_enumerate_list pl.isList fun h' he hit hsz hk=>wpAny_pyIter_enum he ?_
   have la:a<s1.heap.objs.size:=by
    obtain⟨o,q,_⟩:=pl.isList
    exact Heap.lt_size q
   refine⟨s1.heap.objs.size+1,[s1.heap.objs.size+1,s1.heap.objs.size],_,_,H1,rfl,I1.kept (t':=s1.toks) hk,turn_enum (en_list (Nat.succ_ne_self _) (Nat.ne_of_lt (Nat.lt_succ_of_lt la)) (Nat.ne_of_lt la)),⟨⟨_,he⟩,hit⟩,fun c hc=>?_,q⟩
   have hle:s1.heap.objs.size<=c:=by
    simp only[List.mem_cons,List.not_mem_nil,or_false]at hc
    rcases hc with rfl|rfl<;>omega
   exact I1.fpOk hle (I1.hok.fresh hle)
  .obtain⟨t,rfl⟩:=r
   refine call_enumerate_str fun h' he hit hsz hk=>wpAny_pyIter_enum he ?_
   have hty:strIterType z="str_ascii_iterator"\/strIterType z="str_iterator":=by
    unfold strIterType
    split
    .exact .inl rfl
    .exact .inr rfl
   refine⟨s1.heap.objs.size+1,[s1.heap.objs.size+1,s1.heap.objs.size],_,_,H1,rfl,I1.kept (t':=s1.toks) hk,turn_enum (en_str hty (Nat.succ_ne_self _)),⟨⟨_,he⟩,hit⟩,fun c hc=>?_,q⟩
   have hle:s1.heap.objs.size<=c:=by
    simp only[List.mem_cons,List.not_mem_nil,or_false]at hc
    rcases hc with rfl|rfl<;>omega
   exact I1.fpOk hle (I1.hok.fresh hle)
  .cases r
   obtain⟨its,rv,pl,hz⟩:=I1.tuple hxs
   refine call_enumerate_tuple (show s1.heap.IsTuple a its.toArray from pl) fun h' he hit hsz hk=>wpAny_pyIter_enum he ?_
   have la:a<s1.heap.objs.size:=by
    obtain⟨o,q,_⟩:=pl
    exact Heap.lt_size q
   refine⟨s1.heap.objs.size+1,[s1.heap.objs.size+1,s1.heap.objs.size],_,_,H1,rfl,I1.kept (t':=s1.toks) hk,turn_enum (en_tup (Nat.succ_ne_self _) (Nat.ne_of_lt (Nat.lt_succ_of_lt la)) (Nat.ne_of_lt la)),⟨⟨_,he⟩,hit⟩,fun c hc=>?_,q⟩
   have hle:s1.heap.objs.size<=c:=by
    simp only[List.mem_cons,List.not_mem_nil,or_false]at hc
    rcases hc with rfl|rfl<;>omega
   exact I1.fpOk hle (I1.hok.fresh hle)
end
section
variable {X:Cx}
theorem call_int_text:CallR X (.type "int") (fun xs H Q=>∃x n,xs=[.str x]/\PySem.intText? x=some n/\x.length<=640/\Q (.int n) H):=by
 intro pins s σ H xs us Q I r h
 obtain⟨x,n,rfl,hn,hl,q⟩:=h
 obtain⟨u,rfl,t,rfl⟩:=vals1 r
 exact W.KIN.call_text hn hl ⟨.int n,H,I.tok _,⟨_,rfl⟩,q⟩
noncomputable def rInt:List V->Hp->VK->Prop:=fun xs H Q=>((∃i,xs=[.int i]/\Q (.int i) H)\/∃k,xs=[.bl k]/\Q (.int (if k then 1 else 0)) H)\/∃x n,xs=[.str x]/\PySem.intText? x=some n/\x.length<=640/\Q (.int n) H
theorem call_intA:CallR X (.type "int") rInt:=call_int1.or call_int_text
noncomputable def rMulS:R2:=fun x y H Q=>∃a n,x=.str a/\y=.int n/\-1000000<=n/\n<=1000000/\a.length*n.toNat<=1000000/\Q (.str (Txt.mul a n)) H
theorem op_mul_str:OpR X (binaryOp .Mult) rMulS:=by
 intro pins s σ H x y v u Q I rx ry h
 obtain⟨a,n,rfl,rfl,h1,h2,h3,q⟩:=h
 obtain⟨t,rfl⟩:=rx
 obtain⟨t',rfl⟩:=ry
 refine SB.mul ⟨?_,fun hn hc=>?_,fun hn hc=>?_⟩ fun t' k=>⟨.str (Txt.mul a n),H,I.tok _,⟨_,rfl⟩,q⟩
 .have e1:¬n < -(2 ^ 63:Int):=by omega
  have e2:¬n ≥ 2 ^ 63:=by omega
  simp[e1,e2]
  omega
 .have hn0:0<n:=by omega
  intro hgt
  have h4:(a.length:Int)*n<=1000000:=by
   have:((a.length*n.toNat:Nat):Int)<=1000000:=by omega
   rw[Int.natCast_mul,Int.toNat_of_nonneg (by omega)]at this
   exact this
  have h5:=(Int.ediv_lt_iff_lt_mul hn0).mp hgt
  omega
 .have e:Builtin.Str.tooLong (a.length*n.toNat)=false:=by
   unfold Builtin.Str.tooLong
   have:sizeLine=16777216:=sizeLine_eq
   simp
   omega
  exact e
noncomputable def rJoin (K:W.Frag):V->List V->Hp->VK->Prop:=fun x xs H Q=>∃(sep:Str) (p:Addr) (ys:List Str),x=.str sep/\xs=[.ref p]/\(SqL K H p (ys.map V.str)\/SqT K H p (ys.map V.str))/\(ys.map (·.length)).sum+ys.length*sep.length<=16777216/\Q (.str (Txt.join sep ys)) H
theorem strsAre_of:∀{ys:List Str} {us:List Value},Vals (ys.map V.str) us->StrsAre us ys
 | [],us,h=>by
  have e:=h.zero
  subst e
  exact .nil
 |y :: ys,_,.cons r t=>by
  obtain⟨k,rfl⟩:=r
  exact .cons y k (strsAre_of t)
theorem mt_join:MtR X "str.join" (rJoin X.K):=by
 intro pins s σ H x xs v us Q I rx rv h
 obtain⟨sep,p,ys,rfl,rfl,hs,hz,q⟩:=h
 obtain⟨t,rfl⟩:=rx
 obtain⟨u,rfl,ru⟩:=rv.one
 cases ru
 rcases hs with hs|hs
 .obtain⟨its,r,pl,_⟩:=I.list hs
  exact join_list pl.isList (strsAre_of r) hz fun t' k=>⟨.str _,H,I.tok _,⟨_,rfl⟩,q⟩
 .obtain⟨its,r,pl,_⟩:=I.tuple hs
  exact join_tuple pl (strsAre_of r) hz fun t' k=>⟨.str _,H,I.tok _,⟨_,rfl⟩,q⟩
noncomputable def rSlS:V->Option Int->Option Int->Hp->VK->Prop:=fun x lo hi H Q=>∃a,x=.str a/\a.length<=sizeLine/\Q (.str (Txt.slice a lo hi)) H
theorem sl_str:SlR X rSlS:=by
 intro pins s σ H x v vl vu lo hi sl Q I rx hs pl pu h
 obtain⟨a,rfl,hz,q⟩:=h
 obtain⟨t,rfl⟩:=rx
 have fin:∀(l u:Option (Int×Tok)),l.map (·.1)=lo->u.map (·.1)=hi->s.heap.IsSlice sl l u none->wpAny (model X.prog X.w) X.A (getItem (.str a t) (.ref sl)) (EP X pins σ Q) X.xe s:=by
  intro l u e1 e2 hsl
  refine wpAny_getItem_str_slice (l:=l) (u:=u) (st:=none) hsl rfl ?_
  refine post_val_or_str ?_
  subst e1 e2
  exact⟨Nat.le_trans (Txt.slice_le a _ _) hz,fun t' k=>⟨.str _,H,I.tok _,⟨_,rfl⟩,q⟩⟩
 refine⟨"str",_,F.slot_str_getitem.lookup,typeIs_str _ _ _,?_⟩
 cases pl with
 |none=>
  cases pu with
  |none=>exact fin none none rfl rfl hs
  |int j u=>exact fin none (some (j,u)) rfl rfl hs
 |int i t1=>
  cases pu with
  |none=>exact fin (some (i,t1)) none rfl rfl hs
  |int j u=>exact fin (some (i,t1)) (some (j,u)) rfl rfl hs
noncomputable def rBest (K:W.Frag) (mx:Bool):List V->Hp->VK->Prop:=fun xs H Q=>∃(p:Addr) (ns:List Int),xs=[.ref p]/\SqL K H p (ns.map V.int)/\ns≠[]/\∀M,M∈ns->(∀a∈ns,if mx then a<=M else M<=a)->Q (.int M) H
theorem call_minL (hc:X.calm=true):CallR X (.builtin "min") (rBest X.K false):=by
 intro pins s σ H xs us Q I r h
 obtain⟨p,ns,rfl,hs,hne,q⟩:=h
 obtain⟨u,rfl,ru⟩:=vals1 r
 cases ru
 obtain⟨its,rv,pl,hz⟩:=I.list hs
 have hi:=intsAre_of rv
 obtain⟨xs,e⟩:=hi.allInts.items
 have hns:ns=xs.toList.map (·.1):=by
  rw[<- hi.numsOf,<- nums_intItems,<- e]
 have hsz:0<xs.size:=by
  have h3:=List.length_pos_iff.mpr hne
  rw[hns,List.length_map,Array.length_toList]at h3
  exact h3
 have hl:=pl.isList
 rw[e]at hl
 refine min_intList (I.ok.hd hc) hl hsz fun v h' tk hv hk=>?_
 obtain⟨t,rfl⟩:=intItems_at hv
 obtain⟨h1,h2⟩:=argBest_lt (numAt xs) (xs.size-1)
 refine⟨.int _,H,I.kept hk,⟨t,rfl⟩,q _ ?_ fun a ha=>?_⟩
 .rw[hns,numAt_eq];exact getD_mem (by rw[List.length_map,Array.length_toList];omega)
 .rw[hns]at ha
  obtain⟨j,hj,rfl⟩:=mem_getD ha
  rw[List.length_map,Array.length_toList]at hj
  rw[if_neg (by decide),<- numAt_eq];exact h2 j (by omega)
end
section
variable {X:Cx}
open PySem.SeqAt in
theorem eqAt_of {A:Around} {s:Shared} {x y:V} {u v:Value} (rx:RelV x u) (ry:RelV y v) (h:scal x y=true/\(∀b,x≠.byt b)\/x=y/\∃a,x=.ref a):EqAt A s u v (decide (x=y)):=by
 rcases h with⟨h,hb⟩|⟨rfl,a,rfl⟩
 .cases x with
  |non=>cases y with
   |non=>cases rx;cases ry;exact EqAt.same _
   |bl b=>cases rx;cases ry;exact EqAt.none_bool _
   |int b=>cases rx;obtain⟨t,rfl⟩:=ry;exact EqAt.none_int _ _
   |str b=>cases rx;obtain⟨t,rfl⟩:=ry;exact EqAt.none_str _ _
   |_=>cases h
  |bl a=>cases y with
   |non=>cases rx;cases ry;exact EqAt.bool_none _
   |bl b=>cases rx;cases ry;have:=EqAt.bool_bool (A:=A) (s:=s) a b;cases a<;>cases b<;>exact this
   |str b=>cases rx;obtain⟨t,rfl⟩:=ry;exact EqAt.bool_str _ _ _
   |_=>cases h
  |int a=>cases y with
   |non=>obtain⟨t,rfl⟩:=rx;cases ry;exact EqAt.int_none _ _
   |int b=>obtain⟨t,rfl⟩:=rx;obtain⟨t',rfl⟩:=ry;rw[dec_int];exact EqAt.int_int _ _ _ _
   |str b=>obtain⟨t,rfl⟩:=rx;obtain⟨t',rfl⟩:=ry;exact EqAt.int_str _ _ _ _
   |_=>cases h
  |str a=>cases y with
   |non=>obtain⟨t,rfl⟩:=rx;cases ry;exact EqAt.str_none _ _
   |bl b=>obtain⟨t,rfl⟩:=rx;cases ry;exact EqAt.str_bool _ _ _
   |int b=>obtain⟨t,rfl⟩:=rx;obtain⟨t',rfl⟩:=ry;exact EqAt.str_int _ _ _ _
   |str b=>
    obtain⟨t,rfl⟩:=rx
    obtain⟨t',rfl⟩:=ry
    have e:decide (V.str a=V.str b)=(a == b):=by
     by_cases hab:a=b
     .subst hab;simp
     .rw[decide_eq_false (by intro z;cases z;exact hab rfl)];simp[hab]
    rw[e]
    exact EqAt.str_str _ _ _ _
   |_=>cases h
  |byt b=>exact absurd rfl (hb b)
  |_=>cases y<;>cases h
 .cases rx
  cases ry
  rw[decide_eq_true rfl]
  exact EqAt.same _
def LEq (xs ys:List V):Prop:=∀(i:Nat) x y,xs[i]?=some x->ys[i]?=some y->scal x y=true/\(∀b,x≠.byt b)\/x=y/\∃a,x=.ref a
noncomputable def rEqL (K:W.Frag) (neg:Bool):V->V->Hp->VK->Prop:=fun x y H Q=>∃p q xs ys,x=.ref p/\y=.ref q/\SqL K H p xs/\SqL K H q ys/\(xs.length=ys.length->LEq xs ys)/\Q (.bl (if neg then !decide (xs=ys)else decide (xs=ys))) H
theorem all_eq {xs ys:List V} (h:xs.length=ys.length):(List.range xs.length).all (fun i=>decide (xs[i]?=ys[i]?))=decide (xs=ys):=by
 by_cases e:xs=ys
 .subst e
  simp
 .rw[decide_eq_false e,Bool.eq_false_iff]
  intro q
  rw[List.all_eq_true]at q
  apply e
  apply List.ext_getElem?
  intro i
  rcases Nat.lt_or_ge i xs.length with hi|hi
  .exact of_decide_eq_true (q i (List.mem_range.mpr hi))
  .rw[List.getElem?_eq_none_iff.mpr hi,List.getElem?_eq_none_iff.mpr (by omega)]
open PySem.SeqAt in
theorem op_eqL (hu:X.A.units<cLine):OpR X (compareOp .Eq) (rEqL X.K false):=by
 intro pins s σ H x y v u Q I rx ry h
 obtain⟨p,q,xs,ys,rfl,rfl,hp,hq,he,k⟩:=h
 cases rx
 cases ry
 obtain⟨its,r1,pl1,_⟩:=I.list hp
 obtain⟨its2,r2,pl2,_⟩:=I.list hq
 have l1:=r1.length
 have l2:=r2.length
 by_cases hl:xs.length=ys.length
 .refine eq_listAt (e:=fun i=>decide (xs[i]?=ys[i]?)) pl1.isList pl2.isList (by simp;omega) hu (fun j h1 h2=>?_) ?_
  .have j1:j<xs.length:=by simp at h1;omega
   have j2:j<ys.length:=by omega
   have g1:xs[j]?=some xs[j]:=List.getElem?_eq_getElem j1
   have g2:ys[j]?=some ys[j]:=List.getElem?_eq_getElem j2
   obtain⟨u1,e1,ru1⟩:=r1.get g1
   obtain⟨u2,e2,ru2⟩:=r2.get g2
   have f1:its.toArray[j]=u1:=by simp at h1 ⊢;rw[List.getElem?_eq_getElem h1]at e1;exact Option.some.inj e1
   have f2:its2.toArray[j]=u2:=by simp at h2 ⊢;rw[List.getElem?_eq_getElem h2]at e2;exact Option.some.inj e2
   rw[f1,f2,g1,g2]
   have e3:decide (some xs[j]=some ys[j])=decide (xs[j]=ys[j]):=by simp
   rw[e3]
   exact eqAt_of ru1 ru2 (he hl j _ _ g1 g2)
  .have e4:(List.range its.toArray.size).all (fun i=>decide (xs[i]?=ys[i]?))=decide (xs=ys):=by
    rw[List.size_toArray,<- l1];exact all_eq hl
   rw[e4]
   exact⟨.bl _,H,I,rfl,k⟩
 .refine eq_list_lengthsAt pl1.isList pl2.isList (by simp;omega) hu ?_
  rw[decide_eq_false (fun z=>hl (by rw[z]))]at k
  exact⟨.bl false,H,I,rfl,k⟩
open PySem.SeqAt in
theorem op_neL (hu:X.A.units<cLine):OpR X (compareOp .NotEq) (rEqL X.K true):=by
 intro pins s σ H x y v u Q I rx ry h
 obtain⟨p,q,xs,ys,rfl,rfl,hp,hq,he,k⟩:=h
 cases rx
 cases ry
 obtain⟨its,r1,pl1,_⟩:=I.list hp
 obtain⟨its2,r2,pl2,_⟩:=I.list hq
 have l1:=r1.length
 have l2:=r2.length
 obtain⟨⟨cls,dd,data,sl⟩,ho,hc,n,hd⟩:=pl1.isList
 obtain⟨⟨cls2,dd2,data2,sl2⟩,ho2,hc2,n2,hd2⟩:=pl2.isList
 simp only at hc hd hc2 hd2
 subst hc hd hc2 hd2
 by_cases hl:xs.length=ys.length
 .refine richCompare_meets_room (op:=.NotEq) ⟨_,ho,rfl⟩ ⟨_,ho2,rfl⟩ F.slot_list_ne F.entry_list_ne (F.args_list_ne_2 _ _) (list_neAt p q its.toArray its2.toArray n n2 dd dd2 sl sl2 (by simp;omega) (fun i=>decide (xs[i]?=ys[i]?))) ⟨ho,ho2,fun j h1 h2=>?_,?_⟩ hu
  .have j1:j<xs.length:=by simp at h1;omega
   have j2:j<ys.length:=by omega
   have g1:xs[j]?=some xs[j]:=List.getElem?_eq_getElem j1
   have g2:ys[j]?=some ys[j]:=List.getElem?_eq_getElem j2
   obtain⟨u1,e1,ru1⟩:=r1.get g1
   obtain⟨u2,e2,ru2⟩:=r2.get g2
   have f1:its.toArray[j]=u1:=by simp at h1 ⊢;rw[List.getElem?_eq_getElem h1]at e1;exact Option.some.inj e1
   have f2:its2.toArray[j]=u2:=by simp at h2 ⊢;rw[List.getElem?_eq_getElem h2]at e2;exact Option.some.inj e2
   rw[f1,f2,g1,g2]
   have e3:decide (some xs[j]=some ys[j])=decide (xs[j]=ys[j]):=by simp
   rw[e3]
   exact eqAt_of ru1 ru2 (he hl j _ _ g1 g2)
  .have e4:(List.range its.toArray.size).all (fun i=>decide (xs[i]?=ys[i]?))=decide (xs=ys):=by
    rw[List.size_toArray,<- l1];exact all_eq hl
   rw[e4]
   exact(show Value.bool (!decide (xs=ys))≠Value.notImplemented/\EP X pins σ Q (Value.bool (!decide (xs=ys))) s from⟨(fun x=>nomatch x),⟨.bl _,H,I,rfl,k⟩⟩)
 .refine richCompare_meets_room (op:=.NotEq) ⟨_,ho,rfl⟩ ⟨_,ho2,rfl⟩ F.slot_list_ne F.entry_list_ne (F.args_list_ne_2 _ _) (list_ne_lengthsAt p q its.toArray its2.toArray n n2 dd dd2 sl sl2 (by simp;omega)) ⟨ho,ho2,?_⟩ hu
  rw[decide_eq_false (fun z=>hl (by rw[z]))]at k
  exact(show Value.bool true≠Value.notImplemented/\EP X pins σ Q (Value.bool true) s from⟨(fun x=>nomatch x),⟨.bl true,H,I,rfl,k⟩⟩)
noncomputable def rgs (i:Int) (n:Nat):List V:=(List.range n).map fun(k:Nat)=>V.int (i+(k:Int))
noncomputable def rRng:List V->Hp->VK->Prop:=fun xs H Q=>∃i j:Int,(xs=[.int i,.int j]\/(i=0/\xs=[.int j]))/\∀p,H p=none->Q (.ref p) (upd H p (.rng i j))
theorem call_rng:CallR X (.type "range") rRng:=by
 intro pins s σ H xs us Q I rv h
 obtain⟨i,j,hx,q⟩:=h
 have hn:H s.heap.objs.size=none:=I.hok.fresh (Nat.le_refl _)
 rcases hx with rfl|⟨rfl,rfl⟩
 .cases rv with
  |cons r1 rv=>
   cases rv with
   |cons r2 rv=>
    cases rv
    obtain⟨t,rfl⟩:=r1
    obtain⟨u,rfl⟩:=r2
    exact call_range_2 ⟨.ref s.heap.objs.size,_,I.laid (t':=s.toks+1) (fun _ _ e=>Heap.get?_push_of_some _ e) (Nat.le_refl _) (o:=.rng i j) ⟨t,u,s.toks,Heap.get?_push_size _ rfl⟩,rfl,q _ hn⟩
 .cases rv with
  |cons r1 rv=>
   cases rv
   obtain⟨t,rfl⟩:=r1
   exact call_range_1 ⟨.ref s.heap.objs.size,_,I.laid (t':=s.toks+1+1) (fun _ _ e=>Heap.get?_push_of_some _ e) (Nat.le_refl _) (o:=.rng 0 j) ⟨s.toks,t,s.toks+1,Heap.get?_push_size _ rfl⟩,rfl,q _ hn⟩
noncomputable def rLrg:List V->Hp->VK->Prop:=fun xs H Q=>∃r i j,xs=[.ref r]/\H r=some (.rng i j)/\(-(2 ^ 62)<=i/\i<2 ^ 62/\-(2 ^ 62)<=j/\j<2 ^ 62)/\(j-i).toNat<=sizeLine/\∀p,H p=none->Q (.ref p) (upd H p (.lst (rgs i (j-i).toNat)))
theorem call_lrg (hc:X.calm=true):CallR X (.type "list") rLrg:=by
 intro pins s σ H xs us Q I rv h
 obtain⟨r,i,j,rfl,hr,⟨h1,h2,h3,h4⟩,hz,q⟩:=h
 cases rv with
 |cons r1 rv=>
  cases rv
  cases r1
  obtain⟨t,u,v,e⟩:=(show ObjOk X.prog X.w H s.heap r (.rng i j) from I.hok r _ hr)
  refine call_list_range (n:=(j-i).toNat) (I.ok.hd hc) e (small_one h1 h2 h3 h4) (by rw[rangeSize_one];split<;>omega) hz fun h' tk' acc' c' hk hS hit=>?_
  obtain⟨hsz,hv⟩:=hit
  have hn:H s.heap.objs.size=none:=I.hok.fresh (Nat.le_refl _)
  have key:∀(n:Nat) (l:List Value) (f:Nat->Int),l.length=n->(∀k v,l[k]?=some v->∃t,v=Value.int (f k) t)->Vals ((List.range n).map fun k=>V.int (f k)) l:=by
   intro n
   induction n with
   |zero=>intro l f hl hv;have:l=[]:=List.length_eq_zero_iff.mp hl;subst this;exact .nil
   |succ n ih=>
    intro l f hl hv
    cases l with
    |nil=>cases hl
    |cons x r=>
     rw[List.range_succ_eq_map,List.map_cons,List.map_map]
     refine .cons (hv 0 x rfl) ?_
     exact ih r (fun k=>f (k+1)) (by simpa using hl) fun k v hk=>hv (k+1) v (by simpa using hk)
  refine⟨.ref s.heap.objs.size,_,I.laid (t':=tk') hk (Nat.le_refl _) (o:=.lst (rgs i (j-i).toNat)) ⟨by unfold rgs;rw[List.length_map,List.length_range];exact hz,acc'.toList,c',?_,hS⟩,rfl,q _ hn⟩
  refine key _ _ (fun k=>i+(k:Int)) (by rw[Array.length_toList];exact hsz) fun k v hk=>?_
  obtain⟨t,e⟩:=hv k v (by simpa using hk)
  exact⟨t,by rw[e];simp⟩
end
section
variable {X:Cx}
theorem op_mulW:OpR X (binaryOp .Mult) (rI IntMulOk fun i j=>.int (i*j)):=opI fun _ _ _ _ _ _ _ hc q=>mul_int q hc
noncomputable def isPl:V->Bool
 | .ty _=>false
 | .byt _=>false
 | .flt _=>false
 |_=>true
noncomputable def rIsB (neg:Bool):R2:=fun x y H Q=>∃b,y=.bl b/\isPl x=true/\Q (.bl (if neg then !decide (x=.bl b)else decide (x=.bl b))) H
theorem is_eq {x:V} {v:Value} {b:Bool} (r:RelV x v) (h:isPl x=true):plainIs v (.bool b)=true/\(v == Value.bool b)=decide (x=.bl b):=by
 cases x with
 |non=>cases r;exact⟨rfl,rfl⟩
 |bl a=>cases r;refine⟨rfl,?_⟩;cases a<;>cases b<;>rfl
 |int i=>obtain⟨t,rfl⟩:=r;exact⟨rfl,rfl⟩
 |str i=>obtain⟨t,rfl⟩:=r;exact⟨rfl,rfl⟩
 |ref a=>cases r;exact⟨rfl,rfl⟩
 |_=>cases h
theorem op_isB:OpR X (compareOp .Is) (rIsB false):=by
 intro pins s σ H x y v u Q I rx ry h
 obtain⟨b,rfl,hp,q⟩:=h
 cases ry
 obtain⟨h1,h2⟩:=is_eq (b:=b) rx hp
 exact wpAny_is_plain h1 ⟨.bl _,H,I,by rw[h2];rfl,q⟩
theorem op_isNotB:OpR X (compareOp .IsNot) (rIsB true):=by
 intro pins s σ H x y v u Q I rx ry h
 obtain⟨b,rfl,hp,q⟩:=h
 cases ry
 obtain⟨h1,h2⟩:=is_eq (b:=b) rx hp
 exact wpAny_isNot_plain h1 ⟨.bl _,H,I,by rw[h2];rfl,q⟩
theorem op_fdivW:OpR X (binaryOp .FloorDiv) (rI (fun _ j=>0<j/\j.natAbs.log2<9000) fun i j=>.int (i / j)):=opI fun i j _ _ _ _ _ hc q=>by
 refine floordiv_int (by omega) ?_ (.inl (PyProof.noPylong_of_log2 hc.2))
 rw[Int.fdiv_eq_ediv_of_nonneg i (by omega)]
 exact q
end
section
variable {κ:Type} [DecidableEq κ]
noncomputable def valV (kvs:List (κ×V)) (k:κ):Option V:=(kvs.find? fun kv=>decide (kv.1=k)).map (·.2)
noncomputable def putK (kvs:List (κ×V)) (k:κ) (v:V):List (κ×V):=
 if(kvs.any fun kv=>decide (kv.1=k))=true then kvs.map (fun kv=>if kv.1=k then(kv.1,v)else kv)else kvs++[(k,v)]
theorem valV_pos {p:κ×V} {r:List (κ×V)} {k:κ} (e:p.1=k):valV (p :: r) k=some p.2:=by simp[valV,List.find?_cons,e]
theorem valV_neg {p:κ×V} {r:List (κ×V)} {k:κ} (e:¬p.1=k):valV (p :: r) k=valV r k:=by simp[valV,List.find?_cons,e]
theorem valV_any (k:κ):∀kvs:List (κ×V),(kvs.any fun kv=>decide (kv.1=k))=(valV kvs k).isSome
 | []=>rfl
 |p :: r=>by
  rw[List.any_cons]
  by_cases e:p.1=k
  .simp only[valV_pos e,decide_eq_true e,Bool.true_or,Option.isSome_some]
  .rw[valV_neg e,decide_eq_false e,Bool.false_or];exact valV_any k r
theorem length_putK (kvs:List (κ×V)) (k:κ) (v:V):(putK kvs k v).length<=kvs.length+1:=by
 unfold putK
 split
 .rw[List.length_map];omega
 .rw[List.length_append,List.length_cons,List.length_nil];omega
theorem putK_new {kvs:List (κ×V)} {k:κ} (v:V) (h:valV kvs k=none):putK kvs k v=kvs++[(k,v)]:=by
 unfold putK
 rw[valV_any,h]
 exact if_neg (by decide)
theorem RelO.isSome_eq {o:Option V} {u:Option Value} (r:RelO o u):o.isSome=u.isSome:=by
 cases o with
 |none=>cases u with
  |none=>rfl
  |some _=>exact(show False from r).elim
 |some _=>cases u with
  |none=>exact(show False from r).elim
  |some _=>rfl
theorem RelO.getD {o:Option V} {u:Option Value} {d:V} {d':Value} (r:RelO o u) (rd:RelV d d'):RelV (o.getD d) (u.getD d'):=by
 cases o with
 |none=>cases u with
  |none=>exact rd
  |some _=>exact(show False from r).elim
 |some _=>cases u with
  |none=>exact(show False from r).elim
  |some _=>exact r
theorem KV.val {kvs:List (κ×V)} {vs:List (κ×Value)} (r:KV kvs vs) (k:κ):RelO (valV kvs k) (valueAt vs k):=by
 unfold KV at r
 induction r with
 |nil=>exact True.intro
 | @cons p q ps qs h t ih=>
  obtain⟨h1,h2⟩:=h
  by_cases e:p.1=k
  .have e':q.1=k:=h1.symm.trans e
   have b:valueAt (q :: qs) k=some q.2:=by simp[valueAt,List.find?_cons,e']
   rw[valV_pos e,b];exact h2
  .have e':¬q.1=k:=fun z=>e (h1.trans z)
   have b:valueAt (q :: qs) k=valueAt qs k:=by simp[valueAt,List.find?_cons,e']
   rw[valV_neg e,b];exact ih
theorem KV.any {kvs:List (κ×V)} {vs:List (κ×Value)} (r:KV kvs vs) (k:κ):(kvs.any fun kv=>decide (kv.1=k))=vs.any fun kv=>decide (kv.1=k):=by
 unfold KV at r
 induction r with
 |nil=>rfl
 |cons h t ih=>rw[List.any_cons,List.any_cons,ih,h.1]
theorem KV.repl {kvs:List (κ×V)} {vs:List (κ×Value)} (r:KV kvs vs) (k:κ) {y:V} {u:Value} (ry:RelV y u):
  KV (kvs.map fun kv=>if kv.1=k then(kv.1,y)else kv) (vs.map fun kv=>if kv.1=k then(kv.1,u)else kv):=by
 unfold KV at r ⊢
 induction r with
 |nil=>exact .nil
 | @cons p q ps qs h t ih=>
  rw[List.map_cons,List.map_cons]
  refine .cons ?_ ih
  obtain⟨h1,h2⟩:=h
  by_cases e:p.1=k
  .rw[if_pos e,if_pos (h1.symm.trans e)];exact⟨h1,ry⟩
  .rw[if_neg e,if_neg (fun z=>e (h1.trans z))];exact⟨h1,h2⟩
theorem KV.put {kvs:List (κ×V)} {vs:List (κ×Value)} (r:KV kvs vs) (k:κ) {y:V} {u:Value} (ry:RelV y u):KV (putK kvs k y) (stored vs k u):=by
 unfold putK stored
 rw[r.any k]
 by_cases e:(vs.any fun kv=>decide (kv.1=k))=true
 .rw[if_pos e,if_pos e];exact r.repl k ry
 .rw[if_neg e,if_neg e];exact Paired.snoc r ⟨rfl,ry⟩
theorem KV.keys {kvs:List (κ×V)} {vs:List (κ×Value)} (r:KV kvs vs):kvs.map (·.1)=vs.map (·.1):=by
 unfold KV at r
 induction r with
 |nil=>rfl
 |cons h t ih=>rw[List.map_cons,List.map_cons,ih,h.1]
theorem KV.length {kvs:List (κ×V)} {vs:List (κ×Value)} (r:KV kvs vs):kvs.length=vs.length:=Paired.length r
end
theorem kV_is {P:Program} {w:World} {k:Key} {u:Value} (r:RelV (kV k) u):(mixKind P w).is k u=true:=by
 cases k with
 |inl i=>obtain⟨t,e⟩:=(show ∃t,u=Value.int i t from r);subst e;exact mixKind_int P w i t
 |inr x=>obtain⟨t,e⟩:=(show ∃t,u=Value.str x t from r);subst e;exact mixKind_str P w x t
 |non=>obtain rfl:u=Value.none:=r;rfl
theorem items_are {P:Program} {w:World}:∀{ks:List Key} {us:List Value},Vals (ks.map kV) us->ItemsAre (mixKind P w) ks us
 | [],_,r=>by rw[List.map_nil]at r;cases r;exact .nil
 |k :: ks,_,r=>by
  rw[List.map_cons]at r
  cases r with
  |cons h t=>exact .cons (kV_is h) (items_are t)
noncomputable abbrev KT (H:Hp):List (List Key×V)->List (List Key×Addr×Value)->Prop:=Paired fun p q=>p.1=q.1/\H q.2.1=some (.tup (p.1.map kV))/\RelV p.2 q.2.2
theorem KT.val {H:Hp} {kvs:List (List Key×V)} {xs:List (List Key×Addr×Value)} (r:KT H kvs xs) (k:List Key):RelO (valV kvs k) ((atKey xs k).map (·.2)):=by
 induction r with
 |nil=>exact True.intro
 | @cons p q ps qs h t ih=>
  obtain⟨h1,_,h2⟩:=h
  by_cases e:p.1=k
  .have e':q.1=k:=h1.symm.trans e
   have b:atKey (q :: qs) k=some q.2:=by simp[atKey,List.find?_cons,e']
   rw[valV_pos e,b];exact h2
  .have e':¬q.1=k:=fun z=>e (h1.trans z)
   have b:atKey (q :: qs) k=atKey qs k:=by simp[atKey,List.find?_cons,e']
   rw[valV_neg e,b];exact ih
section
variable {P:Program} {w:World} {H:Hp} {h:Heap} {a:Addr}
theorem rd_of {u:HO} (ok:HOk P w H h) (e:Rd H a u):ObjOk P w H h a u:=e.ok ok
theorem dk_rd {kvs:List (Key×V)} (ok:HOk P w H h) (e:Rd H a (.dK kvs)):kvs.length<=sizeLine/\(a == sysModules)=false/\∃vs,KV kvs vs/\h.DictOf (mixKind P w) a vs:=
 show ObjOk P w H h a (.dK kvs) from rd_of ok e
theorem dk_of {kvs:List (Key×V)} (ok:HOk P w H h) (e:H a=some (.dK kvs)):kvs.length<=sizeLine/\(a == sysModules)=false/\∃vs,KV kvs vs/\h.DictOf (mixKind P w) a vs:=dk_rd ok (.inl e)
theorem key_of {ks:List Key} (ok:HOk P w H h) (e:H a=some (.tup (ks.map kV))):(tupleKind (mixKind P w)).is h ks a:=by
 obtain⟨_,its,r,o,h1,h2,⟨n,h3⟩,_⟩:=(show ObjOk P w H h a (.tup (ks.map kV)) from ok a _ e)
 exact⟨o,its.toArray,n,h1,h2,h3,by simpa using items_are r⟩
theorem dt_rd {kvs:List (List Key×V)} (ok:HOk P w H h) (e:Rd H a (.dT kvs)):kvs.length<=sizeLine/\(a == sysModules)=false/\
  ∃xs,KT H kvs xs/\h.DictOfH (tupleKind (mixKind P w)) a xs:=by
 obtain⟨z,y,xs,r,o,es,ep,h1,h2,h3,h4,h5⟩:=(show ObjOk P w H h a (.dT kvs) from rd_of ok e)
 refine⟨z,y,xs,r,o,es,ep,h1,h2,h3,h4,fun x hx=>?_,h5⟩
 have all:∀{l:List (List Key×V)} {m:List (List Key×Addr×Value)},KT H l m->∀x∈m,(tupleKind (mixKind P w)).is h x.1 x.2.1:=by
  intro l m q
  induction q with
  |nil=>intro x hx;exact nomatch hx
  | @cons p q ps qs hq t ih=>
   intro x hx
   rcases List.mem_cons.mp hx with e|hx
   .subst e
    exact key_of ok (by rw[<- hq.1];exact hq.2.1)
   .exact ih x hx
 exact all r x hx
theorem dt_of {kvs:List (List Key×V)} (ok:HOk P w H h) (e:H a=some (.dT kvs)):kvs.length<=sizeLine/\(a == sysModules)=false/\
  ∃xs,KT H kvs xs/\h.DictOfH (tupleKind (mixKind P w)) a xs:=dt_rd ok (.inl e)
end
def DGet (H:Hp) (a:Addr) (y:V) (r:Option V):Prop:=
 (∃kvs k,Rd H a (.dK kvs)/\y=kV k/\r=valV kvs k)\/∃kvs k b,Rd H a (.dT kvs)/\y=.ref b/\H b=some (.tup (k.map kV))/\r=valV kvs k
theorem DGet.k {H:Hp} {a:Addr} {kvs:List (Key×V)} {k:Key} (e:H a=some (.dK kvs)):DGet H a (kV k) (valV kvs k):=.inl ⟨kvs,k,.inl e,rfl,rfl⟩
theorem DGet.t {H:Hp} {a b:Addr} {kvs:List (List Key×V)} {k:List Key} (e:H a=some (.dT kvs)) (eb:H b=some (.tup (k.map kV))):DGet H a (.ref b) (valV kvs k):=.inr ⟨kvs,k,b,.inl e,rfl,eb,rfl⟩
section
variable {X:Cx} {pins:List (Addr×Obj)} {σ:St} {H:Hp} {s:Shared} {a:Addr} {y v:V} {u r:Value} {o:Option V} {A:Around} {E:Value->Shared->Prop}
theorem Inv.big (I:Inv X pins σ H s):sysModules<s.heap.objs.size:=by
 have h:mainGlobals<s.heap.objs.size:=(I.mod.glob.keeps I.bk).lt
 exact Nat.lt_trans (by decide) h
theorem d_in {Q:Value->Shared->Prop} (hu:A.units+1<cLine) (I:Inv X pins σ H s) (g:DGet H a y o) (ry:RelV y u) (h:∀s',Inv X pins σ H s'->Q (.bool o.isSome) s'):
  wpAny (model X.prog X.w) A (compareOp .In u (.ref a)) Q E s:=by
 rcases g with⟨kvs,k,e,ey,l⟩|⟨kvs,k,b,e,ey,eb,l⟩
 .subst ey
  obtain⟨z,hd,vs,rel,dd⟩:=dk_rd I.hok e
  refine wpAny_in_of (kV_is ry) hd dd.mapOf ?_
  rw[<- (rel.val k).isSome_eq,<- l]
  exact h _ (I.tok _)
 .subst ey
  cases(show u=Value.ref b from ry)
  obtain⟨z,hd,xs,rel,dd⟩:=dt_rd I.hok e
  refine wpAny_in_heap (tupleKind_room_in1 hu) (key_of I.hok eb) hd dd ?_
  have q:=(rel.val k).isSome_eq
  rw[Option.isSome_map]at q
  rw[<- q,<- l]
  exact h _ (I.tok _)
theorem d_notIn {Q:Value->Shared->Prop} (hu:A.units+1<cLine) (I:Inv X pins σ H s) (g:DGet H a y o) (ry:RelV y u) (h:∀s',Inv X pins σ H s'->Q (.bool (!o.isSome)) s'):
  wpAny (model X.prog X.w) A (compareOp .NotIn u (.ref a)) Q E s:=by
 rcases g with⟨kvs,k,e,ey,l⟩|⟨kvs,k,b,e,ey,eb,l⟩
 .subst ey
  obtain⟨z,hd,vs,rel,dd⟩:=dk_rd I.hok e
  refine wpAny_notIn_of (kV_is ry) hd dd.mapOf ?_
  rw[<- (rel.val k).isSome_eq,<- l]
  exact h _ (I.tok _)
 .subst ey
  cases(show u=Value.ref b from ry)
  obtain⟨z,hd,xs,rel,dd⟩:=dt_rd I.hok e
  refine wpAny_notIn_heap (tupleKind_room_in1 hu) (key_of I.hok eb) hd dd ?_
  have q:=(rel.val k).isSome_eq
  rw[Option.isSome_map]at q
  rw[<- q,<- l]
  exact h _ (I.tok _)
end
section
variable {X:Cx} {pins:List (Addr×Obj)} {σ:St} {H:Hp} {s:Shared} {a:Addr} {kvs:List (Key×V)} {k:Key} {u:Value} {A:Around} {E:Value->Shared->Prop}
end
section
variable {X:Cx} {o i e value:Expr} {pos pos' tpos:Pos} {td ty tv:TE}
end
section
variable {X:Cx} {pos:Pos}
end
structure M1 (X:Cx) (o:Expr) (m:Str) (apos:Pos) (e:Expr) (cpos:Pos):Prop where
 base:attributeBase o m X.env (eval o X.env)=eval o X.env
 few:((backTo cpos (starEach [e] X.env)).all (fun x=>!x.1)&&(backToKw cpos (keywordEach [] X.env)).all (fun x=>x.1.isSome)
  && decide (([e]:List Expr).length+([]:List Keyword).length+(if([]:List Keyword).isEmpty then 0 else 1)<30))=true
 line:(apos.endLine == cpos.line)=true
 trees:backTo cpos (starEach [e] X.env)=[(false,eval e X.env)]
structure M2 (X:Cx) (o:Expr) (m:Str) (apos:Pos) (e f:Expr) (cpos:Pos):Prop where
 base:attributeBase o m X.env (eval o X.env)=eval o X.env
 few:((backTo cpos (starEach [e,f] X.env)).all (fun x=>!x.1)&&(backToKw cpos (keywordEach [] X.env)).all (fun x=>x.1.isSome)
  && decide (([e,f]:List Expr).length+([]:List Keyword).length+(if([]:List Keyword).isEmpty then 0 else 1)<30))=true
 line:(apos.endLine == cpos.line)=true
 trees:backTo cpos (starEach [e,f] X.env)=[(false,eval e X.env),(false,eval f X.env)]
def IsD (H:Hp) (a:Addr):Prop:=(∃kvs,Rd H a (.dK kvs))\/∃kvs,Rd H a (.dT kvs)
theorem isD_at {X:Cx} {pins:List (Addr×Obj)} {σ:St} {H:Hp} {s:Shared} {a:Addr} (I:Inv X pins σ H s) (d:IsD H a):
  s.TypeIs (.ref a) "dict"/\(∀b,Value.ref a=.ref b->∃ob,s.heap.get? b=some ob/\ob.dict=none)/\(a == sysModules)=false:=by
 rcases d with⟨kvs,e⟩|⟨kvs,e⟩
 .obtain⟨_,hd,vs,_,dd⟩:=dk_rd I.hok e
  refine⟨dd.typeIs,fun b q=>?_,hd⟩
  cases q
  obtain⟨ob,_,_,h1,h2,_⟩:=dd
  exact⟨ob,h1,h2.2.1⟩
 .obtain⟨_,hd,xs,_,dd⟩:=dt_rd I.hok e
  refine⟨dd.typeIs,fun b q=>?_,hd⟩
  cases q
  obtain⟨ob,_,_,h1,h2,_⟩:=dd
  exact⟨ob,h1,h2.2.1⟩
section
variable {X:Cx} {pins:List (Addr×Obj)} {σ:St} {H:Hp} {s:Shared} {a:Addr} {y d:V} {u r:Value} {o:Option V} {A:Around} {E:Value->Shared->Prop}
theorem d_get1 {Q:Value->Shared->Prop} (hu:A.units+1<cLine) (I:Inv X pins σ H s) (g:DGet H a y o) (ry:RelV y u) (h:∀w' s',Inv X pins σ H s'->RelV (o.getD .non) w'->Q w' s'):
  wpAny (model X.prog X.w) A (call (.builtin "dict.get") [.ref a,u]) Q E s:=by
 rcases g with⟨kvs,k,e,ey,l⟩|⟨kvs,k,b,e,ey,eb,l⟩
 .subst ey
  obtain⟨z,hd,vs,rel,dd⟩:=dk_rd I.hok e
  refine call_meetsIn PySem.F.slot_dict_get dd.typeIs PySem.F.entry_dict_get (PySem.F.args_dict_get_2 _ _) (meets_dict_get (mixKind X.prog X.w) a (kV_is ry) hd) ⟨_,dd.mapOf,h _ _ (I.tok _) ?_⟩
  rw[l]
  exact(rel.val k).getD rfl
 .subst ey
  cases(show u=Value.ref b from ry)
  obtain⟨z,hd,xs,rel,dd⟩:=dt_rd I.hok e
  refine call_meetsIn PySem.F.slot_dict_get dd.typeIs PySem.F.entry_dict_get (PySem.F.args_dict_get_2 _ _) (meetsH_dict_get (tupleKind (mixKind X.prog X.w)) a b hd) ⟨tupleKind_room_in1 hu,k,xs,key_of I.hok eb,dd,h _ _ (I.tok _) ?_⟩
  rw[l]
  exact(rel.val k).getD rfl
end
section
variable {X:Cx} {o e f:Expr} {apos cpos:Pos} {td ty tx:TE}
end
section
variable {X:Cx} {pins:List (Addr×Obj)} {σ:St} {H:Hp} {s:Shared} {a:Addr} {kvs:List (Key×V)} {A:Around} {E:Value->Shared->Prop}
end
section
variable {X:Cx} {pins:List (Addr×Obj)} {σ:St} {H:Hp} {s:Shared} {a:Addr} {y:V} {u:Value} {A:Around} {E:Value->Shared->Prop}
end
section
variable {X:Cx}
end
section
variable {κ:Type} [DecidableEq κ]
end
noncomputable def Itc (lo c:Int) (n:Nat):It:=⟨fun i _=>i<n,fun i H x H'=>H'=H/\x=.int (lo+i*c),fun i _=>n<=i⟩
theorem turn_rangeC {P:Program} {w:World} {K:W.Frag} {tg:Expr} (it:Addr) (lo c:Int) (n:Nat):Turn P w K tg (Itc lo c n) [it] it (fun i h=>IsRangeIter h it (lo+(i:Nat)*c) ((n:Int)-(i:Nat)) c) where
 mem:=by simp
 obj:=fun i h st b hb=>by
  have e:b=it:=by simpa using hb
  subst e
  exact⟨_,st,fun v z=>by
   have z':Data.fields _=Data.cell v:=z
   cases z'⟩
 keep:=fun i h h' st k=>k it (by simp) _ st
 item:=by
  intro X hP hw hK hc i pins s σ H E I hf st hg
  subst hP hw hK
  obtain⟨f0,f1,f2,f3,f4,f5⟩:=hf it (by simp)
  have W:=Walks.range (prog:=X.prog) (w:=X.w) (I.ok.hd hc) it lo c n
  refine W.item i s _ _ hg st fun v h' tk hv st' kk=>?_
  obtain⟨t,rfl⟩:=hv
  have I1:Inv X pins σ H { s with heap:=h',toks:=tk }:=I.turned (fun b o hb e=>kk b o (by simpa using hb) e) f0 f1 f3 f4 f5
  exact⟨_,rfl,go_of (s:={ s with heap:=h',toks:=tk }) (n:="range_iterator") st' rfl rfl (by decide) ⟨.int (lo+i*c),H,I1,⟨t,rfl⟩,⟨rfl,rfl⟩,st',fun b hb=>(hf b hb).1⟩⟩
 done:=by
  intro X hP hw hK hc i pins s σ H E I hf st hg
  subst hP hw hK
  obtain⟨f0,f1,f2,f3,f4,f5⟩:=hf it (by simp)
  exact wpAny_pyNext_range_end (I.ok.hd hc) st (by have:n<=i:=hg;omega) fun h' eb=>⟨rfl,I.turned (t':=s.toks) (fun b o hb e=>eb b o hb e) f0 f1 f3 f4 f5⟩
 self:=fun _ _ _ _ _ st h=>wpAny_pyIter_rangeiter st h
section
variable {prog:Program} {w:World} {A:Around} {E:Value->Shared->Prop} {s:Shared}
theorem call_range_reversed {r:Addr} {a b:Int} {t u v:Tok} {Q:Value->Shared->Prop} (hr:IsRange s.heap r a b 1 t u v) (h1:-(2 ^ 62)<=a) (h2:a<2 ^ 62) (h3:-(2 ^ 62)<=b) (h4:b<2 ^ 62)
  (h:Q (.ref s.heap.objs.size) { s with heap:=s.heap.push { cls:=.type "range_iterator",data:=.fields #[rawInt (a+(Builtin.Range.rangeSize a b 1-1)*1),rawInt (Builtin.Range.rangeSize a b 1),rawInt (-1)] } }):wpAny (model prog w) A (call (.builtin "range.__reversed__") [.ref r]) Q E s:=by
 have hT:s.TypeIs (.ref r) "range":=⟨_,hr,rfl⟩
 refine wpAny_call_entry F.slot_range_reversed hT F.entry_range_reversed ?_ (F.args_range_reversed_1 _)
 unfold Builtin.«range.__reversed__»
 refine wpAny_bind (wpAny_of_eq (a:=Value.ref r) rfl ?_)
 unfold Builtin.Range.rangeFields
 refine wpAny_bind (wpAny_bind (wpAny_field hr rfl (x:=.int a t) rfl ?_))
 refine wpAny_bind (wpAny_of_eq (a:=some a) rfl ?_)
 refine wpAny_bind (wpAny_field hr rfl (x:=.int b u) rfl ?_)
 refine wpAny_bind (wpAny_of_eq (a:=some b) rfl ?_)
 refine wpAny_bind (wpAny_field hr rfl (x:=.int 1 v) rfl ?_)
 refine wpAny_bind (wpAny_of_eq (a:=some 1) rfl ?_)
 refine wpAny_pure ?_
 dsimp only
 have hsz:Builtin.Range.rangeSize a b 1=if a<b then b-a else 0:=by rw[rangeSize_one]
 have hfit:(Builtin.Range.rangeFitsLong a&&Builtin.Range.rangeFitsLong b&&Builtin.Range.rangeFitsLong 1&&Builtin.Range.rangeFitsLong (-1)&&Builtin.Range.rangeFitsLong (a-1)&&Builtin.Range.rangeFitsLong (Builtin.Range.rangeSize a b 1))=true:=by
  rw[hsz]
  unfold Builtin.Range.rangeFitsLong
  split<;>simp<;>omega
 rw[hfit]
 simp only[Bool.not_true,Bool.false_eq_true,if_false,if_true]
 refine wpAny_bind ?_
 unfold newFields
 exact wpAny_newObj_type (wpAny_pure ⟨_,rfl,h⟩)
theorem code_reversed_range {r:Addr} {a b:Int} {t u v:Tok} {Q₁:Value->Shared->Prop} (hr:IsRange s.heap r a b 1 t u v) (h1:-(2 ^ 62)<=a) (h2:a<2 ^ 62) (h3:-(2 ^ 62)<=b) (h4:b<2 ^ 62)
  (h:Q₁ (.ref s.heap.objs.size) { s with heap:=s.heap.push { cls:=.type "range_iterator",data:=.fields #[rawInt (a+(Builtin.Range.rangeSize a b 1-1)*1),rawInt (Builtin.Range.rangeSize a b 1),rawInt (-1)] } }):
  codeAny (model prog w) A (.call (.builtin "reversed.__new__") ⟨[.type "reversed",.ref r],[]⟩) (wants Q₁ E) s:=by
 have hT:s.TypeIs (.ref r) "range":=⟨_,hr,rfl⟩
 refine codeAny_of_tree ?_
 show wpAny _ A.in1 (do checkBuiltinCall "reversed.__new__" ⟨[.type "reversed",.ref r],[]⟩;again (.builtin "reversed.__new__" ⟨[.type "reversed",.ref r],[]⟩)) _ _ s
 refine wpAny_bind (wpAny_of_eq (F.newCall_reversed_1 _) (wpAny_pure ⟨plainId_quiet F.plain_reversed_new _,codeAny_builtin F.entry_reversed_new ?_⟩))
 rw[Around.under_plainId F.plain_reversed_new _]
 unfold Builtin.«reversed.__new__»
 refine wpAny_bind (wpAny_of_eq (newClass_reversed _) ?_)
 try dsimp only
 refine wpAny_bind (wpAny_of_eq (a:=()) (by first|rfl|kernel_rfl) ?_)
 refine wpAny_bind (wpAny_of_eq (a:=()) (by first|rfl|kernel_rfl) ?_)
 try dsimp only
 refine wpAny_bind (wpAny_specialOf hT F.slot_range_reversed.lookup ?_)
 try dsimp only
 refine wpAny_bind (wpAny_of_eq (F.slot_range_reversed.bind _) ?_)
 try dsimp only
 first
 |rw[if_neg (show ¬((Value.builtin "range.__reversed__" == Value.none)=true) from Bool.false_ne_true)]
 |(show wpAny _ _ (if(Value.builtin "range.__reversed__" == Value.none)=true then _ else _) _ _ _;rw[if_neg (show ¬((Value.builtin "range.__reversed__" == Value.none)=true) from Bool.false_ne_true)])
 refine wpAny_bind (wpAny_rule ?_)
 refine wpAny_bind (m:=runValue (.call (.builtin "range.__reversed__") ⟨[.ref r],[]⟩)) (show wpAny _ _ (call (.builtin "range.__reversed__") [.ref r]) _ _ _ from call_range_reversed hr h1 h2 h3 h4 ?_)
 first
 |exact wpAny_pure h
 |exact wpAny_bind (wpAny_pure (wpAny_pure h))
theorem sub_rri_reversed:isSubtype (.type "range_iterator") (.type "reversed")=pure false:=by rw[isSubtype_type];kernel_rfl
theorem call_reversed_range {r:Addr} {a b:Int} {t u v:Tok} {Q:Value->Shared->Prop} (hr:IsRange s.heap r a b 1 t u v) (h1:-(2 ^ 62)<=a) (h2:a<2 ^ 62) (h3:-(2 ^ 62)<=b) (h4:b<2 ^ 62)
  (h:Q (.ref s.heap.objs.size) { s with heap:=s.heap.push { cls:=.type "range_iterator",data:=.fields #[rawInt (a+(Builtin.Range.rangeSize a b 1-1)*1),rawInt (Builtin.Range.rangeSize a b 1),rawInt (-1)] } }):
  wpAny (model prog w) A (call (.type "reversed") [.ref r]) Q E s:=by
 refine callType_other (U:="range_iterator") (Q₁:=fun obj s₁=>obj=.ref s.heap.objs.size/\s₁={ s with heap:=s.heap.push { cls:=.type "range_iterator",data:=.fields #[rawInt (a+(Builtin.Range.rangeSize a b 1-1)*1),rawInt (Builtin.Range.rangeSize a b 1),rawInt (-1)] } }) (by decide +kernel) F.create_reversed ⟨_,_,F.mro_reversed⟩ F.made_reversed sub_rri_reversed (F.typeCall_reversed_1 _) (code_reversed_range hr h1 h2 h3 h4 ⟨rfl,rfl⟩) ?_
 rintro obj s₁ ⟨rfl,rfl⟩
 exact⟨⟨_,Heap.get?_push_size _ rfl,rfl⟩,h⟩
end
noncomputable def Itlr (K:W.Frag) (a:Addr) (n:Nat):It:=
 ⟨fun i H=>i<n/\∃xs,SqL K H a xs/\xs.length=n,fun i H x H'=>H'=H/\∀xs,SqL K H a xs->xs[n-1-i]?=some x,fun i H=>n=i⟩
theorem turn_listRev {P:Program} {w:World} {K:W.Frag} {tg:Expr} (a it:Addr) (n:Nat):Turn P w K tg (Itlr K a n) [it] it (fun i h=>i<=n/\h.IsRevIter it a ((n:Int)-1-(i:Int))) where
 mem:=by simp
 obj:=fun i h st b hb=>by
  have e:b=it:=by simpa using hb
  subst e
  obtain⟨o,e,c,d⟩:=st.2
  exact⟨o,e,fun v z=>by rw[d]at z;cases z⟩
 keep:=fun i h h' st k=>⟨st.1,st.2.at fun o e=>k it (by simp) o e⟩
 item:=by
  intro X hP hw hK hc i pins s σ H E I hf st hg
  subst hP hw hK
  obtain⟨hi,xs,hq,hx⟩:=hg
  obtain⟨its,rv,p,hz⟩:=I.list hq
  have hg1:xs[n-1-i]?=some (xs[n-1-i]'(by omega)):=List.getElem?_eq_getElem _
  obtain⟨u,hu,ru⟩:=rv.get hg1
  obtain⟨f0,f1,f2,f3,f4,f5⟩:=hf it (by simp)
  have e:(n:Int)-1-(i:Int)=((n-1-i:Nat):Int):=by omega
  have st2:=st.2
  rw[e]at st2
  refine wpAny_pyNext_rev_item st2 p.isList (x:=u) (by simpa using hu) fun h' st' sb=>?_
  have I1:Inv X pins σ H { s with heap:=h' }:=I.turned (t':=s.toks) (fun b o hb e=>(sb.2 b hb).trans e) f0 f1 f3 f4 f5
  obtain⟨o,e1,c,d⟩:=id st'
  have e2:((n-1-i:Nat):Int)-1=(n:Int)-1-((i+1:Nat):Int):=by omega
  rw[e2]at st'
  exact⟨u,rfl,go_of (s:={ s with heap:=h' }) e1 c d (by decide) ⟨_,H,I1,ru,⟨rfl,fun ys hy=>by rw[I.list_inj hy hq];exact hg1⟩,⟨hi,st'⟩,fun b hb=>(hf b hb).1⟩⟩
 done:=by
  intro X hP hw hK hc i pins s σ H E I hf st hg
  subst hP hw hK
  have hg':n=i:=hg
  subst hg'
  obtain⟨f0,f1,f2,f3,f4,f5⟩:=hf it (by simp)
  have e:(n:Int)-1-(n:Int)=-1:=by omega
  have st2:=st.2
  rw[e]at st2
  exact wpAny_pyNext_rev_end (I.ok.hd hc) st2 fun h' eb=>⟨rfl,I.turned (t':=s.toks) (fun b o hb e=>eb b o hb e) f0 f1 f3 f4 f5⟩
 self:=fun _ _ _ _ _ st h=>wpAny_pyIter_revIter st.2 h
section
variable {X:Cx} {tg:Expr}
def RevV (K:W.Frag) (x:V) (H1:Hp) (R:It->Hp->Prop):Prop:=
 (∃p i j,x=.ref p/\H1 p=some (.rng i j)/\(-(2 ^ 62)<=i/\i<2 ^ 62/\-(2 ^ 62)<=j/\j<2 ^ 62)/\R (Itc (i+((j-i).toNat:Int)-1) (-1) (j-i).toNat) H1)\/∃a xs,x=.ref a/\SqL K H1 a xs/\R (Itlr K a xs.length) H1
noncomputable def iRev (K:W.Frag) (tl:TE):TI:=fun σ H R=>tCons tl tNil σ H fun vs H1=>∃x,vs=[x]/\RevV K x H1 R
theorem boot_reversed:bootBuiltins "reversed"=some (.type "reversed"):=by decide +kernel
theorem pi_rev {a:Expr} {tl:TE} {p pos:Pos} (hg:Gl X "reversed") (hm:X.mg "reversed"=none) (ha:PA X [a] (tCons tl tNil)) (hs:starEach [a] X.env=[(false,eval a X.env)]):
  PI X tg (.Call (.Name "reversed" p) [a] [] pos) (iRev X.K tl):=by
 intro pins s σ H R I h
 have h':tCons tl tNil σ H (fun vs H1=>∃x,vs=[x]/\RevV X.K x H1 R):=h
 refine Call_ (ld_blt I hg hm boot_reversed (PyProof.Rows.callWith_type1 (thn (ha pos pins s σ H _ I h') fun us s1 ⟨vs,H1,I1,r1,q1⟩=>?_) (by rw[hs];rfl) (by rfl)))
 obtain⟨x,e,q1⟩:=q1
 subst e
 cases r1 with
 |cons r rr=>
  cases rr
  rcases q1 with⟨p,i,j,rfl,hp,⟨h1,h2,h3,h4⟩,q⟩|⟨a,xs,rfl,hxs,q⟩
  .cases r
   obtain⟨t,u,v,hr⟩:=(show ObjOk X.prog X.w H1 s1.heap p (.rng i j) from I1.hok p _ hp)
   refine call_reversed_range hr h1 h2 h3 h4 ?_
   have e1:i+(Builtin.Range.rangeSize i j 1-1)*1=(i+((j-i).toNat:Int)-1)+((0:Nat):Int)*(-1):=by
    rw[rangeSize_one];split<;>omega
   have e2:Builtin.Range.rangeSize i j 1=(((j-i).toNat:Nat):Int)-((0:Nat):Int):=by rw[rangeSize_one];split<;>omega
   have it0:IsRangeIter (s1.heap.push { cls:=.type "range_iterator",data:=.fields #[rawInt (i+(Builtin.Range.rangeSize i j 1-1)*1),rawInt (Builtin.Range.rangeSize i j 1),rawInt (-1)] }) s1.heap.objs.size ((i+((j-i).toNat:Int)-1)+((0:Nat):Int)*(-1)) ((((j-i).toNat:Nat):Int)-((0:Nat):Int)) (-1):=by
    rw[<- e1,<- e2]
    exact Heap.get?_push_size _ rfl
   refine wpAny_pyIter_rangeiter it0 ?_
   refine⟨s1.heap.objs.size,[s1.heap.objs.size],_,_,H1,rfl,I1.kept (t':=s1.toks) (fun b o e=>Heap.get?_push_of_some _ e),turn_rangeC _ _ _ _,it0,fun b hb=>?_,q⟩
   have e:b=s1.heap.objs.size:=by simpa using hb
   subst e
   exact I1.fpOk (Nat.le_refl _) (I1.hok.fresh (Nat.le_refl _))
  .cases r
   obtain⟨its,rv,pl,hz⟩:=I1.list hxs
   refine call_reversed_list pl.isList ?_
   have hl:=rv.length
   have it0:(s1.heap.push (revObj a ((its.toArray.size:Int)-1))).IsRevIter s1.heap.objs.size a ((xs.length:Int)-1-((0:Nat):Int)):=by
    have e:(its.toArray.size:Int)-1=(xs.length:Int)-1-((0:Nat):Int):=by simp;omega
    rw[<- e]
    exact⟨_,Heap.get?_push_size _ rfl,rfl,rfl⟩
   refine wpAny_pyIter_revIter it0 ?_
   refine⟨s1.heap.objs.size,[s1.heap.objs.size],_,_,H1,rfl,I1.kept (t':=s1.toks) (fun b o e=>Heap.get?_push_of_some _ e),turn_listRev a _ xs.length,⟨Nat.zero_le _,it0⟩,fun b hb=>?_,q⟩
   have e:b=s1.heap.objs.size:=by simpa using hb
   subst e
   exact I1.fpOk (Nat.le_refl _) (I1.hok.fresh (Nat.le_refl _))
noncomputable def nStep (i j c:Int):Nat:=if i<j then((j-i-1) / c+1).toNat else 0
noncomputable def rStep (i j c:Int):Nat:=if c=-1 then(i-j).toNat else nStep i j c
theorem rStep_pos {i j c:Int} (h:0<c):rStep i j c=nStep i j c:=if_neg (by omega)
noncomputable def iRng3 (ta:TA):TI:=fun σ H R=>ta σ H fun vs H1=>∃i j c:Int,vs=[.int i,.int j,.int c]/\(-(2 ^ 60)<=i/\i<2 ^ 60/\-(2 ^ 60)<=j/\j<2 ^ 60/\(0<c/\c<2 ^ 29\/c=-1))/\R (Itc i c (rStep i j c)) H1
theorem rangeSize_pos {i j c:Int} (hc:0<c):Builtin.Range.rangeSize i j c=(nStep i j c:Int):=by
 unfold Builtin.Range.rangeSize nStep
 rw[if_pos (show c > 0 from hc)]
 split
 .have:=Int.ediv_nonneg (a:=j-i-1) (b:=c) (by omega) (by omega)
  omega
 .rfl
theorem nStep_le {i j c:Int} (hc:0<c) (h:i<=j):(nStep i j c:Int)<=j-i:=by
 unfold nStep
 split
 .have h0:=Int.ediv_nonneg (a:=j-i-1) (b:=c) (by omega) (by omega)
  have h1:=Int.ediv_le_self (a:=j-i-1) c (by omega)
  omega
 .omega
theorem small_step {i j c:Int} (h1:-(2 ^ 60)<=i) (h2:i<2 ^ 60) (h3:-(2 ^ 60)<=j) (h4:j<2 ^ 60) (h5:0<c) (h6:c<2 ^ 29):Builtin.Range.small i j c=true:=by
 unfold Builtin.Range.small
 rw[rangeSize_pos h5,if_pos (show c > 0 from h5)]
 have hn:(nStep i j c:Int)<=2 ^ 62:=by
  rcases Int.lt_or_le i j with h|h
  .have:=nStep_le (i:=i) (j:=j) h5 (by omega);omega
  .have:nStep i j c=0:=by unfold nStep;rw[if_neg (by omega)]
   rw[this];decide
 unfold Builtin.Range.rangeFitsLong
 simp
 omega
theorem rangeSize_any {i j c:Int} (hc:0<c/\c<2 ^ 29\/c=-1):Builtin.Range.rangeSize i j c=(rStep i j c:Int):=by
 rcases hc with hc|rfl
 .rw[rStep_pos hc.1];exact rangeSize_pos hc.1
 .unfold Builtin.Range.rangeSize rStep
  rw[if_neg (show ¬(-1:Int) > 0 by decide),if_pos rfl]
  split
  .have:(i-j-1) / (-(-1:Int))=i-j-1:=by simp
   omega
  .omega
theorem small_any {i j c:Int} (h1:-(2 ^ 60)<=i) (h2:i<2 ^ 60) (h3:-(2 ^ 60)<=j) (h4:j<2 ^ 60) (hc:0<c/\c<2 ^ 29\/c=-1):Builtin.Range.small i j c=true:=by
 rcases hc with hc|rfl
 .exact small_step h1 h2 h3 h4 hc.1 hc.2
 .unfold Builtin.Range.small
  rw[rangeSize_any (.inr rfl),if_neg (show ¬(-1:Int) > 0 by decide)]
  have hn:(rStep i j (-1):Int)<=2 ^ 62:=by unfold rStep;rw[if_pos rfl];omega
  unfold Builtin.Range.rangeFitsLong
  simp
  omega
theorem pi_range3 {a b c:Expr} {ta:TA} {p pos:Pos} (hg:Gl X "range") (hm:X.mg "range"=none) (ha:PA X [a,b,c] ta) (hs:starEach [a,b,c] X.env=[(false,eval a X.env),(false,eval b X.env),(false,eval c X.env)]) (hs2:starEach [b,c] X.env=[(false,eval b X.env),(false,eval c X.env)]):
  PI X tg (.Call (.Name "range" p) [a,b,c] [] pos) (iRng3 ta):=by
 intro pins s σ H R I h
 refine Call_ (ld_blt I hg hm boot_range (PyProof.Rows.callWith_type1 (thn (ha pos pins s σ H _ I h) fun us s1 ⟨vs,H1,I1,r1,q1⟩=>?_) (by rw[hs,hs2]) (by rw[hs2];rfl)))
 obtain⟨i,j,k,e,⟨q1,q2,q3,q4,q5⟩,q⟩:=q1
 subst e
 cases r1 with
 |cons r rr=>
  cases rr with
  |cons r' rr=>
   cases rr with
   |cons r'' rr=>
    cases rr
    obtain⟨t,rfl⟩:=r
    obtain⟨t',rfl⟩:=r'
    obtain⟨t'',rfl⟩:=r''
    refine call_range_3 (by omega) ?_ (Or.inl (PyProof.noPylong_small (by omega)))
    refine wpAny_pyIter_range (IsRange.new ..) (small_any q1 q2 q3 q4 q5) ?_
    have I2:Inv X pins σ H1 { s1 with heap:=s1.heap.push { cls:=.type "range",data:=.fields #[.int i t,.int j t',.int k t''] } }:=I1.kept (t':=s1.toks) fun b o e=>Heap.get?_push_of_some _ e
    refine⟨(s1.heap.push { cls:=.type "range",data:=.fields #[.int i t,.int j t',.int k t''] }).objs.size,[(s1.heap.push { cls:=.type "range",data:=.fields #[.int i t,.int j t',.int k t''] }).objs.size],_,_,H1,rfl,I2.kept (t':=s1.toks) (fun b o e=>Heap.get?_push_of_some _ e),turn_rangeC _ i k (rStep i j k),?_,fun b hb=>?_,q⟩
    .have e1:i+((0:Nat):Int)*k=i:=by simp
     have e2:((rStep i j k:Nat):Int)-((0:Nat):Int)=Builtin.Range.rangeSize i j k:=by rw[rangeSize_any q5];omega
     show IsRangeIter _ _ (i+((0:Nat):Int)*k) (((rStep i j k:Nat):Int)-((0:Nat):Int)) k
     rw[e1,e2]
     exact Heap.get?_push_size _ rfl
    .have e:b=(s1.heap.push { cls:=.type "range",data:=.fields #[.int i t,.int j t',.int k t''] }).objs.size:=by simpa using hb
     subst e
     exact I2.fpOk (Nat.le_refl _) (I2.hok.fresh (Nat.le_refl _))
end
section
variable {X:Cx}
theorem and_one {i:Int} (h:0<=i):Builtin.bitAnd i 1=i % 2:=by
 rw[PyProof.Rows.bitAnd_pp h (by decide)]
 have e:(1:Int).toNat=1:=rfl
 rw[e,Nat.and_one_is_mod]
 omega
theorem op_and1:OpR X (binaryOp .BitAnd) (rI (fun i j=>0<=i/\j=1) fun i _=>.int (i % 2)):=by
 intro pins s σ H x y v u Q I rx ry h
 obtain⟨i,j,rfl,rfl,⟨h0,rfl⟩,q⟩:=h
 refine op_and pins s σ H _ _ v u Q I rx ry ⟨i,1,rfl,rfl,?_⟩
 have q':Q (.int (i % 2)) H:=q
 rw[<- and_one h0]at q'
 exact q'
noncomputable def inT (x y:Str):Bool:=!(Builtin.Str.occurrences x y 0 x.length 1).isEmpty
noncomputable def rInS (neg:Bool):R2:=fun x y H Q=>∃a b,x=.str a/\y=.str b/\Q (.bl (if neg then !inT b a else inT b a)) H
theorem op_inS:OpR X (compareOp .In) (rInS false):=by
 intro pins s σ H x y v u Q I rx ry h
 obtain⟨a,b,rfl,rfl,q⟩:=h
 obtain⟨t,rfl⟩:=rx
 obtain⟨t',rfl⟩:=ry
 exact in_str ⟨.bl _,H,I,rfl,q⟩
theorem op_notInS:OpR X (compareOp .NotIn) (rInS true):=by
 intro pins s σ H x y v u Q I rx ry h
 obtain⟨a,b,rfl,rfl,q⟩:=h
 obtain⟨t,rfl⟩:=rx
 obtain⟨t',rfl⟩:=ry
 have q':Q (.bl (!inT b a)) H:=q
 refine notIn_str ⟨.bl (!inT b a),H,I,?_,q'⟩
 show Value.bool _=Value.bool _
 simp[inT]
end
section
variable {X:Cx}
noncomputable def txGt (x y:Str):Bool:=decide (y.cps.toList<x.cps.toList)
noncomputable def rGtS:R2:=fun x y H Q=>∃a b,x=.str a/\y=.str b/\Q (.bl (txGt a b)) H
theorem op_gtS:OpR X (compareOp .Gt) rGtS:=by
 intro pins s σ H x y v u Q I rx ry h
 obtain⟨a,b,rfl,rfl,k⟩:=h
 obtain⟨t,rfl⟩:=rx
 obtain⟨t',rfl⟩:=ry
 exact PySem.P.gt_str ⟨.bl _,H,I,rfl,k⟩
noncomputable def dSc:V->Bool
 | .int _=>true
 | .str _=>true
 | .bl _=>true
 | .non=>true
 |_=>false
noncomputable def Dq (H:Hp):Nat->V->V->Prop
 |0,v,w=>v=w/\dSc v=true
 |n+1,v,w=>(v=w/\dSc v=true)\/∃a b xs ys,v=.ref a/\w=.ref b/\((H a=some (.lst xs)/\H b=some (.lst ys))\/(H a=some (.tup xs)/\H b=some (.tup ys)))/\xs.length=ys.length/\∀(i:Nat) x y,xs[i]?=some x->ys[i]?=some y->Dq H n x y
open PySem.SeqAt in
theorem dq_sc {A:Around} {s:Shared} {x:V} {u v:Value} (h:dSc x=true) (r1:RelV x u) (r2:RelV x v):EqAt A s u v true:=by
 have:=eqAt_of (A:=A) (s:=s) r1 r2 (.inl (by cases x<;>first|(cases h;done)|exact⟨rfl,fun b=>by intro z;cases z⟩))
 rw[decide_eq_true rfl]at this
 exact this
theorem all_true {n:Nat}:(List.range n).all (fun _=>true)=true:=by simp
theorem arr_at {its:List Value} {j:Nat} {u:Value} (e:its[j]?=some u) (h:j<its.toArray.size):its.toArray[j]=u:=by
 simp at h ⊢
 rw[List.getElem?_eq_getElem h]at e
 exact Option.some.inj e
open PySem.SeqAt in
theorem dq_items {n:Nat} {H:Hp} {A:Around} {s:Shared} {xs ys:List V} {its its2:List Value} (ih:∀x y u v,Dq H n x y->RelV x u->RelV y v->EqAt A.in1 s u v true) (hl:xs.length=ys.length) (r1:Vals xs its) (r2:Vals ys its2)
  (he:∀(i:Nat) x y,xs[i]?=some x->ys[i]?=some y->Dq H n x y):∀j (h1:j<its.toArray.size) (h2:j<its2.toArray.size),EqAt A.in1 s its.toArray[j] its2.toArray[j] ((fun _=>true) j):=by
 intro j h1 h2
 have l1:=r1.length
 have j1:j<xs.length:=by simp at h1;omega
 have j2:j<ys.length:=by omega
 have g1:xs[j]?=some xs[j]:=List.getElem?_eq_getElem j1
 have g2:ys[j]?=some ys[j]:=List.getElem?_eq_getElem j2
 obtain⟨u1,e1,ru1⟩:=r1.get g1
 obtain⟨u2,e2,ru2⟩:=r2.get g2
 rw[arr_at e1 h1,arr_at e2 h2]
 exact ih _ _ _ _ (he j _ _ g1 g2) ru1 ru2
open PySem.SeqAt in
theorem dq_at {pins:List (Addr×Obj)} {σ:L2.St} {H:Hp} {s:Shared} (I:Inv X pins σ H s):∀(n:Nat) (A:Around) (x y:V) (u v:Value),A.units+n<cLine->Dq H n x y->RelV x u->RelV y v->EqAt A s u v true:=by
 intro n
 induction n with
 |zero=>
  rintro A x y u v hu ⟨rfl,hs⟩ r1 r2
  exact dq_sc hs r1 r2
 |succ n ih=>
  rintro A x y u v hu h rx ry
  rcases h with⟨rfl,hs⟩|⟨a,b,xs,ys,rfl,rfl,hab,hl,he⟩
  .exact dq_sc hs rx ry
  cases rx
  cases ry
  by_cases hne:a=b
  .subst hne;exact EqAt.same _
  have ih':∀x y u v,Dq H n x y->RelV x u->RelV y v->EqAt A.in1 s u v true:=fun x y u v=>ih A.in1 x y u v (by show A.units+1+n<cLine;omega)
  rcases hab with⟨h1,h2⟩|⟨h1,h2⟩
  .obtain⟨its,r1,pl1,_⟩:=I.list (SqL.of h1)
   obtain⟨its2,r2,pl2,_⟩:=I.list (SqL.of h2)
   have l1:=r1.length
   have l2:=r2.length
   have:=RcAt.lists pl1.isList pl2.isList (by simp;omega) (by omega) (dq_items ih' hl r1 r2 he)
   rw[all_true]at this
   exact EqAt.of_refs hne this
  .obtain⟨its,r1,pl1,_⟩:=I.tuple (SqT.of h1)
   obtain⟨its2,r2,pl2,_⟩:=I.tuple (SqT.of h2)
   have l1:=r1.length
   have l2:=r2.length
   have:=RcAt.tuples pl1 pl2 (by omega) (dq_items ih' hl r1 r2 he)
   rw[all_true]at this
   have e:(true&&its.toArray.size == its2.toArray.size)=true:=by simp;omega
   rw[e]at this
   exact EqAt.of_refs hne this
noncomputable def rEqD (neg:Bool):R2:=fun x y H Q=>∃n,n<=8/\Dq H n x y/\(∃a b,x=.ref a/\y=.ref b)/\Q (.bl (!neg)) H
theorem Dq.open {H:Hp} {n:Nat} {a b:Addr} (h:Dq H n (.ref a) (.ref b)):∃m xs ys,n=m+1/\((H a=some (.lst xs)/\H b=some (.lst ys))\/(H a=some (.tup xs)/\H b=some (.tup ys)))/\xs.length=ys.length/\∀(i:Nat) x y,xs[i]?=some x->ys[i]?=some y->Dq H m x y:=by
 cases n with
 |zero=>exact(Bool.false_ne_true h.2).elim
 |succ m=>
  rcases h with⟨_,hs⟩|⟨a',b',xs,ys,e1,e2,hab,hl,he⟩
  .cases hs
  .cases e1;cases e2;exact⟨m,xs,ys,rfl,hab,hl,he⟩
open PySem.SeqAt in
theorem op_eqD (hu:X.A.units+64<cLine):OpR X (compareOp .Eq) (rEqD false):=by
 intro pins s σ H x y v u Q I rx ry h
 obtain⟨n,hn,hd,⟨a,b,rfl,rfl⟩,k⟩:=h
 cases rx
 cases ry
 obtain⟨m,xs,ys,rfl,hab,hl,he⟩:=hd.open
 have ih':∀x y u v,Dq H m x y->RelV x u->RelV y v->EqAt X.A.in1 s u v true:=fun x y u v=>dq_at I m X.A.in1 x y u v (by show X.A.units+1+m<cLine;omega)
 rcases hab with⟨h1,h2⟩|⟨h1,h2⟩
 .obtain⟨its,r1,pl1,_⟩:=I.list (SqL.of h1)
  obtain⟨its2,r2,pl2,_⟩:=I.list (SqL.of h2)
  have l1:=r1.length
  have l2:=r2.length
  refine eq_listAt pl1.isList pl2.isList (by simp;omega) (by omega) (dq_items ih' hl r1 r2 he) ?_
  rw[all_true]
  exact⟨.bl true,H,I,rfl,k⟩
 .obtain⟨its,r1,pl1,_⟩:=I.tuple (SqT.of h1)
  obtain⟨its2,r2,pl2,_⟩:=I.tuple (SqT.of h2)
  have l1:=r1.length
  have l2:=r2.length
  refine eq_tupleAt pl1 pl2 (by omega) (dq_items ih' hl r1 r2 he) ?_
  have e:(true&&its.toArray.size == its2.toArray.size)=true:=by simp;omega
  rw[all_true,e]
  exact⟨.bl true,H,I,rfl,k⟩
open PySem.SeqAt in
theorem op_neD (hu:X.A.units+64<cLine):OpR X (compareOp .NotEq) (rEqD true):=by
 intro pins s σ H x y v u Q I rx ry h
 obtain⟨n,hn,hd,⟨a,b,rfl,rfl⟩,k⟩:=h
 cases rx
 cases ry
 obtain⟨m,xs,ys,rfl,hab,hl,he⟩:=hd.open
 have ih':∀x y u v,Dq H m x y->RelV x u->RelV y v->EqAt X.A.in1 s u v true:=fun x y u v=>dq_at I m X.A.in1 x y u v (by show X.A.units+1+m<cLine;omega)
 have hend:EP X pins σ Q (Value.bool false) s:=⟨.bl false,H,I,rfl,k⟩
 rcases hab with⟨h1,h2⟩|⟨h1,h2⟩
 .obtain⟨its,r1,pl1,_⟩:=I.list (SqL.of h1)
  obtain⟨its2,r2,pl2,_⟩:=I.list (SqL.of h2)
  have l1:=r1.length
  have l2:=r2.length
  obtain⟨⟨cls,dd,data,sl⟩,ho,hc,n1,hd1⟩:=pl1.isList
  obtain⟨⟨cls2,dd2,data2,sl2⟩,ho2,hc2,n2,hd2⟩:=pl2.isList
  simp only at hc hd1 hc2 hd2
  subst hc hd1 hc2 hd2
  refine richCompare_meets_room (op:=.NotEq) ⟨_,ho,rfl⟩ ⟨_,ho2,rfl⟩ F.slot_list_ne F.entry_list_ne (F.args_list_ne_2 _ _) (list_neAt a b its.toArray its2.toArray n1 n2 dd dd2 sl sl2 (by simp;omega) (fun _=>true)) ⟨ho,ho2,dq_items ih' hl r1 r2 he,?_⟩ (by omega)
  rw[all_true]
  exact(show Value.bool false≠Value.notImplemented/\EP X pins σ Q (Value.bool false) s from⟨(fun x=>nomatch x),hend⟩)
 .obtain⟨its,r1,pl1,_⟩:=I.tuple (SqT.of h1)
  obtain⟨its2,r2,pl2,_⟩:=I.tuple (SqT.of h2)
  have l1:=r1.length
  have l2:=r2.length
  obtain⟨⟨cls,dd,data,sl⟩,ho,hc,n1,hd1⟩:=id pl1
  obtain⟨⟨cls2,dd2,data2,sl2⟩,ho2,hc2,n2,hd2⟩:=id pl2
  simp only at hc hd1 hc2 hd2
  subst hc hd1 hc2 hd2
  refine richCompare_meets_room (op:=.NotEq) ⟨_,ho,rfl⟩ ⟨_,ho2,rfl⟩ F.slot_tuple_ne F.entry_tuple_ne (F.args_tuple_ne_2 _ _) (tuple_neAt a b its.toArray its2.toArray n1 n2 dd dd2 sl sl2 (fun _=>true)) ⟨ho,ho2,dq_items ih' hl r1 r2 he,?_⟩ (by omega)
  have e:(true&&its.toArray.size == its2.toArray.size)=true:=by simp;omega
  rw[all_true,e]
  exact(show Value.bool false≠Value.notImplemented/\EP X pins σ Q (Value.bool false) s from⟨(fun x=>nomatch x),hend⟩)
end
end L2
namespace HT
open PySem PyProof.Rows
open PySem.SeqAt
open PySem.MeetsSeq PySem.MeetsSeq2 PySem.MeetsSeq3
section
variable {prog:Program} {w:World} {A:Around} {E:Value->Shared->Prop} {s:Shared}
theorem cat_tup0 {t b:Addr} {ws:List Value} {Q:Value->Shared->Prop} (ht:IsTup s.heap t #[]) (hb:IsTup s.heap b ws.toArray) (h0:Q (.ref b) s):wpAny (model prog w) A (binaryOp .Add (.ref t) (.ref b)) Q E s:=by
 obtain⟨⟨cls,dd,data,sl⟩,ho,hc,n,hd⟩:=id ht
 obtain⟨⟨cls2,dd2,data2,sl2⟩,ho2,hc2,n2,hd2⟩:=id hb
 simp only at hc hd hc2 hd2
 subst hc hd hc2 hd2
 exact concat_meets ⟨_,ho,rfl⟩ ⟨_,ho2,rfl⟩ noFill_tuple_add seq_tuple_add PySem.F.slot_tuple_add PySem.F.entry_tuple_add (PySem.F.args_tuple_add_2 _ _)
  (tuple_addW0 t b #[] ws.toArray n n2 dd dd2 sl sl2 rfl) ⟨ho,ho2,h0⟩
end
end HT
namespace L2
open PySem PySem.Spec PyProof.Rows
section
variable {X:Cx}
noncomputable def rCatT0 (K:W.Frag):R2:=fun x y H Q=>∃a b ys,x=.ref a/\y=.ref b/\SqT K H a []/\SqT K H b ys/\Q (.ref b) H
theorem op_catT0:OpR X (binaryOp .Add) (rCatT0 X.K):=by
 intro pins s σ H x y v u Q I rx ry h
 obtain⟨a,b,ys,rfl,rfl,ha,hb,q⟩:=h
 cases rx
 cases ry
 obtain⟨its,r1,p1,_⟩:=I.tuple ha
 obtain⟨its2,r2,p2,_⟩:=I.tuple hb
 have e:its=[]:=r1.nil_iff.mpr rfl
 subst e
 exact HT.cat_tup0 p1 p2 ⟨.ref b,H,I,rfl,q⟩
end
end L2
namespace L2
open PySem PySem.Spec PyProof.Rows PySem.Calls PySem.NumText
def B2 (x:PySem.Str) (n:Int):Prop:=(x.cps.all (· < 128))=true/\(x.cps.toList.takeWhile (· != 0)).length<=640/\(int_private% "readNumeral") 0 2 (x.cps.toList.takeWhile (· != 0))=(int_private% "Numeral.value") n/\((x.cps.toList.takeWhile (· != 0)).length == x.cps.toList.length)=true
theorem wp_text2 {M:Model} {A:Around} {E:Value->Shared->Prop} {s:Shared} {Q:Value->Shared->Prop} {v:Value} {text:List Nat} {n:Int}
  (hs:(text.takeWhile (· != 0)).length<=640) (hr:(int_private% "readNumeral") 0 2 (text.takeWhile (· != 0))=(int_private% "Numeral.value") n)
  (ha:((text.takeWhile (· != 0)).length == text.length)=true) (h:Q (.int n s.toks) { s with toks:=s.toks+1 }):
  wpAny M A ((int_private% "intFromText") v text 2) Q E s:=by
 obtain⟨hp,g,d,tk,os⟩:=s
 repeat (any_goals (first
  |assumption
  |(with_reducible refine wpAny_ite_true (decide_eq_true hs) ?_)
  |(with_reducible refine wpAny_ite_true (decide_eq_true ha) ?_)
  |wp_step))
 all_goals (try rw[hr])
 all_goals (try dsimp only)
 repeat (any_goals (first
  |assumption
  |(with_reducible refine wpAny_ite_true (decide_eq_true hs) ?_)
  |(with_reducible refine wpAny_ite_true (decide_eq_true ha) ?_)
  |wp_step))
set_option maxHeartbeats 4000000 in
theorem gives_text2 {x:PySem.Str} {u v:Tok} {n:Int} (hb:B2 x n):Gives (Builtin.«int.__new__» ⟨[.type "int",.str x u,.int 2 v],[]⟩) (.int n):=
 .of_wp fun M A E s Q h=>by
  obtain⟨hp,g,d,tk,os⟩:=s
  have f1:=F.conv_sub_int
  have f2:=F.madeHere_int
  have f6:typeOf (.str x u)=pure (.type "str"):=rfl
  have hk:=W.KIN.Hid.mk hb
  clear hb
  repeat (any_goals (first
   |assumption
   |((with_reducible show wpAny _ _ ((int_private% "intFromText") _ _ _) _ _ _);rw[if_pos hk.out.1];refine wp_text2 hk.out.2.1 hk.out.2.2.1 hk.out.2.2.2 ?_)
   |wp_step))
  all_goals first|exact⟨_,rfl,h⟩|skip
theorem typeCall_int_2 (a b:Value):checkTypeCall "int" ⟨[a,b],[]⟩=pure ():=by kernel_rfl
theorem newCall_int_2 (a b:Value):checkBuiltinCall "int.__new__" ⟨[.type "int",a,b],[]⟩=pure ():=by kernel_rfl
section
variable {X:Cx}
noncomputable def rInt2:List V->Hp->VK->Prop:=fun xs H Q=>∃x n,xs=[.str x,.int 2]/\B2 x n/\Q (.int n) H
theorem call_int2:CallR X (.type "int") rInt2:=by
 intro pins s σ H xs us Q I r h
 obtain⟨x,n,rfl,hb,q⟩:=h
 obtain⟨u,v,rfl,⟨t,rfl⟩,⟨t',rfl⟩⟩:=vals2 r
 exact callType_new F.called_int F.newNe_int (typeCall_int_2 _ _) (newCall_int_2 _ _) (fun obj=>F.args_object_init_3 obj _ _) F.entry_int_new (gives_text2 hb).meets (show(Made.int n).post _ s from⟨rfl,⟨.int n,H,I.tok _,⟨_,rfl⟩,q⟩⟩)
theorem call_intB:CallR X (.type "int") (fun xs H Q=>rInt xs H Q\/rInt2 xs H Q):=call_intA.or call_int2
end
section
variable {X:Cx}
end
end L2
namespace PySem
open PyProof.Rows
section
variable {prog:Program} {w:World} {A:Around} {E:Value->Shared->Prop} {s:Shared}
end
theorem tup_at {h h':Heap} {t:Addr} {items:Array Value} (x:IsTup h t items) (k:∀o,h.get? t=some o->h'.get? t=some o):IsTup h' t items:=let⟨o,ho,r⟩:=x;⟨o,k o ho,r⟩
section
variable {prog:Program} {w:World} {A:Around} {E:Value->Shared->Prop} {s:Shared}
end
section
variable {prog:Program} {w:World} {A:Around} {E:Value->Shared->Prop} {s:Shared}
end
end PySem
namespace L2
open PySem PySem.Spec PyProof.Rows
section
variable {X:Cx}
end
end L2
namespace HT
open PySem PyProof.Rows
section
variable {prog:Program} {w:World} {A:Around} {E:Value->Shared->Prop} {s:Shared}
theorem getItem_tuple_whole {t sl:Addr} {items:Array Value} {vl vu:Value} {lo hi:Option Int} {Q:Value->Shared->Prop} (ht:IsTup s.heap t items) (hs:s.heap.IsSliceOf sl vl vu .none) (pl:IsPart vl lo) (pu:IsPart vu hi)
  (hw:sIx items.size 0 lo=0/\sIx items.size items.size hi=items.size)
  (h:Q (.ref t) s):wpAny (model prog w) A (getItem (.ref t) (.ref sl)) Q E s:=by
 obtain⟨os,hos,hcs,hds⟩:=id hs
 have hTs:s.TypeIs (.ref sl) "slice":=⟨os,hos,hcs⟩
 unfold getItem
 try with_reducible refine wpAny_holding ?_
 first|refine wpAny_bind (wpAny_pure ?_)|skip
 refine wpAny_bind (wpAny_sequenceKey ht.typeIs (by decide) ?_)
 refine wpAny_bind (wpAny_callSpecial?_slot (name:=Str.ofString "__getitem__") ht.typeIs PyProof.Rows.slot_tuple_getitem
  (wpAny_call_entry PyProof.Rows.slot_tuple_getitem ht.typeIs entry_tuple_getitem ?_ (args_tuple_getitem _ _)))
 show wpAny _ _ (Builtin.Tuple.tupleItemsOf (.ref t) >>= _) _ _ s
 refine wpAny_bind (tupleItemsOf_ ht ?_)
 refine wpAny_bind (wpAny_typeOf hTs ?_)
 rw[if_pos (by decide)]
 refine wpAny_bind (sliceApplied_gen hs pl pu ?_)
 have hyes:(((sIx items.size 0 lo:Nat):Int) == 0&&(1:Int) == 1&&(sIx items.size items.size hi-sIx items.size 0 lo) == items.size)=true:=by
  rw[hw.1,hw.2]
  simp
 show wpAny _ _ (if(((sIx items.size 0 lo:Nat):Int) == 0&&(1:Int) == 1&&(sIx items.size items.size hi-sIx items.size 0 lo) == items.size)=true then _ else _) _ _ s
 rw[if_pos hyes]
 obtain⟨ot,hot,hct,nt,hdt⟩:=id ht
 refine wpAny_bind (wpAny_mono (Q:=fun b s'=>b=true/\s'=s) (E:=E) ?_ ?_ (fun _ _ z=>z))
 .unfold Builtin.Tuple.tupleIsExact
  exact wpAny_bind (wpAny_typeOf ht.typeIs (wpAny_pure ⟨rfl,rfl⟩))
 .rintro b s' ⟨rfl,rfl⟩
  rw[if_pos rfl]
  exact wpAny_bind (wpAny_rule (wpAny_pure ⟨_,rfl,wpAny_pure h⟩))
end
end HT
namespace L2
open PySem PySem.Spec PyProof.Rows
section
variable {X:Cx}
noncomputable def rSlW (K:W.Frag):V->Option Int->Option Int->Hp->VK->Prop:=fun x lo hi H Q=>∃a xs,x=.ref a/\SqT K H a xs/\(HT.sIx xs.length 0 lo=0/\HT.sIx xs.length xs.length hi=xs.length)/\Q (.ref a) H
theorem sl_whole:SlR X (rSlW X.K):=by
 intro pins s σ H x v vl vu lo hi sl Q I rx hs pl pu h
 obtain⟨a,xs,rfl,hx,hw,q⟩:=h
 cases rx
 obtain⟨its,r,ht,hz⟩:=I.tuple hx
 have hlen:its.toArray.size=xs.length:=by rw[List.size_toArray];exact r.length.symm
 refine⟨"tuple",_,PyProof.Rows.slot_tuple_getitem.lookup,ht.typeIs,?_⟩
 exact HT.getItem_tuple_whole ht hs pl pu (by rw[hlen];exact hw) ⟨.ref a,H,I,rfl,q⟩
end
section
variable {X:Cx} {pins:List (Addr×Obj)} {σ:St} {H:Hp} {s:Shared}
noncomputable def rInR (neg:Bool):R2:=fun x y H Q=>∃(i lo hi:Int) (p:Addr),x=.int i/\y=.ref p/\H p=some (.rng lo hi)/\Q (.bl (if neg then !(decide (lo<=i)&&decide (i<hi))else decide (lo<=i)&&decide (i<hi))) H
theorem meets_inR (p:Addr) (lo hi i:Int) (t u v k:Tok):Meets (Builtin.«range.__contains__» ⟨[.ref p,.int i k],[]⟩) (fun _ R s=>s.heap.get? p=some { cls:=.type "range",data:=.fields #[.int lo t,.int hi u,.int 1 v] }/\R (.ok (.ret (.bool (decide (lo<=i)&&decide (i<hi))))) s):=
 .of_wp fun prog w A R s h=>by
  obtain⟨ho,h⟩:=h
  unfold Builtin.«range.__contains__»
  refine wpAny_bind (wpAny_of_eq (a:=(Value.ref p,[Value.int i k])) rfl ?_)
  dsimp only[Builtin.Range.rangeExactInt?]
  refine wpAny_bind (wpAny_rule ?_)
  refine wpAny_bind ?_
  unfold Builtin.Range.rangeFields
  refine wpAny_bind (wpAny_field ho rfl (x:=.int lo t) rfl ?_)
  refine wpAny_bind (wpAny_of_eq (a:=some lo) rfl ?_)
  refine wpAny_bind (wpAny_field ho rfl (x:=.int hi u) rfl ?_)
  refine wpAny_bind (wpAny_of_eq (a:=some hi) rfl ?_)
  refine wpAny_bind (wpAny_field ho rfl (x:=.int 1 v) rfl ?_)
  refine wpAny_bind (wpAny_of_eq (a:=some 1) rfl ?_)
  dsimp only
  refine wpAny_pure ?_
  have e:(Builtin.Range.rangePlace? lo hi 1 i).isSome=(decide (lo<=i)&&decide (i<hi)):=by
   unfold Builtin.Range.rangePlace?
   simp only[Int.emod_one]
   cases decide (lo<=i)&&decide (i<hi)<;>simp_all
  exact wpAny_pure ⟨_,rfl,by rw[e];exact h⟩
variable {X:Cx}
theorem op_inR:OpR X (compareOp .In) (rInR false):=by
 intro pins s σ H x y v u Q I rx ry h
 obtain⟨i,lo,hi,p,rfl,rfl,hp,q⟩:=h
 obtain⟨k,rfl⟩:=rx
 cases ry
 obtain⟨t,u,v,ho⟩:=(show ObjOk X.prog X.w H s.heap p (.rng lo hi) from I.hok p _ hp)
 exact SeqRoads2.in_meets ⟨_,ho,rfl⟩ F.slot_range_contains F.entry_range_contains (F.args_range_contains_2 _ _) (meets_inR p lo hi i t u v k) ⟨ho,_,rfl,⟨.bl _,H,I,rfl,q⟩⟩
theorem op_notInR:OpR X (compareOp .NotIn) (rInR true):=by
 intro pins s σ H x y v u Q I rx ry h
 obtain⟨i,lo,hi,p,rfl,rfl,hp,q⟩:=h
 obtain⟨k,rfl⟩:=rx
 cases ry
 obtain⟨t,u,v,ho⟩:=(show ObjOk X.prog X.w H s.heap p (.rng lo hi) from I.hok p _ hp)
 exact SeqRoads2.notIn_meets ⟨_,ho,rfl⟩ F.slot_range_contains F.entry_range_contains (F.args_range_contains_2 _ _) (meets_inR p lo hi i t u v k) ⟨ho,_,rfl,⟨.bl _,H,I,rfl,q⟩⟩
noncomputable def rEqT0 (K:W.Frag):R2:=fun x y H Q=>∃a b xs,x=.ref a/\y=.ref b/\SqT K H a xs/\SqT K H b []/\Q (.bl (decide (xs=[]))) H
open PySem.SeqAt in
theorem op_eqT0 (hu:X.A.units+64<cLine):OpR X (compareOp .Eq) (rEqT0 X.K):=by
 intro pins s σ H x y v u Q I rx ry h
 obtain⟨a,b,xs,rfl,rfl,h1,h2,k⟩:=h
 cases rx
 cases ry
 obtain⟨its,r1,pl1,_⟩:=I.tuple h1
 obtain⟨its2,r2,pl2,_⟩:=I.tuple h2
 have e2:its2=[]:=r2.nil_iff.mpr rfl
 subst e2
 refine eq_tupleAt (e:=fun _=>true) pl1 pl2 (by omega) (fun j _ hj=>by simp at hj) ?_
 have e:((List.range (min its.toArray.size ([]:List Value).toArray.size)).all (fun _=>true)&&its.toArray.size == ([]:List Value).toArray.size)=decide (xs=[]):=by
  cases r1 with
  |nil=>rfl
  |cons r rr=>simp
 rw[e]
 exact⟨.bl _,H,I,rfl,k⟩
end
end L2
namespace HT
open PySem PyProof.Rows
section
variable {prog:Program} {w:World} {A:Around} {E:Value->Shared->Prop} {s:Shared}
end
end HT
namespace L2
open PySem PySem.Spec PyProof.Rows
section
variable {X:Cx} {e st:Expr} {te:TE} {p2 pos:Pos}
end
section
variable {prog:Program} {w:World} {A:Around} {E:Value->Shared->Prop} {s:Shared} {b0:Array Keyed} {κ:PyProof.Rows.KeyKind}
end
section
variable {X:Cx}
end
end L2
namespace L2
open PySem PySem.Spec PyProof.Rows PySem.SeqAt
section
variable {X:Cx} {pins:List (Addr×Obj)} {σ:L2.St} {H:Hp} {s:Shared}
end
section
variable {X:Cx}
end
section
variable {X:Cx} {env:Env}
def Fr {α:Type} (t:Sem α):Prop:=∀(M:Model) (Γ:PySem.Ctx) (Q:α->Pos->Shared->Prop) (E:Value->Pos->Shared->Prop) (p:Pos) (s:Shared),Sem.wp M Γ t Q E p s->Sem.wp M Γ t (fun a p' s'=>1<=s'.toks/\Q a p' s') E p s
end
section
variable {X:Cx}
end
section
variable {prog:Program} {w:World} {A:Around} {E:Value->Shared->Prop} {s:Shared} {b0:Array Keyed} {κ:SortKind}
end
section
variable {X:Cx}
end
end L2
namespace So
open PySem PySem.Spec PyProof.Rows
section
variable {M:Model} {A:Around} {E:Value->Shared->Prop} {s:Shared} {O:KeyOrd} {ky:Keyed->O.α} {P:Keyed->Prop} {kd:SortKind}
end
end So
namespace So
open PySem PySem.Spec PyProof.Rows
section
variable {M:Model} {A:Around} {E:Value->Shared->Prop} {s:Shared} {O:KeyOrd} {ky:Keyed->O.α} {P:Keyed->Prop} {kd:SortKind} {st0:SortSt} {lo nrem:Nat}
end
end So
namespace L2
open PySem PySem.Spec PyProof.Rows
section
variable {prog:Program} {w:World} {A:Around} {E:Value->Shared->Prop} {s:Shared}
end
section
variable {X:Cx} {tg:Expr}
end
section
variable {X:Cx} {pos:Pos}
noncomputable def gSeq (K:W.Frag) (n:Nat) (t:TGs):TG:=fun v σ H Q=>∃a xs,v=.ref a/\(SqT K H a xs\/SqL K H a xs)/\xs.length=n/\t xs σ H Q
theorem pg_seq {es:List Expr} {k:Nat} {t:TGs} {n:Nat} (hc:X.calm=true) (h:PGs X es t)
  (hn:(assignEach es X.env).length=n:=by rfl) (hst:(assignEach es X.env).findIdx? (·.1)=none:=by rfl):PG X (.Tuple es k pos) (gSeq X.K n t):=by
 intro pins s σ H v u Q I r hw
 obtain⟨a,xs,e1,hq,hl,hw⟩:=hw
 rcases hq with hq|hq
 .exact pg_tup hc h hn hst pins s σ H v u Q I r ⟨a,xs,e1,hq,hl,hw⟩
 .subst e1
  cases r
  obtain⟨its,rv,pl,hz⟩:=I.list hq
  rw[assign_Tuple]
  refine wpAny_bind (wpAny_standAt ?_)
  unfold unpack
  rw[hn,hst]
  have e:n=its.toArray.size:=by simp[<- hl,rv.length]
  rw[e]
  refine wpAny_bind (wpAny_holding (W.kun_itemsOf (I.ok.hd hc) pl.isList fun h' hx=>?_))
  have I1:Inv X pins σ H { s with heap:=h' }:=I.kept (t':=s.toks) fun b o e=>hx b o (Nat.ne_of_lt (Heap.lt_size e)) e
  exact h pins _ σ H xs _ Q I1 (by simpa using rv) hw
end
section
variable {prog:Program} {w:World} {A:Around} {E:Value->Shared->Prop} {s:Shared} {K:Type} [DecidableEq K] {knd:HeapKind prog w K} {d:Addr}
end
section
variable {X:Cx}
end
end L2
namespace PySem
def Rsn (xs:Array Nat):Prop:=xs.toList.Pairwise (· < ·)
theorem rsn_lt {xs:Array Nat} (hr:Rsn xs) {i j:Nat} (hij:i<j) (hj:j<xs.size):xs[i]'(by omega)<xs[j]:=by
 have:=List.pairwise_iff_getElem.mp hr i j (by rw[Array.length_toList];omega) (by rw[Array.length_toList];omega) hij
 simpa using this
theorem below_go {xs:Array Nat} (hr:Rsn xs) (j:Nat):∀(f lo hi:Nat),lo<=hi->hi<=xs.size->hi-lo<=f->(∀i (h:i<xs.size),i<lo->xs[i]<j)->(∀i (h:i<xs.size),hi<=i->j<=xs[i])->
  SetTable.below.go xs j f lo hi<=xs.size/\(∀i (h:i<xs.size),i<SetTable.below.go xs j f lo hi->xs[i]<j)/\(∀i (h:i<xs.size),SetTable.below.go xs j f lo hi<=i->j<=xs[i])
 |0,lo,hi,h1,h2,h3,a,b=>by
  have e:lo=hi:=by omega
  subst e
  exact⟨h2,a,b⟩
 |f+1,lo,hi,h1,h2,h3,a,b=>by
  unfold SetTable.below.go
  by_cases hl:lo<hi
  .rw[if_pos hl]
   dsimp only
   have hm:(lo+hi) / 2<xs.size:=by omega
   have eg:xs.getD ((lo+hi) / 2) j=xs[(lo+hi) / 2]:=by simp[Array.getD,hm]
   rw[eg]
   by_cases hx:xs[(lo+hi) / 2]<j
   .rw[if_pos hx]
    refine below_go hr j f _ _ (by omega) h2 (by omega) (fun i h hi'=>?_) b
    by_cases e:i=(lo+hi) / 2
    .subst e;exact hx
    .exact Nat.lt_trans (rsn_lt hr (by omega) hm) hx
   .rw[if_neg hx]
    refine below_go hr j f _ _ (by omega) (by omega) (by omega) a fun i h hi'=>?_
    by_cases e:i=(lo+hi) / 2
    .subst e;omega
    .have:=rsn_lt hr (i:=(lo+hi) / 2) (j:=i) (by omega) h
     omega
  .rw[if_neg hl]
   have e:lo=hi:=by omega
   subst e
   exact⟨h2,a,b⟩
theorem below_at {xs:Array Nat} (hr:Rsn xs) (j:Nat):SetTable.below xs j<=xs.size/\(∀i (h:i<xs.size),i<SetTable.below xs j->xs[i]<j)/\(∀i (h:i<xs.size),SetTable.below xs j<=i->j<=xs[i]):=
 below_go hr j _ _ _ (Nat.zero_le _) (Nat.le_refl _) (Nat.le_refl _) (fun _ _ z=>absurd z (Nat.not_lt_zero _)) fun i h z=>absurd h (by omega)
theorem below_no {xs:Array Nat} (hr:Rsn xs) {j:Nat} (h:xs[SetTable.below xs j]?≠some j):j∉xs.toList:=by
 intro hm
 obtain⟨i,hi,e⟩:=List.mem_iff_getElem.mp hm
 rw[Array.length_toList]at hi
 rw[Array.getElem_toList]at e
 obtain⟨h1,h2,h3⟩:=below_at hr j
 have hle:SetTable.below xs j<=i:=Nat.le_of_not_lt fun z=>by have:=h2 i hi z;omega
 by_cases hq:SetTable.below xs j=i
 .rw[hq]at h
  exact h (by rw[Array.getElem?_eq_getElem hi,e])
 .have:=rsn_lt hr (i:=SetTable.below xs j) (j:=i) (by omega) hi
  have:=h3 _ (by omega) (Nat.le_refl (SetTable.below xs j))
  omega
theorem rsn_insert {xs:Array Nat} (hr:Rsn xs) {j:Nat} (h:xs[SetTable.below xs j]?≠some j):Rsn (SetTable.insertAt xs (SetTable.below xs j) j):=by
 obtain⟨h1,h2,h3⟩:=below_at hr j
 have hn:=below_no hr h
 unfold Rsn
 rw[SetTable.toList_insertAt]
 first
 |rw[List.append_assoc,List.singleton_append]
 |skip
 rw[List.pairwise_append,List.pairwise_cons]
 have hT:∀a∈xs.toList.take (SetTable.below xs j),a<j:=by
  intro a ha
  obtain⟨i,hi,e⟩:=List.mem_iff_getElem.mp ha
  rw[List.length_take,Array.length_toList]at hi
  rw[List.getElem_take,Array.getElem_toList]at e
  have:=h2 i (by omega) (by omega)
  omega
 have hD:∀b∈xs.toList.drop (SetTable.below xs j),j<b:=by
  intro b hb
  obtain⟨i,hi,e⟩:=List.mem_iff_getElem.mp hb
  rw[List.length_drop,Array.length_toList]at hi
  rw[List.getElem_drop,Array.getElem_toList]at e
  have:=h3 (SetTable.below xs j+i) (by omega) (by omega)
  have hne:b≠j:=fun z=>hn (z ▸ List.mem_of_mem_drop hb)
  omega
 refine⟨hr.sublist (List.take_sublist _ _),⟨hD,hr.sublist (List.drop_sublist _ _)⟩,fun a ha b hb=>?_⟩
 rcases List.mem_cons.mp hb with rfl|hb
 .exact hT a ha
 .exact Nat.lt_trans (hT a ha) (hD b hb)
theorem probe_go (t:SetTable) (hat:Nat->Int) (h:Int):∀(f:Nat) (p:SetTable.Probe) (j:Nat) (d:Option Nat),(∀x,p.dummy=some x->t.place[SetTable.below t.place x]?≠some x)->
  SetTable.probe.go t hat h f p=some (.empty j d)->t.place[SetTable.below t.place (d.getD j)]?≠some (d.getD j)
 |0,p,j,d,hp,e=>by unfold SetTable.probe.go at e;cases e
 |f+1,p,j,d,hp,e=>by
  unfold SetTable.probe.go at e
  have key:∀x,t.slot x≠.live (SetTable.below t.place x)->t.place[SetTable.below t.place x]?≠some x:=by
   intro x hx z
   apply hx
   unfold SetTable.slot
   simp[z]
  have adv:∀q:SetTable.Probe,(t.advance q).dummy=q.dummy:=by
   intro q
   unfold SetTable.advance
   split<;>rfl
  cases hs:t.slot p.j with
  |empty=>
   rw[hs]at e
   injection e with e
   injection e with e1 e2
   subst e1;subst e2
   cases hd:p.dummy with
   |none=>exact key _ (by show t.slot p.j≠_;rw[hs];exact fun z=>nomatch z)
   |some x=>exact hp x hd
  |dummy=>
   rw[hs]at e
   dsimp only at e
   refine probe_go t hat h f _ j d (fun x hx=>?_) e
   rw[adv]at hx
   injection hx with hx
   subst hx
   exact key _ (by rw[hs];exact fun z=>nomatch z)
  |live i=>
   rw[hs]at e
   dsimp only at e
   by_cases hq:(hat i == h)=true
   .rw[if_pos hq]at e
    injection e with e
    cases e
   .rw[if_neg hq]at e
    refine probe_go t hat h f _ j d (fun x hx=>?_) e
    rw[adv]at hx
    exact hp x hx
set_option tactic.hygienic true in
theorem free_no {t:SetTable} {h:Int} {slot:Nat} {b:Bool} (e:t.freeSlot h=some (slot,b)):t.place[SetTable.below t.place slot]?≠some slot:=by
 unfold SetTable.freeSlot at e
 split at e
 .rename_i j d hm
  injection e with e
  injection e with e1 e2
  subst e1
  unfold SetTable.probe at hm
  exact probe_go t _ h _ _ j d (fun x hx=>by unfold SetTable.probeStart at hx;cases hx) hm
 .cases e
theorem rsn_standIn (t:SetTable) (n:Nat):Rsn (t.standIn n).place:=by
 unfold SetTable.standIn Rsn
 simp only[Array.toList_range]
 exact List.pairwise_lt_range
def TOk (bt:Bool) (t:SetTable):Prop:=bt=true\/t.led=true/\Rsn t.place
theorem tok_orStandIn {bt:Bool} {t:SetTable} {n:Nat} (h:TOk bt t):TOk bt (t.orStandIn n):=by
 unfold SetTable.orStandIn
 split
 .exact h
 .rcases h with h|⟨h1,_⟩
  .exact .inl h
  .exact .inr ⟨h1,rsn_standIn t n⟩
set_option tactic.hygienic true in
theorem tok_layNew {bt:Bool} {t:SetTable} (es:Array (Int×Value)) (hh:Int) (x:Value) (h:TOk bt t):TOk bt (layNew t es hh x).2.1:=by
 unfold layNew
 split
 .rename_i slot wd e
  refine tok_orStandIn ?_
  rcases h with h|⟨h1,h2⟩
  .exact .inl h
  .exact .inr ⟨h1,rsn_insert h2 (free_no e)⟩
 .rcases h with h|⟨h1,_⟩
  .exact .inl h
  .exact .inr ⟨h1,rsn_standIn t _⟩
set_option tactic.hygienic true in
theorem tok_relay {bt:Bool} {t:SetTable} (es:Array (Int×Value)) (wd:Nat) (h:TOk bt t):TOk bt (relayAll t es wd).2.1:=by
 have hs:∀n,TOk bt (t.standIn n):=fun n=>by
  rcases h with h|⟨h1,_⟩
  .exact .inl h
  .exact .inr ⟨h1,rsn_standIn t n⟩
 unfold relayAll
 split
 .rename_i t' order e
  dsimp only
  split
  .unfold SetTable.relaid SetTable.laid at e
   cases ho:SetTable.layClean (SetTable.sizeAbove wd-1) (es.map fun x=>x.1)with
   |none=>rw[ho]at e;cases e
   |some owner=>
    rw[ho]at e
    injection e with e
    injection e with e1 e2
    subst e1
    rcases h with h|⟨h1,_⟩
    .exact .inl h
    .refine .inr ⟨h1,?_⟩
     unfold Rsn
     show List.Pairwise _ (List.map _ _)
     rw[List.pairwise_map]
     refine List.Pairwise.filterMap (R:=(· < ·)) _ (fun a a' haa b hb b' hb'=>?_) List.pairwise_lt_range
     cases hx:owner.getD a none with
     |none=>simp[hx]at hb
     |some u=>
      cases hy:owner.getD a' none with
      |none=>simp[hy]at hb'
      |some u'=>
       simp[hx]at hb
       simp[hy]at hb'
       subst hb;subst hb'
       exact haa
  .exact hs _
 .exact hs _
end PySem
namespace PySem
section
variable {prog:Program} {w:World} {K:Type} [DecidableEq K] (knd:KeyKind prog w K)
def Dst (es:List (Int×Value)):Prop:=es.Pairwise fun a b=>∀k,knd.is k a.2=true->knd.is k b.2=true->False
def Obj.SetIt (o:Obj) (S:K->Bool) (n:Nat):Prop:=
 ∃es ep t,o.ExactSet/\o.data=.set es ep t/\ElemsOf knd es.toList/\(∀k,S k=true↔∃e∈es.toList,knd.is k e.2=true)/\es.size<scanBound/\t.fits es.size=true/\es.size=n
  /\ Dst knd es.toList/\TOk (w.params.followText "set-order") t
variable {knd}
variable {A:Around} {E:Value->Shared->Prop} {s:Shared}
theorem dst_push {es es1:List (Int×Value)} {k:K} {hh:Int} {x:Value} (hd:Dst knd es) (hk:knd.is k x=true) (hel:ElemsOf knd es) (hno:∀e∈es,knd.is k e.2=false) (p:List.Perm es1 (es++[(hh,x)])):Dst knd es1:=by
 have h2:Dst knd (es++[(hh,x)]):=by
  unfold Dst
  rw[List.pairwise_append]
  refine⟨hd,List.pairwise_singleton _ _,fun a ha b hb k' q1 q2=>?_⟩
  rw[List.mem_singleton]at hb
  subst hb
  have e:=knd.inj x k' k q2 hk
  subst e
  rw[hno a ha]at q1
  cases q1
 exact(List.Perm.pairwise_iff (fun {a b} z k q1 q2=>z k q2 q1) p).mpr h2
theorem setIt_store {h:Heap} {a:Addr} {o:Obj} {es:Array (Int×Value)} {ep:Nat} {t:SetTable} (ho:h.get? a=some o) (hx:o.ExactSet) (hd:o.data=.set es ep t) {es1:Array (Int×Value)} {t1:SetTable} {S1:K->Bool} {n:Nat}
  (e1:ElemsOf knd es1.toList) (e2:∀k,S1 k=true↔∃e∈es1.toList,knd.is k e.2=true) (e3:es1.size<scanBound) (e4:t1.fits es1.size=true) (e5:es1.size=n) (e6:Dst knd es1.toList) (e7:TOk (w.params.followText "set-order") t1):
  ∃o1,(h.update a (Obj.putSet es1 t1)).get? a=some o1/\o1.ExactSet/\o1.data=.set es1 (ep+1) t1/\o1.SetIt knd S1 n:=by
 have eo:=putSet_of es1 t1 hd
 have hg:=Heap.get?_update_self (Obj.putSet es1 t1) ho (by rw[eo];rfl)
 rw[eo]at hg
 exact⟨_,hg,hx,rfl,es1,ep+1,t1,hx,rfl,e1,e2,e3,e4,e5,e6,e7⟩
theorem add_setIt {a:Addr} {o:Obj} {S:K->Bool} {n:Nat} {k:K} {x:Value} {Q:Bool->Shared->Prop} (hkey:knd.is k x=true) (hsc:x.scannable=true) (ho:s.heap.get? a=some o) (hS:o.SetIt knd S n) (hroom:n+1<scanBound)
  (h:∀h' o',Heap.SameBut a s.heap h'->h'.get? a=some o'->o'.SetIt knd (fun j=>S j || decide (j=k)) (if S k then n else n+1)->Q (!S k) { s with heap:=h' }):
  wpAny (model prog w) A (setAddHashed a x (knd.hash k)) Q E s:=by
 obtain⟨es,ep,t,hex,hd,hel,hmem,hb,hf,hn,hdst,htk⟩:=id hS
 unfold setAddHashed setAddHashedIn
 refine wpAny_holding (wpAny_bind (wpAny_setState_of ho hd hf ?_))
 dsimp only
 rw[byScan_of hsc hb hel,if_pos rfl]
 unfold setAddByScan
 refine wpAny_bind (wpAny_bind (wpAny_rule (wpAny_bind (wpAny_setScan_of hkey ho hd hf hel ?_))))
 cases hr:List.findIdx? (fun e=>knd.is k e.2) es.toList with
 |some j=>
  dsimp only
  obtain⟨hj,hpj,_⟩:=List.findIdx?_eq_some_iff_getElem.mp hr
  have hSk:S k=true:=(hmem k).mpr ⟨_,List.getElem_mem hj,hpj⟩
  refine wpAny_pure (wpAny_pure ?_)
  have z:=h s.heap o (Heap.SameBut.refl a s.heap) ho ⟨es,ep,t,hex,hd,hel,fun k'=>by
   rw[Bool.or_eq_true,decide_eq_true_eq,<- hmem k']
   exact⟨fun q=>q.elim id fun q=>q ▸ hSk,.inl⟩,hb,hf,by rw[hSk];exact hn,hdst,htk⟩
  rw[hSk]at z
  exact z
 |none=>
  dsimp only
  have hno:∀e∈es.toList,knd.is k e.2=false:=fun e he=>by simpa using List.findIdx?_eq_none_iff.mp hr e he
  have hSk:S k=false:=by
   cases hk:S k with
   |false=>rfl
   |true=>obtain⟨e,he,hp⟩:=(hmem k).mp hk;rw[hno e he]at hp;cases hp
  have hp:=layNew_perm t es (knd.hash k) x
  have hfit:=layNew_fits t es (knd.hash k) x
  have htk1:=tok_layNew es (knd.hash k) x htk
  rw[Array.toList_push]at hp
  generalize layNew t es (knd.hash k) x=Y at hp hfit htk1 ⊢
  obtain⟨es1,t1,wd,gv⟩:=Y
  dsimp only at hp hfit htk1 ⊢
  have el1:ElemsOf knd es1.toList:=(hel.push hkey hsc).perm hp
  have me1:∀k',(S k' || decide (k'=k))=true↔∃e∈es1.toList,knd.is k' e.2=true:=mem_push_iff hkey hmem hp
  have sz1:es1.size=n+1:=by rw[<- Array.length_toList,hp.length_eq,List.length_append,Array.length_toList,hn];rfl
  have d1:Dst knd es1.toList:=dst_push hdst hkey hel hno hp
  have fin:∀h' o',Heap.SameBut a s.heap h'->h'.get? a=some o'->o'.SetIt knd (fun j=>S j || decide (j=k)) (n+1)->Q true { s with heap:=h' }:=by
   intro h' o' z1 z2 z3
   have z:=h h' o' z1 z2
   rw[hSk]at z
   exact z z3
  have way:∀t2:SetTable,t2.fits es1.size=true->TOk (w.params.followText "set-order") t2->wpAny (model prog w) A (do
    storeSet a es1 t2
    if(!wd&&t2.tooFull)=true then do
      (match (relayAll t2 es1 (SetTable.grown es1.size)).2.2 with|true=>rule "set.scan.the-table-gave-way" | false=>pure ())
      storeSet a (relayAll t2 es1 (SetTable.grown es1.size)).1 (relayAll t2 es1 (SetTable.grown es1.size)).2.1
      pure (some true)
     else pure (some true)) (fun r s'=>r=some true/\Q true s') E s:=by
   intro t2 f2 k2
   refine wpAny_bind (wpAny_storeSet_of ho hd ?_ (fits_of_scanBound (by rw[sz1];exact hroom)))
   obtain⟨o1,g1,x1,dt1,i1⟩:=setIt_store (knd:=knd) ho hex hd el1 me1 (by rw[sz1];exact hroom) f2 sz1 d1 k2
   have b1:=Heap.SameBut.update s.heap a (Obj.putSet es1 t2)
   split
   .have hp2:=relayAll_perm t2 es1 (SetTable.grown es1.size)
    have hf2:=relayAll_fits t2 es1 (SetTable.grown es1.size)
    have hk2:=tok_relay es1 (SetTable.grown es1.size) k2
    generalize relayAll t2 es1 (SetTable.grown es1.size)=Z at hp2 hf2 hk2 ⊢
    obtain⟨es2,t3,gv2⟩:=Z
    dsimp only at hp2 hf2 hk2 ⊢
    have sz2:es2.size=n+1:=by rw[<- Array.length_toList,hp2.length_eq,Array.length_toList,sz1]
    have stp:∀(X:Sem Unit),(∀Q':Unit->Shared->Prop,∀s1,Q' () s1->wpAny (model prog w) A X Q' E s1)->∀s1 Q',Q' () s1->wpAny (model prog w) A X Q' E s1:=fun X hX s1 Q' q=>hX Q' s1 q
    refine wpAny_bind (stp _ (fun Q' s1 q=>by cases gv2<;>first|exact wpAny_pure q|exact wpAny_rule q) _ _ ?_)
    refine wpAny_bind (wpAny_storeSet_of g1 dt1 ?_ (fits_of_scanBound (by rw[sz2];exact hroom)))
    obtain⟨o2,g2,x2,dt2,i2⟩:=setIt_store (knd:=knd) g1 x1 dt1 (el1.perm hp2) (fun k'=>(me1 k').trans ⟨fun⟨e,he,q⟩=>⟨e,hp2.mem_iff.mpr he,q⟩,fun⟨e,he,q⟩=>⟨e,hp2.mem_iff.mp he,q⟩⟩) (by rw[sz2];exact hroom) hf2 sz2
     ((List.Perm.pairwise_iff (fun {a b} z k q1 q2=>z k q2 q1) hp2).mpr d1) hk2
    exact wpAny_pure ⟨rfl,fin _ o2 (b1.trans (Heap.SameBut.update _ a _)) g2 i2⟩
   .exact wpAny_pure ⟨rfl,fin _ o1 b1 g1 i1⟩
  have hgw:∀(b:Bool) {s1:Shared} {Q':Unit->Shared->Prop},Q' () s1->wpAny (model prog w) A (match b with|true=>rule "set.scan.the-table-gave-way" | false=>pure ()) Q' E s1:=
   fun b s1 Q' q=>by cases b<;>first|exact wpAny_pure q|exact wpAny_rule q
  refine wpAny_bind (hgw gv ?_)
  split
  .rw[hashByValue_scannable 8 hsc]
   refine wpAny_bind (wpAny_pure ?_)
   refine wpAny_mono (way _ ?_ ?_) (fun r s' q=>?_) fun _ _ z=>z
   .split
    .exact hfit
    .exact SetTable.fits_plain_off hfit
   .split
    .exact htk1
    .rcases htk1 with z|⟨z1,z2⟩
     .exact .inl z
     .exact .inr ⟨z1,z2⟩
   .obtain⟨rfl,q⟩:=q
    exact wpAny_pure q
  .refine wpAny_bind (wpAny_pure ?_)
   rw[if_pos rfl]
   refine wpAny_mono (way _ hfit htk1) (fun r s' q=>?_) fun _ _ z=>z
   obtain⟨rfl,q⟩:=q
   exact wpAny_pure q
theorem setIt_typeIs {a:Addr} {o:Obj} {S:K->Bool} {n:Nat} (ho:s.heap.get? a=some o) (hS:o.SetIt knd S n):s.TypeIs (.ref a) "set":=let⟨_,_,_,hx,_⟩:=hS;⟨o,ho,hx.1⟩
theorem call_addIt {a:Addr} {o:Obj} {S:K->Bool} {n:Nat} {k:K} {x:Value} {Q:Value->Shared->Prop} (hkey:knd.is k x=true) (hsc:x.scannable=true) (ho:s.heap.get? a=some o) (hS:o.SetIt knd S n) (hroom:n+1<scanBound)
  (h:∀h' o',Heap.SameBut a s.heap h'->h'.get? a=some o'->o'.SetIt knd (fun j=>S j || decide (j=k)) (if S k then n else n+1)->Q .none { s with heap:=h',toks:=s.toks+1 }):
  wpAny (model prog w) A (call (.builtin "set.add") [.ref a,x]) Q E s:=by
 refine wpAny_call_entry F.slot_set_add (setIt_typeIs ho hS) F.entry_set_add ?_ (F.args_set_add_2 _ _)
 unfold Builtin.«set.add» Builtin.Frozenset.oneOther
 simp only[List.isEmpty_nil,bind_assoc]
 unfold Builtin.Frozenset.addrOf setAdd
 refine wpAny_bind (wpAny_pure ?_)
 try dsimp only
 refine wpAny_bind (wpAny_pure ?_)
 try dsimp only
 refine wpAny_bind (wpAny_holding (wpAny_bind (knd.pyHash hkey ?_)))
 refine add_setIt (s:={ s with toks:=s.toks+1 }) hkey hsc ho hS hroom fun h' o' z1 z2 z3=>?_
 exact wpAny_pure ⟨_,rfl,h h' o' z1 z2 z3⟩
end
end PySem
namespace L2
open PySem PySem.Spec PyProof.Rows
noncomputable def less1 (h:Heap) (a:Addr):Heap:=h.update a fun o=>{ o with data:=.freed }
noncomputable def less (h:Heap) (S:List Addr):Heap:=S.foldl less1 h
theorem less1_at {h:Heap} {a:Addr}:(less1 h a).get? a=none:=by
 unfold less1
 cases e:((h.update a fun o=>{ o with data:=.freed }).get? a)with
 |none=>rfl
 |some o=>
  obtain⟨e1,e2⟩:=Heap.get?_some_iff.mp e
  obtain⟨objs,l⟩:=h
  simp only[Heap.update,Array.getElem?_modify,if_true]at e1
  cases e3:objs[a]? with
  |none=>rw[e3]at e1;cases e1
  |some x=>
   rw[e3]at e1
   have:o={ x with data:=.freed }:=(Option.some.inj e1).symm
   subst this
   cases e2
theorem less1_ne {h:Heap} {a b:Addr} (hb:b≠a):(less1 h a).get? b=h.get? b:=Heap.get?_update_other _ _ (Ne.symm hb)
theorem less1_none {h:Heap} {a b:Addr} (e:h.get? b=none):(less1 h a).get? b=none:=by
 by_cases hb:b=a
 .subst hb;exact less1_at
 .rw[less1_ne hb];exact e
theorem less_none:∀{S:List Addr} {h:Heap} {b:Addr},h.get? b=none->(less h S).get? b=none
 | [],_,_,e=>e
 |a :: S,h,b,e=>less_none (S:=S) (h:=less1 h a) (less1_none e)
theorem less_in:∀{S:List Addr} {h:Heap} {b:Addr},b∈S->(less h S).get? b=none
 |a :: S,h,b,hb=>by
  rcases List.mem_cons.mp hb with rfl|hb
  .exact less_none (S:=S) (h:=less1 h b) less1_at
  .exact less_in (S:=S) (h:=less1 h a) hb
theorem less_out:∀{S:List Addr} {h:Heap} {b:Addr},b∉S->(less h S).get? b=h.get? b
 | [],_,_,_=>rfl
 |a :: S,h,b,hb=>by
  rw[List.mem_cons,not_or]at hb
  show(less (less1 h a) S).get? b=_
  rw[less_out hb.2,less1_ne hb.1]
theorem less_stays {S:List Addr} {h:Heap}:(less h S).StaysIn h:=fun b o e=>by
 by_cases hb:b∈S
 .rw[less_in hb]at e;cases e
 .rw[less_out hb]at e;exact e
theorem frames_less {h base:Heap} {S:List Addr}:∀{l:List Env},h.FunFrames base l->(∀b∈frs l,b∈S)->h.FunFrames (less h S) l
 | [],_,_=>trivial
 |env :: r,⟨hk,⟨L,o,hf,hn,ho,hd⟩,hr⟩,hS=>by
  have e:frs (env :: r)=L :: frs r:=by show List.filterMap _ _=_;rw[List.filterMap_cons,hf];rfl
  rw[e]at hS
  exact⟨hk,⟨L,o,hf,less_in (hS L List.mem_cons_self),ho,hd⟩,frames_less hr fun b hb=>hS b (List.mem_cons_of_mem _ hb)⟩
def ExcT (h:Heap) (e:Addr) (cls:Value) (T:Addr):Prop:=∃oe vs oT ts a0,h.get? e=some oe/\(oe.cls=cls/\vs[0]?=some a0)/\oe.data=.fields vs/\vs[1]?=some (.ref T)/\T≠e/\h.get? T=some oT/\oT.data=.fields ts/\ts[3]?=some .none
structure LeftX (F S:List Addr) (e:Addr) (cls:Value) (h h':Heap):Prop where
 keep:∀b o,b∉F->b∉S->h.get? b=some o->h'.get? b=some o
 slot:∀b o,b∈F->h.get? b=some o->∃sl,h'.get? b=some { o with slots:=sl }
 there:∀b o,b∉S->h.get? b=some o->∃o',h'.get? b=some o'
 exc:∃T,(h.get? T=none\/T∈S)/\ExcT h' e cls T
theorem left_of {h h':Heap} {base0:Heap} {l:List Env} {e:Addr} {cls a0:Value} {S:List Addr} (hl:h.FunFrames base0 l) (heS:e∈S) (hS:∀b∈S,b∉frs l/\∃o vs,h.get? b=some o/\o.data=.fields vs) (L:Heap.LeftW (less h (S++frs l)) l e cls a0 h h'):LeftX (frs l) S e cls h h':=by
 obtain⟨k1,k2,⟨oe,vs,T,oT,ts,he,hc,hd,h1,hnT,hTe,hT,hdT,h3⟩,k4⟩:=L
 have keep:∀b o,b∉frs l->b∉S->h.get? b=some o->h'.get? b=some o:=fun b o hF hs eb=>k1 b o (by rw[less_out (by simp[hF,hs])];exact eb)
 have slot:∀b o,b∈frs l->h.get? b=some o->∃sl,h'.get? b=some { o with slots:=sl }:=fun b o hb eb=>by
  obtain⟨_,o',ho',hnf⟩:=hl.mem hb
  rw[eb]at ho'
  cases ho'
  exact k4 b o eb hnf
 refine⟨keep,slot,fun b o hs eb=>?_,T,?_,oe,vs,oT,ts,a0,he,hc,hd,h1,hTe,hT,hdT,h3⟩
 .by_cases hF:b∈frs l
  .obtain⟨sl,z⟩:=slot b o hF eb
   exact⟨_,z⟩
  .exact⟨o,keep b o hF hs eb⟩
 .by_cases hTS:T∈S
  .exact .inr hTS
  .left
   cases e0:h.get? T with
   |none=>rfl
   |some o=>
    by_cases hF:T∈frs l
    .obtain⟨_,o',ho',hnf⟩:=hl.mem hF
     obtain⟨sl,z⟩:=k4 T o' ho' hnf
     rw[hT]at z
     cases z
     exact absurd hdT (hnf ts)
    .rw[less_out (by simp[hTS,hF]),e0]at hnT
     cases hnT
section
variable {M:Model} {A:Around} {E:Value->Shared->Prop} {s:Shared}
theorem leave_first {env:Env} {outer:List Env} {base0:Heap} {L e:Addr} {oe:Obj} {vs:Array Value} {Q:Unit->Shared->Prop} (hfr:A.frames=some (env :: outer)) (hl:s.heap.FunFrames base0 (env :: outer)) (hf:env.frame=some L)
  (he:s.heap.get? e=some oe) (hd:oe.data=.fields vs) (h1:vs[1]?=some .none) {a0:Value} (h0:vs[0]?=some a0) (h:∀h',LeftX (frs (env :: outer)) [e] e oe.cls s.heap h'->Q () { s with heap:=h' }):wpAny M A (leaving env (.ref e)) Q E s:=by
 have hef:e∉frs (env :: outer):=fun hb=>by
  obtain⟨_,o',ho',hnf⟩:=hl.mem hb
  rw[he]at ho';cases ho'
  exact hnf vs hd
 refine wpAny_leaving_firstW hfr (frames_less hl (S:=[e]++frs (env :: outer)) fun b hb=>List.mem_append_right _ hb) hf he less_stays (less_in (by simp)) hd h1 h0 fun h' hL=>h h' ?_
 refine left_of hl (by simp) (fun b hb=>?_) hL
 have:b=e:=by simpa using hb
 subst this
 exact⟨hef,oe,vs,he,hd⟩
theorem leave_next {env:Env} {outer:List Env} {base0:Heap} {L e T:Addr} {cls:Value} {Q:Unit->Shared->Prop} (hfr:A.frames=some (env :: outer)) (hl:s.heap.FunFrames base0 (env :: outer)) (hf:env.frame=some L)
  (hx:ExcT s.heap e cls T) (h:∀h',LeftX (frs (env :: outer)) [e,T] e cls s.heap h'->Q () { s with heap:=h' }):wpAny M A (leaving env (.ref e)) Q E s:=by
 obtain⟨oe,vs,oT,ts,a0,he,hc,hd,h1,hTe,hT,hdT,h3⟩:=id hx
 have nof:∀b o vs,s.heap.get? b=some o->o.data=.fields vs->b∉frs (env :: outer):=fun b o vs eb db hb=>by
  obtain⟨_,o',ho',hnf⟩:=hl.mem hb
  rw[eb]at ho';cases ho'
  exact hnf vs db
 refine wpAny_leaving_nextW hfr (frames_less hl (S:=[e,T]++frs (env :: outer)) fun b hb=>List.mem_append_right _ hb) hf ⟨oe,vs,T,oT,ts,he,hc,hd,h1,less_in (by simp),hTe,hT,hdT,h3⟩ less_stays (less_in (by simp)) fun h' hL=>h h' ?_
 refine left_of hl (by simp) (fun b hb=>?_) hL
 simp only[List.mem_cons,List.not_mem_nil,or_false]at hb
 rcases hb with rfl|rfl
 .exact⟨nof _ oe vs he hd,oe,vs,he,hd⟩
 .exact⟨nof _ oT ts hT hdT,oT,ts,hT,hdT⟩
theorem look_next {env:Env} {outer:List Env} {base0:Heap} {L e T:Addr} {cls:Value} {Q:Unit->Shared->Prop} (hfr:A.frames=some (env :: outer)) (hl:s.heap.FunFrames base0 (env :: outer)) (hf:env.frame=some L)
  (hx:ExcT s.heap e cls T) (h:∀h',LeftX (frs (env :: outer)) [e,T] e cls s.heap h'->Q () { s with heap:=h' }):wpAny M A (noteFrame (.ref e) env) (fun _ s₂=>wpAny M A (setFlight (.ref e) none) Q E s₂) E s:=by
 obtain⟨oe,vs,oT,ts,a0,he,hc,hd,h1,hTe,hT,hdT,h3⟩:=id hx
 have nof:∀b o vs,s.heap.get? b=some o->o.data=.fields vs->b∉frs (env :: outer):=fun b o vs eb db hb=>by
  obtain⟨_,o',ho',hnf⟩:=hl.mem hb
  rw[eb]at ho';cases ho'
  exact hnf vs db
 refine wpAny_noteFrame_onW hfr (frames_less hl (S:=[e,T]++frs (env :: outer)) fun b hb=>List.mem_append_right _ hb) hf ⟨oe,vs,T,oT,ts,he,hc,hd,h1,less_in (by simp),hTe,hT,hdT,h3⟩ less_stays (less_in (by simp)) fun h1' hN=>?_
 obtain⟨k1,k2,k3,k4⟩:=hN
 refine wpAny_setFlight_noneW (s:={ s with heap:=h1' }) k1 k2 k3 fun h2 m1 m2 m3 m4=>h h2 ?_
 refine left_of hl (by simp) (fun b hb=>?_) ⟨m1,m2,m3,fun b o hb hnf=>?_⟩
 .simp only[List.mem_cons,List.not_mem_nil,or_false]at hb
  rcases hb with rfl|rfl
  .exact⟨nof _ oe vs he hd,oe,vs,he,hd⟩
  .exact⟨nof _ oT ts hT hdT,oT,ts,hT,hdT⟩
 .obtain⟨sl,z⟩:=k4 b o hb hnf
  exact⟨sl,m4 b _ z hnf⟩
end
structure FnCx (X:Cx):Prop where
 ex:X.ex=[]
 fn:∀x,X.fn x=true
 stk:X.stack=X.env :: X.outer
 fr:X.env.frame=some X.env.locals
theorem FnCx.frs {X:Cx} (F:FnCx X):L2.frs X.stack=X.env.locals :: X.fs:=by
 rw[F.stk]
 show List.filterMap _ _=_
 rw[List.filterMap_cons,F.fr]
 rfl
section
variable {X:Cx} {pins:List (Addr×Obj)} {σ:St} {H:Hp} {s:Shared}
theorem Inv.gone0 (I:Inv X pins σ H s) (F:FnCx X) {b:Addr} (h:s.heap.get? b=none):X.s₀.heap.get? b=none:=by
 cases e:X.s₀.heap.get? b with
 |none=>rfl
 |some o=>
  obtain⟨o',e'⟩:=I.base.there b o e (by rw[F.ex];exact List.not_mem_nil)
  rw[h]at e';cases e'
theorem objOk_there {P:Program} {w:World} {H:Hp} {h:Heap} (k:HOk P w H h) {b:Addr} {u:HO} (e:H b=some u):∃o,h.get? b=some o:=by
 have z:=k b u e
 cases u with
 |lst xs=>obtain⟨_,_,_,_,e⟩:=z;exact⟨_,e⟩
 |tup xs=>obtain⟨_,_,_,p⟩:=z;obtain⟨o,e,_⟩:=p;exact⟨o,e⟩
 |dK kvs=>obtain⟨_,_,vs,_,o,_,_,e,_⟩:=z;exact⟨o,e⟩
 |dT kvs=>obtain⟨_,_,xs,_,o,_,_,e,_⟩:=z;exact⟨o,e⟩
 |set S n=>obtain⟨o,_,_,_,e,_⟩:=z;exact⟨o,e⟩
 |ins C dx fs=>obtain⟨_,_,_,e,_⟩:=z;exact⟨_,e⟩
 |own x=>exact z
 |xd fs=>obtain⟨_,⟨o,_,_,e,_⟩,_⟩:=z;exact⟨o,e⟩
 |rng lo hi=>obtain⟨_,_,_,e⟩:=z;exact⟨_,e⟩
 |frz o u=>exact⟨o,z.1⟩
 |tbl ps=>exact⟨_,z⟩
 |met f x=>exact⟨_,z⟩
 |ext φ=>exact z.2.1
theorem Inv.gone (I:Inv X pins σ H s) {b:Addr} (h:s.heap.get? b=none):H b=none:=by
 cases e:H b with
 |none=>rfl
 |some u=>
  obtain⟨o,q⟩:=objOk_there I.hok e
  rw[h]at q;cases q
theorem Inv.left {S:List Addr} {e:Addr} {cls:Value} {h2:Heap} (I:Inv X pins σ H s) (F:FnCx X) (L:LeftX (frs X.stack) S e cls s.heap h2)
  (hS:∀b∈S,H b=none/\X.s₀.heap.get? b=none/\(∀p∈X.pn++pins,p.1≠b)/\∃o vs,s.heap.get? b=some o/\o.data=.fields vs):Inv X pins σ H { s with heap:=h2 }:=by
 have hF:=F.frs
 have nfs:∀{b:Addr},b≠X.env.locals->b∉X.fs->b∉frs X.stack:=fun {b} h1 h2 hb=>by
  rw[hF]at hb
  rcases List.mem_cons.mp hb with z|z
  .exact h1 z
  .exact h2 z
 have cell_ok:∀x c oc v,X.env.cells.lookup x=some c->s.heap.get? c=some oc->oc.data=.cell v->h2.get? c=some oc:=fun x c oc v hx ho hd=>by
  refine L.keep c oc (nfs (I.cne x c hx) fun hb=>?_) (fun hb=>?_) ho
  .obtain⟨_,o,eo,_⟩:=I.ok.funs.mem hb
   exact Nat.lt_irrefl _ (Nat.lt_of_lt_of_le (Heap.lt_size eo) (I.ok.cab x c (F.fn x) hx))
  .obtain⟨_,_,_,o,vs,eo,ed⟩:=hS c hb
   rw[ho]at eo;cases eo
   rw[hd]at ed;cases ed
 refine⟨I.ok,I.os,I.bare,⟨fun b o e0 n hb hx=>?_,fun b o e0 n hb hx=>?_,I.base.free,fun b o e0 hx=>?_,I.base.tups,I.base.frzs,I.base.tbls⟩,?_,fun x c hx=>?_,I.free,I.freeC,fun p hp=>?_,fun b u e=>?_,I.len⟩
 .have e1:=I.base.keep b o e0 n hb hx
  refine L.keep b o (nfs (Nat.ne_of_lt (Nat.lt_of_lt_of_le (Heap.lt_size e0) I.ok.above)) hb) (fun z=>?_) e1
  rw[(hS b z).2.1]at e0;cases e0
 .obtain⟨sl,e1⟩:=I.base.slot b o e0 n hb hx
  obtain⟨sl2,e2⟩:=L.slot b _ (by rw[hF];exact List.mem_cons_of_mem _ hb) e1
  exact⟨sl2,e2⟩
 .obtain⟨o',e1⟩:=I.base.there b o e0 hx
  exact L.there b o' (fun z=>by rw[(hS b z).2.1]at e0;cases e0) e1
 .obtain⟨m,⟨o,es,ep,ho,hd,r⟩,hl⟩:=I.loc
  obtain⟨sl,e2⟩:=L.slot X.env.locals o (by rw[hF];exact List.mem_cons_self) ho
  refine⟨m,⟨_,es,ep,e2,hd,r⟩,fun i x v h1 h2 h3=>?_⟩
  obtain⟨u,ru,q⟩:=hl i x v h1 h2 h3
  refine⟨u,ru,?_⟩
  rcases q with q|⟨k,c,hc,oc,ho,hd⟩
  .exact .inl q
  .exact .inr ⟨k,c,hc,oc,cell_ok x c oc _ hc ho hd,hd⟩
 .obtain⟨v,oc,ho,hd⟩:=I.cell x c hx
  exact⟨v,oc,cell_ok x c oc v hx ho hd,hd⟩
 .obtain⟨e,n,ne,nf,d⟩:=I.pin p hp
  exact⟨L.keep p.1 p.2 (nfs ne nf) (fun z=>(hS p.1 z).2.2.1 p hp rfl) e,n,ne,nf,d⟩
 .refine(I.hok b u e).stay (fun c v hc q=>?_) (fun _ q=>q) fun _ _ q=>q
  have tr:∃u',H c=some u':=by
   rcases hc with z|z
   .exact⟨u,by rw[z];exact e⟩
   .exact⟨_,z⟩
  obtain⟨u',hu⟩:=tr
  refine L.keep c v (fun hb=>?_) (fun hb=>?_) q
  .rw[I.stkFree c hb]at hu;cases hu
  .rw[(hS c hb).1]at hu;cases hu
noncomputable def CX1 (P:Program) (w:World) (mg:Str->Option Value):CXT:=fun outer H s E e s'=>∃(ea T Ca:Addr) (nm:Str) (H':Hp),e=.ref ea/\mg nm=some (.ref Ca)/\s'.os=s.os/\AllBare s'.gens/\Un (frs outer) [] H H' s.heap s'.heap/\HOk P w H' s'.heap/\
 ExcT s'.heap ea (.ref Ca) T/\H' ea=none/\H' T=none/\s.heap.get? ea=none/\s.heap.get? T=none/\E (.str nm 0) none H'
theorem excT_e {h:Heap} {e T:Addr} {cls:Value} (x:ExcT h e cls T):∃o vs,h.get? e=some o/\o.data=.fields vs:=by
 obtain⟨oe,vs,_,_,_,he,_,hd,_⟩:=x
 exact⟨oe,vs,he,hd⟩
theorem excT_T {h:Heap} {e T:Addr} {cls:Value} (x:ExcT h e cls T):∃o vs,h.get? T=some o/\o.data=.fields vs:=by
 obtain⟨_,_,oT,ts,_,_,_,_,_,_,hT,hdT,_⟩:=x
 exact⟨oT,ts,hT,hdT⟩
theorem excT_ne {h:Heap} {e T:Addr} {cls:Value} (x:ExcT h e cls T):T≠e:=by
 obtain⟨_,_,_,_,_,_,_,_,_,ne,_⟩:=x
 exact ne
theorem raised_leaves {E:XK} {nm:Str} {e Ca t:Addr} (I:Inv X pins σ H s) (F:FnCx X) (hm:X.mg nm=some (.ref Ca)) (hn:H e=none) (h0:X.s₀.heap.get? e=none) (hpin:∀p∈X.pn++pins,p.1≠e)
  (he:s.heap.get? e=some { cls:=.ref Ca,data:=.fields #[.ref t,.none,.none,.none,.bool false,.none] }) (hE:E (.str nm 0) none H):
  wpAny (model X.prog X.w) X.A (leaving X.env (.ref e)) (fun _ s''=>CX1 X.prog X.w X.mg X.outer X.H₀ X.s₀ E (.ref e) s'') (fun e' s''=>CX1 X.prog X.w X.mg X.outer X.H₀ X.s₀ E e' s'') s:=by
 have hfr:X.A.frames=some (X.env :: X.outer):=by rw[<- F.stk];exact I.ok.frames
 have hst:s.heap.FunFrames X.base (X.env :: X.outer):=by rw[<- F.stk];exact I.stack
 refine leave_first (a0:=.ref t) hfr hst F.fr he rfl (by simp) (by simp) fun h2 L=>?_
 rw[<- F.stk]at L
 have I2:=I.left F L fun b hb=>by
  have:b=e:=by simpa using hb
  subst this
  exact⟨hn,h0,hpin,_,_,he,rfl⟩
 obtain⟨T,hT,hx⟩:=L.exc
 have hTg:s.heap.get? T=none:=hT.resolve_right fun z=>excT_ne hx (by simpa using z)
 exact⟨e,T,Ca,nm,H,rfl,hm,I2.os,I2.bare,by have:=I2.base;rw[F.ex]at this;exact this,I2.hok,hx,hn,I.gone hTg,h0,I.gone0 F hTg,hE⟩
theorem passed_leaves {E:XK} {s':Shared} {e:Value} (I:Inv X pins σ H s) (F:FnCx X) (c:CX1 X.prog X.w X.mg X.stack H s E e s'):
  wpAny (model X.prog X.w) X.A (leaving X.env e) (fun _ s''=>CX1 X.prog X.w X.mg X.outer X.H₀ X.s₀ E e s'') (fun e' s''=>CX1 X.prog X.w X.mg X.outer X.H₀ X.s₀ E e' s'') s':=by
 obtain⟨ea,T,Ca,nm,H',rfl,hm,ho,hb,un,hok,hx,hn,hnT,hg,hgT,hE⟩:=c
 have I1:Inv X pins σ H' s':=I.call' ho un hok hb fun b hb=>absurd hb List.not_mem_nil
 have hfr:X.A.frames=some (X.env :: X.outer):=by rw[<- F.stk];exact I.ok.frames
 have hst:s'.heap.FunFrames X.base (X.env :: X.outer):=by rw[<- F.stk];exact I1.stack
 refine leave_next hfr hst F.fr hx fun h2 L=>?_
 rw[<- F.stk]at L
 have pne:∀b,s.heap.get? b=none->∀p∈X.pn++pins,p.1≠b:=fun b hb p hp z=>by
  have:=(I.pin p hp).1
  rw[z,hb]at this;cases this
 have I2:=I1.left F L fun b hb=>by
  simp only[List.mem_cons,List.not_mem_nil,or_false]at hb
  rcases hb with rfl|rfl
  .exact⟨hn,I.gone0 F hg,pne _ hg,excT_e hx⟩
  .exact⟨hnT,I.gone0 F hgT,pne _ hgT,excT_T hx⟩
 obtain⟨T2,hT2,hx2⟩:=L.exc
 have key:H' T2=none/\X.s₀.heap.get? T2=none:=by
  rcases hT2 with z|z
  .exact⟨I1.gone z,I1.gone0 F z⟩
  .simp only[List.mem_cons,List.not_mem_nil,or_false]at z
   rcases z with z|z
   .exact absurd z (excT_ne hx2)
   .rw[z];exact⟨hnT,I.gone0 F hgT⟩
 exact⟨ea,T2,Ca,nm,H',rfl,hm,I2.os,I2.bare,by have:=I2.base;rw[F.ex]at this;exact this,I2.hok,hx2,hn,key.1,I.gone0 F hg,key.2,hE⟩
end
def bmV:List Value:=[.type "ValueError",.type "Exception",.type "BaseException",.type "object"]
section
variable {X:Cx}
set_option tactic.hygienic true in
theorem ps_rse {nm:Str} {Ca:Addr} {y:Str} {k} {np p cpos pos:Pos} {wish:St->Hp->Prop} (F:FnCx X) (hc:X.calm=true) (hg:Gl X nm) (hm:X.mg nm=some (.ref Ca)) (hns:W.nsIn X.K mainGlobals nm=some (some (.ref Ca))) (hexc:W.excIn X.K Ca bmV "ValueError.__new__"=true)
  (hd:(nm == ("__debug__":Str))=false)
  (hx:∀pins σ H s e t,Inv X pins σ H s->H e=none->X.s₀.heap.get? e=none->(∀p∈X.pn++pins,p.1≠e)->s.heap.get? e=some { cls:=.ref Ca,data:=.fields #[.ref t,.none,.none,.none,.bool false,.none] }->wish σ H->X.xe (.ref e) s):
  PS X (.Raise (some (.Call (.Name nm np) [.Constant (.str y) k p] [] cpos)) none pos) (fun _ σ H=>wish σ H):=by
 intro pins s σ H D I h
 have cls:∀s':Shared,X.K.In s'.heap->∃bm N nm' q bs hdct sn sub ab col dd k0 k1 k2 k3 k5 mN,s'.heap.get? Ca=some (excClassObj nm' q Ca N bs bm hdct sn sub ab col dd k0 k1 k2 k3 k5 "ValueError.__new__")/\s'.heap.Ns N mN/\mN "__init__"=none/\OwnTail s'.heap bmV bm:=by
  intro s' KX
  have q:=hexc
  unfold W.excIn at q
  split at q
  .rename_i dd cd sl ho
   split at q
   .rename_i C' bm k0 k1 k2 k3 n k5 hm hs
    simp only[Bool.and_eq_true,beq_iff_eq,Bool.not_eq_true']at q
    obtain⟨⟨⟨⟨⟨rfl,rfl⟩,hdel⟩,ht⟩,hok⟩,hni⟩:=q
    obtain⟨nm',bs,mro,ns,qn,hd',sn,sub,ab,col,del⟩:=cd
    dsimp only at hm hdel hok hni
    subst hm hdel
    have hsl:sl=#[k0,k1,k2,k3,some (.builtin "ValueError.__new__"),k5]:=by
     obtain⟨l⟩:=sl
     simp only at hs
     rw[hs]
    subst hsl
    exact⟨bm,ns,nm',qn,bs,hd',sn,sub,ab,col,dd,k0,k1,k2,k3,k5,_,KX _ _ ho,.of_isNs (W.isNs_of_in KX hok),W.nsMap_none_of_in KX hok hni,W.tail_of_in KX ht⟩
   .cases q
  .cases q
 obtain⟨bm,N,nm',q,bs,hdct,sn,sub,ab,col,dd,k0,k1,k2,k3,k5,mN,hC,hN,hni,T⟩:=cls s I.kIn
 refine wpAny_Raise_call_subT (C:=Ca) (nm:=nm') (q:=q) (N:=N) (bs:=bs) (bm:=bm) (hdct:=hdct) (sn:=sn) (sub:=sub) (ab:=ab) (col:=col) (dd:=dd) (k0:=k0) (k1:=k1) (k2:=k2) (k3:=k3) (k5:=k5)
  PySem.F.excBase_ValueError (mN:=mN) (T.hasType PySem.F.excBase_ValueError.hasBase) (I.ok.hd hc) rfl hni (ld_glob I hg hm ⟨rfl,?_⟩ hd)
 refine Calls.evalArgs_plain ?_
 refine PyProof.Rows.spliced_more (Calls.Constant_str (PyProof.Rows.spliced_none ?_))
 refine⟨rfl,by show 1<=sizeLine;decide,hC,hN,T,fun h' e M=>?_⟩
 obtain⟨t,he,_,_⟩:=M.there
 have I2:Inv X pins σ H { s with heap:=h',toks:=s.toks+1 }:=I.kept (t':=s.toks+1) M.keeps
 refine hx pins σ H _ e t I2 (I.gone M.new) (I.gone0 F M.new) (fun p hp z=>?_) he h
 have:=(I.pin p hp).1
 rw[z,M.new]at this;cases this
end
noncomputable def Cx.tryX (X:Cx) (pins:List (Addr×Obj)) (D:Ends) (hs:List ExceptHandler):Cx:={ X with
 pn:=X.pn++pins
 xe:=fun e s'=>wpAny (model X.prog X.w) X.A (noteFrame e X.env) (fun _ s₂=>wpAny (model X.prog X.w) X.A (setFlight e none) (fun _ s₃=>wpAny (model X.prog X.w) X.A (handleBy e X.env hs) (SP X pins D) X.xe s₃) X.xe s₂) X.xe s' }
section
variable {X:Cx} {pins:List (Addr×Obj)} {σ:St} {H:Hp} {s:Shared} {D:Ends} {hs:List ExceptHandler}
theorem Inv.toTry (I:Inv X pins σ H s):Inv (X.tryX pins D hs) [] σ H s:=⟨⟨I.ok.mod,I.ok.kind,I.ok.glob,I.ok.blt,I.ok.above,I.ok.inj,I.ok.has,I.ok.cab,I.ok.hd,I.ok.frames,I.ok.stk,I.ok.exf,I.ok.bs,I.ok.bsz,I.ok.noex,I.ok.exfs,I.ok.funs,I.ok.frf⟩,I.os,I.bare,I.base,I.loc,I.cell,I.free,I.freeC,fun p hp=>I.pin p (by simpa[Cx.tryX]using hp),I.hok,I.len⟩
theorem Inv.fromTry {pins':List (Addr×Obj)} (I:Inv (X.tryX pins D hs) pins' σ H s):Inv X pins σ H s:=⟨⟨I.ok.mod,I.ok.kind,I.ok.glob,I.ok.blt,I.ok.above,I.ok.inj,I.ok.has,I.ok.cab,I.ok.hd,I.ok.frames,I.ok.stk,I.ok.exf,I.ok.bs,I.ok.bsz,I.ok.noex,I.ok.exfs,I.ok.funs,I.ok.frf⟩,I.os,I.bare,I.base,I.loc,I.cell,I.free,I.freeC,fun p hp=>I.pin p (List.mem_append_left _ hp),I.hok,I.len⟩
theorem ps_tryX {body:List Stmt} {h₀:ExceptHandler} {pos:Pos} {t:Ends->TS} (hb:∀pins D,PSs (X.tryX pins D [h₀]) body (t D)):PS X (.Try body [h₀] [] [] pos) (fun D σ H=>t D D σ H):=by
 intro pins s σ H D I h
 refine wpAny_Try_except (wpAny_mono (hb pins D [] s σ H D I.toTry h) (fun f s1 q=>?_) fun e s1 q=>q)
 cases f with
 |next=>
  obtain⟨σ',H',I',q⟩:=q
  exact wpAny_execs_nil ⟨σ',H',I'.fromTry,q⟩
 |brk=>
  obtain⟨σ',H',I',q⟩:=q
  exact⟨σ',H',I'.fromTry,q⟩
 |cont=>
  obtain⟨σ',H',I',q⟩:=q
  exact⟨σ',H',I'.fromTry,q⟩
 |ret u=>
  obtain⟨v,σ',H',I',rv,q⟩:=q
  exact⟨v,σ',H',I'.fromTry,rv,q⟩
noncomputable def Cx.inX (X:Cx) (e:Addr):Cx:={ X with A:=X.A.mark (some (.ref e)),calm:=false,xe:=fun _ _=>False }
theorem Inv.toX {e:Addr} (I:Inv X pins σ H s):Inv (X.inX e) pins σ H s:=⟨⟨I.ok.mod,I.ok.kind,I.ok.glob,I.ok.blt,I.ok.above,I.ok.inj,I.ok.has,I.ok.cab,(fun h=>by cases h),I.ok.frames,I.ok.stk,I.ok.exf,I.ok.bs,I.ok.bsz,I.ok.noex,I.ok.exfs,I.ok.funs,I.ok.frf⟩,I.os,I.bare,I.base,I.loc,I.cell,I.free,I.freeC,I.pin,I.hok,I.len⟩
theorem Inv.fromX {e:Addr} (hd:X.calm=true->X.A.handled=none) (I:Inv (X.inX e) pins σ H s):Inv X pins σ H s:=⟨⟨I.ok.mod,I.ok.kind,I.ok.glob,I.ok.blt,I.ok.above,I.ok.inj,I.ok.has,I.ok.cab,hd,I.ok.frames,I.ok.stk,I.ok.exf,I.ok.bs,I.ok.bsz,I.ok.noex,I.ok.exfs,I.ok.funs,I.ok.frf⟩,I.os,I.bare,I.base,I.loc,I.cell,I.free,I.freeC,I.pin,I.hok,I.len⟩
theorem land {M:Model} {A:Around} {E:Value->Shared->Prop} {l:List Env} {base0:Heap} {e T:Addr} {cls:Value} {Q:Unit->Shared->Prop} (hl:s.heap.FunFrames base0 l) (hx:ExcT s.heap e cls T) (h:∀h',LeftX (frs l) [e,T] e cls s.heap h'->Q () { s with heap:=h' }):wpAny M A (setFlight (.ref e) none) Q E s:=by
 obtain⟨oe,vs,oT,ts,a0,he,hc,hd,h1,hTe,hT,hdT,h3⟩:=id hx
 have nof:∀b o vs,s.heap.get? b=some o->o.data=.fields vs->b∉frs l:=fun b o vs eb db hb=>by
  obtain⟨_,o',ho',hnf⟩:=hl.mem hb
  rw[eb]at ho';cases ho'
  exact hnf vs db
 refine wpAny_setFlight_noneW (base:=less s.heap ([e,T]++frs l)) (l:=l) less_stays (frames_less hl fun b hb=>List.mem_append_right _ hb) ⟨oe,vs,T,oT,ts,he,hc,hd,h1,less_in (by simp),hTe,hT,hdT,h3⟩ fun h2 m1 m2 m3 m4=>h h2 ?_
 refine left_of hl (by simp) (fun b hb=>?_) ⟨m1,m2,m3,fun b o hb hnf=>⟨o.slots,m4 b o hb hnf⟩⟩
 simp only[List.mem_cons,List.not_mem_nil,or_false]at hb
 rcases hb with rfl|rfl
 .exact⟨nof _ oe vs he hd,oe,vs,he,hd⟩
 .exact⟨nof _ oT ts hT hdT,oT,ts,hT,hdT⟩
theorem caught_no {pins':List (Addr×Obj)} {s':Shared} {E':XK} {e:Value} {c:Str} {Cc:Addr} {b₀:Stmt} {suite:List Stmt} {np pos:Pos} {th:TS} (I:Inv (X.tryX pins D [.ExceptHandler (some (.Name c np)) none (b₀ :: suite) pos]) pins' σ H s) (F:FnCx X) (hc:X.calm=true)
  (hcg:Gl X c) (hcm:X.mg c=some (.ref Cc)) (hcd:(c == ("__debug__":Str))=false)
  (hsuite:∀e,PSs (X.inX e) (b₀ :: suite) th)
  (hW:∀nm Ca H',X.mg nm=some (.ref Ca)->E' (.str nm 0) none H'->W.exmOne X.K (.ref Ca) (.ref Cc)=some true/\th { nx:=D.nx,rt:=D.rt } σ H')
  (cx:CX1 X.prog X.w X.mg X.stack H s E' e s'):(X.tryX pins D [.ExceptHandler (some (.Name c np)) none (b₀ :: suite) pos]).xe e s':=by
 obtain⟨ea,T,Ca,nm,H',rfl,hm,ho,hb,un,hok,hx,hn,hnT,hg,hgT,hE⟩:=cx
 obtain⟨hexm,hth⟩:=hW nm Ca H' hm hE
 have I0:Inv X pins σ H s:=I.fromTry
 have I1:Inv X pins σ H' s':=I0.call' ho un hok hb fun b hb=>absurd hb List.not_mem_nil
 have hfr:X.A.frames=some (X.env :: X.outer):=by rw[<- F.stk];exact I0.ok.frames
 have hst:s'.heap.FunFrames X.base (X.env :: X.outer):=by rw[<- F.stk];exact I1.stack
 have pne:∀b,s.heap.get? b=none->∀p∈X.pn++pins,p.1≠b:=fun b hb p hp z=>by
  have:=(I0.pin p hp).1
  rw[z,hb]at this;cases this
 refine look_next hfr hst F.fr hx fun h2 L=>?_
 rw[<- F.stk]at L
 have I2:=I1.left F L fun b hb=>by
  simp only[List.mem_cons,List.not_mem_nil,or_false]at hb
  rcases hb with rfl|rfl
  .exact⟨hn,I0.gone0 F hg,pne _ hg,excT_e hx⟩
  .exact⟨hnT,I0.gone0 F hgT,pne _ hgT,excT_T hx⟩
 obtain⟨T2,hT2,hx2⟩:=L.exc
 obtain⟨oe,vs,oT,ts,a0,he,⟨hcls,h0⟩,hd,h1,hTe,hT,hdT,h3⟩:=id hx2
 have keyT:H' T2=none/\X.s₀.heap.get? T2=none/\∀p∈X.pn++pins,p.1≠T2:=by
  rcases hT2 with z|z
  .exact⟨I1.gone z,I1.gone0 F z,fun p hp q=>by
    have:=(I1.pin p hp).1
    rw[q,z]at this;cases this⟩
  .simp only[List.mem_cons,List.not_mem_nil,or_false]at z
   rcases z with z|z
   .exact absurd z (excT_ne hx2)
   .rw[z];exact⟨hnT,I0.gone0 F hgT,pne _ hgT⟩
 refine wpAny_handleBy_cons (codeAny_handlers_test (ld_glob (X:=X.inX ea) I2.toX hcg hcm ?_ hcd)) (by intro q;cases q)
 have LT:W.Looks (model X.prog X.w) h2 (typeOf (.ref ea)) (.ref Ca):=hcls ▸ (W.Looks.ld he).andThen .now
 refine(W.exm_one (K:=X.K) I2.kIn LT hexm) _ _ _ _ (fun _ _ z=>z) ?_
 show codeAny _ _ _ _ _
 refine codeAny_handlers_suite ?_
 have hst2:h2.FunFrames X.base X.stack:=I2.stack
 refine land (s:={ s' with heap:=h2 }) hst2 hx2 fun h3' L3=>?_
 have I3:=I2.left F L3 fun b hb=>by
  simp only[List.mem_cons,List.not_mem_nil,or_false]at hb
  rcases hb with rfl|rfl
  .exact⟨hn,I0.gone0 F hg,pne _ hg,excT_e hx2⟩
  .exact⟨keyT.1,keyT.2.1,keyT.2.2,excT_T hx2⟩
 refine wpAny_mono (hsuite ea pins _ _ _ _ I3.toX hth) (fun f s5 q5=>?_) fun _ _ z=>z.elim
 cases f with
 |next=>
  obtain⟨σ5,H5,I5,q⟩:=q5
  exact⟨_,_,I5.fromX I0.ok.hd,q⟩
 |brk=>obtain⟨_,_,_,q⟩:=q5;exact q.elim
 |cont=>obtain⟨_,_,_,q⟩:=q5;exact q.elim
 |ret u=>
  obtain⟨v,σ5,H5,I5,r,q⟩:=q5
  exact⟨v,_,_,I5.fromX I0.ok.hd,r,q⟩
end
end L2
namespace L2
open PySem PySem.Spec PyProof.Rows PySem.W
structure XCls (K:Frag) (C:Addr):Prop where
 ga:findIn K (.ref C) "__getattribute__"=some (some (.builtin "BaseException.__getattribute__"))
 gt:findIn K (.ref C) "__getattr__"=some none
 cl:findIn K (.ref C) "__class__"=some (some (.builtin "object.__class__"))
 be:subIn K (.ref C) (.type "BaseException")=some true
 ob:subIn K (.ref C) (.type "object")=some true
 is:(clsIn K C).isSome=true
section
variable {prog:Program} {w:World} {A:Around} {E:Value->Shared->Prop} {K:Frag} {h:Heap} {g:Array GenState} {d:Drawn} {t:Nat} {os:OsState} {a C:Addr} {o:Obj}
end
end L2
namespace L2
open PySem PySem.Spec PyProof.Rows PySem.W
section
variable {X:Cx}
end
noncomputable def okIs:Option Int->Value->Bool
 |some k,v=>Value.isInt k v
 |none,.none=>true
 |none,_=>false
theorem okIs_shape:∀{k:Option Int} {v:Value},okIs k v=true->(∃i t,k=some i/\v=Value.int i t)\/(k=none/\v=Value.none)
 |some i,v,h=>by
  obtain⟨t,e⟩:=Value.isInt_shape (k:=i) (v:=v) h
  exact .inl ⟨i,t,rfl,e⟩
 |none,v,h=>by cases v<;>first|exact .inr ⟨rfl,rfl⟩|cases h
noncomputable def okH:Option Int->Int
 |some k=>hashInt k
 |none=>0xFCA86420
noncomputable def oKind (prog:Program) (w:World):PySem.KeyKind prog w (Option Int) where
 is:=okIs
 hash:=okH
 inj:=fun v a b ha hb=>by
  rcases okIs_shape ha with⟨i,t,rfl,rfl⟩|⟨rfl,rfl⟩
  .rcases okIs_shape hb with⟨j,u,rfl,e⟩|⟨rfl,e⟩
   .injection e with e1 _;rw[e1]
   .exact nomatch e
  .rcases okIs_shape hb with⟨j,u,rfl,e⟩|⟨rfl,e⟩
   .exact nomatch e
   .rfl
 byValue:=fun k v h=>by
  rcases okIs_shape h with⟨i,t,rfl,rfl⟩|⟨rfl,rfl⟩<;>rfl
 pyHash:=fun hv h=>by
  rcases okIs_shape hv with⟨i,t,rfl,rfl⟩|⟨rfl,rfl⟩
  .exact wpAny_pyHash_int h
  .exact hash_none h
 eqBool:=fun {A E s a b u v Q} hu hv h=>by
  rcases okIs_shape hu with⟨i,t,rfl,rfl⟩|⟨rfl,rfl⟩
  .rcases okIs_shape hv with⟨j,u,rfl,rfl⟩|⟨rfl,rfl⟩
   .have e:decide ((some i:Option Int)=some j)=(i == j):=by
     by_cases q:i=j
     .subst q;simp
     .rw[decide_eq_false (fun z=>q (Option.some.inj z)),(beq_eq_false_iff_ne.mpr q)]
    rw[e]at h
    exact wpAny_eqBool_int h
   .exact SeqAt.EqAt.int_none i t _ _ _ _ h
  .rcases okIs_shape hv with⟨j,u,rfl,rfl⟩|⟨rfl,rfl⟩
   .exact SeqAt.EqAt.none_int j u _ _ _ _ h
   .exact SeqAt.EqAt.same .none _ _ _ _ h
 «strs»:=fun k x t v h=>by
  rcases okIs_shape h with⟨i,u,rfl,e⟩|⟨rfl,e⟩<;>exact nomatch e
end L2
namespace PySem
open PyProof.Rows
section
variable {prog:Program} {w:World} {K:Type} [DecidableEq K] {knd:KeyKind prog w K}
variable {A:Around} {R:Result->Shared->Prop} {I:Addr} {fp wr:List Addr} {G:Array GenState->Array GenState->Prop} {n:Nat} {P:Nat->Value->Prop} {St:Nat->Shared->Prop}
end
section
variable {prog:Program} {w:World} {K:Type} [DecidableEq K] {knd:KeyKind prog w K} {A:Around} {E:Value->Shared->Prop} {s:Shared}
noncomputable def emptySet (led:Bool):Obj:={ cls:=.type "set",dict:=none,data:=.set #[] 0 (.fresh 0 0 led) }
theorem setIt_empty:(emptySet (!(w.params.followText "set-order"))).SetIt knd (fun _=>false) 0:=
 ⟨#[],0,_,⟨rfl,rfl,rfl⟩,rfl,fun e he=>by simp at he,fun k=>by simp,by decide,by rfl,rfl,by simp[Dst],by
  cases h:w.params.followText "set-order" with
  |true=>exact .inl rfl
  |false=>exact .inr ⟨rfl,by unfold Rsn;exact List.Pairwise.nil⟩⟩
theorem new_setIt {Q:Value->Shared->Prop} (h:Q (.ref s.heap.objs.size) { s with heap:=s.heap.push (emptySet (!(w.params.followText "set-order"))) }):wpAny (model prog w) A (newSet (.type "set")) Q E s:=by
 unfold newSet setsByText
 refine wpAny_bind (wpAny_bind (wpAny_askSetting (wpAny_pure ?_)))
 exact wpAny_newObj_type h
end
end PySem
namespace PySem
open PyProof.Rows
namespace F
theorem owner_sti:Manifest.owners.lookup (String.ofList ['r','o','t','a','r','e','t','i','_','t','e','s'].reverse)=some Manifest.sig_set_iterator:=by kernel_rfl
theorem slot_sti_next:Slot "set_iterator" "__next__" "set_iterator.__next__":=
 .of (owner:="set_iterator") (n:="__next__") (by rw[typeLookup_type,builtinLookup_eq_fast];kernel_rfl) (by decide +kernel) (by decide +kernel) (by decide +kernel)
  (by first|exact .inl (by decide +kernel)|exact .inr (by decide +kernel)) (by rw[isSubtype_type];kernel_rfl)
theorem entry_sti_next:entryFor table "set_iterator.__next__"=some Builtin.«set_iterator.__next__»:=entryFor_of_tree (by kernel_rfl)
theorem slot_sti_iter:Slot "set_iterator" "__iter__" "set_iterator.__iter__":=
 .of (owner:="set_iterator") (n:="__iter__") (by rw[typeLookup_type,builtinLookup_eq_fast];kernel_rfl) (by decide +kernel) (by decide +kernel) (by decide +kernel)
  (by first|exact .inl (by decide +kernel)|exact .inr (by decide +kernel)) (by rw[isSubtype_type];kernel_rfl)
theorem entry_sti_iter:entryFor table "set_iterator.__iter__"=some Builtin.«dict_keyiterator.__iter__»:=
 entryFor_alias (id':="dict_keyiterator.__iter__") (by kernel_rfl) (by first|rfl|decide +kernel|(unfold String.splitOn;simp +decide [String.splitOnAux])) (by decide +kernel) (by kernel_rfl)
theorem args_sti_next_1 (a:Value):argsOk "set_iterator.__next__" ⟨[a],[]⟩:=by
 unfold argsOk;rw[signature?_of (id:="set_iterator.__next__") (n:=['_','_','t','x','e','n','_','_']) (o:=['r','o','t','a','r','e','t','i','_','t','e','s']) (by kernel_rfl) owner_sti];kernel_rfl
theorem args_sti_iter_1 (a:Value):argsOk "set_iterator.__iter__" ⟨[a],[]⟩:=by
 unfold argsOk;rw[signature?_of (id:="set_iterator.__iter__") (n:=['_','_','r','e','t','i','_','_']) (o:=['r','o','t','a','r','e','t','i','_','t','e','s']) (by kernel_rfl) owner_sti];kernel_rfl
theorem entry_set_iter':entryFor table "set.__iter__"=some Builtin.«frozenset.__iter__»:=
 entryFor_alias (id':="frozenset.__iter__") (by kernel_rfl) (by first|rfl|decide +kernel|(unfold String.splitOn;simp +decide [String.splitOnAux])) (by decide +kernel) (by kernel_rfl)
end F
def Heap.IsSti (h:Heap) (a d:Addr) (f:Value) (i n ep:Nat):Prop:=∃o,h.get? a=some o/\o.cls=.type "set_iterator"/\o.data=.fields #[f,rawInt i,.ref d,rawInt n,rawInt ep]
theorem Heap.IsSti.at {h h':Heap} {a d:Addr} {f:Value} {i n ep:Nat} (x:h.IsSti a d f i n ep) (e:∀o,h.get? a=some o->h'.get? a=some o):h'.IsSti a d f i n ep:=let⟨o,ho,r⟩:=x;⟨o,e _ ho,r⟩
def Ord (bt:Bool) (w:World) (d ep:Nat) (es:Array (Int×Value)) (t:SetTable) (xs:Array Value) (h:Heap) (f:Value) (i:Nat):Prop:=
 (bt=true/\f=rawInt 0/\xs=(pickOrder (w.params.setOrder d ep) es).map (·.2))\/
 (bt=false/\(!t.plain&&decide (es.size > 1))=false/\Rsn t.place/\f=rawInt (if i=0 then 0 else((t.place.getD (i-1) 0+1:Nat):Int))/\xs=es.map (·.2))\/
 (bt=false/\∃(T:Addr) (pl:Array Nat),f=.ref T/\IsTup h T (pl.map fun(j:Nat)=>rawInt j)/\xs.size=pl.size/\∀(j p:Nat),pl[j]?=some p->∃x:Int×Value,es[p]?=some x/\xs[j]?=some x.2)
section
variable {prog:Program} {w:World} {A:Around} {E:Value->Shared->Prop} {s:Shared}
theorem Heap.IsSti.typeIs {a d:Addr} {f:Value} {i n ep:Nat} (x:s.heap.IsSti a d f i n ep):s.TypeIs (.ref a) "set_iterator":=let⟨o,ho,hc,_⟩:=x;⟨o,ho,hc⟩
theorem iter_sti {it d:Addr} {f:Value} {i n ep:Nat} {Q:Value->Shared->Prop} (hit:s.heap.IsSti it d f i n ep) (h:Q (.ref it) s):wpAny (model prog w) A (pyIter (.ref it)) Q E s:=by
 refine wpAny_pyIter_slot hit.typeIs F.slot_sti_iter (wpAny_call_entry F.slot_sti_iter hit.typeIs F.entry_sti_iter ?_ (F.args_sti_iter_1 _))
 show wpAny _ _ (ret (.ref it)) _ _ s
 exact wpAny_pure ⟨_,rfl,"set_iterator",_,hit.typeIs,F.slot_sti_next.lookup,h⟩
theorem place_next {xs:Array Nat} (hr:Rsn xs) {i:Nat} (hi:i<=xs.size):SetTable.below xs (Int.toNat (if i=0 then 0 else((xs.getD (i-1) 0+1:Nat):Int)))=i:=by
 by_cases h0:i=0
 .subst h0
  rw[if_pos rfl]
  obtain⟨h1,h2,h3⟩:=below_at hr (Int.toNat 0)
  by_cases hz:SetTable.below xs (Int.toNat 0)=0
  .exact hz
  .exact absurd (h2 0 (by omega) (by omega)) (by simp)
 .rw[if_neg h0,Int.toNat_natCast]
  have hg:xs.getD (i-1) 0=xs[i-1]'(by omega):=by simp[Array.getD,show i-1<xs.size by omega]
  rw[hg]
  obtain⟨h1,h2,h3⟩:=below_at hr (xs[i-1]'(by omega)+1)
  refine Nat.le_antisymm (Nat.le_of_not_lt fun z=>?_) (Nat.le_of_not_lt fun z=>?_)
  .have q1:=h2 i (by omega) z
   have q2:=rsn_lt hr (i:=i-1) (j:=i) (by omega) (by omega)
   omega
  .have q1:=h3 (i-1) (by omega) (by omega)
   omega
theorem out_perm {α:Type}:∀(l:List α) (i:Nat) (h:i<l.length),(l[i] :: l.eraseIdx i).Perm l
 |a :: l,0,h=>List.Perm.refl _
 |a :: l,i+1,h=>by
  rw[List.eraseIdx_cons_succ,List.getElem_cons_succ]
  exact(List.Perm.swap a _ _).trans ((out_perm l i (by simpa using h)).cons a)
theorem pick_go {α:Type} (f:Nat->Nat):∀(n k:Nat) (l:List α) (out:Array α),n=l.length->(pickOrder.go f n k l out).toList.Perm (out.toList++l)
 |0,k,l,out,e=>by
  have:l=[]:=List.length_eq_zero_iff.mp e.symm
  subst this
  unfold pickOrder.go
  simp
 |n+1,k,l,out,e=>by
  unfold pickOrder.go
  have hl:f k % l.length<l.length:=Nat.mod_lt _ (by omega)
  rw[List.getElem?_eq_getElem hl]
  dsimp only
  refine(pick_go f n (k+1) _ _ (by rw[List.length_eraseIdx_of_lt hl];omega)).trans ?_
  rw[Array.toList_push,List.append_assoc]
  refine List.Perm.append_left _ ?_
  rw[List.singleton_append]
  exact out_perm l _ hl
theorem pick_perm {α:Type} (f:Nat->Nat) (xs:Array α):(pickOrder f xs).toList.Perm xs.toList:=by
 have:=pick_go f xs.size 0 xs.toList #[] (by simp)
 simpa[pickOrder]using this
theorem next_sti {it d:Addr} {o:Obj} {f:Value} {i ep:Nat} {es:Array (Int×Value)} {t:SetTable} {xs:Array Value} {v:Value} {Q:Option Value->Shared->Prop} (hit:s.heap.IsSti it d f i es.size ep) (hne:d≠it) (hT:∀T,f=.ref T->T≠it) (ho:s.heap.get? d=some o) (hd:o.data=.set es ep t)
  (hf:t.fits es.size=true) (htk:TOk (w.params.followText "set-order") t) (hor:Ord (w.params.followText "set-order") w d ep es t xs s.heap f i) (hx:xs[i]?=some v)
  (hQ:∀h' f',h'.IsSti it d f' (i+1) es.size ep->Heap.SameBut it s.heap h'->Ord (w.params.followText "set-order") w d ep es t xs h' f' (i+1)->(∀T,f'=.ref T->f=.ref T)->Q (some v) { s with heap:=h' }):wpAny (model prog w) A (pyNext (.ref it)) Q E s:=by
 obtain⟨oi,hoi,hci,hdi⟩:=id hit
 have hfz:t.place.size=es.size:=by
  simp only[SetTable.fits,Bool.and_eq_true,beq_iff_eq]at hf
  exact hf.1
 unfold pyNext
 refine wpAny_bind (wpAny_attempt (wpAny_callSpecial?_slot (name:=Str.ofString "__next__") hit.typeIs F.slot_sti_next (wpAny_call_entry F.slot_sti_next hit.typeIs F.entry_sti_next ?_ (F.args_sti_next_1 _))))
 unfold Builtin.«set_iterator.__next__»
 refine wpAny_bind (wpAny_of_eq (a:=(Value.ref it,[])) rfl ?_)
 dsimp only
 refine wpAny_bind (wpAny_fieldsOf hoi hdi ?_)
 dsimp only[rawInt]
 refine wpAny_bind (wpAny_setEntries_of ho hd hf ?_)
 rw[if_neg (by simp)]
 have k1:∀(f1:Value) (h1:Heap),h1=(s.heap.update it (Obj.mapFields fun x=>x.setIfInBounds 0 f1)).update it (Obj.mapFields fun x=>x.setIfInBounds 1 (rawInt ((i:Int)+1)))->h1.IsSti it d f1 (i+1) es.size ep/\Heap.SameBut it s.heap h1:=by
  intro f1 h1 e
  subst e
  have g1:=Heap.get?_update_self (Obj.mapFields fun x=>x.setIfInBounds 0 f1) hoi (Obj.isFreed_of_fields (Obj.data_mapFields hdi _))
  have g2:=Heap.get?_update_self (Obj.mapFields fun x=>x.setIfInBounds 1 (rawInt ((i:Int)+1))) g1 (Obj.isFreed_of_fields (Obj.data_mapFields (Obj.data_mapFields hdi _) _))
  exact⟨⟨_,g2,(Obj.cls_mapFields ..).trans ((Obj.cls_mapFields ..).trans hci),by rw[Obj.data_mapFields (Obj.data_mapFields hdi _)];simp[rawInt]⟩,(Heap.SameBut.update ..).trans (Heap.SameBut.update ..)⟩
 rcases id hor with⟨hb,rfl,hxs⟩|⟨hb,hdr,hrs,rfl,hxs⟩|⟨hb,T,pl,rfl,htp,hsz,hpl⟩
 .dsimp only[rawInt]
  unfold setNext
  refine wpAny_bind (wpAny_bind (wpAny_setState_of ho hd hf ?_))
  dsimp only
  unfold setsByText
  refine wpAny_bind (wpAny_bind (wpAny_askSetting (wpAny_pure ?_)))
  show wpAny _ _ (if w.params.followText "set-order"=true then _ else _) _ _ _
  rw[if_pos hb]
  rw[if_neg (by simp)]
  unfold setWalk
  refine wpAny_bind (wpAny_bind (wpAny_setState_of ho hd hf ?_))
  dsimp only
  unfold setsByText
  refine wpAny_bind (wpAny_bind (wpAny_askSetting (wpAny_pure ?_)))
  show wpAny _ _ (if w.params.followText "set-order"=true then _ else _) _ _ _
  rw[if_pos hb]
  refine wpAny_bind (wpAny_askSetting (wpAny_pure ?_))
  have hv:(pickOrder (w.params.setOrder d ep) es)[i]?.map (·.2)=some v:=by
   rw[hxs,Array.getElem?_map]at hx
   exact hx
  obtain⟨p,hp,rfl⟩:∃p,(pickOrder (w.params.setOrder d ep) es)[i]?=some p/\p.2=v:=by
   cases hq:(pickOrder (w.params.setOrder d ep) es)[i]? with
   |none=>rw[hq]at hv;cases hv
   |some p=>rw[hq]at hv;exact⟨p,rfl,by injection hv⟩
  show wpAny _ _ (pure (Option.map (fun e=>(e.2,(0:Int).toNat)) (pickOrder (w.params.setOrder d ep) es)[(i:Int).toNat]?)) _ _ _
  rw[Int.toNat_natCast,hp]
  refine wpAny_pure ?_
  dsimp only[Option.map]
  refine wpAny_bind (wpAny_setField hoi hdi (by simp) ?_)
  have g1:=Heap.get?_update_self (Obj.mapFields fun x=>x.setIfInBounds 0 (rawInt ((0:Int).toNat:Int))) hoi (Obj.isFreed_of_fields (Obj.data_mapFields hdi _))
  refine wpAny_bind (wpAny_setField g1 (Obj.data_mapFields hdi _) (by simp) ?_)
  obtain⟨z1,z2⟩:=k1 (rawInt ((0:Int).toNat:Int)) _ rfl
  exact wpAny_pure ⟨_,rfl,wpAny_pure (hQ _ _ z1 z2 (.inl ⟨hb,rfl,hxs⟩) fun T z=>nomatch z)⟩
 .dsimp only[rawInt]
  have hi:i<es.size:=by
   rw[hxs]at hx
   have:=(Array.getElem?_eq_some_iff.mp hx).1
   rwa [Array.size_map]at this
  have hv:es[i].2=v:=by
   rw[hxs,Array.getElem?_map,Array.getElem?_eq_getElem hi]at hx
   injection hx
  unfold setNext
  refine wpAny_bind (wpAny_bind (wpAny_setState_of ho hd hf ?_))
  dsimp only
  unfold setsByText
  refine wpAny_bind (wpAny_bind (wpAny_askSetting (wpAny_pure ?_)))
  show wpAny _ _ (if w.params.followText "set-order"=true then _ else _) _ _ _
  rw[if_neg (by rw[hb];exact Bool.false_ne_true)]
  show wpAny _ _ (if(!t.plain&&decide (es.size > 1))=true then _ else _) _ _ _
  rw[if_neg (by rw[hdr];exact Bool.false_ne_true)]
  have hled:t.led=true:=by
   rcases htk with z|z
   .rw[hb]at z;cases z
   .exact z.1
  refine wpAny_bind ?_
  show wpAny _ _ (if(!t.led&&!es.isEmpty)=true then _ else _) _ _ _
  rw[if_neg (by rw[hled];simp)]
  refine wpAny_pure ?_
  rw[place_next hrs (by omega)]
  rw[Array.getElem?_eq_getElem hi,Array.getElem?_eq_getElem (show i<t.place.size by omega)]
  refine wpAny_pure ?_
  dsimp only
  refine wpAny_bind (wpAny_setField hoi hdi (by simp) ?_)
  have g1:=Heap.get?_update_self (Obj.mapFields fun x=>x.setIfInBounds 0 (rawInt ((t.place[i]'(by omega)+1:Nat):Int))) hoi (Obj.isFreed_of_fields (Obj.data_mapFields hdi _))
  refine wpAny_bind (wpAny_setField g1 (Obj.data_mapFields hdi _) (by simp) ?_)
  obtain⟨z1,z2⟩:=k1 (rawInt ((t.place[i]'(by omega)+1:Nat):Int)) _ rfl
  subst hv
  refine wpAny_pure ⟨_,rfl,wpAny_pure (hQ _ _ z1 z2 (.inr (.inl ⟨hb,hdr,hrs,?_,hxs⟩)) fun T z=>nomatch z)⟩
  rw[if_neg (by omega)]
  simp[Array.getD,show i<t.place.size by omega]
 .have hi:i<pl.size:=by
   have:=(Array.getElem?_eq_some_iff.mp hx).1
   omega
  dsimp only[rawInt]
  obtain⟨x,ex,exs⟩:=hpl i _ (Array.getElem?_eq_getElem hi)
  rw[exs]at hx
  injection hx with hx
  subst hx
  obtain⟨oT,hoT,hcT,nT,hdT⟩:=id htp
  refine wpAny_bind ?_
  show wpAny _ _ (load T >>= _) _ _ _
  refine wpAny_bind (wpAny_load hoT ?_)
  rw[hdT]
  refine wpAny_pure ?_
  dsimp only
  have hg:(pl.map fun(j:Nat)=>rawInt j)[(i:Int).toNat]?=some (rawInt (pl[i]:Nat)):=by rw[Int.toNat_natCast,Array.getElem?_map,Array.getElem?_eq_getElem hi];rfl
  rw[hg]
  dsimp only[rawInt]
  unfold setNextDrawn
  refine wpAny_bind (wpAny_bind (wpAny_setState_of ho hd hf ?_))
  dsimp only
  rw[if_neg (by simp)]
  rw[Int.toNat_natCast,ex]
  refine wpAny_pure ?_
  refine wpAny_bind (wpAny_setField hoi hdi (by simp) ?_)
  have hsb:=Heap.SameBut.update s.heap it (Obj.mapFields fun x=>x.setIfInBounds 1 (rawInt ((i:Int)+1)))
  refine wpAny_pure ⟨_,rfl,wpAny_pure (hQ _ (.ref T) ⟨_,Heap.get?_update_self _ hoi (Obj.isFreed_of_fields (Obj.data_mapFields hdi _)),(Obj.cls_mapFields ..).trans hci,by rw[Obj.data_mapFields hdi];simp[rawInt]⟩ hsb (.inr (.inr ⟨hb,T,pl,rfl,tup_at htp fun o e=>(hsb.2 T (hT T rfl)).trans e,hsz,hpl⟩)) fun T' z=>z)⟩
end
end PySem
namespace PySem
open PyProof.Rows
section
variable {prog:Program} {w:World} {A:Around} {E:Value->Shared->Prop} {s:Shared}
theorem end_sti {it d:Addr} {o:Obj} {f:Value} {ep:Nat} {es:Array (Int×Value)} {t:SetTable} {xs:Array Value} {Q:Option Value->Shared->Prop} (hh:A.handled=none) (hit:s.heap.IsSti it d f es.size es.size ep) (ho:s.heap.get? d=some o) (hd:o.data=.set es ep t)
  (hf:t.fits es.size=true) (htk:TOk (w.params.followText "set-order") t) (hor:Ord (w.params.followText "set-order") w d ep es t xs s.heap f es.size) (hsx:xs.size=es.size)
  (hQ:∀h',Heap.ExtBut it s.heap h'->Q none { s with heap:=h' }):wpAny (model prog w) A (pyNext (.ref it)) Q E s:=by
 obtain⟨oi,hoi,hci,hdi⟩:=id hit
 have hfz:t.place.size=es.size:=by
  simp only[SetTable.fits,Bool.and_eq_true,beq_iff_eq]at hf
  exact hf.1
 unfold pyNext
 refine wpAny_bind (wpAny_attempt (wpAny_callSpecial?_slot (name:=Str.ofString "__next__") hit.typeIs F.slot_sti_next (wpAny_call_entry F.slot_sti_next hit.typeIs F.entry_sti_next ?_ (F.args_sti_next_1 _))))
 unfold Builtin.«set_iterator.__next__»
 refine wpAny_bind (wpAny_of_eq (a:=(Value.ref it,[])) rfl ?_)
 dsimp only
 refine wpAny_bind (wpAny_fieldsOf hoi hdi ?_)
 dsimp only[rawInt]
 refine wpAny_bind (wpAny_setEntries_of ho hd hf ?_)
 rw[if_neg (by simp)]
 rcases id hor with⟨hb,rfl,hxs⟩|⟨hb,hdr,hrs,rfl,hxs⟩|⟨hb,T,pl,rfl,htp,hsz,hpl⟩
 .dsimp only[rawInt]
  unfold setNext
  refine wpAny_bind (wpAny_bind (wpAny_setState_of ho hd hf ?_))
  dsimp only
  unfold setsByText
  refine wpAny_bind (wpAny_bind (wpAny_askSetting (wpAny_pure ?_)))
  show wpAny _ _ (if w.params.followText "set-order"=true then _ else _) _ _ _
  rw[if_pos hb]
  rw[if_neg (by simp)]
  unfold setWalk
  refine wpAny_bind (wpAny_bind (wpAny_setState_of ho hd hf ?_))
  dsimp only
  unfold setsByText
  refine wpAny_bind (wpAny_bind (wpAny_askSetting (wpAny_pure ?_)))
  show wpAny _ _ (if w.params.followText "set-order"=true then _ else _) _ _ _
  rw[if_pos hb]
  refine wpAny_bind (wpAny_askSetting (wpAny_pure ?_))
  have hp:(pickOrder (w.params.setOrder d ep) es)[es.size]?=none:=by
   rw[hxs,Array.size_map]at hsx
   exact Array.getElem?_eq_none_iff.mpr (Nat.le_of_eq hsx)
  show wpAny _ _ (pure (Option.map (fun e=>(e.2,(0:Int).toNat)) (pickOrder (w.params.setOrder d ep) es)[(es.size:Int).toNat]?)) _ _ _
  rw[Int.toNat_natCast,hp]
  refine wpAny_pure ?_
  dsimp only[Option.map]
  refine wpAny_bind (wpAny_setField hoi hdi (by simp) ?_)
  have k:Heap.ExtBut it s.heap (s.heap.update it (Obj.mapFields fun x=>x.setIfInBounds 2 Value.none)):=(Heap.SameBut.update ..).extBut
  refine wpAny_bind ?_
  simp only[newExc,newTuple]
  refine wpAny_bind (wpAny_newObj_type ?_ (by size_fits))
  refine wpAny_bind (m:=firstArgMember _ _) (wpAny_of_eq (a:=Value.none) (by first|rfl|(simp only[firstArgMember];rfl)) ?_)
  refine wpAny_newObj_type ?_ (by size_fits)
  simp only[raiseNew]
  refine wpAny_bind (wpAny_handled ?_)
  first|rw[show A.in1.handled=none from hh]|rw[hh]
  refine wpAny_bind (wpAny_pure (wpAny_throw ?_))
  refine wpAny_bind (wpAny_isInstance (T:="StopIteration") (b:=true) ⟨_,Heap.get?_push_size _ rfl,rfl⟩ isSubtype_stop ?_)
  exact wpAny_pure (hQ _ fun b o hb e=>((Heap.ExtBut.refl _ _).push _ |>.push _) b o hb (k b o hb e))
 .dsimp only[rawInt]
  unfold setNext
  refine wpAny_bind (wpAny_bind (wpAny_setState_of ho hd hf ?_))
  dsimp only
  unfold setsByText
  refine wpAny_bind (wpAny_bind (wpAny_askSetting (wpAny_pure ?_)))
  show wpAny _ _ (if w.params.followText "set-order"=true then _ else _) _ _ _
  rw[if_neg (by rw[hb];exact Bool.false_ne_true)]
  show wpAny _ _ (if(!t.plain&&decide (es.size > 1))=true then _ else _) _ _ _
  rw[if_neg (by rw[hdr];exact Bool.false_ne_true)]
  have hled:t.led=true:=by
   rcases htk with z|z
   .rw[hb]at z;cases z
   .exact z.1
  refine wpAny_bind ?_
  show wpAny _ _ (if(!t.led&&!es.isEmpty)=true then _ else _) _ _ _
  rw[if_neg (by rw[hled];simp)]
  refine wpAny_pure ?_
  rw[show(if es.size=0 then(0:Int)else((t.place.getD (es.size-1) 0+1:Nat):Int))=(if t.place.size=0 then(0:Int)else((t.place.getD (t.place.size-1) 0+1:Nat):Int)) by rw[hfz]]
  rw[place_next hrs (Nat.le_refl _),hfz]
  rw[Array.getElem?_eq_none_iff.mpr (Nat.le_refl es.size)]
  refine wpAny_pure ?_
  dsimp only
  refine wpAny_bind (wpAny_setField hoi hdi (by simp) ?_)
  have k:Heap.ExtBut it s.heap (s.heap.update it (Obj.mapFields fun x=>x.setIfInBounds 2 Value.none)):=(Heap.SameBut.update ..).extBut
  refine wpAny_bind ?_
  simp only[newExc,newTuple]
  refine wpAny_bind (wpAny_newObj_type ?_ (by size_fits))
  refine wpAny_bind (m:=firstArgMember _ _) (wpAny_of_eq (a:=Value.none) (by first|rfl|(simp only[firstArgMember];rfl)) ?_)
  refine wpAny_newObj_type ?_ (by size_fits)
  simp only[raiseNew]
  refine wpAny_bind (wpAny_handled ?_)
  first|rw[show A.in1.handled=none from hh]|rw[hh]
  refine wpAny_bind (wpAny_pure (wpAny_throw ?_))
  refine wpAny_bind (wpAny_isInstance (T:="StopIteration") (b:=true) ⟨_,Heap.get?_push_size _ rfl,rfl⟩ isSubtype_stop ?_)
  exact wpAny_pure (hQ _ fun b o hb e=>((Heap.ExtBut.refl _ _).push _ |>.push _) b o hb (k b o hb e))
 .dsimp only[rawInt]
  obtain⟨oT,hoT,hcT,nT,hdT⟩:=id htp
  refine wpAny_bind ?_
  show wpAny _ _ (load T >>= _) _ _ _
  refine wpAny_bind (wpAny_load hoT ?_)
  rw[hdT]
  refine wpAny_pure ?_
  dsimp only
  have hg:(pl.map fun(j:Nat)=>rawInt j)[(es.size:Int).toNat]?=none:=by rw[Int.toNat_natCast];exact Array.getElem?_eq_none_iff.mpr (by rw[Array.size_map];omega)
  rw[hg]
  dsimp only
  refine wpAny_bind (wpAny_setField hoi hdi (by simp) ?_)
  refine wpAny_bind (wpAny_setField (Heap.get?_update_self _ hoi (Obj.isFreed_of_fields (Obj.data_mapFields hdi _))) (Obj.data_mapFields hdi _) (by simp) ?_)
  have k:Heap.ExtBut it s.heap ((s.heap.update it (Obj.mapFields fun x=>x.setIfInBounds 0 (rawInt 0))).update it (Obj.mapFields fun x=>x.setIfInBounds 2 Value.none)):=fun b o hb e=>
   (Heap.SameBut.update ..).extBut b o hb ((Heap.SameBut.update ..).extBut b o hb e)
  refine wpAny_bind ?_
  simp only[newExc,newTuple]
  refine wpAny_bind (wpAny_newObj_type ?_ (by size_fits))
  refine wpAny_bind (m:=firstArgMember _ _) (wpAny_of_eq (a:=Value.none) (by first|rfl|(simp only[firstArgMember];rfl)) ?_)
  refine wpAny_newObj_type ?_ (by size_fits)
  simp only[raiseNew]
  refine wpAny_bind (wpAny_handled ?_)
  first|rw[show A.in1.handled=none from hh]|rw[hh]
  refine wpAny_bind (wpAny_pure (wpAny_throw ?_))
  refine wpAny_bind (wpAny_isInstance (T:="StopIteration") (b:=true) ⟨_,Heap.get?_push_size _ rfl,rfl⟩ isSubtype_stop ?_)
  exact wpAny_pure (hQ _ fun b o hb e=>((Heap.ExtBut.refl _ _).push _ |>.push _) b o hb (k b o hb e))
theorem draw_perm {α:Type}:∀(n:Nat) (l:List α) (s:Shared) (Q:List α->Shared->Prop),n=l.length->(∀l' d,l'.Perm l->Q l' { s with drawn:=d })->wpAny (model prog w) A (drawOrder n l) Q E s
 |0,l,s,Q,e,h=>by
  have:l=[]:=List.length_eq_zero_iff.mp e.symm
  subst this
  unfold drawOrder
  exact wpAny_pure (h [] s.drawn (List.Perm.refl _))
 |n+1,[],s,Q,e,h=>by simp at e
 |n+1,x :: l,s,Q,e,h=>by
  unfold drawOrder
  have hch:∀(k:Nat->Sem (List α)),(∀i,i<(x :: l).length->∀d,wpAny (model prog w) A (k i) Q E { s with drawn:=d })->wpAny (model prog w) A (choose .order (x :: l).length >>= k) Q E s:=by
   intro k hk Γ p hΓ
   show Sem.wp _ Γ (.choose .order (x :: l).length fun i=>k i) _ _ p s
   rw[Sem.wp_choose]
   exact⟨by simp,hk _ (Nat.mod_lt _ (by simp)) _ Γ p hΓ⟩
  refine hch _ fun i hi d=>?_
  rw[List.getElem?_eq_getElem hi]
  dsimp only
  refine wpAny_bind (draw_perm n _ _ _ (by rw[List.length_eraseIdx_of_lt hi];omega) fun l' d' hp=>wpAny_pure ?_)
  exact h _ d' ((hp.cons _).trans (out_perm _ _ hi))
end
end PySem
namespace PySem
open PyProof.Rows
theorem ord_kept {bt:Bool} {w:World} {d ep:Nat} {es:Array (Int×Value)} {t:SetTable} {xs:Array Value} {h h':Heap} {f:Value} {i:Nat} (x:Ord bt w d ep es t xs h f i) (k:∀T,f=.ref T->∀o,h.get? T=some o->h'.get? T=some o):Ord bt w d ep es t xs h' f i:=by
 rcases x with z|z|⟨z,T,pl,e,ht,r⟩
 .exact .inl z
 .exact .inr (.inl z)
 .exact .inr (.inr ⟨z,T,pl,e,tup_at ht (k T e),r⟩)
section
variable {prog:Program} {w:World}
def StSti (w:World) (I D:Addr) (o:Obj) (TL:List Addr) (es:Array (Int×Value)) (ep:Nat) (t:SetTable) (xs:Array Value) (i:Nat) (s:Shared):Prop:=
 s.heap.get? D=some o/\∃f,s.heap.IsSti I D f i es.size ep/\Ord (w.params.followText "set-order") w D ep es t xs s.heap f i/\∀T,f=.ref T->T∈TL
theorem walks_sti {A:Around} (hh:A.handled=none) {I D:Addr} {o:Obj} {TL:List Addr} {es:Array (Int×Value)} {ep:Nat} {t:SetTable} {xs:Array Value} (hne:D≠I) (hTL:I∉TL) (hd:o.data=.set es ep t) (hf:t.fits es.size=true) (htk:TOk (w.params.followText "set-order") t) (hsx:xs.size=es.size):
  WalksS prog w A I (I :: D :: TL) [I] Eq es.size (fun i v=>xs[i]?=some v) (StSti w I D o TL es ep t xs) where
 sub:=fun b hb=>by simp at hb;simp[hb]
 grefl:=fun _=>rfl
 gtrans:=fun _ _ _=>Eq.trans
 frame:=fun _ _ _ _ x _ hk=>by
  obtain⟨ho,f,hi,hor,hT⟩:=x
  exact⟨hk D (by simp) o ho,f,hi.at fun o e=>hk I (by simp) o e,ord_kept hor fun T e o eo=>hk T (by simp[hT T e]) o eo,hT⟩
 item:=fun i s Q E hi x hQ=>by
  obtain⟨ho,f,hit,hor,hT⟩:=x
  have hx:xs[i]?=some (xs[i]'(by omega)):=Array.getElem?_eq_getElem (by omega)
  refine next_sti hit hne (fun T e z=>hTL (z ▸ hT T e)) ho hd hf htk hor hx fun h' f' hit' hs' hor' hff=>?_
  exact hQ _ _ hx ⟨(hs'.2 D hne).trans ho,f',hit',hor',fun T e=>hT T (hff T e)⟩ ⟨fun b o hb eo=>hs'.extBut b o (fun z=>hb (by simp[z])) eo,rfl,rfl,rfl,Nat.le_refl _⟩
 done:=fun s Q E x hQ=>by
  obtain⟨ho,f,hit,hor,hT⟩:=x
  exact end_sti hh hit ho hd hf htk hor hsx fun h' he'=>hQ _ ⟨fun b o hb eo=>he' b o (fun z=>hb (by simp[z])) eo,rfl,rfl,rfl,Nat.le_refl _⟩
 self:=fun _ _ _ _ x hQ=>by
  obtain⟨ho,f,hit,hor,hT⟩:=x
  exact iter_sti hit hQ
variable {A:Around} {E:Value->Shared->Prop} {s:Shared}
theorem iter_setIt {D:Addr} {o:Obj} {es:Array (Int×Value)} {ep:Nat} {t:SetTable} {Q:Value->Shared->Prop} (ho:s.heap.get? D=some o) (hc:o.ExactSet) (hd:o.data=.set es ep t) (hf:t.fits es.size=true) (htk:TOk (w.params.followText "set-order") t) (hz:es.size<=sizeLine)
  (hQ:∀s' I TL xs,(∀b o,s.heap.get? b=some o->s'.heap.get? b=some o)->s'.gens=s.gens->s'.os=s.os->s.toks<=s'.toks->s.heap.objs.size<=s'.heap.objs.size->(∀b∈I :: TL,s.heap.objs.size<=b/\b<s'.heap.objs.size)->I∉TL->xs.size=es.size->xs.toList.Perm (es.toList.map (·.2))->StSti w I D o TL es ep t xs 0 s'->Q (.ref I) s'):
  wpAny (model prog w) A (pyIter (.ref D)) Q E s:=by
 have hT:s.TypeIs (.ref D) "set":=⟨o,ho,hc.1⟩
 have hlD:D<s.heap.objs.size:=Heap.lt_size ho
 refine wpAny_pyIter_slot hT F.slot_set_iter (wpAny_call_entry F.slot_set_iter hT F.entry_set_iter' ?_ (F.args_set_iter_1 _))
 unfold Builtin.«frozenset.__iter__»
 refine wpAny_bind (wpAny_of_eq (a:=D) rfl ?_)
 dsimp only
 refine wpAny_bind ?_
 unfold Builtin.Frozenset.sizeOf
 refine wpAny_bind (wpAny_setEntries_of ho hd hf (wpAny_pure ?_))
 unfold setDrawn
 refine wpAny_bind (wpAny_bind (wpAny_setState_of ho hd hf ?_))
 dsimp only
 unfold setsByText
 refine wpAny_bind (wpAny_bind (wpAny_askSetting (wpAny_pure (wpAny_pure ?_))))
 have tail:∀(f:Value) (s1:Shared) (TL:List Addr) (xs:Array Value) (Q':Fin->Shared->Prop),s1.heap.get? D=some o->(∀b o,s.heap.get? b=some o->s1.heap.get? b=some o)->s1.gens=s.gens->s1.os=s.os->s1.toks=s.toks->s.heap.objs.size<=s1.heap.objs.size->(∀b∈TL,s.heap.objs.size<=b/\b<s1.heap.objs.size)->
   xs.size=es.size->xs.toList.Perm (es.toList.map (·.2))->Ord (w.params.followText "set-order") w D ep es t xs s1.heap f 0->(∀T,f=.ref T->T∈TL)->
   (∀v s',Q v s'->s'.TypeIs v "set_iterator"->Q' (.done (.ret v)) s')->
   wpAny (model prog w) A.in1 (do ret (<- newFields "set_iterator" [f,rawInt 0,.ref D,rawInt es.size,rawInt (<- setEpoch D)])) Q' E s1:=by
  intro f s1 TL xs Q' h1 h2 h3 h4 h5 h6 h7 h8 h9 h10 h11 h12
  refine wpAny_bind (wpAny_setEpoch_of h1 hd hf ?_)
  unfold newFields
  refine wpAny_bind (wpAny_newObj_type ?_ (by size_fits))
  refine wpAny_pure (h12 _ _ ?_ ⟨_,Heap.get?_push_size _ rfl,rfl⟩)
  refine hQ _ s1.heap.objs.size TL xs (fun b o e=>Heap.get?_push_of_some _ (h2 b o e)) h3 h4 (Nat.le_of_eq h5.symm) (by show _<=(s1.heap.push _).objs.size;rw[Heap.size_push];exact Nat.le_succ_of_le h6) (fun b hb=>?_) (fun z=>Nat.lt_irrefl _ (h7 _ z).2) h8 h9 ⟨Heap.get?_push_of_some _ h1,f,⟨_,Heap.get?_push_size _ rfl,rfl,rfl⟩,ord_kept h10 fun T e o eo=>Heap.get?_push_of_some _ eo,h11⟩
  show _/\b<(s1.heap.push _).objs.size
  rw[Heap.size_push]
  rcases List.mem_cons.mp hb with rfl|hb
  .exact⟨h6,Nat.lt_succ_self _⟩
  .exact⟨(h7 b hb).1,Nat.lt_succ_of_lt (h7 b hb).2⟩
 show wpAny _ _ (if(!(w.params.followText "set-order")&&(!t.plain&&decide (es.size > 1)))=true then _ else _) _ _ _
 cases hb:w.params.followText "set-order" with
 |true=>
  rw[if_neg (by simp)]
  refine wpAny_bind (wpAny_pure ?_)
  refine tail (rawInt 0) s [] ((pickOrder (w.params.setOrder D ep) es).map (·.2)) _ ho (fun _ _ e=>e) rfl rfl rfl (Nat.le_refl _) (fun b z=>nomatch z) ?_ ?_ ?_ (fun T z=>nomatch z) fun v s' q ty=>⟨_,rfl,"set_iterator",_,ty,F.slot_sti_next.lookup,q⟩
  .rw[Array.size_map,<- Array.length_toList,(pick_perm _ _).length_eq,Array.length_toList]
  .rw[Array.toList_map]
   exact(pick_perm _ _).map _
  .rw[hb]
   exact .inl ⟨rfl,rfl,rfl⟩
 |false=>
  cases hdr:(!t.plain&&decide (es.size > 1))with
  |false=>
   rw[if_neg (by simp)]
   refine wpAny_bind (wpAny_pure ?_)
   refine tail (rawInt 0) s [] (es.map (·.2)) _ ho (fun _ _ e=>e) rfl rfl rfl (Nat.le_refl _) (fun b z=>nomatch z) ?_ ?_ ?_ (fun T z=>nomatch z) fun v s' q ty=>⟨_,rfl,"set_iterator",_,ty,F.slot_sti_next.lookup,q⟩
   .rw[Array.size_map]
   .rw[Array.toList_map]
   .rw[hb]
    refine .inr (.inl ⟨rfl,hdr,?_,rfl,rfl⟩)
    rcases htk with z|z
    .rw[hb]at z;cases z
    .exact z.2
  |true=>
   rw[if_pos (by simp)]
   refine wpAny_bind (draw_perm _ _ _ _ (by simp) fun l' d hp=>?_)
   unfold newTuple
   refine wpAny_bind ?_
   refine wpAny_newObj_type ?_ (by show(List.map _ l').toArray.size<=_;rw[List.size_toArray,List.length_map,hp.length_eq,List.length_range];exact hz)
   have hin:∀p∈l',p<es.size:=fun p z=>List.mem_range.mp (hp.mem_iff.mp z)
   have hln:l'.length=es.size:=by rw[hp.length_eq,List.length_range]
   let xs:List Value:=l'.map fun p=>(es.getD p (0,.none)).2
   refine tail (.ref s.heap.objs.size) _ [s.heap.objs.size] xs.toArray _ (Heap.get?_push_of_some _ ho) (fun _ _ e=>Heap.get?_push_of_some _ e) rfl rfl rfl ?_ (fun b z=>?_) ?_ ?_ ?_ (fun T z=>by injection z with z;simp[z]) fun v s' q ty=>⟨_,rfl,"set_iterator",_,ty,F.slot_sti_next.lookup,q⟩
   .show _<=(s.heap.push _).objs.size
    rw[Heap.size_push]
    exact Nat.le_succ _
   .rw[List.mem_singleton]at z
    subst z
    show _/\_<(s.heap.push _).objs.size
    rw[Heap.size_push]
    exact⟨Nat.le_refl _,Nat.lt_succ_self _⟩
   .rw[List.size_toArray,List.length_map,hln]
   .show(l'.map fun p=>(es.getD p (0,.none)).2).Perm _
    refine(hp.map _).trans (List.Perm.of_eq ?_)
    apply List.ext_getElem?
    intro j
    rw[List.getElem?_map,List.getElem?_map]
    by_cases hj:j<es.size
    .rw[List.getElem?_range hj,List.getElem?_eq_getElem (show j<es.toList.length by rw[Array.length_toList];exact hj)]
     simp[Array.getD,hj]
    .rw[List.getElem?_eq_none (by simpa using hj),List.getElem?_eq_none (by rw[Array.length_toList];omega)]
     rfl
   .rw[hb]
    refine .inr (.inr ⟨rfl,s.heap.objs.size,l'.toArray,rfl,⟨_,Heap.get?_push_size _ rfl,rfl,0,?_⟩,?_,fun j p e=>?_⟩)
    .show Data.seq _ _=_
     congr 1
     simp
    .rw[List.size_toArray,List.size_toArray,List.length_map]
    .rw[List.getElem?_toArray]at e
     have hp':=hin p (List.mem_of_getElem? e)
     refine⟨_,Array.getElem?_eq_getElem hp',?_⟩
     rw[List.getElem?_toArray]
     show(List.map _ l')[j]?=_
     rw[List.getElem?_map,e]
     simp[Array.getD,hp']
theorem collect_setIt {D:Addr} {o:Obj} {es:Array (Int×Value)} {ep:Nat} {t:SetTable} {Q:List Value->Shared->Prop} (hh:A.handled=none) (ho:s.heap.get? D=some o) (hc:o.ExactSet) (hd:o.data=.set es ep t) (hf:t.fits es.size=true) (htk:TOk (w.params.followText "set-order") t) (hz:es.size<=sizeLine)
  (hQ:∀s' xs,(∀b o,s.heap.get? b=some o->s'.heap.get? b=some o)->s'.gens=s.gens->s'.os=s.os->s.toks<=s'.toks->s.heap.objs.size<=s'.heap.objs.size->xs.Perm (es.toList.map (·.2))->Q xs s'):wpAny (model prog w) A (collect (.ref D)) Q E s:=by
 have hlD:D<s.heap.objs.size:=Heap.lt_size ho
 have hSD:s.heap.objs.size≠D:=Nat.ne_of_gt hlD
 unfold collect
 refine wpAny_bind (wpAny_runValue (codeAny_builtin F.entry_proto_collect ?_))
 rw[Around.under_plainId F.plain_proto_collect _]
 show wpAny _ A.in1 (newList [] >>= fun l=>again (.builtin "list.__iadd__" ⟨[l,.ref D],[]⟩)) _ _ s
 refine wpAny_bind (wpAny_newObj_type ?_)
 refine wpAny_pure ⟨plainId_quiet F.plain_list_iadd _,codeAny_builtin F.entry_list_iadd ?_⟩
 rw[Around.under_plainId F.plain_list_iadd _]
 generalize hlo:({ cls:=.type "list",data:=.seq ([]:List Value).toArray }:Obj)=lo
 have hT1:Shared.TypeIs { s with heap:=s.heap.push lo } (.ref D) "set":=⟨o,Heap.get?_push_of_some _ ho,hc.1⟩
 have hS1:(s.heap.push lo).get? s.heap.objs.size=some lo:=Heap.get?_push_size _ (by rw[<- hlo];rfl)
 have h1:Builtin.List.listSameRef (.ref s.heap.objs.size) (.ref D)=false:=by simp[Builtin.List.listSameRef,hSD]
 show wpAny _ A.in1 (Builtin.List.listExtendWith (.ref s.heap.objs.size) (.ref D) (.ref s.heap.objs.size)) _ _ _
 unfold Builtin.List.listExtendWith
 refine wpAny_bind (wpAny_typeOf hT1 ?_)
 rw[if_neg (by rw[h1];decide)]
 refine wpAny_bind (iter_setIt (s:={ s with heap:=s.heap.push lo }) (Heap.get?_push_of_some _ ho) hc hd hf htk hz fun s1 I TL xs k1 k2 k3 k4 k5 k6 k7 k8 k9 k10=>?_)
 have hT2:s1.TypeIs (.ref D) "set":=⟨o,k1 D o (Heap.get?_push_of_some _ ho),hc.1⟩
 refine wpAny_bind (wpAny_holding ?_)
 unfold Builtin.List.listLengthHint
 refine wpAny_bind (wpAny_specialOf hT2 F.slot_set_len.lookup ?_)
 dsimp only
 (generalize hid:("set.__len__":String)=id0;(fail_if_success (clear hid id0));rw[show splitId id0=some ("set","__len__") from by subst hid;decide +kernel];subst hid)
 dsimp only
 refine wpAny_bind (wpAny_isInstance (b:=true) hT2 (by rw[isSubtype_type];kernel_rfl) ?_)
 rw[if_neg (by decide),if_pos (by decide +kernel)]
 refine wpAny_bind (wpAny_typeOf hT2 (wpAny_pure ?_))
 rw[if_pos (by decide)]
 refine wpAny_bind (wpAny_rule ?_)
 refine wpAny_bind ?_
 have hSs:s1.heap.get? s.heap.objs.size=some lo:=k1 _ _ hS1
 have hsq:lo.data=.seq #[] 0:=by rw[<- hlo]
 have hsz1:(s.heap.push lo).objs.size=s.heap.objs.size+1:=Heap.size_push ..
 show wpAny _ A.in1 (updateSeq s.heap.objs.size (·.push .none) >>= fun _=>updateSeq s.heap.objs.size (·.pop)) _ _ _
 refine wpAny_bind (wpAny_updateSeq hSs hsq ?_)
 have hS2:=Heap.get?_update_self (Obj.mapSeq (·.push Value.none)) hSs (by rw[<- hlo];rfl)
 refine wpAny_updateSeq hS2 (by rw[<- hlo];rfl) ?_
 have hS3:=Heap.get?_update_self (Obj.mapSeq (·.pop)) hS2 (by rw[<- hlo];rfl)
 have oth:∀b o,b≠s.heap.objs.size->s1.heap.get? b=some o->((s1.heap.update s.heap.objs.size (Obj.mapSeq (·.push Value.none))).update s.heap.objs.size (Obj.mapSeq (·.pop))).get? b=some o:=
  fun b o hb e=>(Heap.get?_update_other _ _ (Ne.symm hb)).trans ((Heap.get?_update_other _ _ (Ne.symm hb)).trans e)
 have k6':∀b∈I :: TL,s.heap.objs.size<b:=fun b hb=>by
  have:=(k6 b hb).1
  rw[show(Shared.heap { s with heap:=s.heap.push lo }).objs.size=s.heap.objs.size+1 from hsz1]at this
  exact this
 have hID:D≠I:=fun e=>Nat.lt_irrefl _ (Nat.lt_trans hlD (e ▸ k6' I (by simp)))
 have hfp:s.heap.objs.size∉I :: D :: TL:=fun hm=>by
  have big:∀b∈I :: TL,s.heap.objs.size≠b:=fun b hb e=>Nat.lt_irrefl _ (e ▸ k6' b hb)
  simp only[List.mem_cons]at hm
  rcases hm with e|e|e
  .exact big I (by simp) e
  .exact hSD e
  .exact big _ (List.mem_cons_of_mem _ e) rfl
 have W:WalksS prog w A.in1 I (I :: D :: TL) [I] Eq es.size (fun i v=>xs[i]?=some v) (StSti w I D o TL es ep t xs):=walks_sti (A:=A.in1) hh hID k7 hd hf htk k8
 have k11:=W.frame 0 s1 _ s1.toks k10 (Nat.le_refl _) fun b hb o e=>oth b o (fun z=>hfp (z ▸ hb)) e
 refine wpAny_pure ⟨plainId_quiet F.plain_extend_loop _,codeAny_extend_loopS W hz _ hfp _ es.size 0 _ _ _ rfl (Nat.zero_le _) k11 (by rw[hS3,<- hlo];rfl) (ItemsOf.nil _) fun s' acc' c' hm hS' hacc=>?_⟩
 show wpAny _ A (load s.heap.objs.size >>= _) _ _ s'
 refine wpAny_bind (wpAny_load hS' (wpAny_pure ?_))
 have eacc:acc'.toList=xs.toList:=by
  obtain⟨hl,hp⟩:=hacc
  apply List.ext_getElem?
  intro j
  by_cases hj:j<es.size
  .have h2:acc'[j]?=some (acc'[j]'(by omega)):=Array.getElem?_eq_getElem (by omega)
   rw[Array.getElem?_toList,Array.getElem?_toList,h2,<- hp j _ h2]
  .rw[List.getElem?_eq_none (by rw[Array.length_toList];omega),List.getElem?_eq_none (by rw[Array.length_toList];omega)]
 have hlt:s.heap.objs.size<s'.heap.objs.size:=Heap.lt_size hS'
 refine hQ s' _ (fun b o e=>?_) ?_ ?_ ?_ (Nat.le_of_lt hlt) (by rw[eacc];exact k9)
 .have hb:b≠s.heap.objs.size:=Nat.ne_of_lt (Heap.lt_size e)
  refine hm.heap b o ?_ (oth b o hb (k1 b o (Heap.get?_push_of_some _ e)))
  simp only[List.mem_cons,List.not_mem_nil,or_false,not_or]
  refine⟨hb,fun z=>?_⟩
  exact Nat.lt_irrefl _ (Nat.lt_trans (Heap.lt_size e) (z ▸ k6' I (by simp)))
 .have:=hm.gens;exact this.symm.trans k2
 .exact hm.os.trans k3
 .exact Nat.le_trans k4 hm.toks
end
end PySem
namespace L2
open PySem PySem.Spec PyProof.Rows
noncomputable def tCompG {α:Type} (own:List Nat) (wi:TI) (g:TG) (tc:TT) (rest:TL α) (a0:α) (ho:Addr->α->HO) (ok:α->Hp->Prop):TE:=fun σ H Q=>wi σ H fun J H1=>tClause own g tc rest J σ a0 H1 fun xs H2=>ok xs H2/\∀p,H2 p=none->Q (.ref p) (upd H2 p (ho p xs))
structure CompInG {α:Type} (Is:α->Obj->Prop) (X:Cx) (e:Expr) (scope:Scope) (tg:Expr) (iter:Expr) (ifs:List Expr) (nx:Addr->Env->Sem Unit) (g:TG) (tc:TT) (rest:TL α) (own:List Nat):Prop where
 sc:CompSc X scope
 ow:∀i x,X.N[i]?=some x->(scope.names.lookup x=some .local\/scope.names.lookup x=some .cell)->i∈own
 cl:∃gs,clausesOf e=⟨tg,iter,ifs,0⟩ :: gs
 fs:∀x,foldedSetIterable iter X.env x=pure x
 calm:X.calm=true
 q:∀it D env,(Code.compLoop e 0 it (.ref D) env).quiet=true/\(Code.compStart e 0 it (.ref D) env).quiet=true
 u:∀A it D env,Around.under A (Code.compLoop e 0 it (.ref D) env)=A/\Around.under A (Code.compStart e 0 it (.ref D) env)=A
 T:∀P w it D env,(model P w).den (.compLoop e 0 it (.ref D) env)=(turnCode e 0 tg iter ifs (nx D env) it (.ref D) env).onRaise (fun x=>do noteFrame x env;theTreesLotGoes x)
 S:∀P w it D env,(model P w).den (.compStart e 0 it (.ref D) env)=(compStart e 0 it (.ref D) env).onRaise (fun x=>do noteFrame x env;standAt theWindowsPlace)
 ge:GExt own g
 inn:∀s0 H0 ex D,PG (X.comp scope s0 H0 ex) tg g/\PTs (X.comp scope s0 H0 ex) ifs tc/\∃ws',(∀j∈ws',j∈own)/\CompRun (X.comp scope s0 H0 ex) D Is ws' (nx D (X.comp scope s0 H0 ex).env) rest
section
variable {X:Cx} {e:Expr} {scope:Scope} {tg iter:Expr} {ifs:List Expr} {nx:Addr->Env->Sem Unit} {g:TG} {tc:TT} {α:Type} {Is:α->Obj->Prop} {rest:TL α} {own:List Nat} {wi:TI} {a0:α} {o0:Bool->Obj} {newAcc:Sem Value} {ho:Addr->α->HO} {ok:α->Hp->Prop}
theorem comp_allG (hnew:∀(s:Shared) (Q:Value->Shared->Prop),(∀led,Q (.ref s.heap.objs.size) { s with heap:=s.heap.push (o0 led) })->wpAny (model X.prog X.w) X.A newAcc Q X.xe s) (hfr:∀led,(o0 led).isFreed=false) (ha0:∀led,Is a0 (o0 led)) (hda:∀(a:α) (o:Obj),Is a o->∀v:Option Value,o.data≠.cell v) (C:CompInG Is X e scope tg iter ifs nx g tc rest own) (hi:PI X tg iter wi) {pins:List (Addr×Obj)} {s:Shared} {σ:St} {H:Hp} {R:V->Hp->Prop} (I:Inv X pins σ H s) (hw:tCompG own wi g tc rest a0 ho ok σ H R)
  {use:Option (Value->Sem Unit)} {Q:Value->Shared->Prop} {pos:Pos}
  (fin:∀(s3 s':Shared) (H0 H':Hp) (ex:List Addr) (D:Addr) (xs:α) (o:Obj) (σ':St),Inv X pins σ H0 s3->(∀b∈ex,FpOk X pins H0 b)->Inv (X.comp scope s3 H0 ex) [] σ' H' s'->s'.heap.get? D=some o->D<s3.heap.objs.size->X.s₀.heap.objs.size<=D->FpOk X pins H0 D->(D == sysModules)=false->Is xs o->H' D=none->ok xs H'->R (.ref D) (upd H' D (ho D xs))->
   compPost (model X.prog X.w) X.A X.xe use Q (.ref D) s3.heap.objs.size (.ok .next) s'):
  wpAny (model X.prog X.w) X.A (comprehension e scope X.env pos newAcc false (eval iter X.env) use) Q X.xe s:=by
 obtain⟨gs,hcl⟩:=C.cl
 refine wpAny_comprehension_free hcl C.fs (closFor fun n hn=>I.ok.has n (C.sc.free n hn)) C.sc.kind C.sc.names ?_
 refine thn (hi pins s σ H _ I hw) fun v s1 h1=>thn h1 fun itv s2 h2=>?_
 obtain⟨it,fp,tn,J,H2,rfl,I2,T,st2,f2,hc⟩:=h2
 refine hnew _ _ fun led=>wpAny_compEnv ?_
 have keep:∀b o,s2.heap.get? b=some o->(s2.heap.push (o0 led)).get? b=some o:=fun b o e=>Heap.get?_push_of_some _ e
 have I3:Inv X pins σ H2 { s2 with heap:=s2.heap.push (o0 led) }:=I2.kept (t':=s2.toks) keep
 have hsz:(s2.heap.push (o0 led)).objs.size=s2.heap.objs.size+1:=Heap.size_push ..
 have fD:FpOk X pins H2 s2.heap.objs.size:=I2.fpOk (Nat.le_refl _) (I2.hok.fresh (Nat.le_refl _))
 have hlt:∀b∈fp,b<s2.heap.objs.size:=fun b hb=>by
  obtain⟨o,e,_⟩:=T.obj _ _ st2 b hb
  exact Heap.lt_size e
 have hDf:s2.heap.objs.size∉fp:=fun z=>Nat.lt_irrefl _ (hlt _ z)
 have hex:∀b∈s2.heap.objs.size :: fp,FpOk X pins H2 b:=fun b hb=>by
  rcases List.mem_cons.mp hb with rfl|hb
  .exact fD
  .exact f2 b hb
 generalize hs3:({ s2 with heap:=s2.heap.push (o0 led) }:Shared)=s3 at *
 have hs3s:s3.heap.objs.size=s2.heap.objs.size+1:=by rw[<- hs3];exact hsz
 have hlt3:∀b∈s2.heap.objs.size :: fp,b<s3.heap.objs.size:=fun b hb=>by
  rw[hs3s]
  rcases List.mem_cons.mp hb with rfl|hb
  .exact Nat.lt_succ_self _
  .exact Nat.lt_succ_of_lt (hlt b hb)
 have J0:=comp_start (own:=own) I3 hex hlt3 C.sc C.ow
 obtain⟨c1,c2,ws',c4,c5⟩:=C.inn s3 H2 (s2.heap.objs.size :: fp) s2.heap.objs.size
 have kp:∀b o,s2.heap.get? b=some o->(compHeap s3.heap scope.names).get? b=some o:=fun b o e=>pushCells_keeps _ _ b o (Heap.get?_push_of_some _ (by rw[<- hs3];exact keep b o e))
 have oD:(compHeap s3.heap scope.names).get? s2.heap.objs.size=some (o0 led):=pushCells_keeps _ _ _ _ (Heap.get?_push_of_some _ (by rw[<- hs3];exact Heap.get?_push_size _ (hfr led)))
 have stat:∀b∈s2.heap.objs.size :: fp,FpOk (X.comp scope s3 H2 (s2.heap.objs.size :: fp)) [] H2 b:=fun b hb=>
  ⟨(hex b hb).1,(J0.ok.exf b hb).1,J0.ok.exfs b hb,.inl hb,(J0.ok.exf b hb).2,fun p hp=>absurd (show p∈([]:List (Addr×Obj)) from hp) (by simp)⟩
 have T':Turn (X.comp scope s3 H2 (s2.heap.objs.size :: fp)).prog (X.comp scope s3 H2 (s2.heap.objs.size :: fp)).w (X.comp scope s3 H2 (s2.heap.objs.size :: fp)).K tg J fp it tn:=T
 have hc':tClause own g tc rest J (clr own σ) a0 H2 (fun xs H2=>ok xs H2/\∀p,H2 p=none->R (.ref p) (upd H2 p (ho p xs))):=by
  obtain⟨W,w0,turn⟩:=hc
  refine⟨W,w0,?_⟩
  rw[clr_idem]
  exact turn
 have st3:tn 0 ({ s3 with heap:=compHeap s3.heap scope.names }:Shared).heap:=T.keep _ _ _ st2 fun b hb o e=>kp b o e
 have L:=comp_loop (X:=X.comp scope s3 H2 (s2.heap.objs.size :: fp)) (Is:=Is) (D:=s2.heap.objs.size) rfl C.calm (C.q _ _ _).1 (C.u _ _ _ _).1 (C.T _ _ _ _ _) T' c1 C.ge c2 c5 c4 hda hDf J0
  (fun b hb=>stat b (List.mem_cons_of_mem _ hb)) (stat _ List.mem_cons_self) oD (ha0 led) st3 hc'
 have L2:=start_ok (C.q _ _ _).2 (C.u _ _ _ _).2 (fun it'=>(C.q it' _ _).1) (C.S _ _ _ _ _) ⟨_,by rw[hcl];rfl,rfl⟩ L (fun E=>T.self _ 0 _ _ E st3 ⟨rfl,rfl⟩)
 refine codeAny_mono L2 fun r s' h=>?_
 obtain⟨rfl,xs,o',H',J',e',is',n',hN⟩:=h
 exact fin s3 s' H2 H' _ _ xs o' _ I3 hex J' e' (hlt3 _ List.mem_cons_self) I2.sz fD (beq_eq_false_iff_ne.mpr (Nat.ne_of_gt I2.big)) is' n' hN.1 (hN.2 _ n')
end
section
variable {X:Cx} {e:Expr} {scope:Scope} {tg iter:Expr} {ifs:List Expr} {nx:Addr->Env->Sem Unit} {g:TG} {tc:TT} {α:Type} {Is:α->Obj->Prop} {rest:TL α} {own:List Nat} {wi:TI} {a0:α} {o0:Bool->Obj} {newAcc:Sem Value} {ho:Addr->α->HO} {ok:α->Hp->Prop}
theorem pe_compG (hnew:∀(s:Shared) (Q:Value->Shared->Prop),(∀led,Q (.ref s.heap.objs.size) { s with heap:=s.heap.push (o0 led) })->wpAny (model X.prog X.w) X.A newAcc Q X.xe s) (hfr:∀led,(o0 led).isFreed=false) (ha0:∀led,Is a0 (o0 led)) (hda:∀(a:α) (o:Obj),Is a o->∀v:Option Value,o.data≠.cell v)
  (hfin:∀(a:α) (o:Obj) (D:Addr) (H:Hp) (h:Heap),Is a o->h.get? D=some o->(D == sysModules)=false->H D=none->ok a H->HOk X.prog X.w H h->ObjOk X.prog X.w (upd H D (ho D a)) h D (ho D a)) (C:CompInG Is X e scope tg iter ifs nx g tc rest own) (hi:PI X tg iter wi) {pos:Pos} (he:eval e X.env=comprehension e scope X.env pos newAcc false (eval iter X.env)):PE X e (tCompG own wi g tc rest a0 ho ok):=by
 intro pins s σ H Q I hw
 rw[he]
 refine comp_allG hnew hfr ha0 hda C hi I hw fun s3 s' H0 H' ex D xs o σ' I3 hex J e' hlt h0 fD sy is' n' hok' hR=>?_
 obtain⟨m,hn,_⟩:=J.loc
 refine⟨m,hn,fun h' hs=>?_⟩
 have J2:=comp_end I3 hex J hs
 have neC:D≠s3.heap.objs.size:=Nat.ne_of_lt hlt
 refine⟨.ref D,upd H' D (ho D xs),J2.track (o:=ho D xs) ⟨n',fD.2⟩ h0 (hfin xs o D H' _ is' ((hs.2 D neC).trans e') sy n' hok' J2.hok),rfl,hR⟩
theorem ps_setcompG (hnew:∀(s:Shared) (Q:Value->Shared->Prop),(∀led,Q (.ref s.heap.objs.size) { s with heap:=s.heap.push (o0 led) })->wpAny (model X.prog X.w) X.A newAcc Q X.xe s) (hfr:∀led,(o0 led).isFreed=false) (ha0:∀led,Is a0 (o0 led)) (hda:∀(a:α) (o:Obj),Is a o->∀v:Option Value,o.data≠.cell v)
  (hfin:∀(a:α) (o:Obj) (D:Addr) (H:Hp) (h:Heap),Is a o->h.get? D=some o->(D == sysModules)=false->H D=none->ok a H->HOk X.prog X.w H h->ObjOk X.prog X.w (upd H D (ho D a)) h D (ho D a)) (C:CompInG Is X e scope tg iter ifs nx g tc rest own) (hi:PI X tg iter wi) {i:Nat} {y:Str} {py pos pos2:Pos} (hN:X.N.Nodup) (hy:X.N[i]?=some y) (hx:Loc X.env.scope y) (hf:X.fn y=true\/X.env.scope.names.lookup y=some .local)
  (he:evalThenUse e X.env (assign (.Name y py) X.env)=(do let _ <- comprehension e scope X.env pos2 newAcc false (eval iter X.env) (some (assign (.Name y py) X.env))))
  (hsw:swapsWith e (some (.Name y py)) pos.line X.env=pure true):PS X (.Assign [.Name y py] e pos) (tAsg (tCompG own wi g tc rest a0 ho ok) (gName i)):=by
 intro pins s σ H D I hw
 rw[exec_Assign_Name_used _ _ _ _ hsw]
 refine wpAny_bind (wpAny_standAt (wpAny_bind ?_))
 rw[he]
 refine wpAny_bind (thn (Q:=fun _ s'=>SP X pins D .next s') (comp_allG hnew hfr ha0 hda C hi I hw fun s3 s' H0 H' ex D' xs o σ' I3 hex J e' hlt h0 fD sy is' n' hok' hR=>?_) fun _ s' q=>wpAny_pure (wpAny_pure q))
 obtain⟨m,hn,_⟩:=J.loc
 have J2:Inv X pins σ H' s':=comp_end I3 hex J (Heap.SameBut.refl ..)
 have neC:D'≠s3.heap.objs.size:=Nat.ne_of_lt hlt
 have J3:Inv X pins σ (upd H' D' (ho D' xs)) s':=J2.track ⟨n',fD.2⟩ h0 (hfin xs o D' H' _ is' e' sy n' hok' J2.hok)
 have fC:FpOk X pins H0 s3.heap.objs.size:=I3.fpOk (Nat.le_refl _) (I3.hok.fresh (Nat.le_refl _))
 refine wpAny_assign_Name (store_ok2 J3 hN hy hx (v:=.ref D') rfl (fun s'' J4 hs=>?_) hf)
 obtain⟨a,hsa,ha⟩:=hs
 have haC:s3.heap.objs.size≠a:=by
  rcases ha with rfl|ha
  .exact fC.2.1
  .exact fun q=>fC.2.2.2.2.1 _ _ ha q.symm
 have hn':s'.heap.Ns s3.heap.objs.size m:=hn
 refine⟨m,hn'.sameBut hsa haC,fun h' hs'=>?_⟩
 have J5:Inv X pins (σ.set i (some (.ref D'))) (upd H' D' (ho D' xs)) { s'' with heap:=h' }:=J4.turned (it:=s3.heap.objs.size) (t':=s''.toks) (fun b ob hb q=>(hs'.2 b hb).trans q) (by rw[upd_ne (Ne.symm neC)];exact J.free) fC.2.1 fC.2.2.2.1 fC.2.2.2.2.1 fC.2.2.2.2.2
 exact⟨_,_,J5,hR⟩
end
noncomputable def kO:Option Int->V
 |some i=>.int i
 |none=>.non
theorem kO_is {P:Program} {w:World} {k:Option Int} {u:Value} (r:RelV (kO k) u):(oKind P w).is k u=true/\u.scannable=true:=by
 cases k with
 |none=>cases r;exact⟨rfl,rfl⟩
 |some i=>
  obtain⟨t,rfl⟩:=r
  exact⟨by show Value.isInt i (.int i t)=true;simp[Value.isInt],rfl⟩
def IsS (a:(Option Int->Bool)×Nat) (o:Obj):Prop:=a.2<=4000/\(∃es ep t,o.data=.set es ep t)/\∃m,m<=a.2/\∀(P:Program) (w:World),o.SetObjOf (oKind P w) a.1 m
theorem isS_of {P:Program} {w:World} {S:Option Int->Bool} {n m:Nat} {o:Obj} (h:o.SetObjOf (oKind P w) S m) (hm:m<=n) (hn:n<=4000):IsS (S,n) o:=⟨hn,⟨_,_,_,h.2.choose_spec.choose_spec.choose_spec.1⟩,m,hm,fun P' w'=>h.transport (knd':=oKind P' w') rfl rfl⟩
theorem isS_data (a:(Option Int->Bool)×Nat) (o:Obj) (h:IsS a o) (v:Option Value):o.data≠.cell v:=by
 obtain⟨_,⟨es,ep,t,hd⟩,_⟩:=h
 rw[hd]
 exact fun z=>nomatch z
noncomputable def SetO (D:Addr) (S:Option Int->Bool) (n:Nat):HO:=.ext fun h=>∃o,h.get? D=some o/\IsS (S,n) o
theorem setO_ok {P:Program} {w:World} {H:Hp} {h:Heap} {D:Addr} {S:Option Int->Bool} {n:Nat} {o:Obj} (e:h.get? D=some o) (i:IsS (S,n) o):ObjOk P w H h D (SetO D S n):=
 ⟨⟨o,e,i⟩,⟨o,e⟩,fun h1 h2 ⟨o',e',i'⟩ k=>⟨o',k o' e',i'⟩⟩
section
variable {X:Cx}
theorem isS_at {s:Shared} {D:Addr} {a:(Option Int->Bool)×Nat} {o:Obj} (e:s.heap.get? D=some o) (i:IsS a o):∃m,m<=a.2/\s.heap.SetOf (oKind X.prog X.w) D a.1 m:=by
 obtain⟨hn,_,m,hm,h⟩:=i
 exact⟨m,hm,(h X.prog X.w).setOf e (Nat.lt_of_le_of_lt (Nat.le_trans hm hn) (by decide))⟩
noncomputable def rInO (neg:Bool):R2:=fun x y H Q=>∃k D S n,x=kO k/\y=.ref D/\H D=some (SetO D S n)/\Q (.bl (if neg then !(S k)else S k)) H
theorem op_inO:OpR X (compareOp .In) (rInO false):=by
 intro pins s σ H x y v u Q I rx ry h
 obtain⟨k,D,S,n,rfl,rfl,hD,q⟩:=h
 cases ry
 obtain⟨o,e,i⟩:=(show ObjOk X.prog X.w H s.heap D (SetO D S n) from I.hok D _ hD).1
 obtain⟨m,_,hS⟩:=isS_at (X:=X) e i
 exact wpAny_inSet_of (kO_is rx).1 (kO_is (P:=X.prog) (w:=X.w) rx).2 hS ⟨.bl (S k),H,I.tok _,rfl,q⟩
theorem op_notInO:OpR X (compareOp .NotIn) (rInO true):=by
 intro pins s σ H x y v u Q I rx ry h
 obtain⟨k,D,S,n,rfl,rfl,hD,q⟩:=h
 cases ry
 obtain⟨o,e,i⟩:=(show ObjOk X.prog X.w H s.heap D (SetO D S n) from I.hok D _ hD).1
 obtain⟨m,_,hS⟩:=isS_at (X:=X) e i
 exact wpAny_notInSet_of (kO_is rx).1 (kO_is (P:=X.prog) (w:=X.w) rx).2 hS ⟨.bl (!S k),H,I.tok _,rfl,q⟩
noncomputable def inL (ns:List Int):Option Int->Bool
 |some i=>ns.contains i
 |none=>false
noncomputable def rSetOf (K:W.Frag):List V->Hp->VK->Prop:=fun xs H Q=>∃a ns,xs=[.ref a]/\SqL K H a (ns.map V.int)/\ns.length<=3999/\∀p,H p=none->Q (.ref p) (upd H p (SetO p (inL ns) ns.length))
theorem call_setL (hc:X.calm=true):CallR X (.type "set") (rSetOf X.K):=by
 intro pins s σ H xs us Q I rv h
 obtain⟨a,ns,rfl,hs,hl,q⟩:=h
 cases rv with
 |cons r1 rv=>
  cases rv
  cases r1
  obtain⟨its,r,pl,hz⟩:=I.list hs
  have hlen:=r.length
  rw[List.length_map]at hlen
  refine call_set_list (I.ok.hd hc) pl.isList (intsAre_of r) (by rw[List.size_toArray,<- hlen];exact Nat.lt_of_le_of_lt (Nat.succ_le_succ hl) (by decide)) fun h' tk hS hk=>?_
  have hn:H s.heap.objs.size=none:=I.hok.fresh (Nat.le_refl _)
  obtain⟨o,ho,hso⟩:=hS.objOf
  have fl:=firstMet_length_le (fun i=>ns.getD i 0) its.toArray.size
  have key:o.SetObjOf (oKind X.prog X.w) (inL ns) (firstMet (fun i=>ns.getD i 0) its.toArray.size).length:=by
   obtain⟨hex,es,ep,t,hd,hel,hmem,hsz,hf⟩:=hso
   refine⟨hex,es,ep,t,hd,fun e he=>?_,fun k=>?_,hsz,hf⟩
   .obtain⟨⟨j,hj,hh⟩,hsc⟩:=hel e he
    exact⟨⟨some j,hj,hh⟩,hsc⟩
   .cases k with
    |none=>
     constructor
     .intro z;cases z
     .rintro⟨e,he,hi⟩
      obtain⟨⟨j,hj,hh⟩,hsc⟩:=hel e he
      obtain⟨t',et⟩:=Value.isInt_shape hj
      rw[et]at hi
      cases hi
    |some i=>
     have:=hmem i
     dsimp only at this
     rw[firstMet_any]at this
     refine Iff.trans ?_ this
     show ns.contains i=true↔_
     have en:(List.range its.toArray.size).map (fun i=>ns.getD i 0)=ns:=by
      rw[List.size_toArray,<- hlen]
      apply List.ext_getElem?
      intro j
      rw[List.getElem?_map]
      by_cases hj:j<ns.length
      .rw[List.getElem?_range hj]
       simp[List.getD,hj]
      .rw[List.getElem?_eq_none_iff.mpr (by simpa using hj),List.getElem?_eq_none_iff.mpr (by omega)]
       rfl
     rw[en,List.contains_eq_any_beq]
     constructor
     .intro z
      rw[List.any_eq_true]at z ⊢
      obtain⟨x,hx,e⟩:=z
      exact⟨x,hx,by rw[beq_iff_eq]at e ⊢;exact e.symm⟩
     .intro z
      rw[List.any_eq_true]at z ⊢
      obtain⟨x,hx,e⟩:=z
      exact⟨x,hx,by rw[beq_iff_eq]at e ⊢;exact e.symm⟩
  refine⟨.ref s.heap.objs.size,_,I.laid (t':=tk) (fun b o hb=>hk b o (Heap.lt_size hb) hb) (Nat.le_refl _) (o:=SetO s.heap.objs.size (inL ns) ns.length) (setO_ok ho (isS_of key (Nat.le_trans fl (by rw[List.size_toArray,hlen];exact Nat.le_refl _)) (by omega))),rfl,q _ hn⟩
noncomputable def tEmitS (te:TE):TL ((Option Int->Bool)×Nat):=fun σ a H N=>te σ H fun v H'=>∃k,v=kO k/\a.2<4000/\N (fun j=>a.1 j || decide (j=k),a.2+1) H'
theorem run_emitS {D:Addr} {elt:Expr} {te:TE} (hxe:X.xe=fun _ _=>False) (he:PE X elt te):CompRun X D IsS [] (do let v <- eval elt X.env;standAt elt.pos;let _ <- call (.builtin "set.add") [.ref D,v]) (tEmitS te):=by
 intro pins s σ H a o N I hD ho hi hq
 have I1:Inv X (pins++pinsAt [D] s.heap) σ H s:=I.pinned (fun b hb=>by
  have e:b=D:=by simpa using hb
  subst e
  exact hD) (fun b hb=>by
  have e:b=D:=by simpa using hb
  subst e
  exact⟨o,ho,isS_data _ _ hi⟩)
 have h1:=he _ s σ H _ I1 hq
 rw[hxe]at h1
 refine wpAny_bind (thn h1 fun u s1 ⟨v,H1,J1,r1,k,ek,z1,n1⟩=>?_)
 subst ek
 have q1:=J1.pin (D,o) (List.mem_append_right _ (List.mem_append_right _ (mem_pinsAt (by simp) ho)))
 obtain⟨m,hm,hS⟩:=isS_at (X:=X) q1.1 hi
 refine wpAny_bind (wpAny_standAt (wpAny_bind (call_set_add (kO_is r1).1 (kO_is (P:=X.prog) (w:=X.w) r1).2 hS (Nat.lt_of_le_of_lt (Nat.succ_le_of_lt (Nat.lt_of_le_of_lt hm z1)) (by decide)) fun h' hs hS'=>?_)))
 obtain⟨_,f1,f2,f3,f4,f5⟩:=hD
 obtain⟨o',ho',hso⟩:=hS'.objOf
 have J2:Inv X pins σ H1 { s1 with heap:=h',toks:=s1.toks+1 }:=J1.unpinned.turned (it:=D) (t':=s1.toks+1) (fun b o hb e=>(hs.2 b hb).trans e) q1.2.1 f1 f3 f4 f5
 exact wpAny_pure ⟨σ,_,o',H1,J2,Ext.refl,ho',isS_of hso (by split<;>omega) (by omega),q1.2.1,n1⟩
theorem new_set {A:Around} {E:Value->Shared->Prop} (s:Shared) (Q:Value->Shared->Prop) (h:∀led,Q (.ref s.heap.objs.size) { s with heap:=s.heap.push { cls:=.type "set",dict:=none,data:=.set #[] 0 (.fresh 0 0 led) } }):wpAny (model X.prog X.w) A (newSet (.type "set")) Q E s:=by
 unfold newSet setsByText
 refine wpAny_bind (wpAny_bind (wpAny_askSetting (wpAny_pure ?_)))
 exact wpAny_newObj_type (h _)
theorem new_set0 (led:Bool):IsS (fun _=>false,0) { cls:=.type "set",dict:=none,data:=.set #[] 0 (.fresh 0 0 led) }:=⟨Nat.zero_le _,⟨_,_,_,rfl⟩,0,Nat.le_refl _,fun _ _=>setObjOf_fresh led⟩
end
noncomputable abbrev NH:Int:=0xFCA86420
section
variable {prog:Program} {w:World} {A:Around} {E:Value->Shared->Prop} {s:Shared}
theorem find_none {d:Addr} {o:Obj} {es:Array DictEntry} {ep:Nat} {Q:Option Nat->Shared->Prop} (ho:s.heap.get? d=some o) (hd:o.data=.dict es ep) (hno:∀e∈es.toList,e.hash≠NH) (h:Q none s):
  wpAny (model prog w) A (dictFind d .none NH) Q E s:=by
 have hp:placesWithHash es.size (fun i=>es[i]?.map (·.hash)) NH=[]:=by
  unfold placesWithHash
  rw[List.filter_eq_nil_iff]
  intro i hi hc
  dsimp only at hc
  cases he:es[i]? with
  |none=>rw[he]at hc;cases hc
  |some e=>
   rw[he]at hc
   have hm:e∈es.toList:=Array.mem_toList_iff.mpr (Array.mem_of_getElem? he)
   exact hno e hm (by simpa using hc)
 unfold dictFind
 try with_reducible refine wpAny_holding ?_
 refine wpAny_bind (wpAny_dictEntries ho hd ?_)
 dsimp only
 rw[hp]
 rw[if_pos (show((Value.none :: ([]:List Nat).filterMap (fun i=>es[i]?.map (·.key))).all carriedByValue)=true by rfl)]
 unfold dictWalkPlain
 simp only[List.forIn_nil,pure_bind,bind_pure]
 exact wpAny_pure h
theorem meets_get_none {d:Addr} (hd:(d == sysModules)=false):
  MeetsIn prog w (Builtin.«dict.get» ⟨[.ref d,.none],[]⟩) (fun _ R s=>∃o es ep,s.heap.get? d=some o/\o.data=.dict es ep/\(∀e∈es.toList,e.hash≠NH)/\R (.ok (.ret .none)) { s with toks:=s.toks+1 }):=
 .of_wp fun A R s ⟨o,es,ep,h1,h2,h3,h⟩=>by
  show wpAny _ _ (dictGet d .none >>= _) _ _ s
  refine wpAny_bind ?_
  unfold dictGet
  try with_reducible refine wpAny_holding ?_
  refine wpAny_bind (hash_none (wpAny_bind (find_none (s:={ s with toks:=s.toks+1 }) h1 h2 h3 (wpAny_pure ?_))))
  show wpAny _ _ (Builtin.Dict.missed d .none >>= _) _ _ _
  exact wpAny_bind (wpAny_missed_other hd (wpAny_pure ⟨.none,rfl,h⟩))
end
theorem pairs_mem {P:Program} {w:World} {k:Key}:∀{es:List DictEntry} {vs:List (Key×Value)} {en:DictEntry},Pairs (mixKind P w) es vs->en∈es->(mixKind P w).is k en.key=true->k∈vs.map (·.1)
 |_,_,_,.nil,h,_=>by cases h
 |_,_,en,.cons (e:=e) (kv:=kv) h1 h2 r,h,hk=>by
  rcases List.mem_cons.mp h with rfl|h
  .rw[(mixKind P w).inj _ _ _ hk h1]
   exact List.mem_cons_self
  .exact List.mem_cons_of_mem _ (pairs_mem r h hk)
theorem paired_mem_r {α β:Type} {F:α->β->Prop}:∀{xs:List α} {ys:List β} {y:β},Paired F xs ys->y∈ys->∃x∈xs,F x y
 |_,_,_,.nil,h=>by cases h
 |_,_,y,.cons h1 r,h=>by
  rcases List.mem_cons.mp h with rfl|h
  .exact⟨_,List.mem_cons_self,h1⟩
  .obtain⟨x,hx,hf⟩:=paired_mem_r r h
   exact⟨x,List.mem_cons_of_mem _ hx,hf⟩
def NoN (H:Hp) (a:Addr):Prop:=(∃kvs,H a=some (.dK kvs)/\∀kv∈kvs,∃i:Int,kv.1=.inl i/\hashInt i≠NH)\/
 ∃kvs,H a=some (.dT kvs)/\∀kv∈kvs,∃is:List Int,kv.1=is.map Key.inl/\reduceHash (Builtin.Tuple.tupleHashOf (is.map hashInt))≠NH
theorem NoN.at {X:Cx} {pins:List (Addr×Obj)} {σ:St} {H:Hp} {s:Shared} {a:Addr} (I:Inv X pins σ H s) (h:NoN H a):(a == sysModules)=false/\s.TypeIs (.ref a) "dict"/\∃o es ep,s.heap.get? a=some o/\o.data=.dict es ep/\∀e∈es.toList,e.hash≠NH:=by
 rcases h with⟨kvs,e,hk⟩|⟨kvs,e,hk⟩
 .obtain⟨z,hd,vs,rel,dd⟩:=dk_of I.hok e
  refine⟨hd,dd.typeIs,?_⟩
  obtain⟨o,es,ep,h1,_,h3,h4,h5,_⟩:=dd
  refine⟨o,es,ep,h1,h3,fun en hen=>?_⟩
  obtain⟨k,hk1,hk2⟩:=h4 en (Array.mem_toList_iff.mp hen)
  have hin:k∈kvs.map (·.1):=by
   rw[rel.keys]
   exact pairs_mem h5 hen hk1
  obtain⟨kv,hkv,rfl⟩:=List.mem_map.mp hin
  obtain⟨i,ei,hi⟩:=hk kv hkv
  rw[hk2,ei]
  exact hi
 .obtain⟨z,hd,xs,rel,dd⟩:=dt_of I.hok e
  refine⟨hd,dd.typeIs,?_⟩
  obtain⟨o,es,ep,h1,_,h3,h4,_⟩:=dd
  refine⟨o,es,ep,h1,h3,fun en hen=>?_⟩
  rw[h4]at hen
  obtain⟨x,hx,rfl⟩:=List.mem_map.mp hen
  obtain⟨kv,hkv,hp⟩:=paired_mem_r rel hx
  obtain⟨is,ei,hi⟩:=hk kv hkv
  show(tupleKind (mixKind X.prog X.w)).hash x.1≠NH
  rw[<- hp.1,ei]
  show reduceHash (Builtin.Tuple.tupleHashOf ((is.map Key.inl).map (mixKind X.prog X.w).hash))≠NH
  rw[List.map_map]
  exact hi
theorem d_getN {X:Cx} {pins:List (Addr×Obj)} {σ:St} {H:Hp} {s:Shared} {a:Addr} {A:Around} {E:Value->Shared->Prop} {Q:Value->Shared->Prop} (I:Inv X pins σ H s) (g:NoN H a) (h:∀s',Inv X pins σ H s'->Q .none s'):
  wpAny (model X.prog X.w) A (call (.builtin "dict.get") [.ref a,.none]) Q E s:=by
 obtain⟨hd,ht,o,es,ep,h1,h2,h3⟩:=g.at I
 exact call_meetsIn PySem.F.slot_dict_get ht PySem.F.entry_dict_get (PySem.F.args_dict_get_2 _ _) (meets_get_none hd) ⟨o,es,ep,h1,h2,h3,h _ (I.tok _)⟩
def IsDK (P:Program) (w:World) (kvs:List (Key×V)) (o:Obj):Prop:=kvs.length<=sizeLine/\∃vs es ep,KV kvs vs/\o.ExactDict/\o.data=.dict es ep/\KeysOf (mixKind P w) es/\Pairs (mixKind P w) es.toList vs/\(vs.map (·.1)).Nodup
theorem isDK_data {P:Program} {w:World} (a:List (Key×V)) (o:Obj) (h:IsDK P w a o) (v:Option Value):o.data≠.cell v:=by
 obtain⟨_,_,es,ep,_,_,hd,_⟩:=h
 rw[hd]
 exact fun z=>nomatch z
theorem new_dict {X:Cx} {A:Around} {E:Value->Shared->Prop} (s:Shared) (Q:Value->Shared->Prop) (h:∀_led:Bool,Q (.ref s.heap.objs.size) { s with heap:=s.heap.push { cls:=.type "dict",dict:=none,data:=.dict #[] } }):wpAny (model X.prog X.w) A newDict Q E s:=wpAny_newObj_type (h true)
theorem new_dictK {P:Program} {w:World} (_led:Bool):IsDK P w [] { cls:=.type "dict",dict:=none,data:=.dict #[] }:=
 ⟨Nat.zero_le _,[],#[],0,.nil,⟨rfl,rfl,rfl⟩,rfl,fun e he=>by simp at he,.nil,List.nodup_nil⟩
theorem dk_fin {P:Program} {w:World} (a:List (Key×V)) (o:Obj) (D:Addr) (H:Hp) (h:Heap) (i:IsDK P w a o) (e:h.get? D=some o) (sy:(D == sysModules)=false) (_:H D=none) (_:True) (_:HOk P w H h):ObjOk P w (upd H D (.dK a)) h D (.dK a):=by
 obtain⟨z,vs,es,ep,h1,h2,h3,h4,h5,h6⟩:=i
 exact⟨z,sy,vs,h1,o,es,ep,e,h2,h3,h4,h5,h6⟩
section
variable {X:Cx}
noncomputable def tEmitK (tk tv:TE):TL (List (Key×V)):=fun σ a H N=>tk σ H fun y H1=>tv σ H1 fun v H2=>∃k,y=kV k/\a.length<sizeLine/\N (putK a k v) H2
theorem run_emitK {D:Addr} {ke ve:Expr} {tk tv:TE} (hxe:X.xe=fun _ _=>False) (hk:PE X ke tk) (hv:PE X ve tv):CompRun X D (IsDK X.prog X.w) [] (do
   let kv <- eval ke X.env
   let vv <- holding [kv] (eval ve X.env)
   match Value.ref D with
   | .ref d=>do
    standAt { ke.pos with endLine:=ve.pos.endLine,endCol:=ve.pos.endCol }
    holding [kv,vv] (dictSet d kv vv)
   |_=>unsupported "internal:dictcomp") (tEmitK tk tv):=by
 intro pins s σ H a o N I hD ho hi hq
 have pinD:∀{s1:Shared} {pins1:List (Addr×Obj)} {H1:Hp},Inv X pins1 σ H1 s1->FpOk X pins1 H1 D->s1.heap.get? D=some o->Inv X (pins1++pinsAt [D] s1.heap) σ H1 s1:=fun J f e=>J.pinned (fun b hb=>by
  have z:b=D:=by simpa using hb
  subst z
  exact f) (fun b hb=>by
  have z:b=D:=by simpa using hb
  subst z
  exact⟨o,e,isDK_data _ _ hi⟩)
 have h1:=hk _ s σ H _ (pinD I hD ho) hq
 rw[hxe]at h1
 refine wpAny_bind (thn h1 fun u s1 ⟨y,H1,J1,r1,hq1⟩=>?_)
 have q1:=J1.pin (D,o) (List.mem_append_right _ (List.mem_append_right _ (mem_pinsAt (by simp) ho)))
 have h2:=hv _ s1 σ H1 _ J1 hq1
 rw[hxe]at h2
 refine wpAny_bind (wpAny_holding (thn h2 fun u2 s2 ⟨v,H2,J2,r2,k,ek,z2,n2⟩=>?_))
 subst ek
 have q2:=J2.pin (D,o) (List.mem_append_right _ (List.mem_append_right _ (mem_pinsAt (by simp) ho)))
 obtain⟨z,vs,es,ep,g1,g2,g3,g4,g5,g6⟩:=hi
 have dd:s2.heap.DictOf (mixKind X.prog X.w) D vs:=⟨o,es,ep,q2.1,g2,g3,g4,g5,g6⟩
 refine wpAny_bind (wpAny_standAt (wpAny_holding (wpAny_dictSet_pairs (hsz:=by rw[<- g1.length];exact z) (kV_is r1) dd fun h' dd' hs=>?_)))
 obtain⟨_,f1,f2,f3,f4,f5⟩:=hD
 obtain⟨o',es',ep',d1,d2,d3,d4,d5,d6⟩:=dd'
 have J3:Inv X pins σ H2 { s2 with heap:=h',toks:=s2.toks+1 }:=J2.unpinned.turned (it:=D) (t':=s2.toks+1) (fun b o hb e=>(hs.2 b hb).trans e) q2.2.1 f1 f3 f4 f5
 exact⟨σ,_,o',H2,J3,Ext.refl,d1,⟨Nat.le_trans (length_putK a k v) z2,_,es',ep',g1.put k r2,d2,d3,d4,d5,d6⟩,q2.2.1,n2⟩
end
noncomputable abbrev KTL:=List (List Key×Addr×V)
def IsDT (P:Program) (w:World) (a:KTL) (o:Obj):Prop:=a.length<=sizeLine/\∃(xs:List (List Key×Addr×Value)) (es:Array DictEntry) (ep:Nat),Paired (fun(p:List Key×Addr×V) (q:List Key×Addr×Value)=>p.1=q.1/\p.2.1=q.2.1/\RelV p.2.2 q.2.2) a xs/\o.ExactDict/\o.data=.dict es ep/\es.toList=xs.map (entryOfKey (tupleKind (mixKind P w)))/\(xs.map (·.1)).Nodup
theorem isDT_data {P:Program} {w:World} (a:KTL) (o:Obj) (h:IsDT P w a o) (v:Option Value):o.data≠.cell v:=by
 obtain⟨_,_,es,ep,_,_,hd,_⟩:=h
 rw[hd]
 exact fun z=>nomatch z
theorem new_dictT {P:Program} {w:World} (_led:Bool):IsDT P w [] { cls:=.type "dict",dict:=none,data:=.dict #[] }:=
 ⟨Nat.zero_le _,[],#[],0,.nil,⟨rfl,rfl,rfl⟩,rfl,rfl,List.nodup_nil⟩
def okT (a:KTL) (H:Hp):Prop:=∀x∈a,H x.2.1=some (.tup (x.1.map kV))
noncomputable def plT (a:KTL):List (List Key×V):=a.map fun x=>(x.1,x.2.2)
theorem paired_plT {H:Hp}:∀{a:KTL} {xs:List (List Key×Addr×Value)},Paired (fun(p:List Key×Addr×V) (q:List Key×Addr×Value)=>p.1=q.1/\p.2.1=q.2.1/\RelV p.2.2 q.2.2) a xs->okT a H->Paired (fun(p:List Key×V) (q:List Key×Addr×Value)=>p.1=q.1/\H q.2.1=some (.tup (p.1.map kV))/\RelV p.2 q.2.2) (plT a) xs
 |_,_,.nil,_=>.nil
 |_,_,.cons h r,ok=>.cons ⟨h.1,by rw[<- h.2.1];exact ok _ List.mem_cons_self,h.2.2⟩ (paired_plT r fun x hx=>ok x (List.mem_cons_of_mem _ hx))
theorem dt_fin {P:Program} {w:World} (a:KTL) (o:Obj) (D:Addr) (H:Hp) (h:Heap) (i:IsDT P w a o) (e:h.get? D=some o) (sy:(D == sysModules)=false) (hD:H D=none) (ok:okT a H) (_:HOk P w H h):ObjOk P w (upd H D (.dT (plT a))) h D (.dT (plT a)):=by
 obtain⟨z,xs,es,ep,h1,h2,h3,h4,h5⟩:=i
 refine⟨by unfold plT;rw[List.length_map];exact z,sy,xs,paired_plT h1 fun x hx=>?_,o,es,ep,e,h2,h3,h4,h5⟩
 rw[upd_ne (ne_of_none (ok x hx) hD)]
 exact ok x hx
section
variable {X:Cx}
noncomputable def tEmitT (tk tv:TE):TL KTL:=fun σ a H N=>tk σ H fun y H1=>tv σ H1 fun v H2=>∃(k:List Key) (b:Addr),y=.ref b/\H2 b=some (.tup (k.map kV))/\okT a H2/\(∀x∈a,x.1≠k)/\a.length<sizeLine/\N (a++[(k,b,v)]) H2
theorem run_emitT {D:Addr} {ke ve:Expr} {tk tv:TE} (hu:X.A.units+1<cLine) (hxe:X.xe=fun _ _=>False) (hk:PE X ke tk) (hv:PE X ve tv):CompRun X D (IsDT X.prog X.w) [] (do
   let kv <- eval ke X.env
   let vv <- holding [kv] (eval ve X.env)
   match Value.ref D with
   | .ref d=>do
    standAt { ke.pos with endLine:=ve.pos.endLine,endCol:=ve.pos.endCol }
    holding [kv,vv] (dictSet d kv vv)
   |_=>unsupported "internal:dictcomp") (tEmitT tk tv):=by
 intro pins s σ H a o N I hD ho hi hq
 have pinD:∀{s1:Shared} {pins1:List (Addr×Obj)} {H1:Hp},Inv X pins1 σ H1 s1->FpOk X pins1 H1 D->s1.heap.get? D=some o->Inv X (pins1++pinsAt [D] s1.heap) σ H1 s1:=fun J f e=>J.pinned (fun b hb=>by
  have z:b=D:=by simpa using hb
  subst z
  exact f) (fun b hb=>by
  have z:b=D:=by simpa using hb
  subst z
  exact⟨o,e,isDT_data _ _ hi⟩)
 have h1:=hk _ s σ H _ (pinD I hD ho) hq
 rw[hxe]at h1
 refine wpAny_bind (thn h1 fun u s1 ⟨y,H1,J1,r1,hq1⟩=>?_)
 have h2:=hv _ s1 σ H1 _ J1 hq1
 rw[hxe]at h2
 refine wpAny_bind (wpAny_holding (thn h2 fun u2 s2 ⟨v,H2,J2,r2,k,b,ek,eb,ok,nw,z2,n2⟩=>?_))
 subst ek
 cases(show u=Value.ref b from r1)
 have q2:=J2.pin (D,o) (List.mem_append_right _ (List.mem_append_right _ (mem_pinsAt (by simp) ho)))
 obtain⟨z,xs,es,ep,g1,g2,g3,g4,g5⟩:=hi
 have hxl:=Paired.length g1
 have dd:s2.heap.DictOfH (tupleKind (mixKind X.prog X.w)) D xs:=⟨o,es,ep,q2.1,g2,g3,g4,fun x hx=>by
  obtain⟨p,hp,e1,e2,_⟩:=paired_mem_r g1 hx
  rw[<- e1,<- e2]
  exact key_of J2.hok (ok p hp),g5⟩
 refine wpAny_bind (wpAny_standAt (wpAny_holding (wpAny_dictSet_heap (hsz:=by rw[<- hxl];exact z) (show X.A.units<cLine from Nat.lt_of_succ_lt hu) (key_of J2.hok eb) dd fun h' dd' hs=>?_)))
 obtain⟨_,f1,f2,f3,f4,f5⟩:=hD
 have hnew:∀x∈xs,x.1≠k:=fun x hx e=>by
  obtain⟨p,hp,e1,_⟩:=paired_mem_r g1 hx
  exact nw p hp (e1.trans e)
 rw[storedH_new (by unfold atKey;rw[List.find?_eq_none.mpr (fun x hx=>by simpa using hnew x hx)];rfl)]at dd'
 obtain⟨o',es',ep',d1,d2,d3,d4,d5,d6⟩:=dd'
 have J3:Inv X pins σ H2 { s2 with heap:=h',toks:=s2.toks+(tupleKind (mixKind X.prog X.w)).draws k }:=J2.unpinned.turned (it:=D) (t':=s2.toks+(tupleKind (mixKind X.prog X.w)).draws k) (fun b o hb e=>(hs.2 b hb).trans e) q2.2.1 f1 f3 f4 f5
 exact⟨σ,_,o',H2,J3,Ext.refl,d1,⟨by rw[List.length_append];exact z2,_,es',ep',Paired.snoc g1 ⟨rfl,rfl,r2⟩,d2,d3,d4,d6⟩,q2.2.1,n2⟩
end
noncomputable def tInX (neg:Bool) (ty td:TE):TE:=fun σ H Q=>ty σ H fun y H1=>td σ H1 fun x H2=>(∃a o,x=.ref a/\DGet H2 a y o/\Q (.bl (if neg then !o.isSome else o.isSome)) H2)\/rInO neg y x H2 Q
noncomputable def tDGetN (td ty:TE):TE:=fun σ H Q=>td σ H fun x H1=>∃a,x=.ref a/\IsD H1 a/\ty σ H1 fun y H2=>(∃o,DGet H2 a y o/\Q (o.getD .non) H2)\/(y=.non/\NoN H2 a/\Q .non H2)
section
variable {X:Cx} {o e f i:Expr} {apos cpos:Pos} {td ty tx:TE}
theorem pc_inX (hu:X.A.units+1<cLine) (hi:PE X i ty) (ho:PE X o td):PC X .In i o (tInX false ty td):=by
 intro pins s σ H Q I h
 refine thn (hi pins s σ H _ I h) fun iv s1 ⟨y,H1,I1,ry,q1⟩=>thn (ho pins s1 σ H1 _ I1 q1) fun u s2 ⟨x,H2,I2,rx,q2⟩=>?_
 rcases q2 with⟨a,ov,ex,g,q2⟩|q2
 .subst ex
  obtain rfl:u=Value.ref a:=rx
  exact d_in hu I2 g ry fun s3 I3=>⟨.bl ov.isSome,H2,I3,rfl,q2⟩
 .exact op_inO pins s2 σ H2 y x iv u Q I2 ry rx q2
theorem pc_notInX (hu:X.A.units+1<cLine) (hi:PE X i ty) (ho:PE X o td):PC X .NotIn i o (tInX true ty td):=by
 intro pins s σ H Q I h
 refine thn (hi pins s σ H _ I h) fun iv s1 ⟨y,H1,I1,ry,q1⟩=>thn (ho pins s1 σ H1 _ I1 q1) fun u s2 ⟨x,H2,I2,rx,q2⟩=>?_
 rcases q2 with⟨a,ov,ex,g,q2⟩|q2
 .subst ex
  obtain rfl:u=Value.ref a:=rx
  exact d_notIn hu I2 g ry fun s3 I3=>⟨.bl (!ov.isSome),H2,I3,rfl,q2⟩
 .exact op_notInO pins s2 σ H2 y x iv u Q I2 ry rx q2
theorem pe_dgetN (hu:X.A.units+1<cLine) (ho:PE X o td) (he:PE X e ty) (m:M1 X o "get" apos e cpos):PE X (.Call (.Attribute o "get" apos) [e] [] cpos) (tDGetN td ty):=by
 intro pins s σ H Q I h
 refine wpAny_Call_method m.base m.few m.line PySem.F.plainAttrs_dict PySem.F.slot_dict_get PySem.F.type_dict_get (thn (ho pins s σ H _ I h) fun u s1 ⟨x,H1,I1,rx,a,ex,d,q1⟩=>?_)
 subst ex
 obtain rfl:u=Value.ref a:=rx
 obtain⟨t1,t2,_⟩:=isD_at I1 d
 refine⟨t1,t2,?_⟩
 rw[m.trees]
 refine Calls.callWith_builtin rfl (Calls.evalArgs_plain (Calls.spliced_cons (thn (he pins s1 σ H1 _ I1 q1) fun iv s2 ⟨y,H2,I2,ry,q2⟩=>Calls.spliced_nil ?_)))
 rcases q2 with⟨ov,g,q2⟩|⟨ey,g,q2⟩
 .exact d_get1 hu I2 g ry fun w' s3 I3 rw'=>⟨_,H2,I3,rw',q2⟩
 .subst ey
  obtain rfl:iv=Value.none:=ry
  exact d_getN I2 g fun s3 I3=>⟨.non,H2,I3,rfl,q2⟩
end
noncomputable abbrev tSetC (own:List Nat) (wi:TI) (g:TG) (tc:TT) (rest:TL ((Option Int->Bool)×Nat)):TE:=tCompG own wi g tc rest (fun _=>false,0) (fun p a=>SetO p a.1 a.2) fun _ _=>True
noncomputable abbrev tDctK (own:List Nat) (wi:TI) (g:TG) (tc:TT) (tk tv:TE):TE:=tCompG own wi g tc (tEmitK tk tv) [] (fun _ a=>.dK a) fun _ _=>True
noncomputable abbrev tDctT (own:List Nat) (wi:TI) (g:TG) (tc:TT) (tk tv:TE):TE:=tCompG own wi g tc (tEmitT tk tv) [] (fun _ a=>.dT (plT a)) okT
section
variable {X:Cx} {e:Expr} {scope:Scope} {tg iter:Expr} {ifs:List Expr} {nx:Addr->Env->Sem Unit} {g:TG} {tc:TT} {own:List Nat} {wi:TI}
theorem set_fin {P:Program} {w:World} (a:(Option Int->Bool)×Nat) (o:Obj) (D:Addr) (H:Hp) (h:Heap) (i:IsS a o) (e:h.get? D=some o) (_:(D == sysModules)=false) (_:H D=none) (_:True) (_:HOk P w H h):ObjOk P w (upd H D (SetO D a.1 a.2)) h D (SetO D a.1 a.2):=setO_ok e i
theorem ps_mk {α:Type} {Is:α->Obj->Prop} {rest:TL α} {a0:α} {o0:Bool->Obj} {newAcc:Sem Value} {ho:Addr->α->HO} {ok:α->Hp->Prop} {i:Nat} {y:Str} {py pos pos2:Pos}
  (hnew:∀(s:Shared) (Q:Value->Shared->Prop),(∀led,Q (.ref s.heap.objs.size) { s with heap:=s.heap.push (o0 led) })->wpAny (model X.prog X.w) X.A newAcc Q X.xe s) (hfr:∀led,(o0 led).isFreed=false) (ha0:∀led,Is a0 (o0 led)) (hda:∀(a:α) (o:Obj),Is a o->∀v:Option Value,o.data≠.cell v)
  (hfin:∀(a:α) (o:Obj) (D:Addr) (H:Hp) (h:Heap),Is a o->h.get? D=some o->(D == sysModules)=false->H D=none->ok a H->HOk X.prog X.w H h->ObjOk X.prog X.w (upd H D (ho D a)) h D (ho D a))
  (C:CompInG Is X e scope tg iter ifs nx g tc rest own) (hi:PI X tg iter wi) (hN:X.N.Nodup) (hy:X.N[i]?=some y) (hx:Loc X.env.scope y) (hf:X.fn y=true\/X.env.scope.names.lookup y=some .local)
  (hG:PG X (.Name y py) (gName i))
  (he:eval e X.env=comprehension e scope X.env pos2 newAcc false (eval iter X.env))
  (he2:evalThenUse e X.env (assign (.Name y py) X.env)=(do let _ <- comprehension e scope X.env pos2 newAcc false (eval iter X.env) (some (assign (.Name y py) X.env))))
  (hsw:∃b,swapsWith e (some (.Name y py)) pos.line X.env=pure b):PS X (.Assign [.Name y py] e pos) (tAsg (tCompG own wi g tc rest a0 ho ok) (gName i)):=by
 obtain⟨b,hb⟩:=hsw
 cases b with
 |true=>exact ps_setcompG hnew hfr ha0 hda hfin C hi hN hy hx hf he2 hb
 |false=>exact ps_asg (pe_compG hnew hfr ha0 hda hfin C hi he) hG hb rfl
end
noncomputable def iOf:Value->Int
 | .int i _=>i
 |_=>0
theorem ints_of:∀{vs:List Value},(∀v∈vs,∃i t,v=.int i t)->IntsAre vs (vs.map iOf)
 | [],_=>.nil
 |v :: vs,h=>by
  obtain⟨i,t,rfl⟩:=h v (by simp)
  exact .cons i t (ints_of fun v hv=>h v (by simp[hv]))
theorem vals_of_ints:∀{ns:List Int} {us:List Value},IntsAre us ns->Vals (ns.map V.int) us
 |_,_,.nil=>.nil
 |_,_,.cons y t r=>.cons ⟨t,rfl⟩ (vals_of_ints r)
theorem nd_le:∀{l b:List Int},l.Nodup->(∀i∈l,i∈b)->l.length<=b.length
 | [],_,_,_=>Nat.zero_le _
 |a :: l,b,h,hs=>by
  have ha:a∈b:=hs a (by simp)
  have:=nd_le (l:=l) (b:=b.erase a) (List.nodup_cons.mp h).2 fun i hi=>by
   have hne:i≠a:=fun e=>(List.nodup_cons.mp h).1 (by rw[<- e];exact hi)
   exact(List.mem_erase_of_ne hne).mpr (hs i (by simp[hi]))
  rw[List.length_erase_of_mem ha]at this
  have:=List.length_pos_of_mem ha
  rw[List.length_cons]
  omega
section
variable {prog:Program} {w:World} {A:Around} {E:Value->Shared->Prop} {s:Shared}
theorem sorted_setIt {D:Addr} {o:Obj} {S:Option Int->Bool} {n:Nat} {Q:Value->Shared->Prop} (hh:A.handled=none) (ho:s.heap.get? D=some o) (hS:o.SetIt (oKind prog w) S n) (hno:S none=false) (h64:∃b:List Int,b.length<64/\∀i,S (some i)=true->i∈b)
  (h:∀(s':Shared) (l:Addr) (us:List Int) (vs:Array Value) (e:Nat),(∀b o,s.heap.get? b=some o->s'.heap.get? b=some o)->s'.gens=s.gens->s'.os=s.os->s.heap.objs.size<=l->s'.heap.get? l=some (seqObj "list" vs e)->IntsAre vs.toList us->us.Pairwise (· < ·)->(∀i,i∈us↔S (some i)=true)->us.length=n->Q (.ref l) s'):
  wpAny (model prog w) A (call (.builtin "sorted") [.ref D]) Q E s:=by
 obtain⟨es,ep,t,hex,hd,hel,hmem,hb,hf,hn,hdst,htk⟩:=hS
 refine Calls.call_function_entry kind_sorted plain_sorted entry_sorted (args_sorted1 _) ?_
 unfold Builtin.«sorted»
 refine wpAny_bind (m:=checkCount "sorted" 1 1 _) (wpAny_pure (wpAny_bind (collect_setIt (A:=A.in1) hh ho hex hd hf htk (fits_of_scanBound hb) fun s1 xs k1 k2 k3 k4 k5 k6=>wpAny_bind (wpAny_newList ?_ (by rw[k6.length_eq,List.length_map,Array.length_toList];exact fits_of_scanBound hb)))))
 have hint:∀e∈es.toList,∃i t,e.2=.int i t/\S (some i)=true:=by
  intro e he
  obtain⟨⟨k,hk,_⟩,_⟩:=hel e he
  have hSk:=(hmem k).mpr ⟨e,he,hk⟩
  rcases okIs_shape hk with⟨i,t,rfl,q⟩|⟨rfl,_⟩
  .exact⟨i,t,q,hSk⟩
  .rw[hno]at hSk;cases hSk
 have hxi:∀v∈xs,∃i t,v=.int i t:=by
  intro v hv
  obtain⟨e,he,rfl⟩:=List.mem_map.mp (k6.mem_iff.mp hv)
  obtain⟨i,t,q,_⟩:=hint e he
  exact⟨i,t,q⟩
 have hI:=ints_of hxi
 have hln:xs.length=n:=by rw[k6.length_eq,List.length_map,Array.length_toList,hn]
 have hnd:(xs.map iOf).Nodup:=by
  have h1:(es.toList.map (·.2)).Pairwise fun a b=>iOf a≠iOf b:=by
   rw[List.pairwise_map]
   refine List.Pairwise.imp_of_mem (fun {a b} ha hb' z q=>?_) hdst
   obtain⟨i,t,e1,_⟩:=hint a ha
   obtain⟨j,u,e2,_⟩:=hint b hb'
   rw[e1,e2]at q
   have q':i=j:=q
   subst q'
   exact z (some i) (by rw[e1];show Value.isInt i (.int i t)=true;simp[Value.isInt]) (by rw[e2];show Value.isInt i (.int i u)=true;simp[Value.isInt])
  rw[List.Nodup,List.pairwise_map]
  exact(List.Perm.pairwise_iff (fun {a b} z=>Ne.symm z) k6).mpr h1
 have hxl:xs.length<64:=by
  obtain⟨b,hb1,hb2⟩:=h64
  have:=nd_le (b:=b) hnd fun i hi=>by
   obtain⟨v,hv,rfl⟩:=List.mem_map.mp hi
   obtain⟨e,he,rfl⟩:=List.mem_map.mp (k6.mem_iff.mp hv)
   obtain⟨i,t,q,z⟩:=hint e he
   rw[q]
   exact hb2 i z
  rw[List.length_map]at this
  omega
 have hoL:(s1.heap.push (seqObj "list" xs.toArray 0)).get? s1.heap.objs.size=some (seqObj "list" xs.toArray 0):=Heap.get?_push_size _ rfl
 refine wpAny_bind (wpAny_holding (wpAny_call_entry slot_list_sort ⟨_,hoL,rfl⟩ entry_list_sort (list_sort_tree hoL hI hxl fun out us a1 a2 a3=>⟨_,rfl,wpAny_pure ⟨_,rfl,?_⟩⟩) (args_list_sort _)))
 obtain⟨e',he'⟩:=sortedHeap_at (out:=out) hoL
 refine h _ s1.heap.objs.size us out e' (fun b o eb=>?_) k2 k3 k5 he' a1 ?_ (fun i=>?_) (by rw[a2.length_eq,List.length_map,hln])
 .have hlt:=Heap.lt_size (k1 b o eb)
  rw[sortedHeap_old (Nat.ne_of_lt hlt) (by rw[size_push'];exact Nat.lt_succ_of_lt hlt)]
  exact Heap.get?_push_of_some _ (k1 b o eb)
 .have hn2:us.Nodup:=a2.nodup_iff.mpr hnd
  exact(List.Pairwise.and a3 hn2).imp fun {a b} z=>by
   have:=z.1
   have:=z.2
   omega
 .rw[a2.mem_iff,List.mem_map]
  constructor
  .rintro⟨v,hv,rfl⟩
   obtain⟨e,he,rfl⟩:=List.mem_map.mp (k6.mem_iff.mp hv)
   obtain⟨i,t,q,z⟩:=hint e he
   rw[q]
   exact z
  .intro z
   obtain⟨e,he,hk⟩:=(hmem (some i)).mp z
   obtain⟨u,eu⟩:=Value.isInt_shape hk
   exact⟨e.2,k6.mem_iff.mpr (List.mem_map_of_mem he),by rw[eu];rfl⟩
end
section
variable {X:Cx}
theorem Inv.other {pins:List (Addr×Obj)} {σ:List (Option V)} {H:Hp} {s s':Shared} (I:Inv X pins σ H s) (h1:s'.heap=s.heap) (h2:s'.gens=s.gens) (h3:s'.os=s.os):Inv X pins σ H s':=by
 obtain⟨hp,g,d,t,os⟩:=s'
 cases h1;cases h2;cases h3
 exact⟨I.ok,I.os,I.bare,I.base,I.loc,I.cell,I.free,I.freeC,I.pin,I.hok,I.len⟩
theorem Inv.ints {pins:List (Addr×Obj)} {σ:List (Option V)} {H:Hp} {s s':Shared} {l:Addr} {us:List Int} {vs:Array Value} {e:Nat} (I:Inv X pins σ H s) (k1:∀b o,s.heap.get? b=some o->s'.heap.get? b=some o) (k2:s'.gens=s.gens) (k3:s'.os=s.os) (k4:s.heap.objs.size<=l) (k5:s'.heap.get? l=some (seqObj "list" vs e)) (k6:IntsAre vs.toList us) (k7:us.length<=sizeLine):
  Inv X pins σ (upd H l (.lst (us.map V.int))) s':=by
 have J:=I.laid (a:=l) (o:=.lst (us.map V.int)) (h':=s'.heap) (t':=s.toks) k1 k4 ⟨by rw[List.length_map];exact k7,vs.toList,e,vals_of_ints k6,by rw[k5]⟩
 exact J.other rfl k2 k3
def IsSI (P:Program) (w:World) (a:(Option Int->Bool)×Nat) (o:Obj):Prop:=a.2<=4000/\∃m,m<=a.2/\o.SetIt (oKind P w) a.1 m
theorem isSI_data {P:Program} {w:World} (a:(Option Int->Bool)×Nat) (o:Obj) (h:IsSI P w a o) (v:Option Value):o.data≠.cell v:=by
 obtain⟨_,m,_,es,ep,t,_,hd,_⟩:=h
 rw[hd]
 exact fun z=>nomatch z
theorem run_emitI {D:Addr} {elt:Expr} {te:TE} (hxe:X.xe=fun _ _=>False) (he:PE X elt te):CompRun X D (IsSI X.prog X.w) [] (do let v <- eval elt X.env;standAt elt.pos;let _ <- call (.builtin "set.add") [.ref D,v]) (tEmitS te):=by
 intro pins s σ H a o N I hD ho hi hq
 have I1:Inv X (pins++pinsAt [D] s.heap) σ H s:=I.pinned (fun b hb=>by
  have e:b=D:=by simpa using hb
  subst e
  exact hD) (fun b hb=>by
  have e:b=D:=by simpa using hb
  subst e
  exact⟨o,ho,isSI_data _ _ hi⟩)
 have h1:=he _ s σ H _ I1 hq
 rw[hxe]at h1
 refine wpAny_bind (thn h1 fun u s1 ⟨v,H1,J1,r1,k,ek,z1,n1⟩=>?_)
 subst ek
 have q1:=J1.pin (D,o) (List.mem_append_right _ (List.mem_append_right _ (mem_pinsAt (by simp) ho)))
 obtain⟨hn,m,hm,hS⟩:=hi
 refine wpAny_bind (wpAny_standAt (wpAny_bind (call_addIt (kO_is r1).1 (kO_is (P:=X.prog) (w:=X.w) r1).2 q1.1 hS (Nat.lt_of_le_of_lt (Nat.succ_le_of_lt (Nat.lt_of_le_of_lt hm z1)) (by decide)) fun h' o' hs ho' hS'=>?_)))
 obtain⟨_,f1,f2,f3,f4,f5⟩:=hD
 have J2:Inv X pins σ H1 { s1 with heap:=h',toks:=s1.toks+1 }:=J1.unpinned.turned (it:=D) (t':=s1.toks+1) (fun b o hb e=>(hs.2 b hb).trans e) q1.2.1 f1 f3 f4 f5
 exact wpAny_pure ⟨σ,_,o',H1,J2,Ext.refl,ho',⟨by show a.2+1<=4000;omega,_,by show _<=a.2+1;split<;>omega,hS'⟩,q1.2.1,n1⟩
def okSs (Q:VK) (a:(Option Int->Bool)×Nat) (H2:Hp):Prop:=a.1 none=false/\(∃b:List Int,b.length<64/\∀i,a.1 (some i)=true->i∈b)/\∀(l:Addr) (us:List Int),H2 l=none->us.Pairwise (· < ·)->(∀i:Int,i∈us↔a.1 (some i)=true)->Q (.ref l) (upd H2 l (.lst (us.map V.int)))
noncomputable def tSsc (own:List Nat) (wi:TI) (g:TG) (tc:TT) (rest:TL ((Option Int->Bool)×Nat)):TE:=fun σ H Q=>tCompG own wi g tc rest (fun _=>false,0) (fun p a=>SetO p a.1 a.2) (okSs Q) σ H fun _ _=>True
variable {e:Expr} {scope:Scope} {tg iter:Expr} {ifs:List Expr} {nx:Addr->Env->Sem Unit} {g:TG} {tc:TT} {rest:TL ((Option Int->Bool)×Nat)} {own:List Nat} {wi:TI}
theorem pe_ssc {p pos pos2:Pos} (hg1:Gl X "sorted") (hm1:X.mg "sorted"=none) (C:CompInG (IsSI X.prog X.w) X e scope tg iter ifs nx g tc rest own) (hi:PI X tg iter wi) (he:eval e X.env=comprehension e scope X.env pos2 (newSet (.type "set")) false (eval iter X.env)) (hs:starEach [e] X.env=[(false,eval e X.env)]):
  PE X (.Call (.Name "sorted" p) [e] [] pos) (tSsc own wi g tc rest):=by
 intro pins s σ H Q I hw
 refine wpAny_Call_Name_kw (ld_blt I hg1 hm1 (u:=.builtin "sorted") rfl ?_)
 refine PyProof.Rows.callWith_builtin1 ?_ (by rw[hs];rfl) rfl
 rw[hs]
 show wpAny _ _ (spliced [(false,eval e X.env)]) _ _ s
 refine Calls.spliced_cons ?_
 rw[he]
 refine thn (comp_allG (o0:=fun _=>emptySet (!(X.w.params.followText "set-order"))) (Q:=fun v s'=>∃D a o H',v=.ref D/\Inv X pins σ H' s'/\s'.heap.get? D=some o/\IsSI X.prog X.w a o/\okSs Q a H') (fun s Q h=>new_setIt (h true)) (fun _=>rfl) (fun _=>⟨Nat.zero_le _,0,Nat.le_refl _,setIt_empty⟩) isSI_data C hi I hw fun s3 s' H0 H' ex D xs o σ' I3 hex J e' hlt h0 fD sy is' n' hok' hR=>?_) fun v s' ⟨D,a,o,H',ev,J,ho,hi',hok⟩=>Calls.spliced_nil ?_
 .obtain⟨m,hn,_⟩:=J.loc
  refine⟨m,hn,fun h' hs=>?_⟩
  have neC:D≠s3.heap.objs.size:=Nat.ne_of_lt hlt
  exact⟨D,xs,o,H',rfl,comp_end I3 hex J hs,(hs.2 D neC).trans e',is',hok'⟩
 .subst ev
  obtain⟨hn,m,hm,hS⟩:=hi'
  obtain⟨q1,q2,q3⟩:=hok
  refine sorted_setIt (I.ok.hd C.calm) ho hS q1 q2 fun s'' l us vs e' k1 k2 k3 k4 k5 k6 k7 k8 k9=>?_
  exact⟨.ref l,_,J.ints (s':=s'') k1 k2 k3 k4 k5 k6 (by rw[k9];exact Nat.le_trans hm (Nat.le_trans hn (by decide))),rfl,q3 l us (J.hok.fresh k4) k7 k8⟩
end
section
variable {prog:Program} {w:World} {A:Around} {E:Value->Shared->Prop} {s:Shared}
end
section
variable {X:Cx}
end
section
variable {prog:Program} {w:World} {A:Around} {E:Value->Shared->Prop} {s:Shared}
end
section
variable {X:Cx}
end
end L2
namespace R3
open PySem PySem.Spec PyProof.Rows L2
inductive Bf where
 |len|abs|int|str|isinstance|min|list|tuple|range|set
 deriving DecidableEq
inductive Mf where
 |append|join
 deriving DecidableEq
inductive Xf where
 |eqT|inR|notInR
 deriving DecidableEq
inductive Zf where
 |eqB|ninB|ltS
 deriving DecidableEq
inductive Yf where
 |strd|ltx
 deriving DecidableEq
set_option genInjectivity false
mutual
inductive Ce where
 |var (i:Nat)|int (n:Int)|bl (b:Bool)|non|str (x:Str)
 |bin (op:Operator) (a b:Ce)
 |neg (a:Ce)|not (a:Ce)
 |and (a b:Ce)|or (a b:Ce)
 |cmp (op:CmpOp) (a b:Ce)
 |chn (op op':CmpOp) (a b c:Ce)
 |ife (q:Cq) (a b:Ce)
 |tup (es:Ces)|lst (es:Ces)
 |idx (a b:Ce)
 |cut (a:Ce) (lo hi:Co)
 |call (f:Str) (es:Ces)
 |blt (f:Bf) (es:Ces)
 |met (m:Mf) (o:Ce) (es:Ces)
 |comp (elt:Ce) (own:List Nat) (t:Ct) (it:Ci) (q:Cqo) (r:Cc)
 |din (neg:Bool) (a b:Ce)|dgt (a b:Ce)
 |ssc (elt:Ce) (own:List Nat) (t:Ct) (it:Ci) (q:Cqo)
inductive Ces where
 |nil|cons (e:Ce) (r:Ces)
inductive Cq where
 |val (e:Ce)|not (q:Cq)|and (a b:Cq)|or (a b:Cq)|cmp (op:CmpOp) (a b:Ce)|chn (op op':CmpOp) (a b c:Ce)|din (neg:Bool) (a b:Ce)|cmx (k:Xf) (a b:Ce)
inductive Cqo where
 |none|some (q:Cq)
inductive Co where
 |none|some (e:Ce)
inductive Ci where
 |val (e:Ce)|range1 (a:Ce)|range2 (a b:Ce)|enum (a:Ce)|range3 (a b c:Ce)|rev (a:Ce)
inductive Ct where
 |name (i:Nat)|tup (ts:Cts)|sub (o i:Ce)
inductive Cts where
 |nil|cons (t:Ct) (r:Cts)
inductive Cc where
 |nil|cons (ws:List Nat) (t:Ct) (it:Ci) (q:Cqo) (r:Cc)
end
mutual
inductive Cs where
 |expr (e:Ce)|ret (e:Ce)|asg (t:Ct) (e:Ce)|aug (i:Nat) (sub:Bool) (e:Ce)
 |ite (q:Cq) (a b:Css)|whl (q:Cq) (b:Css)|for_ (t:Ct) (it:Ci) (b:Css)|raise_
 |rse (nm:Str)|tryN (b:Css) (c:Str) (su:Css)
 |setc2 (i:Nat) (elt:Ce) (own:List Nat) (t:Ct) (it:Ci) (q:Cqo) (ws:List Nat) (t2:Ct) (it2:Ci) (q2:Cqo)|dctc (tup:Bool) (i:Nat) (k v:Ce) (own:List Nat) (t:Ct) (it:Ci) (q:Cqo)
inductive Css where
 |nil|cons (s:Cs) (r:Css)
end
set_option genInjectivity true
def CShl (i j:Int):Prop:=0<=j/\j<=1000000/\i.natAbs<2 ^ 100
def CDivW (_ j:Int):Prop:=0<j/\(j<1073741824\/j.natAbs.log2<9000)
def CMulW (i j:Int):Prop:=(-(2 ^ 64)<i/\i<2 ^ 64)\/(-(2 ^ 64)<j/\j<2 ^ 64)\/IntMulOk i j
section
variable (K:W.Frag)
noncomputable def rBin:Operator->R2
 | .Add=>fun x y H Q=>match x,y with
  | .int i,.int j=>Q (.int (i+j)) H
  | .str i,.str j=>i.length+j.length<=sizeLine/\Q (.str (i++j)) H
  |x,y=>rCat x y H Q\/rCatT K x y H Q\/rCatT0 K x y H Q
 | .Sub=>rI0 fun i j=>.int (i-j)
 | .Mult=>fun x y H Q=>match x,y with
  | .int i,.int j=>CMulW i j/\Q (.int (i*j)) H
  | .str a,.int n=>-1000000<=n/\n<=1000000/\a.length*n.toNat<=1000000/\Q (.str (Txt.mul a n)) H
  |x,y=>rRep x y H Q
 | .Mod=>rI (fun _ j=>0<j) fun i j=>.int (i % j)
 | .FloorDiv=>rI CDivW fun i j=>.int (i / j)
 | .Pow=>rI CPow fun i j=>.int (i ^ j.toNat)
 | .LShift=>rI CShl fun i j=>.int (i*2 ^ j.toNat)
 | .RShift=>rI (fun _ j=>0<=j) fun i j=>.int (i / 2 ^ j.toNat)
 | .BitAnd=>rI (fun i j=>0<=i/\j=1) fun i _=>.int (i % 2)
 |_=>fun _ _ _ _=>False
noncomputable def rCmp:CmpOp->R2
 | .Eq=>fun x y H Q=>match x,y with
  | .ref a,.ref b=>rEqL K false (.ref a) (.ref b) H Q\/rEqD false (.ref a) (.ref b) H Q
  |x,y=>rEq x y H Q
 | .NotEq=>fun x y H Q=>match x,y with
  | .ref a,.ref b=>rEqL K true (.ref a) (.ref b) H Q\/rEqD true (.ref a) (.ref b) H Q
  |x,y=>rNe x y H Q
 | .Lt=>rI0 fun i j=>.bl (decide (i<j))
 | .LtE=>rI0 fun i j=>.bl (decide (i<=j))
 | .Gt=>fun x y H Q=>match x with
  | .str a=>rGtS (.str a) y H Q
  |x=>rI0 (fun i j=>.bl (decide (j<i))) x y H Q
 | .GtE=>rI0 fun i j=>.bl (decide (j<=i))
 | .Is=>fun x y H Q=>match y with
  | .bl b=>rIsB false x (.bl b) H Q
  |y=>y=.non/\Q (.bl (decide (x=.non))) H
 | .IsNot=>fun x y H Q=>match y with
  | .bl b=>rIsB true x (.bl b) H Q
  |y=>y=.non/\Q (.bl (!decide (x=.non))) H
 | .In=>fun x y H Q=>match y with
  | .str b=>rInS false x (.str b) H Q
  |y=>rIn K false x y H Q
 | .NotIn=>fun x y H Q=>match y with
  | .str b=>rInS true x (.str b) H Q
  |y=>rIn K true x y H Q
noncomputable def rBlt:Bf->List V->Hp->VK->Prop
 | .len=>fun xs H Q=>∃x n,xs=[x]/\LenV K x H n/\Q (.int n) H
 | .abs=>fun xs H Q=>∃i,xs=[.int i]/\Q (.int (if i<0 then -i else i)) H
 | .int=>fun xs H Q=>match xs with
  | [.int i]=>Q (.int i) H
  | [.bl k]=>Q (.int (if k then 1 else 0)) H
  | [.str x]=>∃n,PySem.intText? x=some n/\x.length<=640/\Q (.int n) H
  | [.str x,.int j]=>j=2/\∃n,B2 x n/\Q (.int n) H
  |_=>False
 | .str=>fun xs H Q=>∃i,xs=[.int i]/\i.natAbs.log2<1920/\Q (.str (toString i)) H
 | .isinstance=>fun _ _ _=>False
 | .min=>fun xs H Q=>match xs with
  | [.int i,.int j]=>Q (.int (if j<i then j else i)) H
  |xs=>rBest K false xs H Q
 | .list=>fun xs H Q=>(∃p ys,xs=[.ref p]/\(SqL K H p ys\/SqT K H p ys)/\∀l,H l=none->Q (.ref l) (upd H l (.lst ys)))\/rLrg xs H Q
 | .range=>rRng
 | .set=>rSetOf K
 | .tuple=>fun xs H Q=>∃p ys,xs=[.ref p]/\((SqL K H p ys/\∀l,H l=none->Q (.ref l) (upd H l (.tup ys)))\/(SqT K H p ys/\Q (.ref p) H))
noncomputable def rMet:Mf->V->List V->Hp->VK->Prop
 | .append=>rAppend
 | .join=>rJoin K
noncomputable def metTy:Mf->String
 | .join=>"str"
 |_=>"list"
noncomputable def metName:Mf->Str
 | .append=>"append"
 | .join=>"join"
noncomputable def bltName:Bf->Str
 | .len=>"len"
 | .abs=>"abs"
 | .int=>"int"
 | .str=>"str"
 | .isinstance=>"isinstance"
 | .min=>"min"
 | .list=>"list"
 | .tuple=>"tuple"
 | .range=>"range"
 | .set=>"set"
noncomputable def rIxM:R2:=fun x y H Q=>match x,y with
 | .str z,.int i=>z.length<=sizeLine/\∃c,atI z.cps.toList i=some c/\Q (.str ⟨#[c]⟩) H
 |x,y=>rIxL K x y H Q\/rIxT K x y H Q
noncomputable def rSl:V->Option Int->Option Int->Hp->VK->Prop:=fun x lo hi H Q=>match x with
 | .str a=>a.length<=sizeLine/\Q (.str (Txt.slice a lo hi)) H
 |x=>rSlL K x lo hi H Q\/rSlT K x lo hi H Q\/rSlW K x lo hi H Q
end
noncomputable def xfOp:Xf->CmpOp
 | .eqT=>.Eq
 | .inR=>.In
 | .notInR=>.NotIn
noncomputable def rXf (K:W.Frag):Xf->R2
 | .eqT=>rEqT0 K
 | .inR=>rInR false
 | .notInR=>rInR true
structure Rc where
 N:List Str
 B:List Str
 K:W.Frag
 fs:Str->Option Sp
 xk:L2.St->XK:=fun _=>E0
 cl:Str->Option Addr:=fun _=>none
noncomputable def tDinB (neg:Bool) (ty td:TE):TE:=tInX neg ty td
noncomputable def lenTs:Cts->Nat
 | .nil=>0
 | .cons _ r=>lenTs r+1
mutual
noncomputable def tE (C:Rc):Ce->TE
 | .var i=>tVar i
 | .int n=>tC (.int n)
 | .bl b=>tC (.bl b)
 | .non=>tC .non
 | .str x=>tC (.str x)
 | .bin op a b=>tOp (rBin C.K op) (tE C a) (tE C b)
 | .neg a=>tUn (rU fun i=>.int (-i)) (tE C a)
 | .not a=>tNotV (tE C a)
 | .and a b=>tAndV (tE C a) (tE C b)
 | .or a b=>tOrV (tE C a) (tE C b)
 | .cmp op a b=>tOp (rCmp C.K op) (tE C a) (tE C b)
 | .chn op op' a b c=>tChain (rCmp C.K op) (rCmp C.K op') (tE C a) (tE C b) (tE C c)
 | .ife q a b=>tIf (tQ C q) (tE C a) (tE C b)
 | .tup es=>tTup (tA C es)
 | .lst es=>tLst (tA C es)
 | .idx a b=>tOp (rIxM C.K) (tE C a) (tE C b)
 | .cut a lo hi=>tSl (rSl C.K) (tE C a) (tO C lo) (tO C hi)
 | .call f es=>fun σ H Q=>match C.fs f with
  |some sp=>tCall sp [] (C.xk σ) (tA C es) σ H Q
  |none=>False
 | .blt f es=>tCB (rBlt C.K f) (tA C es)
 | .met m o es=>tBM C.K (metTy m) (rMet C.K m) (tE C o) (tA C es)
 | .din neg a b=>tDinB neg (tE C a) (tE C b)
 | .dgt a b=>tDGetN (tE C a) (tE C b)
 | .ssc elt own t it q=>tSsc own (tI C it) (tG C t) (tQo C q) (tEmitS (tE C elt))
 | .comp elt own t it q r=>tComp own (tI C it) (tG C t) (tQo C q) (tR C r (tEmit (tE C elt)))
noncomputable def tA (C:Rc):Ces->TA
 | .nil=>tNil
 | .cons e r=>tCons (tE C e) (tA C r)
noncomputable def tQ (C:Rc):Cq->TT
 | .val e=>fun σ H Q=>tE C e σ H fun x H'=>∃k,TruV C.K x H' k/\Q k H'
 | .not q=>tNot (tQ C q)
 | .and a b=>tAnd (tQ C a) (tQ C b)
 | .or a b=>tOr (tQ C a) (tQ C b)
 | .cmp op a b=>tTest (tOp (rCmp C.K op) (tE C a) (tE C b))
 | .chn op op' a b c=>tTest (tChain (rCmp C.K op) (rCmp C.K op') (tE C a) (tE C b) (tE C c))
 | .din neg a b=>tTest (tDinB neg (tE C a) (tE C b))
 | .cmx k a b=>tTest (tOp (rXf C.K k) (tE C a) (tE C b))
noncomputable def tQo (C:Rc):Cqo->TT
 | .none=>fun _ H Q=>Q true H
 | .some q=>tQ C q
noncomputable def tO (C:Rc):Co->TO
 | .none=>tNoPart
 | .some e=>tPart (tE C e)
noncomputable def tI (C:Rc):Ci->TI
 | .val e=>iVal C.K (tE C e)
 | .range1 a=>iRng1 (tCons (tE C a) tNil)
 | .range2 a b=>iRng2 (tCons (tE C a) (tCons (tE C b) tNil))
 | .enum a=>iEnum C.K (tE C a)
 | .range3 a b c=>iRng3 (tCons (tE C a) (tCons (tE C b) (tCons (tE C c) tNil)))
 | .rev a=>iRev C.K (tE C a)
noncomputable def tG (C:Rc):Ct->TG
 | .name i=>gName i
 | .tup ts=>gSeq C.K (lenTs ts) (tGs C ts)
 | .sub o i=>gSub (tE C o) (tE C i) rSetL
noncomputable def tGs (C:Rc):Cts->TGs
 | .nil=>gNil
 | .cons t r=>gCons (tG C t) (tGs C r)
noncomputable def tR (C:Rc):Cc->TL (List V)->TL (List V)
 | .nil,em=>em
 | .cons ws t it q r,em=>tNest (tI C it) (tClause ws (tG C t) (tQo C q) (tR C r em))
end
mutual
noncomputable def tS (C:Rc):Cs->TS
 | .expr e=>tDrop (tE C e)
 | .ret e=>tRet (tE C e)
 | .asg t e=>tAsg (tE C e) (tG C t)
 | .aug i sub e=>tAug i (tE C e) (ipI fun i j=>if sub then i-j else i+j)
 | .ite q a b=>tIfS (tQ C q) (tSs C a) (tSs C b)
 | .whl q b=>tWhile (tQ C q) (tSs C b)
 | .for_ t it b=>tFor (tI C it) (tG C t) (tSs C b)
 | .raise_=>tNever
 | .rse nm=>fun _ σ H=>(∃Ca,C.cl nm=some Ca/\W.excIn C.K Ca bmV "ValueError.__new__"=true)/\C.xk σ (.str nm 0) none H
 | .tryN b c su=>fun D σ H=>tSs { C with xk:=fun σ' en _ H'=>∃nm Ca Cc,en=.str nm 0/\C.cl nm=some Ca/\C.cl c=some Cc/\W.exmOne C.K (.ref Ca) (.ref Cc)=some true/\tSs { C with xk:=fun _=>E0 } su { nx:=D.nx,rt:=D.rt } σ' H' } b D σ H
 | .setc2 i elt own t it q ws t2 it2 q2=>tAsg (tSetC own (tI C it) (tG C t) (tQo C q) (tNest (tI C it2) (tClause ws (tG C t2) (tQo C q2) (tEmitS (tE C elt))))) (gName i)
 | .dctc tup i k v own t it q=>if tup then tAsg (tDctT own (tI C it) (tG C t) (tQo C q) (tE C k) (tE C v)) (gName i)else tAsg (tDctK own (tI C it) (tG C t) (tQo C q) (tE C k) (tE C v)) (gName i)
noncomputable def tSs (C:Rc):Css->TS
 | .nil=>tNext
 | .cons s r=>tSeq (tS C s) (tSs C r)
end
noncomputable def vis (sc:Scope) (x:Str):Bool:=match sc.names.lookup x with
 |some .local=>true
 |some .cell=>true
 |some .free=>true
 |_=>false
noncomputable def locb (sc:Scope) (x:Str):Bool:=match sc.names.lookup x with
 |some .local=>true
 |some .cell=>true
 |_=>false
noncomputable def glb (sc:Scope) (x:Str):Bool:=decide (sc.names.lookup x=some .globalImplicit)
noncomputable def nameOk (N:List Str) (i:Nat) (x:Str):Bool:=decide (N[i]?=some x)&&!(x == ("__debug__":Str))&&!(x == ("__classdict__":Str))
noncomputable def notStar:Expr->Bool
 | .Starred ..=>false
 |_=>true
noncomputable def okIter:Expr->Bool
 | .Set ..=>false
 |_=>true
noncomputable def notSlice:Expr->Bool
 | .Slice ..=>false
 |_=>true
noncomputable def baseOk:Expr->Bool
 | .Call _ [] _ _=>false
 |_=>true
noncomputable def plainT:Expr->Bool
 | .UnaryOp .Not _ _=>false
 | .BoolOp ..=>false
 | .IfExp ..=>false
 | .Compare ..=>false
 |_=>true
noncomputable def scOk (N:List Str) (sc scope:Scope) (own:List Nat):Bool:=
 decide (scope.kind=.function)&&
 scope.names.all (fun x=>(decide (x.2≠.local) || decide (scope.names.lookup x.1=some .local))&&(decide (x.2≠.cell) || decide (scope.names.lookup x.1=some .cell))&&
  (decide (x.2≠.free) || decide (sc.names.lookup x.1=some .cell) || decide (sc.names.lookup x.1=some .free)))&&
 (List.range N.length).all (fun i=>match N[i]? with
  |some x=>(decide (scope.names.lookup x≠some .local)&&decide (scope.names.lookup x≠some .cell)) || decide (i∈own)
  |none=>true)
noncomputable def zipT:Ci->Expr->Bool
 | .enum _,.Tuple ..=>true
 | .enum _,_=>false
 |_,_=>true
mutual
noncomputable def tOwn (own:List Nat):Ct->Bool
 | .name i=>decide (i∈own)
 | .tup ts=>tOwns own ts
 | .sub _ _=>false
noncomputable def tOwns (own:List Nat):Cts->Bool
 | .nil=>true
 | .cons t r=>tOwn own t&&tOwns own r
end
noncomputable def tld (B:List Str):Bool:=decide (("~":Str)∈B)
noncomputable def hat (B:List Str):Bool:=decide (("^":Str)∈B)
noncomputable def pct (B:List Str):Bool:=decide (("%":Str)∈B)
noncomputable def bang (x:Str):Str:=⟨#[33]++x.cps⟩
theorem no_tt {P:Prop} (h:false=true):P:=(Bool.false_ne_true h).elim
theorem band {a b:Bool} (h:(a&&b)=true):a=true/\b=true:=by
 cases a with
 |true=>exact⟨rfl,h⟩
 |false=>exact no_tt h
noncomputable def vAnd (e:Expr) (f:Expr->Expr->Bool):Bool:=match e with
 | .BoolOp .And [x,y] _=>f x y
 | .BoolOp .And (x :: y :: z :: r) pos=>f x (.BoolOp .And (y :: z :: r) pos)
 |_=>false
theorem vAnd_of {e:Expr} {f:Expr->Expr->Bool} (h:vAnd e f=true):(∃x y pos,e=.BoolOp .And [x,y] pos/\f x y=true)\/∃x y z r pos,e=.BoolOp .And (x :: y :: z :: r) pos/\f x (.BoolOp .And (y :: z :: r) pos)=true:=by
 cases e with
 |BoolOp o vs pos=>
  cases o with
  |And=>
   cases vs with
   |nil=>exact no_tt h
   |cons x r=>
    cases r with
    |nil=>exact no_tt h
    |cons y r=>
     cases r with
     |nil=>exact .inl ⟨x,y,pos,rfl,h⟩
     |cons z r=>exact .inr ⟨x,y,z,r,pos,rfl,h⟩
  |_=>exact no_tt h
 |_=>exact no_tt h
noncomputable def vOr (e:Expr) (f:Expr->Expr->Bool):Bool:=match e with
 | .BoolOp .Or [x,y] _=>f x y
 | .BoolOp .Or (x :: y :: z :: r) pos=>f x (.BoolOp .Or (y :: z :: r) pos)
 |_=>false
theorem vOr_of {e:Expr} {f:Expr->Expr->Bool} (h:vOr e f=true):(∃x y pos,e=.BoolOp .Or [x,y] pos/\f x y=true)\/∃x y z r pos,e=.BoolOp .Or (x :: y :: z :: r) pos/\f x (.BoolOp .Or (y :: z :: r) pos)=true:=by
 cases e with
 |BoolOp o vs pos=>
  cases o with
  |Or=>
   cases vs with
   |nil=>exact no_tt h
   |cons x r=>
    cases r with
    |nil=>exact no_tt h
    |cons y r=>
     cases r with
     |nil=>exact .inl ⟨x,y,pos,rfl,h⟩
     |cons z r=>exact .inr ⟨x,y,z,r,pos,rfl,h⟩
  |_=>exact no_tt h
 |_=>exact no_tt h
noncomputable def w_nil {α:Type} (z:List α) (f:Bool):Bool:=match z with
 | []=>f
 |_=>false
theorem w_nil_of {α:Type} {z:List α} {f:Bool} (h:w_nil z f=true):z=[]/\f=true:=by
 cases z with
 |nil=>exact⟨rfl,h⟩
 |_=>exact no_tt h
noncomputable def w_cons {α:Type} (z:List α) (f:α->List α->Bool):Bool:=match z with
 |x :: r=>f x r
 |_=>false
theorem w_cons_of {α:Type} {z:List α} {f:α->List α->Bool} (h:w_cons z f=true):∃x r,z=x :: r/\f x r=true:=by
 cases z with
 |cons x r=>exact⟨x,r,rfl,h⟩
 |_=>exact no_tt h
noncomputable def w_none {α:Type} (z:Option α) (f:Bool):Bool:=match z with
 |none=>f
 |_=>false
theorem w_none_of {α:Type} {z:Option α} {f:Bool} (h:w_none z f=true):z=none/\f=true:=by
 cases z with
 |none=>exact⟨rfl,h⟩
 |_=>exact no_tt h
noncomputable def w_some {α:Type} (z:Option α) (f:α->Bool):Bool:=match z with
 |some x=>f x
 |_=>false
theorem w_some_of {α:Type} {z:Option α} {f:α->Bool} (h:w_some z f=true):∃x,z=some x/\f x=true:=by
 cases z with
 |some x=>exact⟨x,rfl,h⟩
 |_=>exact no_tt h
noncomputable def w_gen (z:Comprehension) (f:Expr->Expr->List Expr->Int->Bool):Bool:=f z.target z.iter z.ifs z.is_async
theorem w_gen_of {z:Comprehension} {f:Expr->Expr->List Expr->Int->Bool} (h:w_gen z f=true):∃a b c d,z=⟨a,b,c,d⟩/\f a b c d=true:=by
 cases z
 exact⟨_,_,_,_,rfl,h⟩
noncomputable def wE_Name (z:Expr) (f:Str->Pos->Bool):Bool:=match z with
 | .Name x0 x1=>f x0 x1
 |_=>false
theorem wE_Name_of {z f} (h:wE_Name z f=true):∃x0 x1,z=.Name x0 x1/\f x0 x1=true:=by
 cases z with
 |Name x0 x1=>exact⟨x0,x1,rfl,h⟩
 |_=>exact no_tt h
noncomputable def wE_Constant (z:Expr) (f:Const->Nat->Pos->Bool):Bool:=match z with
 | .Constant x0 x1 x2=>f x0 x1 x2
 |_=>false
theorem wE_Constant_of {z f} (h:wE_Constant z f=true):∃x0 x1 x2,z=.Constant x0 x1 x2/\f x0 x1 x2=true:=by
 cases z with
 |Constant x0 x1 x2=>exact⟨x0,x1,x2,rfl,h⟩
 |_=>exact no_tt h
noncomputable def wC_int (z:Const) (f:Int->Bool):Bool:=match z with
 | .int x0=>f x0
 |_=>false
theorem wC_int_of {z f} (h:wC_int z f=true):∃x0,z=.int x0/\f x0=true:=by
 cases z with
 |int x0=>exact⟨x0,rfl,h⟩
 |_=>exact no_tt h
noncomputable def wC_bool (z:Const) (f:Bool->Bool):Bool:=match z with
 | .bool x0=>f x0
 |_=>false
theorem wC_bool_of {z f} (h:wC_bool z f=true):∃x0,z=.bool x0/\f x0=true:=by
 cases z with
 |bool x0=>exact⟨x0,rfl,h⟩
 |_=>exact no_tt h
noncomputable def wC_none (z:Const) (f:Bool):Bool:=match z with
 | .none=>f
 |_=>false
theorem wC_none_of {z f} (h:wC_none z f=true):z=.none/\f=true:=by
 cases z with
 |none=>exact⟨rfl,h⟩
 |_=>exact no_tt h
noncomputable def wC_str (z:Const) (f:Str->Bool):Bool:=match z with
 | .str x0=>f x0
 |_=>false
theorem wC_str_of {z f} (h:wC_str z f=true):∃x0,z=.str x0/\f x0=true:=by
 cases z with
 |str x0=>exact⟨x0,rfl,h⟩
 |_=>exact no_tt h
noncomputable def wE_BinOp (z:Expr) (f:Expr->Operator->Expr->Pos->Bool):Bool:=match z with
 | .BinOp x0 x1 x2 x3=>f x0 x1 x2 x3
 |_=>false
theorem wE_BinOp_of {z f} (h:wE_BinOp z f=true):∃x0 x1 x2 x3,z=.BinOp x0 x1 x2 x3/\f x0 x1 x2 x3=true:=by
 cases z with
 |BinOp x0 x1 x2 x3=>exact⟨x0,x1,x2,x3,rfl,h⟩
 |_=>exact no_tt h
noncomputable def wE_UnaryOp (z:Expr) (f:UnaryOp->Expr->Pos->Bool):Bool:=match z with
 | .UnaryOp x0 x1 x2=>f x0 x1 x2
 |_=>false
theorem wE_UnaryOp_of {z f} (h:wE_UnaryOp z f=true):∃x0 x1 x2,z=.UnaryOp x0 x1 x2/\f x0 x1 x2=true:=by
 cases z with
 |UnaryOp x0 x1 x2=>exact⟨x0,x1,x2,rfl,h⟩
 |_=>exact no_tt h
noncomputable def wU_USub (z:UnaryOp) (f:Bool):Bool:=match z with
 | .USub=>f
 |_=>false
theorem wU_USub_of {z f} (h:wU_USub z f=true):z=.USub/\f=true:=by
 cases z with
 |USub=>exact⟨rfl,h⟩
 |_=>exact no_tt h
noncomputable def wU_Not (z:UnaryOp) (f:Bool):Bool:=match z with
 | .Not=>f
 |_=>false
theorem wU_Not_of {z f} (h:wU_Not z f=true):z=.Not/\f=true:=by
 cases z with
 |Not=>exact⟨rfl,h⟩
 |_=>exact no_tt h
noncomputable def wE_Compare (z:Expr) (f:Expr->List CmpOp->List Expr->Pos->Bool):Bool:=match z with
 | .Compare x0 x1 x2 x3=>f x0 x1 x2 x3
 |_=>false
theorem wE_Compare_of {z f} (h:wE_Compare z f=true):∃x0 x1 x2 x3,z=.Compare x0 x1 x2 x3/\f x0 x1 x2 x3=true:=by
 cases z with
 |Compare x0 x1 x2 x3=>exact⟨x0,x1,x2,x3,rfl,h⟩
 |_=>exact no_tt h
noncomputable def wE_IfExp (z:Expr) (f:Expr->Expr->Expr->Pos->Bool):Bool:=match z with
 | .IfExp x0 x1 x2 x3=>f x0 x1 x2 x3
 |_=>false
theorem wE_IfExp_of {z f} (h:wE_IfExp z f=true):∃x0 x1 x2 x3,z=.IfExp x0 x1 x2 x3/\f x0 x1 x2 x3=true:=by
 cases z with
 |IfExp x0 x1 x2 x3=>exact⟨x0,x1,x2,x3,rfl,h⟩
 |_=>exact no_tt h
noncomputable def wE_Tuple (z:Expr) (f:List Expr->Nat->Pos->Bool):Bool:=match z with
 | .Tuple x0 x1 x2=>f x0 x1 x2
 |_=>false
theorem wE_Tuple_of {z f} (h:wE_Tuple z f=true):∃x0 x1 x2,z=.Tuple x0 x1 x2/\f x0 x1 x2=true:=by
 cases z with
 |Tuple x0 x1 x2=>exact⟨x0,x1,x2,rfl,h⟩
 |_=>exact no_tt h
noncomputable def wE_List (z:Expr) (f:List Expr->Pos->Bool):Bool:=match z with
 | .List x0 x1=>f x0 x1
 |_=>false
theorem wE_List_of {z f} (h:wE_List z f=true):∃x0 x1,z=.List x0 x1/\f x0 x1=true:=by
 cases z with
 |List x0 x1=>exact⟨x0,x1,rfl,h⟩
 |_=>exact no_tt h
noncomputable def wE_Subscript (z:Expr) (f:Expr->Expr->Pos->Bool):Bool:=match z with
 | .Subscript x0 x1 x2=>f x0 x1 x2
 |_=>false
theorem wE_Subscript_of {z f} (h:wE_Subscript z f=true):∃x0 x1 x2,z=.Subscript x0 x1 x2/\f x0 x1 x2=true:=by
 cases z with
 |Subscript x0 x1 x2=>exact⟨x0,x1,x2,rfl,h⟩
 |_=>exact no_tt h
noncomputable def wE_Slice (z:Expr) (f:Option Expr->Option Expr->Option Expr->Pos->Bool):Bool:=match z with
 | .Slice x0 x1 x2 x3=>f x0 x1 x2 x3
 |_=>false
theorem wE_Slice_of {z f} (h:wE_Slice z f=true):∃x0 x1 x2 x3,z=.Slice x0 x1 x2 x3/\f x0 x1 x2 x3=true:=by
 cases z with
 |Slice x0 x1 x2 x3=>exact⟨x0,x1,x2,x3,rfl,h⟩
 |_=>exact no_tt h
noncomputable def wE_Call (z:Expr) (f:Expr->List Expr->List Keyword->Pos->Bool):Bool:=match z with
 | .Call x0 x1 x2 x3=>f x0 x1 x2 x3
 |_=>false
theorem wE_Call_of {z f} (h:wE_Call z f=true):∃x0 x1 x2 x3,z=.Call x0 x1 x2 x3/\f x0 x1 x2 x3=true:=by
 cases z with
 |Call x0 x1 x2 x3=>exact⟨x0,x1,x2,x3,rfl,h⟩
 |_=>exact no_tt h
noncomputable def wE_Attribute (z:Expr) (f:Expr->Str->Pos->Bool):Bool:=match z with
 | .Attribute x0 x1 x2=>f x0 x1 x2
 |_=>false
theorem wE_Attribute_of {z f} (h:wE_Attribute z f=true):∃x0 x1 x2,z=.Attribute x0 x1 x2/\f x0 x1 x2=true:=by
 cases z with
 |Attribute x0 x1 x2=>exact⟨x0,x1,x2,rfl,h⟩
 |_=>exact no_tt h
noncomputable def wE_DictComp (z:Expr) (f:Expr->Expr->List Comprehension->Scope->Pos->Bool):Bool:=match z with
 | .DictComp x0 x1 x2 x3 x4=>f x0 x1 x2 x3 x4
 |_=>false
theorem wE_DictComp_of {z f} (h:wE_DictComp z f=true):∃x0 x1 x2 x3 x4,z=.DictComp x0 x1 x2 x3 x4/\f x0 x1 x2 x3 x4=true:=by
 cases z with
 |DictComp x0 x1 x2 x3 x4=>exact⟨x0,x1,x2,x3,x4,rfl,h⟩
 |_=>exact no_tt h
noncomputable def wE_ListComp (z:Expr) (f:Expr->List Comprehension->Scope->Pos->Bool):Bool:=match z with
 | .ListComp x0 x1 x2 x3=>f x0 x1 x2 x3
 |_=>false
theorem wE_ListComp_of {z f} (h:wE_ListComp z f=true):∃x0 x1 x2 x3,z=.ListComp x0 x1 x2 x3/\f x0 x1 x2 x3=true:=by
 cases z with
 |ListComp x0 x1 x2 x3=>exact⟨x0,x1,x2,x3,rfl,h⟩
 |_=>exact no_tt h
noncomputable def wS_Expr (z:Stmt) (f:Expr->Pos->Bool):Bool:=match z with
 | .Expr x0 x1=>f x0 x1
 |_=>false
theorem wS_Expr_of {z f} (h:wS_Expr z f=true):∃x0 x1,z=.Expr x0 x1/\f x0 x1=true:=by
 cases z with
 |Expr x0 x1=>exact⟨x0,x1,rfl,h⟩
 |_=>exact no_tt h
noncomputable def wS_Return (z:Stmt) (f:Option Expr->Pos->Bool):Bool:=match z with
 | .Return x0 x1=>f x0 x1
 |_=>false
theorem wS_Return_of {z f} (h:wS_Return z f=true):∃x0 x1,z=.Return x0 x1/\f x0 x1=true:=by
 cases z with
 |Return x0 x1=>exact⟨x0,x1,rfl,h⟩
 |_=>exact no_tt h
noncomputable def wS_Assign (z:Stmt) (f:List Expr->Expr->Pos->Bool):Bool:=match z with
 | .Assign x0 x1 x2=>f x0 x1 x2
 |_=>false
theorem wS_Assign_of {z f} (h:wS_Assign z f=true):∃x0 x1 x2,z=.Assign x0 x1 x2/\f x0 x1 x2=true:=by
 cases z with
 |Assign x0 x1 x2=>exact⟨x0,x1,x2,rfl,h⟩
 |_=>exact no_tt h
noncomputable def wE_SetComp (z:Expr) (f:Expr->List Comprehension->Scope->Pos->Bool):Bool:=match z with
 | .SetComp x0 x1 x2 x3=>f x0 x1 x2 x3
 |_=>false
theorem wE_SetComp_of {z f} (h:wE_SetComp z f=true):∃x0 x1 x2 x3,z=.SetComp x0 x1 x2 x3/\f x0 x1 x2 x3=true:=by
 cases z with
 |SetComp x0 x1 x2 x3=>exact⟨x0,x1,x2,x3,rfl,h⟩
 |_=>exact no_tt h
noncomputable def wS_Raise (z:Stmt) (f:Option Expr->Option Expr->Pos->Bool):Bool:=match z with
 | .Raise x0 x1 x2=>f x0 x1 x2
 |_=>false
theorem wS_Raise_of {z f} (h:wS_Raise z f=true):∃x0 x1 x2,z=.Raise x0 x1 x2/\f x0 x1 x2=true:=by
 cases z with
 |Raise x0 x1 x2=>exact⟨x0,x1,x2,rfl,h⟩
 |_=>exact no_tt h
noncomputable def wS_Try (z:Stmt) (f:List Stmt->List ExceptHandler->List Stmt->List Stmt->Pos->Bool):Bool:=match z with
 | .Try x0 x1 x2 x3 x4=>f x0 x1 x2 x3 x4
 |_=>false
theorem wS_Try_of {z f} (h:wS_Try z f=true):∃x0 x1 x2 x3 x4,z=.Try x0 x1 x2 x3 x4/\f x0 x1 x2 x3 x4=true:=by
 cases z with
 |Try x0 x1 x2 x3 x4=>exact⟨x0,x1,x2,x3,x4,rfl,h⟩
 |_=>exact no_tt h
noncomputable def wE_ExceptHandler (z:ExceptHandler) (f:Option Expr->Option Str->List Stmt->Pos->Bool):Bool:=match z with
 | .ExceptHandler x0 x1 x2 x3=>f x0 x1 x2 x3
theorem wE_ExceptHandler_of {z f} (h:wE_ExceptHandler z f=true):∃x0 x1 x2 x3,z=.ExceptHandler x0 x1 x2 x3/\f x0 x1 x2 x3=true:=by
 cases z with
 |ExceptHandler x0 x1 x2 x3=>exact⟨x0,x1,x2,x3,rfl,h⟩
noncomputable def wS_AugAssign (z:Stmt) (f:Expr->Operator->Expr->Pos->Bool):Bool:=match z with
 | .AugAssign x0 x1 x2 x3=>f x0 x1 x2 x3
 |_=>false
theorem wS_AugAssign_of {z f} (h:wS_AugAssign z f=true):∃x0 x1 x2 x3,z=.AugAssign x0 x1 x2 x3/\f x0 x1 x2 x3=true:=by
 cases z with
 |AugAssign x0 x1 x2 x3=>exact⟨x0,x1,x2,x3,rfl,h⟩
 |_=>exact no_tt h
noncomputable def wS_If (z:Stmt) (f:Expr->List Stmt->List Stmt->Pos->Bool):Bool:=match z with
 | .If x0 x1 x2 x3=>f x0 x1 x2 x3
 |_=>false
theorem wS_If_of {z f} (h:wS_If z f=true):∃x0 x1 x2 x3,z=.If x0 x1 x2 x3/\f x0 x1 x2 x3=true:=by
 cases z with
 |If x0 x1 x2 x3=>exact⟨x0,x1,x2,x3,rfl,h⟩
 |_=>exact no_tt h
noncomputable def wS_While (z:Stmt) (f:Expr->List Stmt->List Stmt->Pos->Bool):Bool:=match z with
 | .While x0 x1 x2 x3=>f x0 x1 x2 x3
 |_=>false
theorem wS_While_of {z f} (h:wS_While z f=true):∃x0 x1 x2 x3,z=.While x0 x1 x2 x3/\f x0 x1 x2 x3=true:=by
 cases z with
 |While x0 x1 x2 x3=>exact⟨x0,x1,x2,x3,rfl,h⟩
 |_=>exact no_tt h
noncomputable def wS_For (z:Stmt) (f:Expr->Expr->List Stmt->List Stmt->Pos->Bool):Bool:=match z with
 | .For x0 x1 x2 x3 x4=>f x0 x1 x2 x3 x4
 |_=>false
theorem wS_For_of {z f} (h:wS_For z f=true):∃x0 x1 x2 x3 x4,z=.For x0 x1 x2 x3 x4/\f x0 x1 x2 x3 x4=true:=by
 cases z with
 |For x0 x1 x2 x3 x4=>exact⟨x0,x1,x2,x3,x4,rfl,h⟩
 |_=>exact no_tt h
noncomputable def v1 (zz:Expr) (f:Str->Bool):Bool:=wE_Name zz fun y1 y2=>f y1
theorem v1_k {zz f} {P:Prop} (h:v1 zz f=true) (k:∀x w1,zz=.Name x w1->f x=true->P):P:=by
 obtain⟨y1,y2,e0,h⟩:=wE_Name_of h
 exact k y1 y2 (by rw[e0]) h
noncomputable def v2 (zz:Expr) (f:Int->Bool):Bool:=wE_Constant zz fun y1 y2 y3=>wC_int y1 fun y4=>f y4
theorem v2_k {zz f} {P:Prop} (h:v2 zz f=true) (k:∀m w1 w2,zz=.Constant (.int m) w1 w2->f m=true->P):P:=by
 obtain⟨y1,y2,y3,e0,h⟩:=wE_Constant_of h
 obtain⟨y4,e1,h⟩:=wC_int_of h
 exact k y4 y2 y3 (by rw[e0,e1]) h
noncomputable def v3 (zz:Expr) (f:Bool->Bool):Bool:=wE_Constant zz fun y1 y2 y3=>wC_bool y1 fun y4=>f y4
theorem v3_k {zz f} {P:Prop} (h:v3 zz f=true) (k:∀c w1 w2,zz=.Constant (.bool c) w1 w2->f c=true->P):P:=by
 obtain⟨y1,y2,y3,e0,h⟩:=wE_Constant_of h
 obtain⟨y4,e1,h⟩:=wC_bool_of h
 exact k y4 y2 y3 (by rw[e0,e1]) h
noncomputable def v4 (zz:Expr) (f:Bool):Bool:=wE_Constant zz fun y1 y2 y3=>wC_none y1 (f)
theorem v4_k {zz f} {P:Prop} (h:v4 zz f=true) (k:∀w1 w2,zz=.Constant .none w1 w2->f=true->P):P:=by
 obtain⟨y1,y2,y3,e0,h⟩:=wE_Constant_of h
 obtain⟨e1,h⟩:=wC_none_of h
 exact k y2 y3 (by rw[e0,e1]) h
noncomputable def v5 (zz:Expr) (f:Str->Bool):Bool:=wE_Constant zz fun y1 y2 y3=>wC_str y1 fun y4=>f y4
theorem v5_k {zz f} {P:Prop} (h:v5 zz f=true) (k:∀y w1 w2,zz=.Constant (.str y) w1 w2->f y=true->P):P:=by
 obtain⟨y1,y2,y3,e0,h⟩:=wE_Constant_of h
 obtain⟨y4,e1,h⟩:=wC_str_of h
 exact k y4 y2 y3 (by rw[e0,e1]) h
noncomputable def v6 (zz:Expr) (f:Expr->Operator->Expr->Bool):Bool:=wE_BinOp zz fun y1 y2 y3 y4=>f y1 y2 y3
theorem v6_k {zz f} {P:Prop} (h:v6 zz f=true) (k:∀ea op' eb w1,zz=.BinOp ea op' eb w1->f ea op' eb=true->P):P:=by
 obtain⟨y1,y2,y3,y4,e0,h⟩:=wE_BinOp_of h
 exact k y1 y2 y3 y4 (by rw[e0]) h
noncomputable def v7 (zz:Expr) (f:Expr->Bool):Bool:=wE_UnaryOp zz fun y1 y2 y3=>wU_USub y1 (f y2)
theorem v7_k {zz f} {P:Prop} (h:v7 zz f=true) (k:∀ea w1,zz=.UnaryOp .USub ea w1->f ea=true->P):P:=by
 obtain⟨y1,y2,y3,e0,h⟩:=wE_UnaryOp_of h
 obtain⟨e1,h⟩:=wU_USub_of h
 exact k y2 y3 (by rw[e0,e1]) h
noncomputable def v8 (zz:Expr) (f:Expr->Bool):Bool:=wE_UnaryOp zz fun y1 y2 y3=>wU_Not y1 (f y2)
theorem v8_k {zz f} {P:Prop} (h:v8 zz f=true) (k:∀ea w1,zz=.UnaryOp .Not ea w1->f ea=true->P):P:=by
 obtain⟨y1,y2,y3,e0,h⟩:=wE_UnaryOp_of h
 obtain⟨e1,h⟩:=wU_Not_of h
 exact k y2 y3 (by rw[e0,e1]) h
noncomputable def v9 (zz:Expr) (f:Expr->CmpOp->Expr->Bool):Bool:=wE_Compare zz fun y1 y2 y3 y4=>w_cons y2 fun y5 y6=>w_nil y6 (w_cons y3 fun y7 y8=>w_nil y8 (f y1 y5 y7))
theorem v9_k {zz f} {P:Prop} (h:v9 zz f=true) (k:∀ea op' eb w1,zz=.Compare ea (op' :: []) (eb :: []) w1->f ea op' eb=true->P):P:=by
 obtain⟨y1,y2,y3,y4,e0,h⟩:=wE_Compare_of h
 obtain⟨y5,y6,e1,h⟩:=w_cons_of h
 obtain⟨e2,h⟩:=w_nil_of h
 obtain⟨y7,y8,e3,h⟩:=w_cons_of h
 obtain⟨e4,h⟩:=w_nil_of h
 exact k y1 y5 y7 y4 (by rw[e0,e1,e2,e3,e4]) h
noncomputable def v10 (zz:Expr) (f:Expr->CmpOp->CmpOp->Expr->Expr->Bool):Bool:=wE_Compare zz fun y1 y2 y3 y4=>w_cons y2 fun y5 y6=>w_cons y6 fun y7 y8=>w_nil y8 (w_cons y3 fun y9 y10=>w_cons y10 fun y11 y12=>w_nil y12 (f y1 y5 y7 y9 y11))
theorem v10_k {zz f} {P:Prop} (h:v10 zz f=true) (k:∀ea o1 o2 eb ec w1,zz=.Compare ea (o1 :: (o2 :: [])) (eb :: (ec :: [])) w1->f ea o1 o2 eb ec=true->P):P:=by
 obtain⟨y1,y2,y3,y4,e0,h⟩:=wE_Compare_of h
 obtain⟨y5,y6,e1,h⟩:=w_cons_of h
 obtain⟨y7,y8,e2,h⟩:=w_cons_of h
 obtain⟨e3,h⟩:=w_nil_of h
 obtain⟨y9,y10,e4,h⟩:=w_cons_of h
 obtain⟨y11,y12,e5,h⟩:=w_cons_of h
 obtain⟨e6,h⟩:=w_nil_of h
 exact k y1 y5 y7 y9 y11 y4 (by rw[e0,e1,e2,e3,e4,e5,e6]) h
noncomputable def v11 (zz:Expr) (f:Expr->Expr->Expr->Bool):Bool:=wE_IfExp zz fun y1 y2 y3 y4=>f y1 y2 y3
theorem v11_k {zz f} {P:Prop} (h:v11 zz f=true) (k:∀eq ea eb w1,zz=.IfExp eq ea eb w1->f eq ea eb=true->P):P:=by
 obtain⟨y1,y2,y3,y4,e0,h⟩:=wE_IfExp_of h
 exact k y1 y2 y3 y4 (by rw[e0]) h
noncomputable def v12 (zz:Expr) (f:List Expr->Bool):Bool:=wE_Tuple zz fun y1 y2 y3=>f y1
theorem v12_k {zz f} {P:Prop} (h:v12 zz f=true) (k:∀xs w1 w2,zz=.Tuple xs w1 w2->f xs=true->P):P:=by
 obtain⟨y1,y2,y3,e0,h⟩:=wE_Tuple_of h
 exact k y1 y2 y3 (by rw[e0]) h
noncomputable def v13 (zz:Expr) (f:List Expr->Bool):Bool:=wE_List zz fun y1 y2=>f y1
theorem v13_k {zz f} {P:Prop} (h:v13 zz f=true) (k:∀xs w1,zz=.List xs w1->f xs=true->P):P:=by
 obtain⟨y1,y2,e0,h⟩:=wE_List_of h
 exact k y1 y2 (by rw[e0]) h
noncomputable def v14 (zz:Expr) (f:Expr->Expr->Bool):Bool:=wE_Subscript zz fun y1 y2 y3=>f y1 y2
theorem v14_k {zz f} {P:Prop} (h:v14 zz f=true) (k:∀ea eb w1,zz=.Subscript ea eb w1->f ea eb=true->P):P:=by
 obtain⟨y1,y2,y3,e0,h⟩:=wE_Subscript_of h
 exact k y1 y2 y3 (by rw[e0]) h
noncomputable def v15 (zz:Expr) (f:Expr->Option Expr->Option Expr->Bool):Bool:=wE_Subscript zz fun y1 y2 y3=>wE_Slice y2 fun y4 y5 y6 y7=>w_none y6 (f y1 y4 y5)
theorem v15_k {zz f} {P:Prop} (h:v15 zz f=true) (k:∀ea l h w1 w2,zz=.Subscript ea (.Slice l h none w1) w2->f ea l h=true->P):P:=by
 obtain⟨y1,y2,y3,e0,h⟩:=wE_Subscript_of h
 obtain⟨y4,y5,y6,y7,e1,h⟩:=wE_Slice_of h
 obtain⟨e2,h⟩:=w_none_of h
 exact k y1 y4 y5 y7 y3 (by rw[e0,e1,e2]) h
noncomputable def v16 (zz:Expr) (f:Str->Expr->List Expr->Bool):Bool:=wE_Call zz fun y1 y2 y3 y4=>wE_Name y1 fun y5 y6=>w_cons y2 fun y7 y8=>w_nil y3 (f y5 y7 y8)
theorem v16_k {zz f} {P:Prop} (h:v16 zz f=true) (k:∀x w1 e r w2,zz=.Call (.Name x w1) (e :: r) [] w2->f x e r=true->P):P:=by
 obtain⟨y1,y2,y3,y4,e0,h⟩:=wE_Call_of h
 obtain⟨y5,y6,e1,h⟩:=wE_Name_of h
 obtain⟨y7,y8,e2,h⟩:=w_cons_of h
 obtain⟨e3,h⟩:=w_nil_of h
 exact k y5 y6 y7 y8 y4 (by rw[e0,e1,e2,e3]) h
noncomputable def v17 (zz:Expr) (f:Expr->Str->Pos->List Expr->Pos->Bool):Bool:=wE_Call zz fun y1 y2 y3 y4=>wE_Attribute y1 fun y5 y6 y7=>w_nil y3 (f y5 y6 y7 y2 y4)
theorem v17_k {zz f} {P:Prop} (h:v17 zz f=true) (k:∀eo nm apos args pos,zz=.Call (.Attribute eo nm apos) args [] pos->f eo nm apos args pos=true->P):P:=by
 obtain⟨y1,y2,y3,y4,e0,h⟩:=wE_Call_of h
 obtain⟨y5,y6,y7,e1,h⟩:=wE_Attribute_of h
 obtain⟨e2,h⟩:=w_nil_of h
 exact k y5 y6 y7 y2 y4 (by rw[e0,e1,e2]) h
noncomputable def v20 (zz:Expr) (f:Expr->Str->Pos->Expr->Pos->Bool):Bool:=wE_Call zz fun y1 y2 y3 y4=>wE_Attribute y1 fun y5 y6 y7=>w_cons y2 fun y8 y9=>w_nil y9 (w_nil y3 (f y5 y6 y7 y8 y4))
theorem v20_k {zz f} {P:Prop} (h:v20 zz f=true) (k:∀eo nm apos y pos,zz=.Call (.Attribute eo nm apos) (y :: []) [] pos->f eo nm apos y pos=true->P):P:=by
 obtain⟨y1,y2,y3,y4,e0,h⟩:=wE_Call_of h
 obtain⟨y5,y6,y7,e1,h⟩:=wE_Attribute_of h
 obtain⟨y8,y9,e2,h⟩:=w_cons_of h
 obtain⟨e3,h⟩:=w_nil_of h
 obtain⟨e4,h⟩:=w_nil_of h
 exact k y5 y6 y7 y8 y4 (by rw[e0,e1,e2,e3,e4]) h
noncomputable def v70 (zz:Expr) (f:Str->Expr->Expr->Expr->List Expr->Int->Scope->Bool):Bool:=wE_Call zz fun y1 y2 y3 y4=>wE_Name y1 fun y5 y6=>w_cons y2 fun y7 y8=>w_nil y8 (w_nil y3 (wE_SetComp y7 fun y9 y10 y11 y12=>w_cons y10 fun y13 y14=>w_gen y13 fun y15 y16 y17 y18=>w_nil y14 (f y5 y9 y15 y16 y17 y18 y11)))
theorem v70_k {zz f} {P:Prop} (h:v70 zz f=true) (k:∀n1 w1 ee tg iter ifs a scope w2 w3,zz=.Call (.Name n1 w1) ((.SetComp ee (⟨tg,iter,ifs,a⟩ :: []) scope w2) :: []) [] w3->f n1 ee tg iter ifs a scope=true->P):P:=by
 obtain⟨y1,y2,y3,y4,e0,h⟩:=wE_Call_of h
 obtain⟨y5,y6,e1,h⟩:=wE_Name_of h
 obtain⟨y7,y8,e2,h⟩:=w_cons_of h
 obtain⟨e3,h⟩:=w_nil_of h
 obtain⟨e4,h⟩:=w_nil_of h
 obtain⟨y9,y10,y11,y12,e5,h⟩:=wE_SetComp_of h
 obtain⟨y13,y14,e6,h⟩:=w_cons_of h
 obtain⟨y15,y16,y17,y18,e7,h⟩:=w_gen_of h
 obtain⟨e8,h⟩:=w_nil_of h
 exact k y5 y6 y9 y15 y16 y17 y18 y11 y12 y4 (by rw[e0,e1,e2,e3,e4,e5,e6,e7,e8]) h
noncomputable def v23 (zz:Expr) (f:Str->Expr->Bool):Bool:=wE_Call zz fun y1 y2 y3 y4=>wE_Name y1 fun y5 y6=>w_cons y2 fun y7 y8=>w_nil y8 (w_nil y3 (f y5 y7))
theorem v23_k {zz f} {P:Prop} (h:v23 zz f=true) (k:∀x w1 y w2,zz=.Call (.Name x w1) (y :: []) [] w2->f x y=true->P):P:=by
 obtain⟨y1,y2,y3,y4,e0,h⟩:=wE_Call_of h
 obtain⟨y5,y6,e1,h⟩:=wE_Name_of h
 obtain⟨y7,y8,e2,h⟩:=w_cons_of h
 obtain⟨e3,h⟩:=w_nil_of h
 obtain⟨e4,h⟩:=w_nil_of h
 exact k y5 y6 y7 y4 (by rw[e0,e1,e2,e3,e4]) h
noncomputable def v26 (zz:Expr) (f:Expr->Expr->Expr->List Expr->Int->Scope->Bool):Bool:=wE_ListComp zz fun y1 y2 y3 y4=>w_cons y2 fun y5 y6=>w_gen y5 fun y7 y8 y9 y10=>w_nil y6 (f y1 y7 y8 y9 y10 y3)
theorem v26_k {zz f} {P:Prop} (h:v26 zz f=true) (k:∀ee tg iter ifs a scope w1,zz=.ListComp ee (⟨tg,iter,ifs,a⟩ :: []) scope w1->f ee tg iter ifs a scope=true->P):P:=by
 obtain⟨y1,y2,y3,y4,e0,h⟩:=wE_ListComp_of h
 obtain⟨y5,y6,e1,h⟩:=w_cons_of h
 obtain⟨y7,y8,y9,y10,e2,h⟩:=w_gen_of h
 obtain⟨e3,h⟩:=w_nil_of h
 exact k y1 y7 y8 y9 y10 y3 y4 (by rw[e0,e1,e2,e3]) h
noncomputable def v27 (zz:Expr) (f:Expr->Expr->Expr->List Expr->Int->Expr->Expr->List Expr->Int->Scope->Bool):Bool:=wE_ListComp zz fun y1 y2 y3 y4=>w_cons y2 fun y5 y6=>w_gen y5 fun y7 y8 y9 y10=>w_cons y6 fun y11 y12=>w_gen y11 fun y13 y14 y15 y16=>w_nil y12 (f y1 y7 y8 y9 y10 y13 y14 y15 y16 y3)
theorem v27_k {zz f} {P:Prop} (h:v27 zz f=true) (k:∀ee tg iter ifs a tg2 iter2 ifs2 a2 scope w1,zz=.ListComp ee (⟨tg,iter,ifs,a⟩ :: (⟨tg2,iter2,ifs2,a2⟩ :: [])) scope w1->f ee tg iter ifs a tg2 iter2 ifs2 a2 scope=true->P):P:=by
 obtain⟨y1,y2,y3,y4,e0,h⟩:=wE_ListComp_of h
 obtain⟨y5,y6,e1,h⟩:=w_cons_of h
 obtain⟨y7,y8,y9,y10,e2,h⟩:=w_gen_of h
 obtain⟨y11,y12,e3,h⟩:=w_cons_of h
 obtain⟨y13,y14,y15,y16,e4,h⟩:=w_gen_of h
 obtain⟨e5,h⟩:=w_nil_of h
 exact k y1 y7 y8 y9 y10 y13 y14 y15 y16 y3 y4 (by rw[e0,e1,e2,e3,e4,e5]) h
noncomputable def v28 (zz:Expr) (f:Expr->Expr->Expr->List Expr->Int->Expr->Expr->List Expr->Int->Expr->Expr->List Expr->Int->Scope->Bool):Bool:=wE_ListComp zz fun y1 y2 y3 y4=>w_cons y2 fun y5 y6=>w_gen y5 fun y7 y8 y9 y10=>w_cons y6 fun y11 y12=>w_gen y11 fun y13 y14 y15 y16=>w_cons y12 fun y17 y18=>w_gen y17 fun y19 y20 y21 y22=>w_nil y18 (f y1 y7 y8 y9 y10 y13 y14 y15 y16 y19 y20 y21 y22 y3)
theorem v28_k {zz f} {P:Prop} (h:v28 zz f=true) (k:∀ee tg iter ifs a tg2 iter2 ifs2 a2 tg3 iter3 ifs3 a3 scope w1,zz=.ListComp ee (⟨tg,iter,ifs,a⟩ :: (⟨tg2,iter2,ifs2,a2⟩ :: (⟨tg3,iter3,ifs3,a3⟩ :: []))) scope w1->f ee tg iter ifs a tg2 iter2 ifs2 a2 tg3 iter3 ifs3 a3 scope=true->P):P:=by
 obtain⟨y1,y2,y3,y4,e0,h⟩:=wE_ListComp_of h
 obtain⟨y5,y6,e1,h⟩:=w_cons_of h
 obtain⟨y7,y8,y9,y10,e2,h⟩:=w_gen_of h
 obtain⟨y11,y12,e3,h⟩:=w_cons_of h
 obtain⟨y13,y14,y15,y16,e4,h⟩:=w_gen_of h
 obtain⟨y17,y18,e5,h⟩:=w_cons_of h
 obtain⟨y19,y20,y21,y22,e6,h⟩:=w_gen_of h
 obtain⟨e7,h⟩:=w_nil_of h
 exact k y1 y7 y8 y9 y10 y13 y14 y15 y16 y19 y20 y21 y22 y3 y4 (by rw[e0,e1,e2,e3,e4,e5,e6,e7]) h
noncomputable def v29 (zz:List Expr) (f:Bool):Bool:=w_nil zz (f)
theorem v29_k {zz f} {P:Prop} (h:v29 zz f=true) (k:zz=[]->f=true->P):P:=by
 obtain⟨e0,h⟩:=w_nil_of h
 exact k (by rw[e0]) h
noncomputable def v30 (zz:List Expr) (f:Expr->List Expr->Bool):Bool:=w_cons zz fun y1 y2=>f y1 y2
theorem v30_k {zz f} {P:Prop} (h:v30 zz f=true) (k:∀x xs,zz=(x :: xs)->f x xs=true->P):P:=by
 obtain⟨y1,y2,e0,h⟩:=w_cons_of h
 exact k y1 y2 (by rw[e0]) h
noncomputable def v31 (zz:List Expr) (f:Expr->Bool):Bool:=w_cons zz fun y1 y2=>w_nil y2 (f y1)
theorem v31_k {zz f} {P:Prop} (h:v31 zz f=true) (k:∀e,zz=(e :: [])->f e=true->P):P:=by
 obtain⟨y1,y2,e0,h⟩:=w_cons_of h
 obtain⟨e1,h⟩:=w_nil_of h
 exact k y1 (by rw[e0,e1]) h
noncomputable def v32 (zz:Option Expr) (f:Bool):Bool:=w_none zz (f)
theorem v32_k {zz f} {P:Prop} (h:v32 zz f=true) (k:zz=none->f=true->P):P:=by
 obtain⟨e0,h⟩:=w_none_of h
 exact k (by rw[e0]) h
noncomputable def v33 (zz:Option Expr) (f:Expr->Bool):Bool:=w_some zz fun y1=>f y1
theorem v33_k {zz f} {P:Prop} (h:v33 zz f=true) (k:∀y,zz=(some y)->f y=true->P):P:=by
 obtain⟨y1,e0,h⟩:=w_some_of h
 exact k y1 (by rw[e0]) h
noncomputable def v34 (zz:Expr) (f:Str->Expr->Expr->Bool):Bool:=wE_Call zz fun y1 y2 y3 y4=>wE_Name y1 fun y5 y6=>w_cons y2 fun y7 y8=>w_cons y8 fun y9 y10=>w_nil y10 (w_nil y3 (f y5 y7 y9))
theorem v34_k {zz f} {P:Prop} (h:v34 zz f=true) (k:∀n w1 y z w2,zz=.Call (.Name n w1) (y :: (z :: [])) [] w2->f n y z=true->P):P:=by
 obtain⟨y1,y2,y3,y4,e0,h⟩:=wE_Call_of h
 obtain⟨y5,y6,e1,h⟩:=wE_Name_of h
 obtain⟨y7,y8,e2,h⟩:=w_cons_of h
 obtain⟨y9,y10,e3,h⟩:=w_cons_of h
 obtain⟨e4,h⟩:=w_nil_of h
 obtain⟨e5,h⟩:=w_nil_of h
 exact k y5 y6 y7 y9 y4 (by rw[e0,e1,e2,e3,e4,e5]) h
noncomputable def v35 (zz:Expr) (f:Str->Expr->Expr->Expr->Bool):Bool:=wE_Call zz fun y1 y2 y3 y4=>wE_Name y1 fun y5 y6=>w_cons y2 fun y7 y8=>w_cons y8 fun y9 y10=>w_cons y10 fun y11 y12=>w_nil y12 (w_nil y3 (f y5 y7 y9 y11))
theorem v35_k {zz f} {P:Prop} (h:v35 zz f=true) (k:∀n w1 y z u w2,zz=.Call (.Name n w1) (y :: (z :: (u :: []))) [] w2->f n y z u=true->P):P:=by
 obtain⟨y1,y2,y3,y4,e0,h⟩:=wE_Call_of h
 obtain⟨y5,y6,e1,h⟩:=wE_Name_of h
 obtain⟨y7,y8,e2,h⟩:=w_cons_of h
 obtain⟨y9,y10,e3,h⟩:=w_cons_of h
 obtain⟨y11,y12,e4,h⟩:=w_cons_of h
 obtain⟨e5,h⟩:=w_nil_of h
 obtain⟨e6,h⟩:=w_nil_of h
 exact k y5 y6 y7 y9 y11 y4 (by rw[e0,e1,e2,e3,e4,e5,e6]) h
noncomputable def v36 (zz:Stmt) (f:Expr->Bool):Bool:=wS_Expr zz fun y1 y2=>f y1
theorem v36_k {zz f} {P:Prop} (h:v36 zz f=true) (k:∀x w1,zz=.Expr x w1->f x=true->P):P:=by
 obtain⟨y1,y2,e0,h⟩:=wS_Expr_of h
 exact k y1 y2 (by rw[e0]) h
noncomputable def v37 (zz:Stmt) (f:Expr->Bool):Bool:=wS_Return zz fun y1 y2=>w_some y1 fun y3=>f y3
theorem v37_k {zz f} {P:Prop} (h:v37 zz f=true) (k:∀x w1,zz=.Return (some x) w1->f x=true->P):P:=by
 obtain⟨y1,y2,e0,h⟩:=wS_Return_of h
 obtain⟨y3,e1,h⟩:=w_some_of h
 exact k y3 y2 (by rw[e0,e1]) h
noncomputable def v39 (zz:Stmt) (f:Expr->Expr->Bool):Bool:=wS_Assign zz fun y1 y2 y3=>w_cons y1 fun y4 y5=>w_nil y5 (f y4 y2)
theorem v39_k {zz f} {P:Prop} (h:v39 zz f=true) (k:∀tg x w1,zz=.Assign (tg :: []) x w1->f tg x=true->P):P:=by
 obtain⟨y1,y2,y3,e0,h⟩:=wS_Assign_of h
 obtain⟨y4,y5,e1,h⟩:=w_cons_of h
 obtain⟨e2,h⟩:=w_nil_of h
 exact k y4 y2 y3 (by rw[e0,e1,e2]) h
noncomputable def v41 (zz:Stmt) (f:Str->Pos->Expr->Expr->Expr->List Expr->Int->Expr->Expr->List Expr->Int->Scope->Bool):Bool:=wS_Assign zz fun y1 y2 y3=>w_cons y1 fun y4 y5=>wE_Name y4 fun y6 y7=>w_nil y5 (wE_SetComp y2 fun y8 y9 y10 y11=>w_cons y9 fun y12 y13=>w_gen y12 fun y14 y15 y16 y17=>w_cons y13 fun y18 y19=>w_gen y18 fun y20 y21 y22 y23=>w_nil y19 (f y6 y7 y8 y14 y15 y16 y17 y20 y21 y22 y23 y10))
theorem v41_k {zz f} {P:Prop} (h:v41 zz f=true) (k:∀y py ee tg iter ifs a tg2 iter2 ifs2 a2 scope w1 w2,zz=.Assign ((.Name y py) :: []) (.SetComp ee (⟨tg,iter,ifs,a⟩ :: (⟨tg2,iter2,ifs2,a2⟩ :: [])) scope w1) w2->f y py ee tg iter ifs a tg2 iter2 ifs2 a2 scope=true->P):P:=by
 obtain⟨y1,y2,y3,e0,h⟩:=wS_Assign_of h
 obtain⟨y4,y5,e1,h⟩:=w_cons_of h
 obtain⟨y6,y7,e2,h⟩:=wE_Name_of h
 obtain⟨e3,h⟩:=w_nil_of h
 obtain⟨y8,y9,y10,y11,e4,h⟩:=wE_SetComp_of h
 obtain⟨y12,y13,e5,h⟩:=w_cons_of h
 obtain⟨y14,y15,y16,y17,e6,h⟩:=w_gen_of h
 obtain⟨y18,y19,e7,h⟩:=w_cons_of h
 obtain⟨y20,y21,y22,y23,e8,h⟩:=w_gen_of h
 obtain⟨e9,h⟩:=w_nil_of h
 exact k y6 y7 y8 y14 y15 y16 y17 y20 y21 y22 y23 y10 y11 y3 (by rw[e0,e1,e2,e3,e4,e5,e6,e7,e8,e9]) h
noncomputable def v42 (zz:Stmt) (f:Str->Pos->Expr->Expr->Expr->Expr->List Expr->Int->Scope->Bool):Bool:=wS_Assign zz fun y1 y2 y3=>w_cons y1 fun y4 y5=>wE_Name y4 fun y6 y7=>w_nil y5 (wE_DictComp y2 fun y8 y9 y10 y11 y12=>w_cons y10 fun y13 y14=>w_gen y13 fun y15 y16 y17 y18=>w_nil y14 (f y6 y7 y8 y9 y15 y16 y17 y18 y11))
theorem v42_k {zz f} {P:Prop} (h:v42 zz f=true) (k:∀y py ke ve tg iter ifs a scope w1 w2,zz=.Assign ((.Name y py) :: []) (.DictComp ke ve (⟨tg,iter,ifs,a⟩ :: []) scope w1) w2->f y py ke ve tg iter ifs a scope=true->P):P:=by
 obtain⟨y1,y2,y3,e0,h⟩:=wS_Assign_of h
 obtain⟨y4,y5,e1,h⟩:=w_cons_of h
 obtain⟨y6,y7,e2,h⟩:=wE_Name_of h
 obtain⟨e3,h⟩:=w_nil_of h
 obtain⟨y8,y9,y10,y11,y12,e4,h⟩:=wE_DictComp_of h
 obtain⟨y13,y14,e5,h⟩:=w_cons_of h
 obtain⟨y15,y16,y17,y18,e6,h⟩:=w_gen_of h
 obtain⟨e7,h⟩:=w_nil_of h
 exact k y6 y7 y8 y9 y15 y16 y17 y18 y11 y12 y3 (by rw[e0,e1,e2,e3,e4,e5,e6,e7]) h
noncomputable def v45 (zz:Stmt) (f:Str->Bool):Bool:=wS_Raise zz fun y1 y2 y3=>w_some y1 fun y4=>wE_Call y4 fun y5 y6 y7 y8=>wE_Name y5 fun y9 y10=>w_cons y6 fun y11 y12=>wE_Constant y11 fun y13 y14 y15=>wC_str y13 fun y16=>w_nil y12 (w_nil y7 (w_none y2 (f y9)))
theorem v45_k {zz f} {P:Prop} (h:v45 zz f=true) (k:∀x w1 w2 w3 w4 w5 w6,zz=.Raise (some (.Call (.Name x w1) ((.Constant (.str w2) w3 w4) :: []) [] w5)) none w6->f x=true->P):P:=by
 obtain⟨y1,y2,y3,e0,h⟩:=wS_Raise_of h
 obtain⟨y4,e1,h⟩:=w_some_of h
 obtain⟨y5,y6,y7,y8,e2,h⟩:=wE_Call_of h
 obtain⟨y9,y10,e3,h⟩:=wE_Name_of h
 obtain⟨y11,y12,e4,h⟩:=w_cons_of h
 obtain⟨y13,y14,y15,e5,h⟩:=wE_Constant_of h
 obtain⟨y16,e6,h⟩:=wC_str_of h
 obtain⟨e7,h⟩:=w_nil_of h
 obtain⟨e8,h⟩:=w_nil_of h
 obtain⟨e9,h⟩:=w_none_of h
 exact k y9 y10 y16 y14 y15 y8 y3 (by rw[e0,e1,e2,e3,e4,e5,e6,e7,e8,e9]) h
noncomputable def v59 (zz:Stmt) (f:List Stmt->Str->Stmt->List Stmt->Bool):Bool:=wS_Try zz fun y1 y2 y3 y4 y5=>w_cons y2 fun y6 y7=>wE_ExceptHandler y6 fun y8 y9 y10 y11=>w_some y8 fun y12=>wE_Name y12 fun y13 y14=>w_none y9 (w_cons y10 fun y16 y17=>w_nil y7 (w_nil y3 (w_nil y4 (f y1 y13 y16 y17))))
theorem v59_k {zz f} {P:Prop} (h:v59 zz f=true) (k:∀ss x w1 t ts w2 w3,zz=.Try ss ((.ExceptHandler (some (.Name x w1)) none (t :: ts) w2) :: []) [] [] w3->f ss x t ts=true->P):P:=by
 obtain⟨y1,y2,y3,y4,y5,e0,h⟩:=wS_Try_of h
 obtain⟨y6,y7,e1,h⟩:=w_cons_of h
 obtain⟨y8,y9,y10,y11,e2,h⟩:=wE_ExceptHandler_of h
 obtain⟨y12,e3,h⟩:=w_some_of h
 obtain⟨y13,y14,e4,h⟩:=wE_Name_of h
 obtain⟨e5,h⟩:=w_none_of h
 obtain⟨y16,y17,e6,h⟩:=w_cons_of h
 obtain⟨e7,h⟩:=w_nil_of h
 obtain⟨e8,h⟩:=w_nil_of h
 obtain⟨e9,h⟩:=w_nil_of h
 exact k y1 y13 y14 y16 y17 y11 y5 (by rw[e0,e1,e2,e3,e4,e5,e6,e7,e8,e9]) h
noncomputable def v49 (zz:Stmt) (f:Str->Operator->Expr->Bool):Bool:=wS_AugAssign zz fun y1 y2 y3 y4=>wE_Name y1 fun y5 y6=>f y5 y2 y3
theorem v49_k {zz f} {P:Prop} (h:v49 zz f=true) (k:∀x w1 op ee w2,zz=.AugAssign (.Name x w1) op ee w2->f x op ee=true->P):P:=by
 obtain⟨y1,y2,y3,y4,e0,h⟩:=wS_AugAssign_of h
 obtain⟨y5,y6,e1,h⟩:=wE_Name_of h
 exact k y5 y6 y2 y3 y4 (by rw[e0,e1]) h
noncomputable def v50 (zz:Stmt) (f:Expr->List Stmt->List Stmt->Bool):Bool:=wS_If zz fun y1 y2 y3 y4=>f y1 y2 y3
theorem v50_k {zz f} {P:Prop} (h:v50 zz f=true) (k:∀x ss rs w1,zz=.If x ss rs w1->f x ss rs=true->P):P:=by
 obtain⟨y1,y2,y3,y4,e0,h⟩:=wS_If_of h
 exact k y1 y2 y3 y4 (by rw[e0]) h
noncomputable def v51 (zz:Stmt) (f:Expr->List Stmt->Bool):Bool:=wS_While zz fun y1 y2 y3 y4=>w_nil y3 (f y1 y2)
theorem v51_k {zz f} {P:Prop} (h:v51 zz f=true) (k:∀x ss w1,zz=.While x ss [] w1->f x ss=true->P):P:=by
 obtain⟨y1,y2,y3,y4,e0,h⟩:=wS_While_of h
 obtain⟨e1,h⟩:=w_nil_of h
 exact k y1 y2 y4 (by rw[e0,e1]) h
noncomputable def v52 (zz:Stmt) (f:Expr->Expr->List Stmt->Bool):Bool:=wS_For zz fun y1 y2 y3 y4 y5=>w_nil y4 (f y1 y2 y3)
theorem v52_k {zz f} {P:Prop} (h:v52 zz f=true) (k:∀tg iter ss w1,zz=.For tg iter ss [] w1->f tg iter ss=true->P):P:=by
 obtain⟨y1,y2,y3,y4,y5,e0,h⟩:=wS_For_of h
 obtain⟨e1,h⟩:=w_nil_of h
 exact k y1 y2 y3 y5 (by rw[e0,e1]) h
noncomputable def v56 (zz:List Stmt) (f:Bool):Bool:=w_nil zz (f)
theorem v56_k {zz f} {P:Prop} (h:v56 zz f=true) (k:zz=[]->f=true->P):P:=by
 obtain⟨e0,h⟩:=w_nil_of h
 exact k (by rw[e0]) h
noncomputable def v57 (zz:List Stmt) (f:Stmt->List Stmt->Bool):Bool:=w_cons zz fun y1 y2=>f y1 y2
theorem v57_k {zz f} {P:Prop} (h:v57 zz f=true) (k:∀x xs,zz=(x :: xs)->f x xs=true->P):P:=by
 obtain⟨y1,y2,e0,h⟩:=w_cons_of h
 exact k y1 y2 (by rw[e0]) h
mutual
noncomputable def mE (N B:List Str) (sc:Scope):Ce->Expr->Bool
 | .var i,e=>v1 e fun x=>nameOk N i x&&vis sc x
 | .int n,e=>v2 e fun m=>decide (n=m)
 | .bl b,e=>v3 e fun c=>decide (b=c)
 | .non,e=>v4 e (true)
 | .str x,e=>v5 e fun y=>decide (x=y)
 | .bin op a b,e=>v6 e fun ea op' eb=>decide (op=op')&&mE N B sc a ea&&mE N B sc b eb
 | .neg a,e=>v7 e fun ea=>mE N B sc a ea
 | .not a,e=>v8 e fun ea=>mE N B sc a ea
 | .and a b,e=>vAnd e fun x y=>mE N B sc a x&&mE N B sc b y
 | .or a b,e=>vOr e fun x y=>mE N B sc a x&&mE N B sc b y
 | .cmp op a b,e=>v9 e fun ea op' eb=>decide (op=op')&&mE N B sc a ea&&mE N B sc b eb&&okIter eb
 | .chn op1 op2 a b c,e=>v10 e fun ea o1 o2 eb ec=>decide (op1=o1)&&decide (op2=o2)&&mE N B sc a ea&&mE N B sc b eb&&mE N B sc c ec&&okIter ec
 | .ife q a b,e=>v11 e fun eq ea eb=>mQ N B sc q eq&&mE N B sc a ea&&mE N B sc b eb
 | .tup es,e=>v12 e fun xs=>mA N B sc es xs
 | .lst es,e=>v13 e fun xs=>mA N B sc es xs
 | .idx a b,e=>v14 e fun ea eb=>mE N B sc a ea&&mE N B sc b eb&&notSlice eb
 | .cut a lo hi,e=>v15 e fun ea l h=>mE N B sc a ea&&mO N B sc lo l&&mO N B sc hi h
 | .call f es,e=>v16 e fun x e r=>decide (x=f)&&glb sc x&&mA N B sc es (e :: r)&&!(x == ("__debug__":Str))&&!(hat B)&&!(tld B&&decide (bang x∈B))
 | .blt f es,e=>v16 e fun x e r=>decide (x=bltName f)&&glb sc x&&mA N B sc es (e :: r)&&decide (x∈B)&&(!(hat B) || decide (f=.isinstance))
 | .met m o es,e=>v17 e fun eo nm apos args pos=>decide (nm=metName m)&&mE N B sc o eo&&baseOk eo&&(apos.endLine == pos.line)&&mA N B sc es args&&decide (args.length<28)
 | .din neg a b,e=>v9 e fun ea op' eb=>decide (op'=if neg then .NotIn else .In)&&mE N B sc a ea&&mE N B sc b eb&&okIter eb
 | .dgt a b,e=>v20 e fun eo nm apos y pos=>decide (nm="get")&&mE N B sc a eo&&baseOk eo&&(apos.endLine == pos.line)&&mE N B sc b y&&notStar y
 | .ssc elt own t it q,e=>v70 e fun n1 ee tg iter ifs a scope=>decide (n1="sorted")&&glb sc n1&&decide (n1∈B)&&!(hat B)&&scOk N sc scope own&&mE N ("~" :: B) scope elt ee&&tOwn own t&&decide (a=0)&&mI N B sc it iter&&zipT it tg&&okIter iter&&mT N ("~" :: B) scope t tg&&mQo N ("~" :: B) scope q ifs
 | .comp elt own t it q .nil,e=>v26 e fun ee tg iter ifs a scope=>!(hat B)&&scOk N sc scope own&&mE N ("~" :: B) scope elt ee&&tOwn own t&&decide (a=0)&&mI N B sc it iter&&zipT it tg&&okIter iter&&mT N ("~" :: B) scope t tg&&mQo N ("~" :: B) scope q ifs
 | .comp elt own t it q (.cons ws t2 it2 q2 .nil),e=>v27 e fun ee tg iter ifs a tg2 iter2 ifs2 a2 scope=>!(hat B)&&scOk N sc scope own&&mE N ("~" :: B) scope elt ee&&tOwn own t&&decide (a=0)&&mI N B sc it iter&&zipT it tg&&okIter iter&&mT N ("~" :: B) scope t tg&&mQo N ("~" :: B) scope q ifs&&
    decide (a2=0)&&mI N ("~" :: B) scope it2 iter2&&zipT it2 tg2&&okIter iter2&&mT N ("~" :: B) scope t2 tg2&&mQo N ("~" :: B) scope q2 ifs2&&tOwn ws t2&&ws.all (fun j=>decide (j∈own))
 | .comp elt own t it q (.cons ws t2 it2 q2 (.cons ws3 t3 it3 q3 .nil)),e=>v28 e fun ee tg iter ifs a tg2 iter2 ifs2 a2 tg3 iter3 ifs3 a3 scope=>!(hat B)&&scOk N sc scope own&&mE N ("~" :: B) scope elt ee&&tOwn own t&&decide (a=0)&&mI N B sc it iter&&zipT it tg&&okIter iter&&mT N ("~" :: B) scope t tg&&mQo N ("~" :: B) scope q ifs&&
    decide (a2=0)&&mI N ("~" :: B) scope it2 iter2&&zipT it2 tg2&&okIter iter2&&mT N ("~" :: B) scope t2 tg2&&mQo N ("~" :: B) scope q2 ifs2&&tOwn ws t2&&ws.all (fun j=>decide (j∈own))&&
    decide (a3=0)&&mI N ("~" :: B) scope it3 iter3&&zipT it3 tg3&&okIter iter3&&mT N ("~" :: B) scope t3 tg3&&mQo N ("~" :: B) scope q3 ifs3&&tOwn ws3 t3&&ws3.all (fun j=>decide (j∈ws))
 | .comp _ _ _ _ _ (.cons _ _ _ _ (.cons _ _ _ _ (.cons _ _ _ _ _))),_=>false
noncomputable def mA (N B:List Str) (sc:Scope):Ces->List Expr->Bool
 | .nil,es=>v29 es (true)
 | .cons e r,es=>v30 es fun x xs=>mE N B sc e x&&notStar x&&mA N B sc r xs
noncomputable def mQ (N B:List Str) (sc:Scope):Cq->Expr->Bool
 | .val e,x=>mE N B sc e x&&plainT x
 | .not q,x=>v8 x fun y=>mQ N B sc q y
 | .and a b,e=>vAnd e fun x y=>mQ N B sc a x&&mQ N B sc b y
 | .or a b,e=>vOr e fun x y=>mQ N B sc a x&&mQ N B sc b y
 | .cmp op a b,e=>v9 e fun ea op' eb=>decide (op=op')&&mE N B sc a ea&&mE N B sc b eb&&okIter eb
 | .chn op1 op2 a b c,e=>v10 e fun ea o1 o2 eb ec=>decide (op1=o1)&&decide (op2=o2)&&mE N B sc a ea&&mE N B sc b eb&&mE N B sc c ec&&okIter ec
 | .din neg a b,e=>v9 e fun ea op' eb=>decide (op'=if neg then .NotIn else .In)&&mE N B sc a ea&&mE N B sc b eb&&okIter eb
 | .cmx k a b,e=>v9 e fun ea op' eb=>decide (op'=xfOp k)&&mE N B sc a ea&&mE N B sc b eb&&okIter eb
noncomputable def mQo (N B:List Str) (sc:Scope):Cqo->List Expr->Bool
 | .none,es=>v29 es (true)
 | .some q,es=>v31 es fun e=>mQ N B sc q e
noncomputable def mO (N B:List Str) (sc:Scope):Co->Option Expr->Bool
 | .none,x=>v32 x (true)
 | .some e,x=>v33 x fun y=>mE N B sc e y
noncomputable def mI (N B:List Str) (sc:Scope):Ci->Expr->Bool
 | .val e,x=>mE N B sc e x
 | .range1 a,x=>v23 x fun n y=>decide (n="range")&&glb sc n&&decide (n∈B)&&mE N B sc a y&&notStar y
 | .range2 a b,x=>v34 x fun n y z=>decide (n="range")&&glb sc n&&decide (n∈B)&&mE N B sc a y&&notStar y&&mE N B sc b z&&notStar z
 | .enum a,x=>v23 x fun n y=>decide (n="enumerate")&&glb sc n&&decide (n∈B)&&mE N B sc a y&&notStar y
 | .range3 a b c,x=>v35 x fun n y z u=>decide (n="range")&&glb sc n&&decide (n∈B)&&mE N B sc a y&&notStar y&&mE N B sc b z&&notStar z&&mE N B sc c u&&notStar u
 | .rev a,x=>v23 x fun n y=>decide (n="reversed")&&glb sc n&&decide (n∈B)&&mE N B sc a y&&notStar y
noncomputable def mT (N B:List Str) (sc:Scope):Ct->Expr->Bool
 | .name i,e=>v1 e fun x=>nameOk N i x&&locb sc x
 | .tup ts,e=>v12 e fun es=>mTs N B sc ts es&&!(hat B)
 | .sub o i,e=>v14 e fun eo ei=>mE N B sc o eo&&mE N B sc i ei&&notSlice ei
noncomputable def mTs (N B:List Str) (sc:Scope):Cts->List Expr->Bool
 | .nil,es=>v29 es (true)
 | .cons t r,es=>v30 es fun x xs=>mT N B sc t x&&notStar x&&mTs N B sc r xs
end
noncomputable def isDcx:Ce->Bool
 |_=>false
mutual
noncomputable def mS (N B:List Str) (sc:Scope):Cs->Stmt->Bool
 | .expr e,s=>v36 s fun x=>mE N B sc e x&&(match e with | .comp ..=>false|_=>true)&&!isDcx e
 | .ret e,s=>v37 s fun x=>mE N B sc e x
 | .asg t e,s=>v39 s fun tg x=>mE N B sc e x&&!isDcx e&&mT N B sc t tg&&notStar tg&&(match tg,x with
   | .Tuple ..,.Tuple vs _ _=>vs.all (foldedForSure 8)
   | .Tuple ..,.ListComp ..=>false
   |_,_=>true)
 | .setc2 i elt own t it q ws t2 it2 q2,s=>v41 s fun y py ee tg iter ifs a tg2 iter2 ifs2 a2 scope=>!(hat B)&&mT N B sc (.name i) (.Name y py)&&scOk N sc scope own&&mE N ("~" :: B) scope elt ee&&tOwn own t&&decide (a=0)&&mI N B sc it iter&&zipT it tg&&okIter iter&&mT N ("~" :: B) scope t tg&&mQo N ("~" :: B) scope q ifs&&
    decide (a2=0)&&mI N ("~" :: B) scope it2 iter2&&zipT it2 tg2&&okIter iter2&&mT N ("~" :: B) scope t2 tg2&&mQo N ("~" :: B) scope q2 ifs2&&tOwn ws t2&&ws.all (fun j=>decide (j∈own))
 | .dctc _ i k v own t it q,s=>v42 s fun y py ke ve tg iter ifs a scope=>!(hat B)&&mT N B sc (.name i) (.Name y py)&&scOk N sc scope own&&mE N ("~" :: B) scope k ke&&mE N ("~" :: B) scope v ve&&tOwn own t&&decide (a=0)&&mI N B sc it iter&&zipT it tg&&okIter iter&&mT N ("~" :: B) scope t tg&&mQo N ("~" :: B) scope q ifs
 | .raise_,s=>match s with
  | .Raise ..=>true
  |_=>false
 | .rse nm,s=>v45 s fun x=>decide (x=nm)&&glb sc x&&!(x == ("__debug__":Str))&&!(tld B)&&!(pct B)
 | .tryN b c su,s=>v59 s fun ss x t ts=>decide (x=c)&&glb sc x&&!(x == ("__debug__":Str))&&!(tld B)&&!(hat B)&&mSs N ("%" :: B) sc b ss&&mSs N ("~" :: "^" :: B) sc su (t :: ts)
 | .aug i sub e,s=>v49 s fun x op ee=>nameOk N i x&&locb sc x&&mE N B sc e ee&&decide (op=if sub then .Sub else .Add)
 | .ite q a b,s=>v50 s fun x ss rs=>mQ N B sc q x&&mSs N B sc a ss&&mSs N B sc b rs
 | .whl q b,s=>v51 s fun x ss=>mQ N B sc q x&&mSs N B sc b ss
 | .for_ t it b,s=>v52 s fun tg iter ss=>mI N B sc it iter&&zipT it tg&&okIter iter&&mT N B sc t tg&&mSs N B sc b ss&&!(hat B)
noncomputable def mSs (N B:List Str) (sc:Scope):Css->List Stmt->Bool
 | .nil,ss=>v56 ss (true)
 | .cons s r,ss=>v57 ss fun x xs=>mS N B sc s x&&mSs N B sc r xs
end
def PassS (CX:CXT) (X:Cx) (xk:L2.St->XK):Prop:=∀(pins:List (Addr×Obj)) (σ:L2.St) (H:Hp) (s:Shared) (e:Value) (s':Shared),Inv X pins σ H s->CX X.stack H s (xk σ) e s'->X.xe e s'
theorem passS0 {X:Cx} {xk:L2.St->XK}:PassS CX0 X xk:=fun _ _ _ _ _ _ _ h=>h.elim
structure Rok (C:Rc) (B:List Str) (X:Cx) (sc:Scope):Prop where
 hN:X.N=C.N
 nd:C.N.Nodup
 hK:X.K=C.K
 own:PassesOwn (model X.prog X.w) X.A X.env X.xe
 calm:hat B=false->X.calm=true
 hu:X.A.units+64<cLine
 gd:X.A.guards=some []
 loc:∀x,sc.names.lookup x=some .local->X.env.scope.names.lookup x=some .local
 cel:∀x,sc.names.lookup x=some .cell->X.env.scope.names.lookup x=some .cell/\X.fn x=true
 fre:∀x,sc.names.lookup x=some .free->X.env.scope.names.lookup x=some .cell\/X.env.scope.names.lookup x=some .free
 glo:∀x,sc.names.lookup x=some .globalImplicit->X.env.kindOf x=some .globalImplicit
 fn:∀x sp,C.fs x=some sp->hat B=false->(tld B=true->bang x∉B)->∃f fd ps k CX,FnOk X.prog X.w X.K X.mg X.base CX k f fd ps sp/\Room k X.A/\X.mg x=some (.ref f)/\W.keepIn X.K (.ref f)=true/\Binds X.K fd ps []/\(CX=CX0\/CX=CX1 X.prog X.w X.mg/\bang x∈B)/\PassS CX X C.xk
 blt:∀x∈B,X.mg x=none
 mrk:X.mg "~"=none/\X.mg "^"=none/\X.mg "%"=none
 cls:∀c Ca,C.cl c=some Ca->X.mg c=some (.ref Ca)/\W.nsIn X.K mainGlobals c=some (some (.ref Ca))
 fx:tld B=false->FnCx X
 nohat:tld B=false->hat B=false
 xr:tld B=false->pct B=false->∀nm Ca pins σ H s e t,C.cl nm=some Ca->Inv X pins σ H s->H e=none->X.s₀.heap.get? e=none->(∀p∈X.pn++pins,p.1≠e)->s.heap.get? e=some { cls:=.ref Ca,data:=.fields #[.ref t,.none,.none,.none,.bool false,.none] }->C.xk σ (.str nm 0) none H->X.xe (.ref e) s
theorem Rok.hu1 {C:Rc} {B:List Str} {X:Cx} {sc:Scope} (R:Rok C B X sc):X.A.units+1<cLine:=by have:=R.hu;omega
section
variable {C:Rc} {B:List Str} {X:Cx} {sc:Scope}
set_option tactic.hygienic true in
theorem Rok.vis (R:Rok C B X sc) {x:Str} (h:R3.vis sc x=true):Vis X.env.scope x:=by
 unfold R3.vis at h
 split at h
 .rename_i e;exact .inl (R.loc x e)
 .rename_i e;exact .inr (.inl (R.cel x e).1)
 .rename_i e
  rcases R.fre x e with q|q
  .exact .inr (.inl q)
  .exact .inr (.inr q)
 .cases h
set_option tactic.hygienic true in
theorem Rok.locb (R:Rok C B X sc) {x:Str} (h:R3.locb sc x=true):Loc X.env.scope x/\(X.fn x=true\/X.env.scope.names.lookup x=some .local):=by
 unfold R3.locb at h
 split at h
 .rename_i e;exact⟨.inl (R.loc x e),.inr (R.loc x e)⟩
 .rename_i e;exact⟨.inr (R.cel x e).1,.inl (R.cel x e).2⟩
 .cases h
theorem Rok.glb (R:Rok C B X sc) {x:Str} (h:R3.glb sc x=true):Gl X x:=R.glo x (of_decide_eq_true h)
theorem nameOk_of {N:List Str} {i:Nat} {x:Str} (h:nameOk N i x=true):N[i]?=some x/\(x == ("__debug__":Str))=false/\(x == ("__classdict__":Str))=false:=by
 unfold nameOk at h
 simp only[Bool.and_eq_true,decide_eq_true_eq,Bool.not_eq_true']at h
 exact⟨h.1.1,h.1.2,h.2⟩
theorem star_cons {e:Expr} {es:List Expr} {env:Env} (h:notStar e=true):starEach (e :: es) env=(false,eval e env) :: starEach es env:=by
 cases e<;>first|rfl|cases h
theorem mA_star {N B:List Str} {sc:Scope} {env:Env} {pos:Pos}:∀{es:Ces} {xs:List Expr},mA N B sc es xs=true->(backTo pos (starEach xs env)).any (·.1)=false
 | .nil,xs,h=>by
  refine v29_k h fun e0 g=>?_
  clear h
  subst e0
  revert g
  intro h
  rfl
 | .cons e r,xs,h=>by
  refine v30_k h fun x xs e0 g=>?_
  clear h
  subst e0
  revert g
  intro h
  simp only[Bool.and_eq_true]at h
  rw[star_cons h.1.2]
  have ih:=mA_star (env:=env) (pos:=pos) (es:=r) h.2
  exact ih
theorem folded_ok {e:Expr} {env:Env} (h:okIter e=true) (x:Value):foldedSetIterable e env x=pure x:=by
 cases e<;>first|rfl|cases h
theorem marks_ok {op:CmpOp} {e:Expr} (h:okIter e=true):behindInMarks op e=false:=by
 cases e<;>first|rfl|cases h
theorem last_ok {o1 o2:CmpOp} {a e:Expr} (h:okIter e=true):lastMarks [o1,o2] [a,e]=false:=by
 show behindInMarks o2 e=false
 exact marks_ok h
theorem ix_plain {e:Expr} (h:notSlice e=true):PlainIx e:=by
 intro o i
 cases e<;>first|rfl|cases h
theorem base_ok {e:Expr} {f:Str} {env:Env} {w:Sem Value} (h:baseOk e=true):attributeBase e f env w=w:=by
 cases e with
 |Call g args kw pos=>
  cases args with
  |nil=>cases h
  |cons a r=>cases g<;>rfl
 |_=>rfl
theorem plainT_ok {e:Expr} {env:Env} (h:plainT e=true) (w:Sem Value):isTrue e env w=(do let v <- w;standAt e.pos;holding [v] (truthy v)):=by
 cases e with
 |UnaryOp op a p=>cases op<;>first|rfl|cases h
 |_=>first|rfl|cases h
theorem OpR.imp {f:Value->Value->Sem Value} {r r':R2} (h:OpR X f r) (i:∀x y H Q,r' x y H Q->r x y H Q):OpR X f r':=fun pins s σ H x y v u Q I rx ry q=>h pins s σ H x y v u Q I rx ry (i _ _ _ _ q)
theorem CallR.imp {f:Value} {r r':List V->Hp->VK->Prop} (h:CallR X f r) (i:∀xs H Q,r' xs H Q->r xs H Q):CallR X f r':=fun pins s σ H xs us Q I rv q=>h pins s σ H xs us Q I rv (i _ _ _ q)
theorem ixM:IxR X (rIxM X.K):=by
 intro value slice pins s σ H x y v u Q I rx ry q hp
 refine ix_seq value slice pins s σ H x y v u Q I rx ry ?_ hp
 unfold rIxM at q
 split at q
 .obtain⟨z,c,hc,q⟩:=q
  exact .inr (.inr ⟨_,_,c,rfl,rfl,z,hc,q⟩)
 .rcases q with q|q
  .exact .inl q
  .exact .inr (.inl q)
theorem run_at {CX:CXT} {k:Nat} {f:Addr} {fd:FuncData} {ps:List Str} {sp:Sp} {dvs:List V} {ds:List Value} {E:XK} {pins:List (Addr×Obj)} {σ:L2.St} {H:Hp} {s:Shared} {Q:VK} {us:List Value} {vs:List V} (F:FnOk X.prog X.w X.K X.mg X.base CX k f fd ps sp) (hr:Room k X.A) (hb:Binds X.K fd ps ds) (hd:Vals dvs ds)
  (hx:∀e s',CX X.stack H s E e s'->X.xe e s') (I:Inv X pins σ H s) (r:Vals vs us) (h:sp (vs++dvs) H Q E):wpAny (model X.prog X.w) X.A (call (.ref f) us) (EP X pins σ Q) X.xe s:=by
 have r2:=r.append hd
 have hl:(us++ds).length=ps.length:=r2.length ▸ F.len _ _ _ _ h
 have go:=F.run X.A X.stack s H ⟨us,[]⟩ (us++ds) (vs++dvs) Q E hr I.env0 (hb s us I.kIn hl) r2 h
 refine wpAny_call (codeAny_mono go fun r s' hq=>?_)
 match r,hq with
 | .error e,hq=>exact hx e s' hq
 | .ok (.ret u),hq=>exact I.after hq
theorem pe_callS {CX:CXT} {k:Nat} {f:Addr} {fd:FuncData} {ps:List Str} {sp:Sp} {dvs:List V} {ds:List Value} {xk:L2.St->XK} {x:Str} {p pos:Pos} {e:Expr} {es:List Expr} {t:TA} (F:FnOk X.prog X.w X.K X.mg X.base CX k f fd ps sp) (hr:Room k X.A) (hg:Gl X x) (hm:X.mg x=some (.ref f)) (hk:W.keepIn X.K (.ref f)=true) (hb:Binds X.K fd ps ds) (hd:Vals dvs ds) (hx:PassS CX X xk)
  (ha:PA X (e :: es) t) (hdb:(x == ("__debug__":Str))=false) (he:starEach (e :: es) X.env=(false,eval e X.env) :: starEach es X.env) (hpl:(backTo pos (starEach es X.env)).any (·.1)=false):
  PE X (.Call (.Name x p) (e :: es) [] pos) (fun σ H Q=>tCall sp dvs (xk σ) t σ H Q):=by
 intro pins s σ H Q I h
 refine wpAny_Call_Name_kw (ld_glob I hg hm ?_ hdb)
 exact W.callWith_K (h₀:=X.base) I.ok.mod.kin hk (thn (ha pos pins s σ H _ I h) fun us s1 ⟨vs,H1,I1,r,q⟩=>⟨I1.kIn,run_at F hr hb hd (fun e s' c=>hx pins σ H1 s1 e s' I1 c) I1 r q⟩) he hpl
theorem bits100 {a:Int} (h:a.natAbs<2 ^ 100):(Builtin.Int.intBits a:Int)<=100:=by
 unfold Builtin.Int.intBits
 by_cases h0:a.natAbs=0
 .rw[if_pos (by simpa using h0)];decide
 .rw[if_neg (by simpa using h0)]
  have:=(Nat.log2_lt h0).mpr h
  omega
theorem op_shlX {X:Cx}:OpR X (binaryOp .LShift) (rI CShl fun i j=>.int (i*2 ^ j.toNat)):=opI fun _ _ _ _ _ _ _ hc q=>lshift_int hc.1 (by have:=bits100 hc.2.2;have:=hc.2.1;omega) q
theorem bin_ok (op:Operator):OpR X (binaryOp op) (rBin X.K op):=by
 cases op with
 |Add=>
  refine OpR.imp ((op_add.or op_add_str).or (op_cat.or (op_catT.or op_catT0))) fun x y H Q q=>?_
  unfold rBin at q
  dsimp only at q
  split at q
  .exact .inl (.inl ⟨_,_,rfl,rfl,q⟩)
  .exact .inl (.inr ⟨_,_,rfl,rfl,q.1,q.2⟩)
  .exact .inr q
 |Sub=>exact op_sub
 |Mult=>
  refine OpR.imp (op_mulW.or (op_mul_str.or op_rep)) fun x y H Q q=>?_
  unfold rBin at q
  dsimp only at q
  split at q
  .refine .inl ⟨_,_,rfl,rfl,?_,q.2⟩
   rcases q.1 with h|h|h
   .exact CMul.ok (.inl h)
   .exact CMul.ok (.inr h)
   .exact h
  .exact .inr (.inl ⟨_,_,rfl,rfl,q.1,q.2.1,q.2.2.1,q.2.2.2⟩)
  .exact .inr (.inr q)
 |Mod=>exact op_mod
 |FloorDiv=>
  refine OpR.imp (op_fdiv.or op_fdivW) fun x y H Q q=>?_
  obtain⟨i,j,h1,h2,⟨h3,h4⟩,q⟩:=q
  rcases h4 with h4|h4
  .exact .inl ⟨i,j,h1,h2,⟨h3,h4⟩,q⟩
  .exact .inr ⟨i,j,h1,h2,⟨h3,h4⟩,q⟩
 |Pow=>exact op_pow
 |LShift=>exact op_shlX
 |RShift=>exact op_shr
 |MatMult=>exact fun _ _ _ _ _ _ _ _ _ _ _ _ h=>h.elim
 |Div=>exact fun _ _ _ _ _ _ _ _ _ _ _ _ h=>h.elim
 |BitOr=>exact fun _ _ _ _ _ _ _ _ _ _ _ _ h=>h.elim
 |BitXor=>exact fun _ _ _ _ _ _ _ _ _ _ _ _ h=>h.elim
 |BitAnd=>exact op_and1
theorem cmp_ok (hu':X.A.units+64<cLine) (op:CmpOp):OpR X (compareOp op) (rCmp X.K op):=by
 cases op with
 |Eq=>
  refine OpR.imp (op_eq.or ((op_eqL (by omega)).or (op_eqD hu'))) fun x y H Q q=>?_
  unfold rCmp at q
  dsimp only at q
  split at q
  .exact .inr q
  .exact .inl q
 |NotEq=>
  refine OpR.imp (op_ne.or ((op_neL (by omega)).or (op_neD hu'))) fun x y H Q q=>?_
  unfold rCmp at q
  dsimp only at q
  split at q
  .exact .inr q
  .exact .inl q
 |Lt=>exact op_lt
 |LtE=>exact op_le
 |Gt=>
  refine OpR.imp (op_gt.or op_gtS) fun x y H Q q=>?_
  unfold rCmp at q
  dsimp only at q
  split at q
  .exact .inr q
  .exact .inl q
 |GtE=>exact op_ge
 |Is=>
  refine OpR.imp (op_isN.or op_isB) fun x y H Q q=>?_
  unfold rCmp at q
  dsimp only at q
  split at q
  .exact .inr q
  .exact .inl q
 |IsNot=>
  refine OpR.imp (op_notN.or op_isNotB) fun x y H Q q=>?_
  unfold rCmp at q
  dsimp only at q
  split at q
  .exact .inr q
  .exact .inl q
 |In=>
  refine OpR.imp (op_inS.or op_in_seq) fun x y H Q q=>?_
  unfold rCmp at q
  dsimp only at q
  split at q
  .exact .inl q
  .exact .inr q
 |NotIn=>
  refine OpR.imp (op_notInS.or op_notIn_seq) fun x y H Q q=>?_
  unfold rCmp at q
  dsimp only at q
  split at q
  .exact .inl q
  .exact .inr q
theorem xf_ok (hu':X.A.units+64<cLine) (k:Xf):OpR X (compareOp (xfOp k)) (rXf X.K k):=by
 cases k with
 |eqT=>exact op_eqT0 hu'
 |inR=>exact op_inR
 |notInR=>exact op_notInR
theorem sl_ok:SlR X (rSl X.K):=by
 intro pins s σ H x v vl vu lo hi sl Q I rx hs pl pu q
 refine(sl_list.or (sl_tup.or (sl_whole.or sl_str))) pins s σ H x v vl vu lo hi sl Q I rx hs pl pu ?_
 unfold rSl at q
 split at q
 .exact .inr (.inr (.inr ⟨_,rfl,q.1,q.2⟩))
 .rcases q with q|q|q
  .exact .inl q
  .exact .inr (.inl q)
  .exact .inr (.inr (.inl q))
inductive BltIs:Bf->Prop where
 |fn (f:Bf) (id:String) (hv:bootBuiltins (bltName f)=some (.builtin id)) (h:∀X:Cx,(X.calm=true\/f=.isinstance)->CallR X (.builtin id) (rBlt X.K f)):BltIs f
 |ty (f:Bf) (T:String) (hv:bootBuiltins (bltName f)=some (.type T)) (h:∀X:Cx,(X.calm=true\/f=.isinstance)->CallR X (.type T) (rBlt X.K f)):BltIs f
theorem blt_is (f:Bf):BltIs f:=by
 cases f with
 |len=>exact .fn _ "len" (by decide +kernel) fun X _=>call_len
 |abs=>exact .fn _ "abs" (by decide +kernel) fun X _=>call_abs
 |int=>
  refine .ty _ "int" (by decide +kernel) fun X _=>CallR.imp call_intB fun xs H Q q=>?_
  unfold rBlt at q
  dsimp only at q
  split at q
  .exact .inl (.inl (.inl ⟨_,rfl,q⟩))
  .exact .inl (.inl (.inr ⟨_,rfl,q⟩))
  .obtain⟨n,h1,h2,q⟩:=q
   exact .inl (.inr ⟨_,n,rfl,h1,h2,q⟩)
  .obtain⟨rfl,n,h1,q⟩:=q
   exact .inr ⟨_,n,rfl,h1,q⟩
  .exact q.elim
 |str=>exact .ty _ "str" (by decide +kernel) fun X _=>call_str_int
 |set=>exact .ty _ "set" (by decide +kernel) fun X c0=>have c:X.calm=true:=c0.resolve_right (fun z=>by cases z);call_setL c
 |isinstance=>exact .fn _ "isinstance" (by decide +kernel) fun X _=>fun _ _ _ _ _ _ _ _ _ h=>False.elim h
 |min=>
  refine .fn _ "min" (by decide +kernel) fun X c0=>have c:X.calm=true:=c0.resolve_right (fun z=>by cases z);CallR.imp ((call_min2 c).or (call_minL c)) fun xs H Q q=>?_
  unfold rBlt at q
  dsimp only at q
  split at q
  .exact .inl ⟨_,_,rfl,q⟩
  .exact .inr q
 |list=>exact .ty _ "list" (by decide +kernel) fun X c0=>have c:X.calm=true:=c0.resolve_right (fun z=>by cases z);call_list_of.or (call_lrg c)
 |range=>exact .ty _ "range" (by decide +kernel) fun X _=>call_rng
 |tuple=>exact .ty _ "tuple" (by decide +kernel) fun X _=>call_tuple_of
structure MetIs (m:Mf) (id:String):Prop where
 pa:PlainAttrs (metTy m)
 slot:Slot (metTy m) (metName m) id
 ty:typeOf (.builtin id)=pure (.type "method_descriptor")
 h:∀X:Cx,MtR X id (rMet X.K m)
theorem met_is (m:Mf):∃id,MetIs m id:=by
 cases m with
 |append=>exact⟨_,F.plainAttrs_list,F.slot_list_append,F.type_list_append,fun _=>mt_append⟩
 |join=>exact⟨_,F.plainAttrs_str,F.slot_str_join,F.type_str_join,fun _=>mt_join⟩
end
theorem scOk_of {N:List Str} {sc scope:Scope} {own:List Nat} (h:scOk N sc scope own=true):scope.kind=.function/\(∀x∈scope.names,x.2=.local->scope.names.lookup x.1=some .local)/\(∀n,(n,NameKind.cell)∈scope.names->scope.names.lookup n=some .cell)/\
  (∀n,(n,NameKind.free)∈scope.names->sc.names.lookup n=some .cell\/sc.names.lookup n=some .free)/\∀(i:Nat) (x:Str),N[i]?=some x->(scope.names.lookup x=some .local\/scope.names.lookup x=some .cell)->i∈own:=by
 unfold scOk at h
 simp only[Bool.and_eq_true,decide_eq_true_eq,List.all_eq_true,Bool.or_eq_true]at h
 obtain⟨⟨hk,hn⟩,ho⟩:=h
 refine⟨hk,fun x hx e=>?_,fun n hn'=>?_,fun n hn'=>?_,fun i x e hx=>?_⟩
 .exact(hn x hx).1.1.resolve_left fun q=>q e
 .exact(hn _ hn').1.2.resolve_left fun q=>q rfl
 .rcases(hn _ hn').2 with(q|q)|q
  .exact absurd rfl q
  .exact .inl q
  .exact .inr q
 .have:=ho i (List.mem_range.mpr (List.getElem?_eq_some_iff.mp e).1)
  rw[e]at this
  simp only[Bool.or_eq_true,Bool.and_eq_true,decide_eq_true_eq]at this
  rcases this with⟨q1,q2⟩|q
  .rcases hx with z|z
   .exact absurd z q1
   .exact absurd z q2
  .exact q
theorem Rok.compSc {C:Rc} {B:List Str} {X:Cx} {sc scope:Scope} {own:List Nat} (R:Rok C B X sc) (h:scOk C.N sc scope own=true):CompSc X scope:=by
 obtain⟨h1,h2,h3,h4,h5⟩:=scOk_of h
 refine⟨h1,h2,h3,fun n hn=>?_⟩
 rcases h4 n hn with q|q
 .exact .inl (R.cel n q).1
 .exact R.fre n q
theorem tld_cons {B:List Str}:tld ("~" :: B)=true:=decide_eq_true (List.mem_cons_self)
theorem Rok.comp {C:Rc} {B:List Str} {X:Cx} {sc scope:Scope} {own:List Nat} (R:Rok C B X sc) (hh:hat B=false) (h:scOk C.N sc scope own=true) (s0:Shared) (H0:Hp) (ex:List Addr):Rok C ("~" :: B) (X.comp scope s0 H0 ex) scope:=by
 refine⟨R.hN,R.nd,R.hK,PassesOwn.never,fun _=>R.calm hh,R.hu,R.gd,fun x e=>lookup_relabel_local e,fun x e=>⟨?_,?_⟩,fun x e=>?_,fun x e=>?_,fun x sp e _ ht=>?_,fun x hx=>?_,R.mrk,R.cls,(fun z=>by rw[tld_cons]at z;cases z),(fun z=>by rw[tld_cons]at z;cases z),(fun z=>by rw[tld_cons]at z;cases z)⟩
 .obtain⟨k',e1,e2⟩:=relabel_lookup' (env:=X.env) e
  rcases e2 with rfl|⟨q,_⟩
  .exact e1
  .cases q
 .exact W.cellsFrom_some _ _ _ (.inl e)
 .obtain⟨k',e1,e2⟩:=relabel_lookup' (env:=X.env) e
  rcases e2 with rfl|⟨_,rfl⟩
  .exact .inr e1
  .exact .inl e1
 .obtain⟨k',e1,e2⟩:=relabel_lookup' (env:=X.env) e
  rcases e2 with rfl|⟨q,_⟩
  .exact e1
  .cases q
 .have hb:bang x∉B:=fun z=>ht tld_cons (List.mem_cons_of_mem _ z)
  obtain⟨f,fd,ps,k,CX,h1,h2,h3,h4,h5,h6,_⟩:=R.fn x sp e hh fun _=>hb
  rcases h6 with rfl|⟨_,z⟩
  .exact⟨f,fd,ps,k,CX0,h1,h2,h3,h4,h5,.inl rfl,passS0⟩
  .exact absurd z hb
 .rcases List.mem_cons.mp hx with rfl|hx
  .exact R.mrk.1
  .exact R.blt x hx
mutual
theorem gmono_of (C:Rc) (own:List Nat):∀(t:Ct),tOwn own t=true->∀(x:V) (σ:L2.St) (H:Hp) (Q Q':L2.St->Hp->Prop),tG C t x σ H Q->(∀σ2 H2,Q σ2 H2->Ext own σ σ2->Q' σ2 H2)->tG C t x σ H Q'
 | .name i,h,x,σ,H,Q,Q',q,m=>by
  obtain⟨q1,q2⟩:=gext_name (of_decide_eq_true (show decide (i∈own)=true from h)) x σ H Q q
  exact m _ _ q1 q2
 | .tup ts,h,x,σ,H,Q,Q',q,m=>by
  replace h:tOwns own ts=true:=h
  obtain⟨a,xs,e,hs,hl,q⟩:=q
  exact⟨a,xs,e,hs,hl,gmonos_of C own ts h xs σ H Q Q' q m⟩
 | .sub _ _,h,_,_,_,_,_,_,_=>no_tt h
theorem gmonos_of (C:Rc) (own:List Nat):∀(ts:Cts),tOwns own ts=true->∀(xs:List V) (σ:L2.St) (H:Hp) (Q Q':L2.St->Hp->Prop),tGs C ts xs σ H Q->(∀σ2 H2,Q σ2 H2->Ext own σ σ2->Q' σ2 H2)->tGs C ts xs σ H Q'
 | .nil,h,xs,σ,H,Q,Q',q,m=>by
  replace q:xs=[]/\Q σ H:=q
  exact And.intro q.1 (m _ _ q.2 Ext.refl)
 | .cons t r,h,xs,σ,H,Q,Q',q,m=>by
  replace h:=band (show(tOwn own t&&tOwns own r)=true from h)
  replace q:∃v vr,xs=v :: vr/\tG C t v σ H fun σ' H'=>tGs C r vr σ' H' Q:=q
  obtain⟨v,vr,e,q⟩:=q
  show ∃v vr,xs=v :: vr/\tG C t v σ H fun σ' H'=>tGs C r vr σ' H' Q'
  exact⟨v,vr,e,gmono_of C own t h.1 v σ H _ _ q fun σ2 H2 q2 x2=>gmonos_of C own r h.2 vr σ2 H2 _ _ q2 fun σ3 H3 q3 x3=>m _ _ q3 (x2.trans x3)⟩
end
theorem gext_of {C:Rc} {own:List Nat} {t:Ct} (h:tOwn own t=true):GExt own (tG C t):=fun x σ H Q q=>gmono_of C own t h x σ H Q _ q fun _ _ q x=>⟨q,x⟩
theorem assign_star:∀{ts:Cts} {es:List Expr} {N B:List Str} {sc:Scope} {env:Env},mTs N B sc ts es=true->(assignEach es env).length=lenTs ts/\(assignEach es env).findIdx? (·.1)=none
 | .nil,es,N,B,sc,env,h=>by
  refine v29_k h fun e0 g=>?_
  clear h
  subst e0
  revert g
  intro h
  exact⟨rfl,rfl⟩
 | .cons t r,es,N,B,sc,env,h=>by
  refine v30_k h fun x xs e0 g=>?_
  clear h
  subst e0
  revert g
  intro h
  simp only[Bool.and_eq_true]at h
  obtain⟨h1,h2⟩:=assign_star (env:=env) h.2
  have e:assignEach (x :: xs) env=(false,assign x env) :: assignEach xs env:=by
   have hs:=h.1.2
   cases x<;>first|rfl|cases hs
  rw[e]
  refine⟨by rw[List.length_cons,h1];rfl,?_⟩
  rw[List.findIdx?_cons,h2]
  rfl
theorem assign_each {x:Expr} {xs:List Expr} {env:Env} (hs:notStar x=true):(assignEach (x :: xs) env).map (·.2)=assign x env :: (assignEach xs env).map (·.2):=by
 cases x<;>first|rfl|cases hs
theorem asg_sub {o i:Expr} {pos:Pos} {env:Env} (h:notSlice i=true) (v:Value):assign (.Subscript o i pos) env v=(do
   let ov <- holding [v] (eval o env)
   let iv <- holding [v,ov] (eval i env)
   standAt pos
   holding [v,ov,iv] (setItem ov iv v)
   release [v,ov,iv] []):=by
 cases i<;>first|rfl|cases h
noncomputable def CompX (C:Rc) (X:Cx) (e:Expr):Ce->Prop
 | .comp elt own t it q r=>∃tg iter ifs nx scope pos,CompIn X e scope tg iter ifs nx (tG C t) (tQo C q) (tR C r (tEmit (tE C elt))) own/\PI X tg iter (tI C it)/\
   eval e X.env=comprehension e scope X.env pos (newList []) false (eval iter X.env)/\(∀u,evalThenUse e X.env u=(do let _ <- comprehension e scope X.env pos (newList []) false (eval iter X.env) (some u)))/\
   ∀y py line,∃b,swapsWith e (some (.Name y py)) line X.env=pure b
 |_=>True
theorem den_nest (P w it D env ee tg iter ifs tg2 iter2 ifs2 scope pos):(model P w).den (.compLoop (.ListComp ee [⟨tg,iter,ifs,0⟩,⟨tg2,iter2,ifs2,0⟩] scope pos) 0 it (.ref D) env)=(turnCode (.ListComp ee [⟨tg,iter,ifs,0⟩,⟨tg2,iter2,ifs2,0⟩] scope pos) 0 tg iter ifs (nestCode (.ListComp ee [⟨tg,iter,ifs,0⟩,⟨tg2,iter2,ifs2,0⟩] scope pos) 0 iter2 (.ref D) env) it (.ref D) env).onRaise (fun x=>do noteFrame x env;theTreesLotGoes x):=by
 show(compTurn _ _ _ _ _).onRaise _=_
 congr 1
 unfold turnCode nestCode
 simp only[bind_assoc,pure_bind]
 rfl
noncomputable def emitD (ke ve:Expr) (D:Addr) (env:Env):Sem Unit:=do
 let kv <- eval ke env
 let vv <- holding [kv] (eval ve env)
 match Value.ref D with
 | .ref d=>do
  standAt { ke.pos with endLine:=ve.pos.endLine,endCol:=ve.pos.endCol }
  holding [kv,vv] (dictSet d kv vv)
 |_=>unsupported "internal:dictcomp"
theorem inv1 {N B:List Str} {sc:Scope} {elt:Ce} {own:List Nat} {t:Ct} {it:Ci} {q:Cqo} {e:Expr} (h:mE N B sc (.comp elt own t it q .nil) e=true):∃ee tg iter ifs scope pos,e=.ListComp ee [⟨tg,iter,ifs,0⟩] scope pos/\
  hat B=false/\scOk N sc scope own=true/\mE N ("~" :: B) scope elt ee=true/\tOwn own t=true/\mI N B sc it iter=true/\zipT it tg=true/\okIter iter=true/\mT N ("~" :: B) scope t tg=true/\mQo N ("~" :: B) scope q ifs=true:=by
 refine v26_k h fun ee tg iter ifs a scope w1 e0 g=>?_
 clear h
 subst e0
 revert g
 intro h
 simp only[Bool.and_eq_true,decide_eq_true_eq,Bool.not_eq_true']at h
 obtain⟨⟨⟨⟨⟨⟨⟨⟨⟨hh,hsc⟩,helt⟩,hown⟩,rfl⟩,h1⟩,h2⟩,h3⟩,h4⟩,h5⟩:=h
 exact⟨_,_,_,_,_,_,rfl,hh,hsc,helt,hown,h1,h2,h3,h4,h5⟩
theorem inv2 {N B:List Str} {sc:Scope} {elt:Ce} {own:List Nat} {t:Ct} {it:Ci} {q:Cqo} {ws:List Nat} {t2:Ct} {it2:Ci} {q2:Cqo} {e:Expr} (h:mE N B sc (.comp elt own t it q (.cons ws t2 it2 q2 .nil)) e=true):
  ∃ee tg iter ifs tg2 iter2 ifs2 scope pos,e=.ListComp ee [⟨tg,iter,ifs,0⟩,⟨tg2,iter2,ifs2,0⟩] scope pos/\
  hat B=false/\scOk N sc scope own=true/\mE N ("~" :: B) scope elt ee=true/\tOwn own t=true/\mI N B sc it iter=true/\zipT it tg=true/\okIter iter=true/\mT N ("~" :: B) scope t tg=true/\mQo N ("~" :: B) scope q ifs=true/\
  mI N ("~" :: B) scope it2 iter2=true/\zipT it2 tg2=true/\okIter iter2=true/\mT N ("~" :: B) scope t2 tg2=true/\mQo N ("~" :: B) scope q2 ifs2=true/\tOwn ws t2=true/\∀j∈ws,j∈own:=by
 refine v27_k h fun ee tg iter ifs a tg2 iter2 ifs2 a2 scope w1 e0 g=>?_
 clear h
 subst e0
 revert g
 intro h
 simp only[Bool.and_eq_true,decide_eq_true_eq,List.all_eq_true,Bool.not_eq_true']at h
 obtain⟨⟨⟨⟨⟨⟨⟨⟨⟨⟨⟨⟨⟨⟨⟨⟨⟨hh,hsc⟩,helt⟩,hown⟩,rfl⟩,h1⟩,h2⟩,h3⟩,h4⟩,h5⟩,rfl⟩,g1⟩,g2⟩,g3⟩,g4⟩,g5⟩,g6⟩,g7⟩:=h
 exact⟨_,_,_,_,_,_,_,_,_,rfl,hh,hsc,helt,hown,h1,h2,h3,h4,h5,g1,g2,g3,g4,g5,g6,g7⟩
theorem den_nest3 (P w it D env ee tg iter ifs tg2 iter2 ifs2 tg3 iter3 ifs3 scope pos):(model P w).den (.compLoop (.ListComp ee [⟨tg,iter,ifs,0⟩,⟨tg2,iter2,ifs2,0⟩,⟨tg3,iter3,ifs3,0⟩] scope pos) 0 it (.ref D) env)=(turnCode (.ListComp ee [⟨tg,iter,ifs,0⟩,⟨tg2,iter2,ifs2,0⟩,⟨tg3,iter3,ifs3,0⟩] scope pos) 0 tg iter ifs (nestCode (.ListComp ee [⟨tg,iter,ifs,0⟩,⟨tg2,iter2,ifs2,0⟩,⟨tg3,iter3,ifs3,0⟩] scope pos) 0 iter2 (.ref D) env) it (.ref D) env).onRaise (fun x=>do noteFrame x env;theTreesLotGoes x):=by
 show(compTurn _ _ _ _ _).onRaise _=_
 congr 1
 unfold turnCode nestCode
 simp only[bind_assoc,pure_bind]
 rfl
theorem den_nest3b (P w it D env ee tg iter ifs tg2 iter2 ifs2 tg3 iter3 ifs3 scope pos):(model P w).den (.compLoop (.ListComp ee [⟨tg,iter,ifs,0⟩,⟨tg2,iter2,ifs2,0⟩,⟨tg3,iter3,ifs3,0⟩] scope pos) 1 it (.ref D) env)=(turnCode (.ListComp ee [⟨tg,iter,ifs,0⟩,⟨tg2,iter2,ifs2,0⟩,⟨tg3,iter3,ifs3,0⟩] scope pos) 1 tg2 iter2 ifs2 (nestCode (.ListComp ee [⟨tg,iter,ifs,0⟩,⟨tg2,iter2,ifs2,0⟩,⟨tg3,iter3,ifs3,0⟩] scope pos) 1 iter3 (.ref D) env) it (.ref D) env).onRaise (fun x=>do noteFrame x env;theTreesLotGoes x):=by
 show(compTurn _ _ _ _ _).onRaise _=_
 congr 1
 unfold turnCode nestCode
 simp only[bind_assoc,pure_bind]
 rfl
theorem inv3 {N B:List Str} {sc:Scope} {elt:Ce} {own:List Nat} {t:Ct} {it:Ci} {q:Cqo} {ws:List Nat} {t2:Ct} {it2:Ci} {q2:Cqo} {ws3:List Nat} {t3:Ct} {it3:Ci} {q3:Cqo} {e:Expr} (h:mE N B sc (.comp elt own t it q (.cons ws t2 it2 q2 (.cons ws3 t3 it3 q3 .nil))) e=true):
  ∃ee tg iter ifs tg2 iter2 ifs2 tg3 iter3 ifs3 scope pos,e=.ListComp ee [⟨tg,iter,ifs,0⟩,⟨tg2,iter2,ifs2,0⟩,⟨tg3,iter3,ifs3,0⟩] scope pos/\
  hat B=false/\scOk N sc scope own=true/\mE N ("~" :: B) scope elt ee=true/\tOwn own t=true/\mI N B sc it iter=true/\zipT it tg=true/\okIter iter=true/\mT N ("~" :: B) scope t tg=true/\mQo N ("~" :: B) scope q ifs=true/\
  (mI N ("~" :: B) scope it2 iter2=true/\zipT it2 tg2=true/\okIter iter2=true/\mT N ("~" :: B) scope t2 tg2=true/\mQo N ("~" :: B) scope q2 ifs2=true/\tOwn ws t2=true/\∀j∈ws,j∈own)/\
  mI N ("~" :: B) scope it3 iter3=true/\zipT it3 tg3=true/\okIter iter3=true/\mT N ("~" :: B) scope t3 tg3=true/\mQo N ("~" :: B) scope q3 ifs3=true/\tOwn ws3 t3=true/\∀j∈ws3,j∈ws:=by
 refine v28_k h fun ee tg iter ifs a tg2 iter2 ifs2 a2 tg3 iter3 ifs3 a3 scope w1 e0 g=>?_
 clear h
 subst e0
 revert g
 intro h
 simp only[Bool.and_eq_true,decide_eq_true_eq,List.all_eq_true,Bool.not_eq_true']at h
 obtain⟨⟨⟨⟨⟨⟨⟨⟨⟨⟨⟨⟨⟨⟨⟨⟨⟨⟨⟨⟨⟨⟨⟨⟨⟨hh,hsc⟩,helt⟩,hown⟩,rfl⟩,h1⟩,h2⟩,h3⟩,h4⟩,h5⟩,rfl⟩,g1⟩,g2⟩,g3⟩,g4⟩,g5⟩,g6⟩,g7⟩,rfl⟩,k1⟩,k2⟩,k3⟩,k4⟩,k5⟩,k6⟩,k7⟩:=h
 exact⟨_,_,_,_,_,_,_,_,_,_,_,_,rfl,hh,hsc,helt,hown,h1,h2,h3,h4,h5,⟨g1,g2,g3,g4,g5,g6,g7⟩,k1,k2,k3,k4,k5,k6,k7⟩
theorem inv4 {N B:List Str} {sc:Scope} {elt:Ce} {own:List Nat} {t:Ct} {it:Ci} {q:Cqo} {ws:List Nat} {t2:Ct} {it2:Ci} {q2:Cqo} {ws3:List Nat} {t3:Ct} {it3:Ci} {q3:Cqo} {ws4:List Nat} {t4:Ct} {it4:Ci} {q4:Cqo} {r4:Cc} {e:Expr} (h:mE N B sc (.comp elt own t it q (.cons ws t2 it2 q2 (.cons ws3 t3 it3 q3 (.cons ws4 t4 it4 q4 r4)))) e=true):False:=by
 exact no_tt h
set_option maxHeartbeats 4000000
mutual
theorem sE0 {C:Rc}:∀(c:Ce) {B:List Str} {X:Cx} {sc:Scope} {e:Expr},Rok C B X sc->mE C.N B sc c e=true->PE X e (tE C c)/\CompX C X e c
 | .var i,B,X,sc,e,R,h=>by
  refine⟨?_,trivial⟩
  refine v1_k h fun x w1 e0 g=>?_
  clear h
  subst e0
  revert g
  intro h
  simp only[Bool.and_eq_true]at h
  obtain⟨h1,h2,h3⟩:=nameOk_of h.1
  rw[show tE C (.var i)=(tVar i) from rfl]
  exact pe_var (by rw[R.hN];exact h1) (R.vis h.2) h2 h3
 | .int n,B,X,sc,e,R,h=>by
  refine⟨?_,trivial⟩
  refine v2_k h fun m w1 w2 e0 g=>?_
  clear h
  subst e0
  revert g
  intro h
  cases of_decide_eq_true h
  rw[show tE C (.int n)=(tC (.int n)) from rfl]
  exact pe_int
 | .bl n,B,X,sc,e,R,h=>by
  refine⟨?_,trivial⟩
  refine v3_k h fun c w1 w2 e0 g=>?_
  clear h
  subst e0
  revert g
  intro h
  cases of_decide_eq_true h
  rw[show tE C (.bl n)=(tC (.bl n)) from rfl]
  exact pe_bl
 | .non,B,X,sc,e,R,h=>by
  refine⟨?_,trivial⟩
  refine v4_k h fun w1 w2 e0 g=>?_
  clear h
  subst e0
  revert g
  intro h
  rw[show tE C .non=(tC .non) from rfl]
  exact pe_non
 | .str n,B,X,sc,e,R,h=>by
  refine⟨?_,trivial⟩
  refine v5_k h fun y w1 w2 e0 g=>?_
  clear h
  subst e0
  revert g
  intro h
  cases of_decide_eq_true h
  rw[show tE C (.str n)=(tC (.str n)) from rfl]
  exact pe_str
 | .bin op a b,B,X,sc,e,R,h=>by
  refine⟨?_,trivial⟩
  refine v6_k h fun ea op' eb w1 e0 g=>?_
  clear h
  subst e0
  revert g
  intro h
  simp only[Bool.and_eq_true,decide_eq_true_eq]at h
  obtain⟨⟨rfl,h1⟩,h2⟩:=h
  rw[show tE C (.bin op a b)=(tOp (rBin C.K op) (tE C a) (tE C b)) from rfl]
  rw[<- R.hK]
  exact pe_op (bin_ok _) ((sE0 a R h1).1) ((sE0 b R h2).1)
 | .neg a,B,X,sc,e,R,h=>by
  refine⟨?_,trivial⟩
  refine v7_k h fun ea w1 e0 g=>?_
  clear h
  subst e0
  revert g
  intro h
  rw[show tE C (.neg a)=(tUn (rU fun i=>.int (-i)) (tE C a)) from rfl]
  exact pe_un un_neg ((sE0 a R h).1)
 | .not a,B,X,sc,e,R,h=>by
  refine⟨?_,trivial⟩
  refine v8_k h fun ea w1 e0 g=>?_
  clear h
  subst e0
  revert g
  intro h
  rw[show tE C (.not a)=(tNotV (tE C a)) from rfl]
  exact pe_not ((sE0 a R h).1)
 | .and a b,B,X,sc,e,R,h=>by
  refine⟨?_,trivial⟩
  replace h:=vAnd_of h
  rcases h with⟨x,y,pos,rfl,h⟩|⟨x,y,z,r,pos,rfl,h⟩
  .simp only[Bool.and_eq_true]at h
   rw[show tE C (.and a b)=(tAndV (tE C a) (tE C b)) from rfl]
   exact pe_and ((sE0 a R h.1).1) (pe_one ((sE0 b R h.2).1))
  .simp only[Bool.and_eq_true]at h
   rw[show tE C (.and a b)=(tAndV (tE C a) (tE C b)) from rfl]
   exact pe_and ((sE0 a R h.1).1) ((sE0 b R h.2).1)
 | .or a b,B,X,sc,e,R,h=>by
  refine⟨?_,trivial⟩
  replace h:=vOr_of h
  rcases h with⟨x,y,pos,rfl,h⟩|⟨x,y,z,r,pos,rfl,h⟩
  .simp only[Bool.and_eq_true]at h
   rw[show tE C (.or a b)=(tOrV (tE C a) (tE C b)) from rfl]
   exact pe_or ((sE0 a R h.1).1) (pe_one ((sE0 b R h.2).1))
  .simp only[Bool.and_eq_true]at h
   rw[show tE C (.or a b)=(tOrV (tE C a) (tE C b)) from rfl]
   exact pe_or ((sE0 a R h.1).1) ((sE0 b R h.2).1)
 | .cmp op a b,B,X,sc,e,R,h=>by
  refine⟨?_,trivial⟩
  refine v9_k h fun ea op' eb w1 e0 g=>?_
  clear h
  subst e0
  revert g
  intro h
  simp only[Bool.and_eq_true,decide_eq_true_eq]at h
  obtain⟨⟨⟨rfl,h1⟩,h2⟩,h3⟩:=h
  rw[show tE C (.cmp op a b)=(tOp (rCmp C.K op) (tE C a) (tE C b)) from rfl]
  rw[<- R.hK]
  exact pe_cmpR (cmp_ok R.hu _) ((sE0 a R h1).1) ((sE0 b R h2).1) (marks_ok h3)
 | .chn op1 op2 a b c,B,X,sc,e,R,h=>by
  refine⟨?_,trivial⟩
  refine v10_k h fun ea o1 o2 eb ec w1 e0 g=>?_
  clear h
  subst e0
  revert g
  intro h
  simp only[Bool.and_eq_true,decide_eq_true_eq]at h
  obtain⟨⟨⟨⟨⟨rfl,rfl⟩,h1⟩,h2⟩,h3⟩,h4⟩:=h
  rw[show tE C (.chn op1 op2 a b c)=(tChain (rCmp C.K op1) (rCmp C.K op2) (tE C a) (tE C b) (tE C c)) from rfl]
  rw[<- R.hK]
  exact pe_chain (cmp_ok R.hu _) (cmp_ok R.hu _) ((sE0 a R h1).1) ((sE0 b R h2).1) ((sE0 c R h3).1) (last_ok h4)
 | .ife q a b,B,X,sc,e,R,h=>by
  refine⟨?_,trivial⟩
  refine v11_k h fun eq ea eb w1 e0 g=>?_
  clear h
  subst e0
  revert g
  intro h
  simp only[Bool.and_eq_true]at h
  rw[show tE C (.ife q a b)=(tIf (tQ C q) (tE C a) (tE C b)) from rfl]
  exact pe_ifExp (sQ q R h.1.1).1 ((sE0 a R h.1.2).1) ((sE0 b R h.2).1)
 | .tup es,B,X,sc,e,R,h=>by
  refine⟨?_,trivial⟩
  refine v12_k h fun xs w1 w2 e0 g=>?_
  clear h
  subst e0
  revert g
  intro h
  rw[show tE C (.tup es)=(tTup (tA C es)) from rfl]
  exact pe_tup (sA es R h)
 | .lst es,B,X,sc,e,R,h=>by
  refine⟨?_,trivial⟩
  refine v13_k h fun xs w1 e0 g=>?_
  clear h
  subst e0
  revert g
  intro h
  rw[show tE C (.lst es)=(tLst (tA C es)) from rfl]
  exact pe_lst (sA es R h)
 | .idx a b,B,X,sc,e,R,h=>by
  refine⟨?_,trivial⟩
  refine v14_k h fun ea eb w1 e0 g=>?_
  clear h
  subst e0
  revert g
  intro h
  simp only[Bool.and_eq_true]at h
  rw[show tE C (.idx a b)=(tOp (rIxM C.K) (tE C a) (tE C b)) from rfl]
  rw[<- R.hK]
  exact pe_ix ixM ((sE0 a R h.1.1).1) ((sE0 b R h.1.2).1) (ix_plain h.2)
 | .cut a lo hi,B,X,sc,e,R,h=>by
  refine⟨?_,trivial⟩
  refine v15_k h fun ea l h_ w1 w2 e0 g=>?_
  clear h
  subst e0
  revert g
  intro h
  simp only[Bool.and_eq_true]at h
  rw[show tE C (.cut a lo hi)=(tSl (rSl C.K) (tE C a) (tO C lo) (tO C hi)) from rfl]
  rw[<- R.hK]
  exact pe_slice sl_ok ((sE0 a R h.1.1).1) (sO lo R h.1.2) (sO hi R h.2)
 | .call f es,B,X,sc,e,R,h=>by
  refine⟨?_,trivial⟩
  refine v16_k h fun x w1 e r pos e0 g=>?_
  clear h
  subst e0
  revert g
  intro h
  simp only[Bool.and_eq_true,decide_eq_true_eq,Bool.not_eq_true']at h
  obtain⟨⟨⟨⟨⟨rfl,h1⟩,h2⟩,h3⟩,hh⟩,h6⟩:=h
  rw[show tE C (.call x es)=(fun σ H Q=>match C.fs x with|some sp=>tCall sp [] (C.xk σ) (tA C es) σ H Q|none=>False) from rfl]
  have ht:tld B=true->bang x∉B:=fun t m=>by rw[t,decide_eq_true m]at h6;cases h6
  cases hf:C.fs x with
  |none=>exact fun _ _ _ _ _ _ q=>q.elim
  |some sp=>
   obtain⟨f,fd,ps,k,CX,F,hr,hm,hk,hb,_,hx⟩:=R.fn x sp hf hh ht
   have hs:notStar e=true:=by
    cases es with
    |nil=>exact no_tt h2
    |cons c r=>exact(band (band h2).1).2
   have hp:(backTo pos (starEach r X.env)).any (·.1)=false:=by
    have q:=mA_star (env:=X.env) (pos:=pos) h2
    rw[star_cons hs]at q
    exact q
   exact pe_callS F hr (R.glb h1) hm hk hb .nil hx (sA es R h2) h3 (star_cons hs) hp
 | .blt f es,B,X,sc,e,R,h=>by
  refine⟨?_,trivial⟩
  refine v16_k h fun x w1 e r pos e0 g=>?_
  clear h
  subst e0
  revert g
  intro h
  simp only[Bool.and_eq_true,decide_eq_true_eq,Bool.or_eq_true,Bool.not_eq_true']at h
  obtain⟨⟨⟨⟨rfl,h1⟩,h2⟩,h4⟩,h5⟩:=h
  have hcc:X.calm=true\/f=.isinstance:=h5.imp R.calm id
  rw[show tE C (.blt f es)=(tCB (rBlt C.K f) (tA C es)) from rfl]
  have hs:notStar e=true:=by
   cases es with
   |nil=>exact no_tt h2
   |cons c r=>exact(band (band h2).1).2
  have hp:(backTo pos (starEach r X.env)).any (·.1)=false:=by
   have q:=mA_star (env:=X.env) (pos:=pos) h2
   rw[star_cons hs]at q
   exact q
  rw[<- R.hK]
  have hn:bltName f≠"__name__"/\(bltName f == ("__debug__":Str))=false:=by cases f<;>decide +kernel
  cases blt_is f with
  |fn id hv hc=>exact pe_callB (hc X hcc) (R.glb h1) (R.blt _ h4) hv (sA es R h2) hn.1 hn.2 (star_cons hs) hp
  |ty T hv hc=>exact pe_callTy (hc X hcc) (R.glb h1) (R.blt _ h4) hv (sA es R h2) hn.1 hn.2 (star_cons hs) hp
 | .din neg a b,B,X,sc,e,R,h=>by
  refine⟨?_,trivial⟩
  refine v9_k h fun ea op' eb w1 e0 g=>?_
  clear h
  subst e0
  revert g
  intro h
  simp only[Bool.and_eq_true,decide_eq_true_eq]at h
  obtain⟨⟨⟨rfl,h1⟩,h2⟩,h3⟩:=h
  rw[show tE C (.din neg a b)=(tDinB neg (tE C a) (tE C b)) from rfl]
  cases neg with
  |true=>exact pe_cmp (pc_notInX R.hu1 (sE0 a R h1).1 (sE0 b R h2).1) (marks_ok h3)
  |false=>exact pe_cmp (pc_inX R.hu1 (sE0 a R h1).1 (sE0 b R h2).1) (marks_ok h3)
 | .dgt a b,B,X,sc,e,R,h=>by
  refine⟨?_,trivial⟩
  refine v20_k h fun eo nm apos y pos e0 g=>?_
  clear h
  subst e0
  revert g
  intro h
  simp only[Bool.and_eq_true,decide_eq_true_eq]at h
  obtain⟨⟨⟨⟨⟨rfl,h1⟩,h2⟩,h3⟩,h4⟩,h5⟩:=h
  rw[show tE C (.dgt a b)=(tDGetN (tE C a) (tE C b)) from rfl]
  have e2:=star_cons (env:=X.env) (es:=[]) h5
  refine pe_dgetN R.hu1 (sE0 a R h1).1 (sE0 b R h4).1 ⟨base_ok h2,?_,h3,?_⟩
  .rw[e2];rfl
  .rw[e2];rfl
 | .met m o es,B,X,sc,e,R,h=>by
  refine⟨?_,trivial⟩
  refine v17_k h fun eo nm apos args pos e0 g=>?_
  clear h
  subst e0
  revert g
  intro h
  simp only[Bool.and_eq_true,decide_eq_true_eq]at h
  obtain⟨⟨⟨⟨⟨rfl,h1⟩,h2⟩,h3⟩,h4⟩,h5⟩:=h
  rw[show tE C (.met m o es)=(tBM C.K (metTy m) (rMet C.K m) (tE C o) (tA C es)) from rfl]
  rw[<- R.hK]
  obtain⟨id,M⟩:=met_is m
  cases args with
  |nil=>
   cases es with
   |cons c r=>exact no_tt h4
   |nil=>
    exact pe_bm0 M.pa M.slot M.ty (M.h X) ((sE0 o R h1).1) (base_ok h2) h3
  |cons a r=>
   have hs:notStar a=true:=by
    cases es with
    |nil=>exact no_tt h4
    |cons c r=>exact(band (band h4).1).2
   have hq:=mA_star (env:=X.env) (pos:=pos) h4
   have hp:(backTo pos (starEach r X.env)).any (·.1)=false:=by
    rw[star_cons hs]at hq
    exact hq
   refine pe_bm M.pa M.slot M.ty (M.h X) ((sE0 o R h1).1) (sA es R h4) (base_ok h2) ?_ h3 (star_cons hs) hp
   have e1:(backTo pos (starEach (a :: r) X.env)).all (fun x=>!x.1)=true:=by
    rw[List.all_eq_true]
    intro x hx
    rw[List.any_eq_false]at hq
    simpa using hq x hx
   rw[e1]
   show(true&&true&&decide ((a :: r).length+0+0<30))=true
   simp only[Bool.true_and,decide_eq_true_eq]
   omega
 | .ssc elt own t it q,B,X,sc,e,R,h=>by
  refine⟨?_,trivial⟩
  refine v70_k h fun n1 w1 ee tg iter ifs a scope w2 w3 e0 g=>?_
  clear h
  subst e0
  revert g
  intro h
  simp only[Bool.and_eq_true,decide_eq_true_eq,Bool.not_eq_true']at h
  obtain⟨⟨⟨⟨⟨⟨⟨⟨⟨⟨⟨⟨rfl,g1⟩,g2⟩,hh⟩,hsc⟩,helt⟩,hown⟩,rfl⟩,h1⟩,h2⟩,h3⟩,h4⟩,h5⟩:=h
  rw[show tE C (.ssc elt own t it q)=(tSsc own (tI C it) (tG C t) (tQo C q) (tEmitS (tE C elt))) from rfl]
  refine pe_ssc (nx:=fun D env=>do let v <- eval ee env;standAt ee.pos;let _ <- call (.builtin "set.add") [.ref D,v]) (R.glb g1) (R.blt _ g2) ⟨R.compSc hsc,?_,⟨[],rfl⟩,folded_ok h3,R.calm hh,fun _ _ _=>⟨rfl,rfl⟩,fun _ _ _ _=>⟨rfl,rfl⟩,fun _ _ _ _ _=>rfl,fun _ _ _ _ _=>rfl,gext_of hown,?_⟩ (sI it R h1 h2) rfl rfl
  .rw[R.hN];exact(scOk_of hsc).2.2.2.2
  .intro s0 H0 ex D
   have R':=R.comp hh hsc s0 H0 ex
   exact⟨sG t R' h4,sQo q R' h5,[],by simp,run_emitI rfl (sE0 elt R' helt).1⟩
 | .comp elt own t it q .nil,B,X,sc,e,R,h=>by
  have D:CompX C X e (.comp elt own t it q .nil):=by
   obtain⟨ee,tg,iter,ifs,scope,pos,rfl,hh,hsc,helt,hown,h1,h2,h3,h4,h5⟩:=inv1 h
   refine⟨tg,iter,ifs,fun D env=>do let _ <- call (.builtin "list.append") [.ref D,<- eval ee env],scope,_,⟨R.compSc hsc,?_,⟨[],rfl⟩,folded_ok h3,R.calm hh,fun _ _ _=>⟨rfl,rfl⟩,fun _ _ _ _=>⟨rfl,rfl⟩,fun _ _ _ _ _=>rfl,fun _ _ _ _ _=>rfl,gext_of hown,?_⟩,sI it R h1 h2,rfl,fun _=>rfl,fun _ _ _=>⟨_,rfl⟩⟩
   .rw[R.hN];exact(scOk_of hsc).2.2.2.2
   .intro s0 H0 ex D
    have R':=R.comp hh hsc s0 H0 ex
    refine⟨sG t R' h4,sQo q R' h5,[],by simp,?_⟩
    exact run_emit rfl (sE0 elt R' helt).1
  refine⟨?_,D⟩
  obtain⟨tg,iter,ifs,nx,scope,pos,D,hi,he,_⟩:=D
  rw[show tE C (.comp elt own t it q .nil)=(tComp own (tI C it) (tG C t) (tQo C q) (tR C .nil (tEmit (tE C elt)))) from rfl]
  exact pe_comp D hi he
 | .comp elt own t it q (.cons ws t2 it2 q2 .nil),B,X,sc,e,R,h=>by
  have D:CompX C X e (.comp elt own t it q (.cons ws t2 it2 q2 .nil)):=by
   obtain⟨ee,tg,iter,ifs,tg2,iter2,ifs2,scope,pos,rfl,hh,hsc,helt,hown,h1,h2,h3,h4,h5,g1,g2,g3,g4,g5,g6,g7⟩:=inv2 h
   refine⟨tg,iter,ifs,fun D env=>nestCode (.ListComp ee [⟨tg,iter,ifs,0⟩,⟨tg2,iter2,ifs2,0⟩] scope pos) 0 iter2 (.ref D) env,scope,_,⟨R.compSc hsc,?_,⟨_,rfl⟩,folded_ok h3,R.calm hh,fun _ _ _=>⟨rfl,rfl⟩,fun _ _ _ _=>⟨rfl,rfl⟩,fun _ _ _ _ _=>den_nest _ _ _ _ _ _ _ _ _ _ _ _ _ _,fun _ _ _ _ _=>rfl,gext_of hown,?_⟩,sI it R h1 h2,rfl,fun _=>rfl,fun _ _ _=>⟨_,rfl⟩⟩
   .rw[R.hN];exact(scOk_of hsc).2.2.2.2
   .intro s0 H0 ex D
    have R':=R.comp hh hsc s0 H0 ex
    refine⟨sG t R' h4,sQo q R' h5,ws,g7,?_⟩
    exact run_nest (nx:=do let _ <- call (.builtin "list.append") [.ref D,<- eval ee (X.comp scope s0 H0 ex).env]) rfl (R.calm hh) (fun _=>rfl) (fun _=>rfl) (fun _=>rfl) (fun _=>rfl) (fun _=>rfl) (fun _=>rfl) ⟨_,rfl,rfl⟩ (folded_ok g3) (sI it2 R' g1 g2) (sG t2 R' g4) (gext_of g6) (sQo q2 R' g5) (run_emit rfl (sE0 elt R' helt).1) (by simp) isL_data
  refine⟨?_,D⟩
  obtain⟨tg,iter,ifs,nx,scope,pos,D,hi,he,_⟩:=D
  rw[show tE C (.comp elt own t it q (.cons ws t2 it2 q2 .nil))=(tComp own (tI C it) (tG C t) (tQo C q) (tR C (.cons ws t2 it2 q2 .nil) (tEmit (tE C elt)))) from rfl]
  exact pe_comp D hi he
 | .comp elt own t it q (.cons ws t2 it2 q2 (.cons ws3 t3 it3 q3 .nil)),B,X,sc,e,R,h=>by
  have D:CompX C X e (.comp elt own t it q (.cons ws t2 it2 q2 (.cons ws3 t3 it3 q3 .nil))):=by
   obtain⟨ee,tg,iter,ifs,tg2,iter2,ifs2,tg3,iter3,ifs3,scope,pos,rfl,hh,hsc,helt,hown,h1,h2,h3,h4,h5,⟨g1,g2,g3,g4,g5,g6,g7⟩,k1,k2,k3,k4,k5,k6,k7⟩:=inv3 h
   refine⟨tg,iter,ifs,fun D env=>nestCode (.ListComp ee [⟨tg,iter,ifs,0⟩,⟨tg2,iter2,ifs2,0⟩,⟨tg3,iter3,ifs3,0⟩] scope pos) 0 iter2 (.ref D) env,scope,_,⟨R.compSc hsc,?_,⟨_,rfl⟩,folded_ok h3,R.calm hh,fun _ _ _=>⟨rfl,rfl⟩,fun _ _ _ _=>⟨rfl,rfl⟩,fun _ _ _ _ _=>den_nest3 _ _ _ _ _ _ _ _ _ _ _ _ _ _ _ _ _,fun _ _ _ _ _=>rfl,gext_of hown,?_⟩,sI it R h1 h2,rfl,fun _=>rfl,fun _ _ _=>⟨_,rfl⟩⟩
   .rw[R.hN];exact(scOk_of hsc).2.2.2.2
   .intro s0 H0 ex D
    have R':=R.comp hh hsc s0 H0 ex
    refine⟨sG t R' h4,sQo q R' h5,ws,g7,?_⟩
    exact run_nest (d:=0) (nx:=nestCode (.ListComp ee [⟨tg,iter,ifs,0⟩,⟨tg2,iter2,ifs2,0⟩,⟨tg3,iter3,ifs3,0⟩] scope pos) 1 iter3 (.ref D) (X.comp scope s0 H0 ex).env) rfl (R.calm hh) (fun _=>rfl) (fun _=>rfl) (fun _=>rfl) (fun _=>rfl) (fun _=>den_nest3b _ _ _ _ _ _ _ _ _ _ _ _ _ _ _ _ _) (fun _=>rfl) ⟨_,rfl,rfl⟩ (folded_ok g3) (sI it2 R' g1 g2) (sG t2 R' g4) (gext_of g6) (sQo q2 R' g5)
     (run_nest (d:=1) (nx:=do let _ <- call (.builtin "list.append") [.ref D,<- eval ee (X.comp scope s0 H0 ex).env]) rfl (R.calm hh) (fun _=>rfl) (fun _=>rfl) (fun _=>rfl) (fun _=>rfl) (fun _=>rfl) (fun _=>rfl) ⟨_,rfl,rfl⟩ (folded_ok k3) (sI it3 R' k1 k2) (sG t3 R' k4) (gext_of k6) (sQo q3 R' k5) (run_emit rfl (sE0 elt R' helt).1) (by simp) isL_data) k7 isL_data
  refine⟨?_,D⟩
  obtain⟨tg,iter,ifs,nx,scope,pos,D,hi,he,_⟩:=D
  rw[show tE C (.comp elt own t it q (.cons ws t2 it2 q2 (.cons ws3 t3 it3 q3 .nil)))=(tComp own (tI C it) (tG C t) (tQo C q) (tR C (.cons ws t2 it2 q2 (.cons ws3 t3 it3 q3 .nil)) (tEmit (tE C elt)))) from rfl]
  exact pe_comp D hi he
 | .comp elt own t it q (.cons ws t2 it2 q2 (.cons _ _ _ _ (.cons _ _ _ _ _))),B,X,sc,e,R,h=>(inv4 h).elim
termination_by structural c=>c
theorem sA {C:Rc}:∀(es:Ces) {B:List Str} {X:Cx} {sc:Scope} {xs:List Expr},Rok C B X sc->mA C.N B sc es xs=true->PA X xs (tA C es)
 | .nil,B,X,sc,xs,R,h=>by
  refine v29_k h fun e0 g=>?_
  clear h
  subst e0
  revert g
  intro h
  rw[show tA C .nil=(tNil) from rfl]
  exact pa_nil
 | .cons e r,B,X,sc,xs,R,h=>by
  refine v30_k h fun x xs e0 g=>?_
  clear h
  subst e0
  revert g
  intro h
  simp only[Bool.and_eq_true]at h
  rw[show tA C (.cons e r)=(tCons (tE C e) (tA C r)) from rfl]
  exact pa_cons ((sE0 e R h.1.1).1) (sA r R h.2) (star_cons h.1.2)
termination_by structural c=>c
theorem sQ {C:Rc}:∀(q:Cq) {B:List Str} {X:Cx} {sc:Scope} {e:Expr},Rok C B X sc->mQ C.N B sc q e=true->PT X e (tQ C q)/\((∃op vs pos,e=.BoolOp op vs pos)->PW X e (tQ C q))
 | .val c,B,X,sc,e,R,h=>by
  replace h:=band h
  refine⟨?_,fun⟨op,vs,pos,z⟩=>?_⟩
  .rw[show tQ C (.val c)=(fun σ H Q=>tE C c σ H fun x H'=>∃k,TruV C.K x H' k/\Q k H') from rfl]
   rw[<- R.hK]
   exact pt_truth (sE0 c R h.1).1 (plainT_ok h.2)
  .subst z;exact no_tt h.2
 | .din neg a b,B,X,sc,e,R,h=>by
  refine v9_k h fun ea op' eb w1 e0 g=>?_
  clear h
  subst e0
  revert g
  intro h
  simp only[Bool.and_eq_true,decide_eq_true_eq]at h
  obtain⟨⟨⟨rfl,h1⟩,h2⟩,h3⟩:=h
  rw[show tQ C (.din neg a b)=(tTest (tDinB neg (tE C a) (tE C b))) from rfl]
  cases neg with
  |true=>exact⟨pt_cmp (pc_notInX R.hu1 (sE0 a R h1).1 (sE0 b R h2).1) (marks_ok h3),fun⟨op,vs,pos,z⟩=>by cases z⟩
  |false=>exact⟨pt_cmp (pc_inX R.hu1 (sE0 a R h1).1 (sE0 b R h2).1) (marks_ok h3),fun⟨op,vs,pos,z⟩=>by cases z⟩
 | .cmx k a b,B,X,sc,e,R,h=>by
  refine v9_k h fun ea op' eb w1 e0 g=>?_
  clear h
  subst e0
  revert g
  intro h
  simp only[Bool.and_eq_true,decide_eq_true_eq]at h
  obtain⟨⟨⟨rfl,h1⟩,h2⟩,h3⟩:=h
  rw[show tQ C (.cmx k a b)=(tTest (tOp (rXf C.K k) (tE C a) (tE C b))) from rfl]
  rw[<- R.hK]
  exact⟨pt_cmpR (xf_ok R.hu _) (sE0 a R h1).1 (sE0 b R h2).1 (marks_ok h3),fun⟨op,vs,pos,z⟩=>by cases z⟩
 | .not q,B,X,sc,e,R,h=>by
  refine v8_k h fun y w1 e0 g=>?_
  clear h
  subst e0
  revert g
  intro h
  rw[show tQ C (.not q)=(tNot (tQ C q)) from rfl]
  exact⟨pt_not (sQ q R h).1,fun⟨op,vs,pos,z⟩=>by cases z⟩
 | .and a b,B,X,sc,e,R,h=>by
  replace h:=vAnd_of h
  rcases h with⟨x,y,pos,rfl,h⟩|⟨x,y,z,r,pos,rfl,h⟩
  .simp only[Bool.and_eq_true]at h
   rw[show tQ C (.and a b)=(tAnd (tQ C a) (tQ C b)) from rfl]
   have w:PW X (.BoolOp .And [x,y] pos) (tAnd (tQ C a) (tQ C b)):=pw_and (sQ a R h.1).1 (pw_and1 (sQ b R h.2).1)
   exact⟨w.pt,fun _=>w⟩
  .simp only[Bool.and_eq_true]at h
   rw[show tQ C (.and a b)=(tAnd (tQ C a) (tQ C b)) from rfl]
   have w:=pw_and (sQ a R h.1).1 ((sQ b R h.2).2 ⟨_,_,_,rfl⟩)
   exact⟨w.pt,fun _=>w⟩
 | .or a b,B,X,sc,e,R,h=>by
  replace h:=vOr_of h
  rcases h with⟨x,y,pos,rfl,h⟩|⟨x,y,z,r,pos,rfl,h⟩
  .simp only[Bool.and_eq_true]at h
   rw[show tQ C (.or a b)=(tOr (tQ C a) (tQ C b)) from rfl]
   have w:PW X (.BoolOp .Or [x,y] pos) (tOr (tQ C a) (tQ C b)):=pw_or (sQ a R h.1).1 (pw_or1 (sQ b R h.2).1)
   exact⟨w.pt,fun _=>w⟩
  .simp only[Bool.and_eq_true]at h
   rw[show tQ C (.or a b)=(tOr (tQ C a) (tQ C b)) from rfl]
   have w:=pw_or (sQ a R h.1).1 ((sQ b R h.2).2 ⟨_,_,_,rfl⟩)
   exact⟨w.pt,fun _=>w⟩
 | .cmp op a b,B,X,sc,e,R,h=>by
  refine v9_k h fun ea op' eb w1 e0 g=>?_
  clear h
  subst e0
  revert g
  intro h
  simp only[Bool.and_eq_true,decide_eq_true_eq]at h
  obtain⟨⟨⟨rfl,h1⟩,h2⟩,h3⟩:=h
  rw[show tQ C (.cmp op a b)=(tTest (tOp (rCmp C.K op) (tE C a) (tE C b))) from rfl]
  rw[<- R.hK]
  exact⟨pt_cmpR (cmp_ok R.hu _) (sE0 a R h1).1 (sE0 b R h2).1 (marks_ok h3),fun⟨op,vs,pos,z⟩=>by cases z⟩
 | .chn op1 op2 a b c,B,X,sc,e,R,h=>by
  refine v10_k h fun ea o1 o2 eb ec w1 e0 g=>?_
  clear h
  subst e0
  revert g
  intro h
  simp only[Bool.and_eq_true,decide_eq_true_eq]at h
  obtain⟨⟨⟨⟨⟨rfl,rfl⟩,h1⟩,h2⟩,h3⟩,h4⟩:=h
  rw[show tQ C (.chn op1 op2 a b c)=(tTest (tChain (rCmp C.K op1) (rCmp C.K op2) (tE C a) (tE C b) (tE C c))) from rfl]
  rw[<- R.hK]
  exact⟨pt_chain (cmp_ok R.hu _) (cmp_ok R.hu _) (sE0 a R h1).1 (sE0 b R h2).1 (sE0 c R h3).1 (last_ok h4),fun⟨op,vs,pos,z⟩=>by cases z⟩
termination_by structural c=>c
theorem sQo {C:Rc}:∀(q:Cqo) {B:List Str} {X:Cx} {sc:Scope} {es:List Expr},Rok C B X sc->mQo C.N B sc q es=true->PTs X es (tQo C q)
 | .none,B,X,sc,es,R,h=>by
  refine v29_k h fun e0 g=>?_
  clear h
  subst e0
  revert g
  intro h
  rw[show tQo C .none=(fun _ H Q=>Q true H) from rfl];exact pts_nil
 | .some q,B,X,sc,es,R,h=>by
  refine v31_k h fun e e0 g=>?_
  clear h
  subst e0
  revert g
  intro h
  rw[show tQo C (.some q)=(tQ C q) from rfl];exact pts_one (sQ q R h).1
termination_by structural c=>c
theorem sO {C:Rc}:∀(o:Co) {B:List Str} {X:Cx} {sc:Scope} {e:Option Expr},Rok C B X sc->mO C.N B sc o e=true->PO X e (tO C o)
 | .none,B,X,sc,e,R,h=>by
  refine v32_k h fun e0 g=>?_
  clear h
  subst e0
  revert g
  intro h
  rw[show tO C .none=(tNoPart) from rfl];exact po_none
 | .some c,B,X,sc,e,R,h=>by
  refine v33_k h fun y e0 g=>?_
  clear h
  subst e0
  revert g
  intro h
  rw[show tO C (.some c)=(tPart (tE C c)) from rfl];exact po_some (sE0 c R h).1
termination_by structural c=>c
theorem sI {C:Rc}:∀(i:Ci) {B:List Str} {X:Cx} {sc:Scope} {x tg:Expr},Rok C B X sc->mI C.N B sc i x=true->zipT i tg=true->PI X tg x (tI C i)
 | .val c,B,X,sc,x,tg,R,h,_=>by
  rw[show tI C (.val c)=(iVal C.K (tE C c)) from rfl]
  rw[<- R.hK]
  exact pi_val (sE0 c R h).1
 | .range1 a,B,X,sc,x,tg,R,h,_=>by
  refine v23_k h fun n w1 y w2 e0 g=>?_
  clear h
  subst e0
  revert g
  intro h
  simp only[Bool.and_eq_true,decide_eq_true_eq]at h
  obtain⟨⟨⟨⟨rfl,h1⟩,h2⟩,h3⟩,h4⟩:=h
  rw[show tI C (.range1 a)=(iRng1 (tCons (tE C a) tNil)) from rfl]
  exact pi_range1 (R.glb h1) (R.blt _ h2) (pa_cons (sE0 a R h3).1 pa_nil (star_cons h4)) (star_cons h4)
 | .range2 a b,B,X,sc,x,tg,R,h,_=>by
  refine v34_k h fun n w1 y z w2 e0 g=>?_
  clear h
  subst e0
  revert g
  intro h
  simp only[Bool.and_eq_true,decide_eq_true_eq]at h
  obtain⟨⟨⟨⟨⟨⟨rfl,h1⟩,h2⟩,h3⟩,h4⟩,h5⟩,h6⟩:=h
  rw[show tI C (.range2 a b)=(iRng2 (tCons (tE C a) (tCons (tE C b) tNil))) from rfl]
  have e2:starEach [_] X.env=[(false,eval _ X.env)]:=star_cons (es:=[]) h6
  exact pi_range2 (R.glb h1) (R.blt _ h2) (pa_cons (sE0 a R h3).1 (pa_cons (sE0 b R h5).1 pa_nil (star_cons h6)) (star_cons h4)) (by rw[star_cons h4,e2]) e2
 | .enum a,B,X,sc,x,tg,R,h,hz=>by
  refine v23_k h fun n w1 y w2 e0 g=>?_
  clear h
  subst e0
  revert g
  intro h
  simp only[Bool.and_eq_true,decide_eq_true_eq]at h
  obtain⟨⟨⟨⟨rfl,h1⟩,h2⟩,h3⟩,h4⟩:=h
  rw[show tI C (.enum a)=(iEnum C.K (tE C a)) from rfl]
  rw[<- R.hK]
  cases tg with
  |Tuple es k p=>exact pi_enum (R.glb h1) (R.blt _ h2) (pa_cons (sE0 a R h3).1 pa_nil (star_cons h4)) (star_cons h4)
  |_=>cases hz
 | .range3 a b c,B,X,sc,x,tg,R,h,_=>by
  refine v35_k h fun n w1 y z u w2 e0 g=>?_
  clear h
  subst e0
  revert g
  intro h
  simp only[Bool.and_eq_true,decide_eq_true_eq]at h
  obtain⟨⟨⟨⟨⟨⟨⟨⟨rfl,h1⟩,h2⟩,h3⟩,h4⟩,h5⟩,h6⟩,h7⟩,h8⟩:=h
  rw[show tI C (.range3 a b c)=(iRng3 (tCons (tE C a) (tCons (tE C b) (tCons (tE C c) tNil)))) from rfl]
  have e2:starEach [_] X.env=[(false,eval _ X.env)]:=star_cons (es:=[]) h8
  have e3:starEach [_,_] X.env=[(false,eval _ X.env),(false,eval _ X.env)]:=(star_cons (es:=[_]) h6).trans (by rw[e2])
  exact pi_range3 (R.glb h1) (R.blt _ h2) (pa_cons (sE0 a R h3).1 (pa_cons (sE0 b R h5).1 (pa_cons (sE0 c R h7).1 pa_nil (star_cons h8)) (star_cons h6)) (star_cons h4)) (by rw[star_cons h4,e3]) e3
 | .rev a,B,X,sc,x,tg,R,h,_=>by
  refine v23_k h fun n w1 y w2 e0 g=>?_
  clear h
  subst e0
  revert g
  intro h
  simp only[Bool.and_eq_true,decide_eq_true_eq]at h
  obtain⟨⟨⟨⟨rfl,h1⟩,h2⟩,h3⟩,h4⟩:=h
  rw[show tI C (.rev a)=(iRev C.K (tE C a)) from rfl]
  rw[<- R.hK]
  exact pi_rev (R.glb h1) (R.blt _ h2) (pa_cons (sE0 a R h3).1 pa_nil (star_cons h4)) (star_cons h4)
termination_by structural c=>c
theorem sG {C:Rc}:∀(t:Ct) {B:List Str} {X:Cx} {sc:Scope} {e:Expr},Rok C B X sc->mT C.N B sc t e=true->PG X e (tG C t)
 | .name i,B,X,sc,e,R,h=>by
  refine v1_k h fun x w1 e0 g=>?_
  clear h
  subst e0
  revert g
  intro h
  simp only[Bool.and_eq_true]at h
  obtain⟨h1,h2,h3⟩:=nameOk_of h.1
  obtain⟨h4,h5⟩:=R.locb h.2
  rw[show tG C (.name i)=(gName i) from rfl]
  exact pg_name (by rw[R.hN];exact R.nd) (by rw[R.hN];exact h1) h4 h5
 | .tup ts,B,X,sc,e,R,h=>by
  refine v12_k h fun es w1 w2 e0 g=>?_
  clear h
  subst e0
  revert g
  intro h
  rw[show tG C (.tup ts)=(gSeq C.K (lenTs ts) (tGs C ts)) from rfl]
  rw[<- R.hK]
  simp only[Bool.and_eq_true,Bool.not_eq_true']at h
  exact pg_seq (R.calm h.2) (sGs ts R h.1) (assign_star h.1).1 (assign_star h.1).2
 | .sub o i,B,X,sc,e,R,h=>by
  refine v14_k h fun eo ei w1 e0 g=>?_
  clear h
  subst e0
  revert g
  intro h
  simp only[Bool.and_eq_true]at h
  rw[show tG C (.sub o i)=(gSub (tE C o) (tE C i) rSetL) from rfl]
  exact pg_sub (sE0 o R h.1.1).1 (sE0 i R h.1.2).1 set_list (asg_sub h.2)
termination_by structural c=>c
theorem sGs {C:Rc}:∀(ts:Cts) {B:List Str} {X:Cx} {sc:Scope} {es:List Expr},Rok C B X sc->mTs C.N B sc ts es=true->PGs X es (tGs C ts)
 | .nil,B,X,sc,es,R,h=>by
  refine v29_k h fun e0 g=>?_
  clear h
  subst e0
  revert g
  intro h
  rw[show tGs C .nil=(gNil) from rfl];exact pgs_nil
 | .cons t r,B,X,sc,es,R,h=>by
  refine v30_k h fun x xs e0 g=>?_
  clear h
  subst e0
  revert g
  intro h
  simp only[Bool.and_eq_true]at h
  rw[show tGs C (.cons t r)=(gCons (tG C t) (tGs C r)) from rfl]
  exact pgs_cons (sG t R h.1.1) (sGs r R h.2) (assign_each h.1.2)
termination_by structural c=>c
end
theorem sE {C:Rc} {B:List Str} (c:Ce) {X:Cx} {sc:Scope} {e:Expr} (R:Rok C B X sc) (h:mE C.N B sc c e=true):PE X e (tE C c):=(sE0 c R h).1
end R3
set_option maxHeartbeats 4000000
namespace R3
open PySem PySem.Spec PyProof.Rows L2
noncomputable def noCompX:Expr->Bool
 | .ListComp ..=>false
 | .SetComp ..=>false
 | .DictComp ..=>false
 |_=>true
theorem swaps_no {x tg:Expr} {l:Nat} {env:Env} (h:noCompX x=true):swapsWithSole [tg] x l env=pure false:=by
 cases x<;>first|rfl|cases h
theorem swaps_none {x:Expr} {l:Nat} {env:Env} (h:noCompX x=true):swapsWith x none l env=pure false:=by
 cases x<;>first|rfl|cases h
set_option tactic.hygienic true in
theorem mE_comp {N B:List Str} {sc:Scope} {c:Ce} {x:Expr} (h:mE N B sc c x=true) (hd:isDcx c=false) (hx:noCompX x=false):∃elt own t it q r,c=.comp elt own t it q r/\∃ee gens scope pos,x=.ListComp ee gens scope pos:=by
 cases x<;>first|(cases hx;done)|skip
 .cases c<;>first|(exact no_tt h)|(cases hd;done)|exact⟨_,_,_,_,_,_,rfl,_,_,_,_,rfl⟩
 .cases c<;>first|(exact no_tt h)|(cases hd;done)|(rename_i r;cases r<;>first|(exact no_tt h)|(cases hd;done)|(rename_i r;cases r<;>first|(exact no_tt h)|(cases hd;done)|(rename_i r;cases r<;>exact no_tt h)))
 .cases c<;>first|(exact no_tt h)|(cases hd;done)|(rename_i r;cases r<;>first|(exact no_tt h)|(cases hd;done)|(rename_i r;cases r<;>first|(exact no_tt h)|(cases hd;done)|(rename_i r;cases r<;>exact no_tt h)))
theorem one_assign {tg:Expr} {env:Env} (h:notStar tg=true):(assignEach [tg] env).map (·.2)=[assign tg env]:=by
 cases tg<;>first|rfl|cases h
noncomputable def notPair:Expr->Expr->Bool
 | .Tuple ..,.Tuple ..=>false
 | .List ..,.Tuple ..=>false
 |_,_=>true
theorem swapped_no {tg x:Expr} {env:Env} (h:notPair tg x=true):swappedStores [tg] x env=pure none:=by
 cases tg<;>first|rfl|(cases x<;>first|rfl|cases h)
theorem swapped_fold {tg:Expr} {vs:List Expr} {k:Nat} {pos:Pos} {env:Env} (h:vs.all (foldedForSure 8)=true):swappedStores [tg] (.Tuple vs k pos) env=pure none:=by
 have key:∀ts:List Expr,swappedStores [.Tuple ts 0 pos] (.Tuple vs k pos) env=pure none:=by
  intro ts
  unfold swappedStores
  dsimp only
  split
  .rfl
  .split
   .rfl
   .split
    .rfl
    .rfl
 cases tg<;>first|rfl|exact key _
theorem mT_list {N B:List Str} {sc:Scope} {t:Ct} {a:List Expr} {p:Pos} (h:mT N B sc t (.List a p)=true):False:=by
 cases t<;>exact no_tt h
theorem mem_mark' {B:List Str} {a b:Str} (hab:a≠b) (h:decide (a∈B)=false):decide (a∈b :: B)=false:=by
 rw[decide_eq_false_iff_not]at *
 intro z
 rcases List.mem_cons.mp z with z|z
 .exact hab z
 .exact h z
section
variable {C:Rc} {B:List Str} {X:Cx} {sc:Scope}
theorem Rok.suite (R:Rok C B X sc) (e:Addr):Rok { C with xk:=fun _=>E0 } ("~" :: "^" :: B) (X.inX e) sc:=by
 have t1:tld ("~" :: "^" :: B)=true:=tld_cons
 have t2:hat ("~" :: "^" :: B)=true:=decide_eq_true (List.mem_cons_of_mem _ List.mem_cons_self)
 refine⟨R.hN,R.nd,R.hK,PassesOwn.never,(fun z=>by rw[t2]at z;cases z),R.hu,R.gd,R.loc,R.cel,R.fre,R.glo,(fun _ _ _ z=>by rw[t2]at z;cases z),fun x hx=>?_,R.mrk,R.cls,(fun z=>by rw[t1]at z;cases z),(fun z=>by rw[t1]at z;cases z),(fun z=>by rw[t1]at z;cases z)⟩
 rcases List.mem_cons.mp hx with rfl|hx
 .exact R.mrk.1
 .rcases List.mem_cons.mp hx with rfl|hx
  .exact R.mrk.2.1
  .exact R.blt x hx
theorem Rok.tryNB {c:Str} {np pos:Pos} {b₀:Stmt} {suite:List Stmt} {su:Css} {pins:List (Addr×Obj)} {D:Ends} (R:Rok C B X sc) (h5:tld B=false) (hh:hat B=false) (hg:Gl X c) (hd:(c == ("__debug__":Str))=false)
  (hs:∀e,PSs (X.inX e) (b₀ :: suite) (tSs { C with xk:=fun _=>E0 } su)):
  Rok { C with xk:=fun σ' en _ H'=>∃nm Ca Cc,en=.str nm 0/\C.cl nm=some Ca/\C.cl c=some Cc/\W.exmOne C.K (.ref Ca) (.ref Cc)=some true/\tSs { C with xk:=fun _=>E0 } su { nx:=D.nx,rt:=D.rt } σ' H' } ("%" :: B) (X.tryX pins D [.ExceptHandler (some (.Name c np)) none (b₀ :: suite) pos]) sc:=by
 have t1:tld ("%" :: B)=false:=mem_mark' (by decide +kernel) h5
 have t2:pct ("%" :: B)=true:=decide_eq_true List.mem_cons_self
 have F:=R.fx h5
 refine⟨R.hN,R.nd,R.hK,PassesOwn.looking,fun _=>R.calm hh,R.hu,R.gd,R.loc,R.cel,R.fre,R.glo,fun x sp e _ _=>?_,fun x hx=>?_,R.mrk,R.cls,fun _=>⟨F.ex,F.fn,F.stk,F.fr⟩,(fun _=>mem_mark' (by decide +kernel) hh),(fun _ z=>by rw[t2]at z;cases z)⟩
 .obtain⟨f,fd,ps,k,CX,q1,q2,q3,q4,q5,q6,_⟩:=R.fn x sp e hh fun z=>by rw[h5]at z;cases z
  refine⟨f,fd,ps,k,CX,q1,q2,q3,q4,q5,q6.imp id fun z=>⟨z.1,List.mem_cons_of_mem _ z.2⟩,?_⟩
  rcases q6 with rfl|⟨rfl,_⟩
  .exact passS0
  .intro pins' σ' H' s' e s'' I cx
   obtain⟨ea,T,Ca,nm,H2,z1,z2,z3,z4,z5,z6,z7,z8,z9,z10,z11,nm',Ca',Cc,z12,z13,z14,z15,z16⟩:=id cx
   refine caught_no (Cc:=Cc) (th:=tSs { C with xk:=fun _=>E0 } su) I F (R.calm hh) hg (R.cls _ _ z14).1 hd hs ?_ cx
   rintro nm2 Ca2 H3 m2 ⟨nm3,Ca3,Cc3,w1,w2,w3,w4,w5⟩
   cases w1
   have:=(R.cls _ _ w2).1
   rw[m2]at this
   cases this
   rw[z14]at w3
   cases w3
   exact⟨by rw[R.hK];exact w4,w5⟩
 .rcases List.mem_cons.mp hx with rfl|hx
  .exact R.mrk.2.2
  .exact R.blt x hx
end
set_option maxHeartbeats 4000000
theorem den_nestS (P w it D env ee tg iter ifs tg2 iter2 ifs2 scope pos):(model P w).den (.compLoop (.SetComp ee [⟨tg,iter,ifs,0⟩,⟨tg2,iter2,ifs2,0⟩] scope pos) 0 it (.ref D) env)=(turnCode (.SetComp ee [⟨tg,iter,ifs,0⟩,⟨tg2,iter2,ifs2,0⟩] scope pos) 0 tg iter ifs (nestCode (.SetComp ee [⟨tg,iter,ifs,0⟩,⟨tg2,iter2,ifs2,0⟩] scope pos) 0 iter2 (.ref D) env) it (.ref D) env).onRaise (fun x=>do noteFrame x env;theTreesLotGoes x):=by
 show(compTurn _ _ _ _ _).onRaise _=_
 congr 1
 unfold turnCode nestCode
 simp only[bind_assoc,pure_bind]
 rfl
mutual
theorem sS:∀(c:Cs) {C:Rc} {B:List Str} {X:Cx} {sc:Scope} {s:Stmt},Rok C B X sc->X.env.scope.kind=.function->mS C.N B sc c s=true->PS X s (tS C c)
 | .expr e,C,B,X,sc,s,R,hk,h=>by
  refine v36_k h fun x w1 e0 g=>?_
  clear h
  subst e0
  revert g
  intro h
  obtain⟨hc,hd⟩:=band h
  clear h
  obtain⟨hc,hm⟩:=band hc
  replace hd:isDcx e=false:=by cases z:isDcx e with
   |false=>rfl
   |true=>rw[z]at hd;exact no_tt hd
  rw[show tS C (.expr e)=(tDrop (tE C e)) from rfl]
  refine ps_expr (sE e R hc) (swaps_none ?_)
  cases hx:noCompX x with
  |true=>rfl
  |false=>
   obtain⟨elt,own,t,it,q,r,rfl,_⟩:=mE_comp hc hd hx
   exact no_tt hm
 | .ret e,C,B,X,sc,s,R,hk,h=>by
  refine v37_k h fun x w1 e0 g=>?_
  clear h
  subst e0
  revert g
  intro h
  rw[show tS C (.ret e)=(tRet (tE C e)) from rfl]
  exact ps_ret (sE e R h)
 | .asg t e,C,B,X,sc,s,R,hk,h=>by
  refine v39_k h fun tg x pos e0 g=>?_
  clear h
  subst e0
  revert g
  intro h
  obtain⟨h,h4⟩:=band h
  obtain⟨h,h3⟩:=band h
  obtain⟨h,h2⟩:=band h
  obtain⟨h1,h0⟩:=band h
  replace h0:isDcx e=false:=by cases z:isDcx e with
   |false=>rfl
   |true=>rw[z]at h0;exact no_tt h0
  rw[show tS C (.asg t e)=(tAsg (tE C e) (tG C t)) from rfl]
  have hw:swappedStores [tg] x X.env=pure none:=by
   cases tg with
   |Tuple a b c=>cases x<;>first|exact swapped_no rfl|exact swapped_fold h4|exact no_tt h4
   |List a b=>exact(mT_list h2).elim
   |_=>exact swapped_no rfl
  cases hx:noCompX x with
  |true=>exact ps_asg (sE e R h1) (sG t R h2) (swaps_no hx) hw (one_assign h3)
  |false=>
   obtain⟨elt,own,t',it,q,r,rfl,ee,gens,scope,p2,rfl⟩:=mE_comp h1 h0 hx
   have D:=(sE0 _ R h1).2
   obtain⟨tg',iter,ifs,nx,scope',pos',D,hi,he,hu,hsw⟩:=D
   cases t with
   |name i=>
    cases tg with
    |Name y py=>
     obtain⟨b,hb⟩:=hsw y py pos.line
     cases b with
     |true=>
      replace h2:=band h2
      obtain⟨g1,g2,g3⟩:=nameOk_of h2.1
      obtain⟨g4,g5⟩:=R.locb h2.2
      exact ps_setcomp D hi (by rw[R.hN];exact R.nd) (by rw[R.hN];exact g1) g4 g5 (hu _) hb
     |false=>exact ps_asg (sE _ R h1) (sG _ R h2) hb hw (one_assign h3)
    |_=>exact no_tt h2
   |tup ts=>
    cases tg with
    |Tuple a b c=>exact no_tt h4
    |_=>exact no_tt h2
   |sub o i=>
    cases tg with
    |Subscript a b c=>exact ps_asg (sE _ R h1) (sG _ R h2) rfl hw (one_assign h3)
    |_=>exact no_tt h2
 | .setc2 i elt own t it q ws t2 it2 q2,C,B,X,sc,s,R,hk,h=>by
  refine v41_k h fun y py ee tg iter ifs a tg2 iter2 ifs2 a2 scope p2 pos e0 g=>?_
  clear h
  subst e0
  revert g
  intro h
  simp only[Bool.and_eq_true,decide_eq_true_eq,Bool.not_eq_true',List.all_eq_true]at h
  obtain⟨⟨⟨⟨⟨⟨⟨⟨⟨⟨⟨⟨⟨⟨⟨⟨⟨⟨hh,hnm⟩,hsc⟩,helt⟩,hown⟩,rfl⟩,h1⟩,h2⟩,h3⟩,h4⟩,h5⟩,rfl⟩,f1⟩,f2⟩,f3⟩,f4⟩,f5⟩,f6⟩,f7⟩:=h
  have hnm':=hnm
  replace hnm:=band hnm
  obtain⟨g1,g2,g3⟩:=nameOk_of hnm.1
  obtain⟨g4,g5⟩:=R.locb hnm.2
  rw[show tS C (.setc2 i elt own t it q ws t2 it2 q2)=(tAsg (tSetC own (tI C it) (tG C t) (tQo C q) (tNest (tI C it2) (tClause ws (tG C t2) (tQo C q2) (tEmitS (tE C elt))))) (gName i)) from rfl]
  refine ps_mk (nx:=fun D env=>nestCode (.SetComp ee [⟨tg,iter,ifs,0⟩,⟨tg2,iter2,ifs2,0⟩] scope p2) 0 iter2 (.ref D) env) new_set (fun _=>rfl) new_set0 isS_data set_fin ⟨R.compSc hsc,?_,⟨_,rfl⟩,folded_ok h3,R.calm hh,fun _ _ _=>⟨rfl,rfl⟩,fun _ _ _ _=>⟨rfl,rfl⟩,fun _ _ _ _ _=>den_nestS _ _ _ _ _ _ _ _ _ _ _ _ _ _,fun _ _ _ _ _=>rfl,gext_of hown,?_⟩ (sI it R h1 h2) (by rw[R.hN];exact R.nd) (by rw[R.hN];exact g1) g4 g5 (sG (.name i) R hnm') rfl rfl ⟨_,rfl⟩
  .rw[R.hN];exact(scOk_of hsc).2.2.2.2
  .intro s0 H0 ex D
   have R':=R.comp hh hsc s0 H0 ex
   refine⟨sG t R' h4,sQo q R' h5,ws,f7,?_⟩
   exact run_nest (nx:=do let v <- eval ee (X.comp scope s0 H0 ex).env;standAt ee.pos;let _ <- call (.builtin "set.add") [.ref D,v]) rfl (R.calm hh) (fun _=>rfl) (fun _=>rfl) (fun _=>rfl) (fun _=>rfl) (fun _=>rfl) (fun _=>rfl) ⟨_,rfl,rfl⟩ (folded_ok f3) (sI it2 R' f1 f2) (sG t2 R' f4) (gext_of f6) (sQo q2 R' f5) (run_emitS rfl (sE elt R' helt)) (by simp) isS_data
 | .dctc tup i k v own t it q,C,B,X,sc,s,R,hk,h=>by
  refine v42_k h fun y py ke ve tg iter ifs a scope p2 pos e0 g=>?_
  clear h
  subst e0
  revert g
  intro h
  simp only[Bool.and_eq_true,decide_eq_true_eq,Bool.not_eq_true']at h
  obtain⟨⟨⟨⟨⟨⟨⟨⟨⟨⟨⟨hh,hnm⟩,hsc⟩,hke⟩,hve⟩,hown⟩,rfl⟩,h1⟩,h2⟩,h3⟩,h4⟩,h5⟩:=h
  have hnm':=hnm
  replace hnm:=band hnm
  obtain⟨g1,g2,g3⟩:=nameOk_of hnm.1
  obtain⟨g4,g5⟩:=R.locb hnm.2
  rw[show tS C (.dctc tup i k v own t it q)=(if tup then tAsg (tDctT own (tI C it) (tG C t) (tQo C q) (tE C k) (tE C v)) (gName i)else tAsg (tDctK own (tI C it) (tG C t) (tQo C q) (tE C k) (tE C v)) (gName i)) from rfl]
  cases tup with
  |false=>
   refine ps_mk (Is:=IsDK X.prog X.w) (nx:=fun D env=>emitD ke ve D env) new_dict (fun _=>rfl) new_dictK isDK_data dk_fin ⟨R.compSc hsc,?_,⟨[],rfl⟩,folded_ok h3,R.calm hh,fun _ _ _=>⟨rfl,rfl⟩,fun _ _ _ _=>⟨rfl,rfl⟩,fun _ _ _ _ _=>rfl,fun _ _ _ _ _=>rfl,gext_of hown,?_⟩ (sI it R h1 h2) (by rw[R.hN];exact R.nd) (by rw[R.hN];exact g1) g4 g5 (sG (.name i) R hnm') rfl rfl ⟨_,rfl⟩
   .rw[R.hN];exact(scOk_of hsc).2.2.2.2
   .intro s0 H0 ex D
    have R':=R.comp hh hsc s0 H0 ex
    exact⟨sG t R' h4,sQo q R' h5,[],by simp,run_emitK rfl (sE k R' hke) (sE v R' hve)⟩
  |true=>
   refine ps_mk (Is:=IsDT X.prog X.w) (nx:=fun D env=>emitD ke ve D env) new_dict (fun _=>rfl) new_dictT isDT_data dt_fin ⟨R.compSc hsc,?_,⟨[],rfl⟩,folded_ok h3,R.calm hh,fun _ _ _=>⟨rfl,rfl⟩,fun _ _ _ _=>⟨rfl,rfl⟩,fun _ _ _ _ _=>rfl,fun _ _ _ _ _=>rfl,gext_of hown,?_⟩ (sI it R h1 h2) (by rw[R.hN];exact R.nd) (by rw[R.hN];exact g1) g4 g5 (sG (.name i) R hnm') rfl rfl ⟨_,rfl⟩
   .rw[R.hN];exact(scOk_of hsc).2.2.2.2
   .intro s0 H0 ex D
    have R':=R.comp hh hsc s0 H0 ex
    exact⟨sG t R' h4,sQo q R' h5,[],by simp,run_emitT R'.hu1 rfl (sE k R' hke) (sE v R' hve)⟩
 | .raise_,C,B,X,sc,s,R,hk,h=>by
  rw[show tS C .raise_=(tNever) from rfl]
  exact ps_never
 | .rse nm,C,B,X,sc,s,R,hk,h=>by
  refine v45_k h fun x np y k p cpos pos e0 g=>?_
  clear h
  subst e0
  revert g
  intro h
  simp only[Bool.and_eq_true,decide_eq_true_eq,Bool.not_eq_true']at h
  obtain⟨⟨⟨⟨rfl,h1⟩,h2⟩,h3⟩,h4⟩:=h
  rw[show tS C (.rse x)=(fun _ σ H=>(∃Ca,C.cl x=some Ca/\W.excIn C.K Ca bmV "ValueError.__new__"=true)/\C.xk σ (.str x 0) none H) from rfl]
  intro pins s σ H D I hw
  obtain⟨⟨Ca,hc,hx⟩,hw⟩:=hw
  obtain⟨m1,m2⟩:=R.cls _ _ hc
  have hhat:hat B=false:=R.nohat h3
  refine ps_rse (wish:=fun σ H=>C.xk σ (.str x 0) none H) (R.fx h3) (R.calm hhat) (R.glb h1) m1 m2 (by rw[R.hK];exact hx) h2 (fun pins σ H s e t I a1 a2 a3 a4 a5=>R.xr h3 h4 x Ca pins σ H s e t hc I a1 a2 a3 a4 a5) pins s σ H D I hw
 | .tryN b c su,C,B,X,sc,s,R,hk,h=>by
  refine v59_k h fun ss x w1 t ts w2 w3 e0 g=>?_
  clear h
  subst e0
  revert g
  intro h
  simp only[Bool.and_eq_true,decide_eq_true_eq,Bool.not_eq_true']at h
  obtain⟨⟨⟨⟨⟨⟨rfl,h1⟩,h2⟩,h5⟩,hh⟩,h6⟩,h7⟩:=h
  rw[show tS C (.tryN b x su)=(fun D σ H=>tSs { C with xk:=fun σ' en _ H'=>∃nm Ca Cc,en=.str nm 0/\C.cl nm=some Ca/\C.cl x=some Cc/\W.exmOne C.K (.ref Ca) (.ref Cc)=some true/\tSs { C with xk:=fun _=>E0 } su { nx:=D.nx,rt:=D.rt } σ' H' } b D σ H) from rfl]
  refine ps_tryX (t:=fun D=>tSs { C with xk:=fun σ' en _ H'=>∃nm Ca Cc,en=.str nm 0/\C.cl nm=some Ca/\C.cl _=some Cc/\W.exmOne C.K (.ref Ca) (.ref Cc)=some true/\tSs { C with xk:=fun _=>E0 } su { nx:=D.nx,rt:=D.rt } σ' H' } b) fun pins D=>?_
  refine sSs b ?_ hk h6
  exact R.tryNB h5 hh (R.glb h1) h2 fun e=>sSs su (R.suite e) hk h7
 | .aug i sub e,C,B,X,sc,s,R,hk,h=>by
  refine v49_k h fun x w1 op ee w2 e0 g=>?_
  clear h
  subst e0
  revert g
  intro h
  simp only[Bool.and_eq_true,decide_eq_true_eq]at h
  obtain⟨⟨⟨h1,h2⟩,h3⟩,rfl⟩:=h
  obtain⟨g1,g2,g3⟩:=nameOk_of h1
  obtain⟨g4,g5⟩:=R.locb h2
  rw[show tS C (.aug i sub e)=(tAug i (tE C e) (ipI fun i j=>if sub then i-j else i+j)) from rfl]
  cases sub with
  |true=>exact ps_aug (by rw[R.hN];exact R.nd) (by rw[R.hN];exact g1) g4 (sE e R h3) ip_sub g5
  |false=>exact ps_aug (by rw[R.hN];exact R.nd) (by rw[R.hN];exact g1) g4 (sE e R h3) ip_add g5
 | .ite q a b,C,B,X,sc,s,R,hk,h=>by
  refine v50_k h fun x ss rs w1 e0 g=>?_
  clear h
  subst e0
  revert g
  intro h
  simp only[Bool.and_eq_true]at h
  rw[show tS C (.ite q a b)=(tIfS (tQ C q) (tSs C a) (tSs C b)) from rfl]
  exact ps_if (sQ q R h.1.1).1 (sSs a R hk h.1.2) (sSs b R hk h.2)
 | .whl q b,C,B,X,sc,s,R,hk,h=>by
  refine v51_k h fun x ss w1 e0 g=>?_
  clear h
  subst e0
  revert g
  intro h
  simp only[Bool.and_eq_true]at h
  rw[show tS C (.whl q b)=(tWhile (tQ C q) (tSs C b)) from rfl]
  exact ps_while R.own (sQ q R h.1).1 (sSs b R hk h.2)
 | .for_ t it b,C,B,X,sc,s,R,hk,h=>by
  refine v52_k h fun tg iter ss w1 e0 g=>?_
  clear h
  subst e0
  revert g
  intro h
  simp only[Bool.and_eq_true,Bool.not_eq_true']at h
  obtain⟨⟨⟨⟨⟨h1,h2⟩,h3⟩,h4⟩,h5⟩,hh⟩:=h
  rw[show tS C (.for_ t it b)=(tFor (tI C it) (tG C t) (tSs C b)) from rfl]
  exact ps_for R.own (R.calm hh) (sI it R h1 h2) (sG t R h4) (sSs b R hk h5) (folded_ok h3)
theorem sSs:∀(c:Css) {C:Rc} {B:List Str} {X:Cx} {sc:Scope} {ss:List Stmt},Rok C B X sc->X.env.scope.kind=.function->mSs C.N B sc c ss=true->PSs X ss (tSs C c)
 | .nil,C,B,X,sc,ss,R,hk,h=>by
  refine v56_k h fun e0 g=>?_
  clear h
  subst e0
  revert g
  intro h
  rw[show tSs C .nil=(tNext) from rfl];exact pss_nil
 | .cons c r,C,B,X,sc,ss,R,hk,h=>by
  refine v57_k h fun x xs e0 g=>?_
  clear h
  subst e0
  revert g
  intro h
  simp only[Bool.and_eq_true]at h
  rw[show tSs C (.cons c r)=(tSeq (tS C c) (tSs C r)) from rfl]
  exact pss_cons (sS c R hk h.1) (sSs r R hk h.2)
end
section
variable {P:Program} {w:World} {K:W.Frag} {mg:Str->Option Value} {base:Heap}
structure Ask (P:Program) (w:World) (K:W.Frag) (mg:Str->Option Value) (base:Heap) (k:Nat) (C:Rc):Prop where
 fs:∀y sp',C.fs y=some sp'->∃f' fd' ps',(FnOk P w K mg base CX0 k f' fd' ps' sp'\/FnOk P w K mg base (CX1 P w mg) k f' fd' ps' sp'/\bang y∈C.B)/\mg y=some (.ref f')/\W.keepIn K (.ref f')=true/\Binds K fd' ps' []
 B:∀y∈C.B,mg y=none
 mrk:mg "~"=none/\mg "^"=none/\mg "%"=none
 cl:∀c Ca,C.cl c=some Ca->mg c=some (.ref Ca)/\W.nsIn K mainGlobals c=some (some (.ref Ca))
 nt:tld C.B=false
 nh:hat C.B=false
theorem code_ok {x qual:Str} {st:Stmt} {f:Addr} {fd:FuncData} {ps:List Str} {k:Nat} {sp:Sp} (F:Fun K x qual st f fd) (C:Rc) (S:FnScope C.N ps (defScope st)) (hK:C.K=K) (code:Css) (hm:mSs C.N C.B (defScope st) code (defBody st)=true)
  (len:∀vs H Q E,sp vs H Q E->vs.length=ps.length) (ask:Ask P w K mg base k C) (hxk:C.xk=fun _=>E0)
  (hbody:∀vs H Q E,sp vs H Q E->tSs C code { nx:=fun _ H'=>Q .non H',rt:=Q } (start C.N vs) H):FnOk P w K mg base CX0 (k+1) f fd ps sp:=by
 refine F.ok S len fun cdv A outer s H vs Q E hr h=>⟨_,sSs code (sc:=defScope st) (B:=C.B) ?_ S.kind hm,hbody vs H Q E h⟩
 refine⟨rfl,S.nd,hK.symm,PassesOwn.never,fun _=>rfl,hr.units,hr.gd,fun _ e=>e,fun _ e=>⟨e,rfl⟩,fun _ e=>.inr e,fun _ e=>e,fun y sp' e _ _=>?_,ask.B,ask.mrk,ask.cl,fun _=>⟨rfl,fun _=>rfl,rfl,rfl⟩,fun _=>ask.nh,fun _ _ nm Ca pins σ H s e t _ _ _ _ _ _ z=>?_⟩
 .obtain⟨f',fd',ps',h1,h2,h3,h4⟩:=ask.fs y sp' e
  rcases h1 with h1|⟨h1,hb⟩
  .exact⟨f',fd',ps',k,CX0,h1,hr,h2,h3,h4,.inl rfl,passS0⟩
  .refine⟨f',fd',ps',k,_,h1,hr,h2,h3,h4,.inr ⟨rfl,hb⟩,?_⟩
   rintro pins σ H s e s' I ⟨ea,T,Ca,nm,H',_,_,_,_,_,_,_,_,_,_,_,z⟩
   rw[hxk]at z
   exact z.elim
 .rw[hxk]at z
  exact z.elim
theorem code_okX {x qual:Str} {st:Stmt} {f:Addr} {fd:FuncData} {ps:List Str} {k:Nat} {sp:Sp} (F:Fun K x qual st f fd) (C:Rc) (S:FnScope C.N ps (defScope st)) (hK:C.K=K) (code:Css) (hm:mSs C.N C.B (defScope st) code (defBody st)=true)
  (len:∀vs H Q E,sp vs H Q E->vs.length=ps.length) (ask:Ask P w K mg base k C)
  (hbody:∀vs H Q E,sp vs H Q E->tSs { C with xk:=fun _=>E } code { nx:=fun _ H'=>Q .non H',rt:=Q } (start C.N vs) H):FnOk P w K mg base (CX1 P w mg) (k+1) f fd ps sp:=by
 obtain⟨oc,od,kV,doc,pm,an,cdv,ct,osl,rfl,lk,hcd⟩:=F.ex
 refine fn_of lk hcd S len fun A outer s H vs Q E hr hsp=>⟨_,sSs code (C:={ C with xk:=fun _=>E }) (sc:=defScope st) (B:=C.B) ?_ S.kind hm,hbody vs H Q E hsp⟩
 have fc:FnCx (cxOf (CX1 P w mg) P w K mg base C.N qual (defScope st) f cdv A outer s H E):=⟨rfl,fun _=>rfl,rfl,rfl⟩
 refine⟨rfl,S.nd,hK.symm,PassesOwn.leaving,fun _=>rfl,hr.units,hr.gd,fun _ e=>e,fun _ e=>⟨e,rfl⟩,fun _ e=>.inr e,fun _ e=>e,fun y sp' e _ _=>?_,ask.B,ask.mrk,ask.cl,fun _=>fc,fun _=>ask.nh,fun _ _ nm Ca pins σ H' s' e t hc I a1 a2 a3 a4 z=>?_⟩
 .obtain⟨f',fd',ps',h1,h2,h3,h4⟩:=ask.fs y sp' e
  rcases h1 with h1|⟨h1,hb⟩
  .exact⟨f',fd',ps',k,CX0,h1,hr,h2,h3,h4,.inl rfl,passS0⟩
  .exact⟨f',fd',ps',k,_,h1,hr,h2,h3,h4,.inr ⟨rfl,hb⟩,fun pins σ H s e s' I c=>passed_leaves I fc c⟩
 .exact raised_leaves I fc (ask.cl nm Ca hc).1 a1 a2 a3 a4 z
end
def BoxAt (a:Addr) (k:Nat) (h:Heap):Prop:=∃(x y z:Int) (t1 t2 t3:Tok) (n:Nat),h.get? a=some { cls:=.type "list",data:=.seq #[.int x t1,.int y t2,.int z t3] n }/\0<=x/\0<=y/\y<2 ^ 62/\0<=z/\z<=k
noncomputable def BoxO (a:Addr) (k:Nat):HO:=.ext (BoxAt a k)
noncomputable def BoxL (x y z:Int):HO:=.lst [.int x,.int y,.int z]
theorem box_le {a:Addr} {n k:Nat} (e:BoxO a n=BoxO a k):n<=k:=by
 have e1:BoxAt a n=BoxAt a k:=HO.ext.inj e
 let o:Obj:={ cls:=.type "list",data:=.seq #[.int 0 0,.int 0 0,.int n 0] 0 }
 let h0:Heap:={ (default:Heap)with objs:=Array.replicate a default }
 have hs:h0.objs.size=a:=Array.size_replicate
 have g:(h0.push o).get? a=some o:=by
  have:=Heap.get?_push_size h0 (o:=o) rfl
  rw[hs]at this
  exact this
 have q:BoxAt a n (h0.push o):=⟨0,0,n,0,0,0,0,g,by omega,by omega,by decide,by omega,by omega⟩
 rw[e1]at q
 obtain⟨x,y,z,t1,t2,t3,m,g2,_,_,_,_,hz⟩:=q
 rw[g]at g2
 have g3:=Option.some.inj g2
 have g4:(#[.int 0 0,.int 0 0,.int n 0]:Array Value)=#[.int x t1,.int y t2,.int z t3]:=by
  have:o.data=_:=congrArg Obj.data g3
  injection this
 have g6:=congrArg Array.toList g4
 simp only[List.cons.injEq,Value.int.injEq]at g6
 have g5:(n:Int)=z:=g6.2.2.1.1
 omega
theorem box_close {P:Program} {w:World} {H:Hp} {h:Heap} {b:Addr} {x y z:Int} {k:Nat} (hok:HOk P w H h) (e:H b=some (BoxL x y z)) (hx:0<=x) (hy:0<=y) (hy2:y<2 ^ 62) (hz:0<=z) (hk:z<=k):HOk P w (upd H b (BoxO b k)) h:=by
 intro c o ec
 by_cases hc:c=b
 .subst hc
  rw[upd_same]at ec
  cases ec
  obtain⟨_,its,n,rv,g⟩:=(show ObjOk P w H h c (.lst _) from hok c _ e)
  cases rv with
  |cons r1 r=>
   cases r with
   |cons r2 r=>
    cases r with
    |cons r3 r=>
     cases r
     obtain⟨t1,rfl⟩:=r1
     obtain⟨t2,rfl⟩:=r2
     obtain⟨t3,rfl⟩:=r3
     refine⟨⟨x,y,z,t1,t2,t3,n,g,hx,hy,hy2,hz,hk⟩,⟨_,g⟩,fun h1 h2 q kk=>?_⟩
     obtain⟨x,y,z,t1,t2,t3,n,g,r⟩:=q
     exact⟨x,y,z,t1,t2,t3,n,kk _ g,r⟩
 .rw[upd_ne hc]at ec
  have ne:∀d u,H d=some u->(∀xs,u≠.lst xs)->d≠b:=fun d u q nu z=>by subst z;rw[e]at q;cases q;exact nu _ rfl
  exact(hok c o ec).stay (fun _ _ _ q=>q) (fun d q=>by rw[upd_ne (ne d _ q fun _ z=>by cases z)];exact q) fun d xs q=>by rw[upd_ne (ne d _ q fun _ z=>by cases z)];exact q
theorem box_open {P:Program} {w:World} {H:Hp} {h:Heap} {b:Addr} {k:Nat} (hok:HOk P w H h) (e:H b=some (BoxO b k)):∃x y z:Int,0<=x/\0<=y/\y<2 ^ 62/\0<=z/\z<=k/\HOk P w (upd H b (BoxL x y z)) h:=by
 obtain⟨⟨x,y,z,t1,t2,t3,n,g,hx,hy,hy2,hz,hk⟩,_,_⟩:=(show ObjOk P w H h b (.ext _) from hok b _ e)
 refine⟨x,y,z,hx,hy,hy2,hz,hk,fun c o ec=>?_⟩
 by_cases hc:c=b
 .subst hc
  rw[upd_same]at ec
  cases ec
  exact⟨by show 3<=sizeLine;decide,[.int x t1,.int y t2,.int z t3],n,.cons ⟨_,rfl⟩ (.cons ⟨_,rfl⟩ (.cons ⟨_,rfl⟩ .nil)),g⟩
 .rw[upd_ne hc]at ec
  have ne:∀d u,H d=some u->(∀φ,u≠.ext φ)->d≠b:=fun d u q nu z=>by subst z;rw[e]at q;cases q;exact nu _ rfl
  exact(hok c o ec).stay (fun _ _ _ q=>q) (fun d q=>by rw[upd_ne (ne d _ q fun _ z=>by cases z)];exact q) fun d xs q=>by rw[upd_ne (ne d _ q fun _ z=>by cases z)];exact q
theorem un_close {fs ex:List Addr} {H H':Hp} {h h':Heap} {b:Addr} {xs:List V} {o:HO} (u:Un fs ex H H' h h') (e:H' b=some (.lst xs)):Un fs ex H (upd H' b o) h h' where
 keep:=u.keep
 slot:=u.slot
 free:=fun c ob q n hx=>by
  have z:=u.free c ob q n hx
  rw[upd_ne (fun z2=>by subst z2;rw[e]at z;cases z)]
  exact z
 there:=u.there
 tups:=fun c ys q=>by
  have z:=u.tups c ys q
  rw[upd_ne (fun z2=>by subst z2;rw[e]at z;cases z)]
  exact z
 frzs:=fun c ob ys q=>by
  have z:=u.frzs c ob ys q
  rw[upd_ne (fun z2=>by subst z2;rw[e]at z;cases z)]
  exact z
 tbls:=fun c ps q=>by
  obtain⟨m,z⟩:=u.tbls c ps q
  exact⟨m,by rw[upd_ne (fun z2=>by subst z2;rw[e]at z;cases z)];exact z⟩
theorem un_open {fs ex:List Addr} {H H':Hp} {h h':Heap} {b:Addr} {φ:Heap->Prop} {o:HO} (u:Un fs ex (upd H b o) H' h h') (e:H b=some (.ext φ)):Un fs ex H H' h h':=by
 have ne:∀c,H c=none->c≠b:=fun c n z=>by subst z;rw[e]at n;cases n
 have ne2:∀c v,H c=some v->(∀ψ,v≠.ext ψ)->c≠b:=fun c v q nv z=>by subst z;rw[e]at q;cases q;exact nv _ rfl
 exact⟨fun c ob q n=>u.keep c ob q (by rw[upd_ne (ne c n)];exact n),fun c ob q n=>u.slot c ob q (by rw[upd_ne (ne c n)];exact n),fun c ob q n=>u.free c ob q (by rw[upd_ne (ne c n)];exact n),u.there,
  fun c ys q=>u.tups c ys (by rw[upd_ne (ne2 c _ q fun _ z=>by cases z)];exact q),fun c ob ys q=>u.frzs c ob ys (by rw[upd_ne (ne2 c _ q fun _ z=>by cases z)];exact q),fun c ps q=>u.tbls c ps (by rw[upd_ne (ne2 c _ q fun _ z=>by cases z)];exact q)⟩
section
variable {P:Program} {w:World} {K:W.Frag} {mg:Str->Option Value} {base:Heap} {k:Nat} {f:Addr} {fd:FuncData} {ps:List Str} {sp sp':Sp}
def Shut (Q:VK) (v:V) (H:Hp):Prop:=∃b x y z m,H b=some (BoxL x y z)/\0<=x/\0<=y/\y<2 ^ 62/\0<=z/\z<=((m:Nat):Int)/\Q v (upd H b (BoxO b m))
theorem shut_fn (F:FnOk P w K mg base CX0 k f fd ps sp) (h:∀vs H Q E,sp' vs H Q E->sp vs H (Shut Q) E):FnOk P w K mg base CX0 k f fd ps sp':=by
 refine⟨fun vs H Q E q=>F.len vs H _ E (h _ _ _ _ q),fun A outer s H args us vs Q E hr e0 hb hv hs=>?_⟩
 refine codeAny_mono (F.run A outer s H args us vs _ E hr e0 hb hv (h _ _ _ _ hs)) fun r s' hq=>?_
 cases r with
 |error e=>exact hq
 |ok fl=>
  cases fl with
  |next=>exact hq
  |brk=>exact hq
  |cont=>exact hq
  |ret u=>
   obtain⟨v,H',os,bare,un,hok,rv,b,x,y,z,m,eb,hx,hy,hy2,hz,hm,q⟩:=hq
   exact⟨v,_,os,bare,un_close un eb,box_close hok eb hx hy hy2 hz hm,rv,q⟩
theorem open_fn (F:FnOk P w K mg base CX0 k f fd ps sp) (h:∀vs H Q E,sp' vs H Q E->∃b n,H b=some (BoxO b n)/\∀x y z,0<=x->0<=y->y<2 ^ 62->0<=z->z<=((n:Nat):Int)->sp vs (upd H b (BoxL x y z)) Q E) (len:∀vs H Q E,sp' vs H Q E->vs.length=ps.length):FnOk P w K mg base CX0 k f fd ps sp':=by
 refine⟨len,fun A outer s H args us vs Q E hr e0 hb hv hs=>?_⟩
 obtain⟨b,n,eb,hsp⟩:=h _ _ _ _ hs
 obtain⟨x,y,z,hx,hy,hy2,hz,hn,hok⟩:=box_open e0.hok eb
 have ne:∀c,H c=none->c≠b:=fun c n z=>by subst z;rw[eb]at n;cases n
 have e1:Env0 P w K mg base A outer s (upd H b (BoxL x y z)):=⟨e0.frames,e0.mod,fun c o e=>⟨(e0.bs c o e).1,by rw[upd_ne (ne c (e0.bs c o e).2)];exact(e0.bs c o e).2⟩,e0.bsz,e0.funs,fun c hc=>by rw[upd_ne (ne c (e0.frf c hc))];exact e0.frf c hc,hok,e0.bare⟩
 refine codeAny_mono (F.run A outer s _ args us vs Q E hr e1 hb hv (hsp x y z hx hy hy2 hz hn)) fun r s' hq=>?_
 cases r with
 |error e=>exact hq
 |ok fl=>
  cases fl with
  |next=>exact hq
  |brk=>exact hq
  |cont=>exact hq
  |ret u=>
   obtain⟨v,H',os,bare,un,hok,rv,q⟩:=hq
   exact⟨v,H',os,bare,un_open un eb,hok,rv,q⟩
end
structure Go (c:Nat) (H H':Hp):Prop where
 box:∀a n,H a=some (BoxO a n)->∃m,m<=n+c/\H' a=some (BoxO a m)
 oth:∀a o,H a=some o->(∀φ,o≠.ext φ)->H' a=some o
 free:∀a,H' a=none->H a=none
theorem Go.of_same {c:Nat} {H H':Hp} (h:Same H H'):Go c H H':=⟨fun a n e=>⟨n,by omega,h a _ e⟩,fun a o e _=>h a o e,fun a e=>h.free e⟩
theorem Go.refl {c:Nat} {H:Hp}:Go c H H:=.of_same (Same.refl H)
theorem Go.trans {c d:Nat} {H H1 H2:Hp} (a:Go c H H1) (b:Go d H1 H2):Go (c+d) H H2:=⟨fun p n e=>by
  obtain⟨m,hm,e1⟩:=a.box p n e
  obtain⟨m',hm',e2⟩:=b.box p m e1
  exact⟨m',by omega,e2⟩,fun p o e no=>b.oth p o (a.oth p o e no) no,fun p e=>a.free p (b.free p e)⟩
theorem Go.mono {c d:Nat} {H H1:Hp} (a:Go c H H1) (h:c<=d):Go d H H1:=⟨fun p n e=>by
  obtain⟨m,hm,e1⟩:=a.box p n e
  exact⟨m,by omega,e1⟩,a.oth,a.free⟩
theorem Go.lst {c:Nat} {H H1:Hp} (a:Go c H H1) {p:Addr} {xs:List V} (e:H p=some (.lst xs)):H1 p=some (.lst xs):=a.oth p _ e fun _ z=>by cases z
theorem Go.tup {c:Nat} {H H1:Hp} (a:Go c H H1) {p:Addr} {xs:List V} (e:H p=some (.tup xs)):H1 p=some (.tup xs):=a.oth p _ e fun _ z=>by cases z
theorem Go.seq {c:Nat} {K:W.Frag} {H H1:Hp} (g:Go c H H1) {a:Addr} {xs:List V} (h:SqL K H a xs):SqL K H1 a xs:=by
 rcases h with(h|⟨o,h⟩)|h
 .exact .inl (.inl (g.lst h))
 .exact .inl (.inr ⟨o,g.oth _ _ h fun _ z=>by cases z⟩)
 .exact .inr h
theorem Go.new {c:Nat} {H:Hp} {p:Addr} (h:H p=none) (o:HO):Go c H (upd H p o):=.of_same fun b u q=>by rw[upd_ne (ne_of_none q h)];exact q
theorem Go.draw {H:Hp} {b:Addr} {n m:Nat} (e:H b=some (BoxO b n)) (h:m<=n+1) (o:HO):Go 1 H (upd (upd H b o) b (BoxO b m)):=by
 rw[upd_upd]
 refine⟨fun p k q=>?_,fun p u q no=>?_,fun p q=>?_⟩
 .by_cases hp:p=b
  .subst hp
   rw[e]at q
   have:=box_le (Option.some.inj q)
   exact⟨m,by omega,upd_same⟩
  .exact⟨k,by omega,by rw[upd_ne hp];exact q⟩
 .rw[upd_ne]
  .exact q
  .intro z
   subst z
   rw[e]at q
   cases q
   exact no _ rfl
 .by_cases hp:p=b
  .subst hp
   rw[upd_same]at q
   cases q
  .rw[upd_ne hp]at q
   exact q
section
variable {C:Rc} {σ:L2.St} {H:Hp} {Q:VK} {D:Ends} {Qb:Bool->Hp->Prop}
def kV (o:Option (Option V)) (H:Hp) (Q:VK):Prop:=∃v,o=some (some v)/\Q v H
theorem kV_some {v:V}:kV (some (some v)) H Q=Q v H:=propext ⟨fun⟨u,e,q⟩=>by cases e;exact q,fun q=>⟨v,rfl,q⟩⟩
theorem tE_var {i:Nat}:tE C (.var i) σ H Q=kV σ[i]? H Q:=rfl
theorem tE_int {n:Int}:tE C (.int n) σ H Q=Q (.int n) H:=rfl
theorem tE_bl {b:Bool}:tE C (.bl b) σ H Q=Q (.bl b) H:=rfl
theorem tE_non:tE C .non σ H Q=Q .non H:=rfl
theorem tE_str {x:Str}:tE C (.str x) σ H Q=Q (.str x) H:=rfl
noncomputable def kB1 (C:Rc) (σ:L2.St) (op:Operator) (b:Ce) (Q:VK):VK:=fun x H=>tE C b σ H fun y H2=>rBin C.K op x y H2 Q
noncomputable def kB2 (C:Rc) (op:Operator) (x:V) (Q:VK):VK:=fun y H=>rBin C.K op x y H Q
theorem tE_bin {op:Operator} {a b:Ce}:tE C (.bin op a b) σ H Q=tE C a σ H (kB1 C σ op b Q):=rfl
theorem kB1_at {op:Operator} {b:Ce} {x:V}:kB1 C σ op b Q x H=tE C b σ H (kB2 C op x Q):=rfl
theorem kB2_at {op:Operator} {x y:V}:kB2 C op x Q y H=rBin C.K op x y H Q:=rfl
noncomputable def kC1 (C:Rc) (σ:L2.St) (op:CmpOp) (b:Ce) (Q:VK):VK:=fun x H=>tE C b σ H fun y H2=>rCmp C.K op x y H2 Q
noncomputable def kC2 (C:Rc) (op:CmpOp) (x:V) (Q:VK):VK:=fun y H=>rCmp C.K op x y H Q
theorem tE_cmp {op:CmpOp} {a b:Ce}:tE C (.cmp op a b) σ H Q=tE C a σ H (kC1 C σ op b Q):=rfl
theorem kC1_at {op:CmpOp} {b:Ce} {x:V}:kC1 C σ op b Q x H=tE C b σ H (kC2 C op x Q):=rfl
theorem kC2_at {op:CmpOp} {x y:V}:kC2 C op x Q y H=rCmp C.K op x y H Q:=rfl
noncomputable def kI1 (C:Rc) (σ:L2.St) (b:Ce) (Q:VK):VK:=fun x H=>tE C b σ H fun y H2=>rIxM C.K x y H2 Q
noncomputable def kI2 (C:Rc) (x:V) (Q:VK):VK:=fun y H=>rIxM C.K x y H Q
theorem tE_idx {a b:Ce}:tE C (.idx a b) σ H Q=tE C a σ H (kI1 C σ b Q):=rfl
theorem kI1_at {b:Ce} {x:V}:kI1 C σ b Q x H=tE C b σ H (kI2 C x Q):=rfl
theorem kI2_at {x y:V}:kI2 C x Q y H=rIxM C.K x y H Q:=rfl
noncomputable def kNeg (Q:VK):VK:=fun x H=>rU (fun i=>.int (-i)) x H Q
theorem tE_neg {a:Ce}:tE C (.neg a) σ H Q=tE C a σ H (kNeg Q):=rfl
theorem kNeg_int {i:Int}:kNeg Q (.int i) H=Q (.int (-i)) H:=propext ⟨fun⟨u,e,q⟩=>by cases e;exact q,fun q=>⟨i,rfl,q⟩⟩
noncomputable def kT (Qb:Bool->Hp->Prop):VK:=fun x H=>∃k,x=.bl k/\Qb k H
theorem kT_bl {k:Bool}:kT Qb (.bl k) H=Qb k H:=propext ⟨fun⟨u,e,q⟩=>by cases e;exact q,fun q=>⟨k,rfl,q⟩⟩
theorem tQ_cmp {op:CmpOp} {a b:Ce}:tQ C (.cmp op a b) σ H Qb=tE C a σ H (kC1 C σ op b (kT Qb)):=rfl
noncomputable def kNotQ (Qb:Bool->Hp->Prop):Bool->Hp->Prop:=fun c H=>Qb (!c) H
theorem tQ_not {q:Cq}:tQ C (.not q) σ H Qb=tQ C q σ H (kNotQ Qb):=rfl
theorem kNotQ_at {c:Bool}:kNotQ Qb c H=Qb (!c) H:=rfl
noncomputable def kAndQ (C:Rc) (σ:L2.St) (b:Cq) (Qb:Bool->Hp->Prop):Bool->Hp->Prop:=fun c H=>if c=true then tQ C b σ H Qb else Qb false H
noncomputable def kOrQ (C:Rc) (σ:L2.St) (b:Cq) (Qb:Bool->Hp->Prop):Bool->Hp->Prop:=fun c H=>if c=true then Qb true H else tQ C b σ H Qb
theorem tQ_and {a b:Cq}:tQ C (.and a b) σ H Qb=tQ C a σ H (kAndQ C σ b Qb):=rfl
theorem tQ_or {a b:Cq}:tQ C (.or a b) σ H Qb=tQ C a σ H (kOrQ C σ b Qb):=rfl
theorem kAndQ_t {b:Cq}:kAndQ C σ b Qb true H=tQ C b σ H Qb:=rfl
theorem kAndQ_f {b:Cq}:kAndQ C σ b Qb false H=Qb false H:=rfl
theorem kOrQ_t {b:Cq}:kOrQ C σ b Qb true H=Qb true H:=rfl
theorem kOrQ_f {b:Cq}:kOrQ C σ b Qb false H=tQ C b σ H Qb:=rfl
variable {K:W.Frag} {i j:Int} {x y:Str}
theorem b_add:rBin K .Add (.int i) (.int j) H Q=Q (.int (i+j)) H:=rfl
theorem b_adds:rBin K .Add (.str x) (.str y) H Q=(x.length+y.length<=sizeLine/\Q (.str (x++y)) H):=rfl
theorem b_sub:rBin K .Sub (.int i) (.int j) H Q=Q (.int (i-j)) H:=propext ⟨fun⟨_,_,e,e',q⟩=>by cases e;cases e';exact q,fun q=>⟨_,_,rfl,rfl,q⟩⟩
theorem b_mul:rBin K .Mult (.int i) (.int j) H Q=(CMulW i j/\Q (.int (i*j)) H):=rfl
theorem b_muls:rBin K .Mult (.str x) (.int j) H Q=(-1000000<=j/\j<=1000000/\x.length*j.toNat<=1000000/\Q (.str (Txt.mul x j)) H):=rfl
theorem b_mod:rBin K .Mod (.int i) (.int j) H Q=(0<j/\Q (.int (i % j)) H):=propext ⟨fun⟨_,_,e,e',c,q⟩=>by cases e;cases e';exact⟨c,q⟩,fun q=>⟨_,_,rfl,rfl,q.1,q.2⟩⟩
theorem b_div:rBin K .FloorDiv (.int i) (.int j) H Q=(CDivW i j/\Q (.int (i / j)) H):=propext ⟨fun⟨_,_,e,e',c,q⟩=>by cases e;cases e';exact⟨c,q⟩,fun q=>⟨_,_,rfl,rfl,q.1,q.2⟩⟩
theorem b_pow:rBin K .Pow (.int i) (.int j) H Q=(CPow i j/\Q (.int (i ^ j.toNat)) H):=propext ⟨fun⟨_,_,e,e',c,q⟩=>by cases e;cases e';exact⟨c,q⟩,fun q=>⟨_,_,rfl,rfl,q.1,q.2⟩⟩
theorem c_lt:rCmp K .Lt (.int i) (.int j) H Q=Q (.bl (decide (i<j))) H:=propext ⟨fun⟨_,_,e,e',q⟩=>by cases e;cases e';exact q,fun q=>⟨_,_,rfl,rfl,q⟩⟩
theorem c_gt:rCmp K .Gt (.int i) (.int j) H Q=Q (.bl (decide (j<i))) H:=propext ⟨fun⟨_,_,e,e',q⟩=>by cases e;cases e';exact q,fun q=>⟨_,_,rfl,rfl,q⟩⟩
theorem c_ge:rCmp K .GtE (.int i) (.int j) H Q=Q (.bl (decide (j<=i))) H:=propext ⟨fun⟨_,_,e,e',q⟩=>by cases e;cases e';exact q,fun q=>⟨_,_,rfl,rfl,q⟩⟩
theorem c_eq:rCmp K .Eq (.int i) (.int j) H Q=Q (.bl (decide (i=j))) H:=by
 have e:decide (V.int i=V.int j)=decide (i=j):=by simp
 exact propext ⟨fun q=>e ▸ q.2,fun q=>⟨rfl,e.symm ▸ q⟩⟩
theorem c_eqs:rCmp K .Eq (.str x) (.str y) H Q=Q (.bl (decide (x=y))) H:=by
 have e:decide (V.str x=V.str y)=decide (x=y):=by simp
 exact propext ⟨fun q=>e ▸ q.2,fun q=>⟨rfl,e.symm ▸ q⟩⟩
theorem ix_ref {a:Addr}:rIxM K (.ref a) (.int i) H Q=(rIxL K (.ref a) (.int i) H Q\/rIxT K (.ref a) (.int i) H Q):=rfl
noncomputable def kSeq (C:Rc) (r:Css) (D:Ends):Ends:={ D with nx:=tSs C r D }
theorem ss_nil:tSs C .nil D σ H=D.nx σ H:=rfl
theorem ss_cons {s:Cs} {r:Css}:tSs C (.cons s r) D σ H=tS C s (kSeq C r D) σ H:=rfl
theorem seq_nx {r:Css}:(kSeq C r D).nx σ H=tSs C r D σ H:=rfl
theorem seq_rt {r:Css}:(kSeq C r D).rt=D.rt:=rfl
theorem seq_bk {r:Css}:(kSeq C r D).bk=D.bk:=rfl
theorem seq_ct {r:Css}:(kSeq C r D).ct=D.ct:=rfl
theorem s_ret {e:Ce}:tS C (.ret e) D σ H=tE C e σ H D.rt:=rfl
noncomputable def kDrop (D:Ends) (σ:L2.St):VK:=fun _ H=>D.nx σ H
theorem s_expr {e:Ce}:tS C (.expr e) D σ H=tE C e σ H (kDrop D σ):=rfl
theorem kDrop_at {v:V}:kDrop D σ v H=D.nx σ H:=rfl
noncomputable def kSet (i:Nat) (D:Ends) (σ:L2.St):VK:=fun x H=>D.nx (σ.set i (some x)) H
theorem s_set {i:Nat} {e:Ce}:tS C (.asg (.name i) e) D σ H=tE C e σ H (kSet i D σ):=rfl
theorem kSet_at {i:Nat} {v:V}:kSet i D σ v H=D.nx (σ.set i (some v)) H:=rfl
noncomputable def kSub1 (C:Rc) (o i:Ce) (D:Ends) (σ:L2.St):VK:=fun v H=>tE C o σ H fun p H1=>tE C i σ H1 fun k H2=>rSetL p k v H2 fun H3=>D.nx σ H3
noncomputable def kSub2 (C:Rc) (i:Ce) (v:V) (D:Ends) (σ:L2.St):VK:=fun p H1=>tE C i σ H1 fun k H2=>rSetL p k v H2 fun H3=>D.nx σ H3
noncomputable def kSub3 (p v:V) (D:Ends) (σ:L2.St):VK:=fun k H2=>rSetL p k v H2 fun H3=>D.nx σ H3
theorem s_sub {o i e:Ce}:tS C (.asg (.sub o i) e) D σ H=tE C e σ H (kSub1 C o i D σ):=rfl
theorem kSub1_at {o i:Ce} {v:V}:kSub1 C o i D σ v H=tE C o σ H (kSub2 C i v D σ):=rfl
theorem kSub2_at {i:Ce} {v p:V}:kSub2 C i v D σ p H=tE C i σ H (kSub3 p v D σ):=rfl
theorem kSub3_at {v p k:V}:kSub3 p v D σ k H=rSetL p k v H (D.nx σ):=rfl
noncomputable def kIf (C:Rc) (a b:Css) (D:Ends) (σ:L2.St):Bool->Hp->Prop:=fun c H=>if c=true then tSs C a D σ H else tSs C b D σ H
theorem s_if {q:Cq} {a b:Css}:tS C (.ite q a b) D σ H=tQ C q σ H (kIf C a b D σ):=rfl
theorem kIf_t {a b:Css}:kIf C a b D σ true H=tSs C a D σ H:=rfl
theorem kIf_f {a b:Css}:kIf C a b D σ false H=tSs C b D σ H:=rfl
theorem by_dec {p:Prop} [Decidable p] {F:Bool->Hp->Prop} (h1:p->F true H) (h2:¬p->F false H):F (decide p) H:=by
 by_cases h:p
 .rw[decide_eq_true h];exact h1 h
 .rw[decide_eq_false h];exact h2 h
end
section
variable {C:Rc} {σ:L2.St} {H:Hp} {Q:VK} {D:Ends} {Qb:Bool->Hp->Prop} {Qs:List V->Hp->Prop}
noncomputable def kA1 (C:Rc) (σ:L2.St) (r:Ces) (Qs:List V->Hp->Prop):VK:=fun x H=>tA C r σ H fun xs H2=>Qs (x :: xs) H2
noncomputable def kA2 (x:V) (Qs:List V->Hp->Prop):List V->Hp->Prop:=fun xs H=>Qs (x :: xs) H
theorem a_nil:tA C .nil σ H Qs=Qs [] H:=rfl
theorem a_cons {e:Ce} {r:Ces}:tA C (.cons e r) σ H Qs=tE C e σ H (kA1 C σ r Qs):=rfl
theorem kA1_at {r:Ces} {x:V}:kA1 C σ r Qs x H=tA C r σ H (kA2 x Qs):=rfl
theorem kA2_at {x:V} {xs:List V}:kA2 x Qs xs H=Qs (x :: xs) H:=rfl
noncomputable def kTup (Q:VK):List V->Hp->Prop:=fun xs H=>xs.length<=sizeLine/\∀p,H p=none->Q (.ref p) (upd H p (.tup xs))
noncomputable def kLst (Q:VK):List V->Hp->Prop:=fun xs H=>xs.length<=sizeLine/\∀p,H p=none->Q (.ref p) (upd H p (.lst xs))
theorem tE_tup {es:Ces}:tE C (.tup es) σ H Q=tA C es σ H (kTup Q):=rfl
theorem tE_lst {es:Ces}:tE C (.lst es) σ H Q=tA C es σ H (kLst Q):=rfl
theorem kTup_at {xs:List V}:kTup Q xs H=(xs.length<=sizeLine/\∀p,H p=none->Q (.ref p) (upd H p (.tup xs))):=rfl
theorem kLst_at {xs:List V}:kLst Q xs H=(xs.length<=sizeLine/\∀p,H p=none->Q (.ref p) (upd H p (.lst xs))):=rfl
noncomputable def kCall (o:Option Sp) (E:XK) (Q:VK):List V->Hp->Prop:=fun vs H=>match o with
 |some sp=>sp (vs++[]) H Q E
 |none=>False
theorem tE_call {f:Str} {es:Ces} {sp:Sp} (h:C.fs f=some sp):tE C (.call f es) σ H Q=tA C es σ H (kCall (some sp) (C.xk σ) Q):=by
 show(match C.fs f with|some sp=>tCall sp [] (C.xk σ) (tA C es) σ H Q|none=>False)=_
 rw[h]
 rfl
theorem kCall_at {sp:Sp} {E:XK} {vs:List V}:kCall (some sp) E Q vs H=sp vs H Q E:=by
 show sp (vs++[]) H Q E=_
 rw[List.append_nil]
noncomputable def kBlt (C:Rc) (f:Bf) (Q:VK):List V->Hp->Prop:=fun vs H=>rBlt C.K f vs H Q
theorem tE_blt {f:Bf} {es:Ces}:tE C (.blt f es) σ H Q=tA C es σ H (kBlt C f Q):=rfl
theorem kBlt_at {f:Bf} {vs:List V}:kBlt C f Q vs H=rBlt C.K f vs H Q:=rfl
noncomputable def kMet1 (C:Rc) (σ:L2.St) (m:Mf) (es:Ces) (Q:VK):VK:=fun x H=>tyV C.K (metTy m) x H/\tA C es σ H fun xs H2=>rMet C.K m x xs H2 Q
noncomputable def kMet2 (C:Rc) (m:Mf) (x:V) (Q:VK):List V->Hp->Prop:=fun xs H=>rMet C.K m x xs H Q
theorem tE_met {m:Mf} {o:Ce} {es:Ces}:tE C (.met m o es) σ H Q=tE C o σ H (kMet1 C σ m es Q):=rfl
theorem kMet1_at {m:Mf} {es:Ces} {x:V}:kMet1 C σ m es Q x H=(tyV C.K (metTy m) x H/\tA C es σ H (kMet2 C m x Q)):=rfl
theorem kMet2_at {m:Mf} {x:V} {xs:List V}:kMet2 C m x Q xs H=rMet C.K m x xs H Q:=rfl
noncomputable def kIfe (C:Rc) (σ:L2.St) (a b:Ce) (Q:VK):Bool->Hp->Prop:=fun c H=>if c=true then tE C a σ H Q else tE C b σ H Q
theorem tE_ife {q:Cq} {a b:Ce}:tE C (.ife q a b) σ H Q=tQ C q σ H (kIfe C σ a b Q):=rfl
theorem kIfe_t {a b:Ce}:kIfe C σ a b Q true H=tE C a σ H Q:=rfl
theorem kIfe_f {a b:Ce}:kIfe C σ a b Q false H=tE C b σ H Q:=rfl
noncomputable def kNotV (Q:VK):VK:=fun x H=>∃c,x=.bl c/\Q (.bl (!c)) H
theorem tE_not {a:Ce}:tE C (.not a) σ H Q=tE C a σ H (kNotV Q):=rfl
noncomputable def kAndV (C:Rc) (σ:L2.St) (b:Ce) (Q:VK):VK:=fun x H=>∃c,x=.bl c/\if c=true then tE C b σ H Q else Q (.bl false) H
noncomputable def kOrV (C:Rc) (σ:L2.St) (b:Ce) (Q:VK):VK:=fun x H=>∃c,x=.bl c/\if c=true then Q (.bl true) H else tE C b σ H Q
theorem tE_and {a b:Ce}:tE C (.and a b) σ H Q=tE C a σ H (kAndV C σ b Q):=rfl
theorem tE_or {a b:Ce}:tE C (.or a b) σ H Q=tE C a σ H (kOrV C σ b Q):=rfl
theorem kAndV_t {b:Ce}:kAndV C σ b Q (.bl true) H=tE C b σ H Q:=propext ⟨fun⟨u,e,q⟩=>by cases e;exact q,fun q=>⟨_,rfl,q⟩⟩
noncomputable def kTru (C:Rc) (Qb:Bool->Hp->Prop):VK:=fun x H=>∃k,TruV C.K x H k/\Qb k H
theorem tQ_val {e:Ce}:tQ C (.val e) σ H Qb=tE C e σ H (kTru C Qb):=rfl
noncomputable def kCut1 (C:Rc) (σ:L2.St) (lo hi:Co) (Q:VK):VK:=fun x H=>tO C lo σ H fun l H2=>tO C hi σ H2 fun u H3=>rSl C.K x l u H3 Q
noncomputable def kCut2 (C:Rc) (σ:L2.St) (hi:Co) (x:V) (Q:VK):Option Int->Hp->Prop:=fun l H=>tO C hi σ H fun u H3=>rSl C.K x l u H3 Q
noncomputable def kCut3 (C:Rc) (x:V) (l:Option Int) (Q:VK):Option Int->Hp->Prop:=fun u H=>rSl C.K x l u H Q
theorem tE_cut {a:Ce} {lo hi:Co}:tE C (.cut a lo hi) σ H Q=tE C a σ H (kCut1 C σ lo hi Q):=rfl
theorem kCut1_at {lo hi:Co} {x:V}:kCut1 C σ lo hi Q x H=tO C lo σ H (kCut2 C σ hi x Q):=rfl
theorem kCut2_at {hi:Co} {x:V} {l:Option Int}:kCut2 C σ hi x Q l H=tO C hi σ H (kCut3 C x l Q):=rfl
theorem kCut3_at {x:V} {l u:Option Int}:kCut3 C x l Q u H=rSl C.K x l u H Q:=rfl
variable {Qo:Option Int->Hp->Prop}
noncomputable def kPart (Qo:Option Int->Hp->Prop):VK:=fun x H=>∃i,x=.int i/\Qo (some i) H
theorem o_none:tO C .none σ H Qo=Qo none H:=rfl
theorem o_some {e:Ce}:tO C (.some e) σ H Qo=tE C e σ H (kPart Qo):=rfl
theorem kPart_int {i:Int}:kPart Qo (.int i) H=Qo (some i) H:=propext ⟨fun⟨u,e,q⟩=>by cases e;exact q,fun q=>⟨i,rfl,q⟩⟩
theorem sl_ref {K:W.Frag} {a:Addr} {l u:Option Int}:rSl K (.ref a) l u H Q=(rSlL K (.ref a) l u H Q\/rSlT K (.ref a) l u H Q\/rSlW K (.ref a) l u H Q):=rfl
noncomputable def kAug (i:Nat) (sub:Bool) (x:V) (D:Ends) (σ:L2.St):VK:=fun y H=>∃a b,x=.int a/\y=.int b/\D.nx (σ.set i (some (.int (if sub then a-b else a+b)))) H
theorem s_aug {i:Nat} {sub:Bool} {e:Ce} {a:Int} (h:σ[i]?=some (some (.int a))):tS C (.aug i sub e) D σ H=tE C e σ H (kAug i sub (.int a) D σ):=by
 show(∃x,σ[i]?=some (some x)/\tE C e σ H fun y H1=>(ipI fun i j=>if sub then i-j else i+j) x y H1 fun z H2=>D.nx (σ.set i (some z)) H2)=_
 rw[h]
 exact propext ⟨fun⟨x,e,q⟩=>by cases e;exact q,fun q=>⟨_,rfl,q⟩⟩
theorem kAug_int {i:Nat} {sub:Bool} {a b:Int}:kAug i sub (.int a) D σ (.int b) H=D.nx (σ.set i (some (.int (if sub then a-b else a+b)))) H:=propext ⟨fun⟨_,_,e,e',q⟩=>by cases e;cases e';exact q,fun q=>⟨_,_,rfl,rfl,q⟩⟩
noncomputable def kPar1 (C:Rc) (σ:L2.St) (i j:Nat) (b:Ce) (D:Ends):VK:=fun v H=>tE C b σ H fun w H1=>D.nx ((σ.set i (some v)).set j (some w)) H1
noncomputable def kPar2 (σ:L2.St) (i j:Nat) (v:V) (D:Ends):VK:=fun w H=>D.nx ((σ.set i (some v)).set j (some w)) H
theorem kPar1_at {i j:Nat} {b:Ce} {v:V}:kPar1 C σ i j b D v H=tE C b σ H (kPar2 σ i j v D):=rfl
theorem kPar2_at {i j:Nat} {v w:V}:kPar2 σ i j v D w H=D.nx ((σ.set i (some v)).set j (some w)) H:=rfl
end
noncomputable def cb (b:Bool):Nat:=if b then 49 else 48
noncomputable def tx (l:List Bool):Str:=⟨(l.map cb).toArray⟩
theorem cb_inj {a b:Bool} (h:cb a=cb b):a=b:=by cases a<;>cases b<;>first|rfl|cases h
theorem tx_inj {a b:List Bool} (h:tx a=tx b):a=b:=by
 have h1:(a.map cb).toArray=(b.map cb).toArray:=congrArg Str.cps h
 have h2:a.map cb=b.map cb:=by simpa using h1
 exact List.map_inj_right (f:=cb) (fun x y=>cb_inj) |>.mp h2
theorem tx_len {a:List Bool}:(tx a).length=a.length:=by show(a.map cb).toArray.size=_;simp
theorem tx_cps {a:List Bool}:(tx a).cps.toList=a.map cb:=rfl
theorem tx_size {a:List Bool}:(tx a).cps.size=a.length:=by show(a.map cb).toArray.size=_;simp
theorem tx_get {a:List Bool} {i:Nat}:(tx a).cps[i]?=a[i]?.map cb:=by show(a.map cb).toArray[i]?=_;simp
theorem tx_app {a b:List Bool}:tx a++tx b=tx (a++b):=by
 show(⟨(a.map cb).toArray++(b.map cb).toArray⟩:Str)=⟨((a++b).map cb).toArray⟩
 simp
theorem tx_01:(PySem.Str.ofString "01")=tx [false,true]:=by decide +kernel
theorem tx_10:(PySem.Str.ofString "10")=tx [true,false]:=by decide +kernel
theorem tx_0:(PySem.Str.ofString "0")=tx [false]:=by decide +kernel
theorem tx_1:(PySem.Str.ofString "1")=tx [true]:=by decide +kernel
theorem tx_nil:(PySem.Str.ofString "")=tx []:=by decide +kernel
theorem tx_int {c:Bool}:PySem.intText? (tx [c])=some (if c then 1 else 0):=by cases c<;>decide +kernel
theorem tx_take {a:List Bool} {n:Nat} (h:n<=a.length):Txt.slice (tx a) none (some (n:Int))=tx (a.take n):=by
 have e:=slice_closes_to (x:=tx a) (j:=n) ⟨by omega,by rw[tx_cps,List.length_map];omega⟩
 rw[eq_of_beq e,tx_cps]
 simp[tx,List.map_take]
theorem tx_drop {a:List Bool} {n:Nat} (h:n<=a.length):Txt.slice (tx a) (some (n:Int)) none=tx (a.drop n):=by
 have e:=slice_closes_from (x:=tx a) (i:=n) ⟨by omega,by rw[tx_cps,List.length_map];omega⟩
 rw[eq_of_beq e,tx_cps]
 have e2:((List.map cb a).length:Int)-(n:Int)=((a.length-n:Nat):Int):=by rw[List.length_map];omega
 rw[e2]
 simp only[Int.toNat_natCast,tx,List.map_drop]
 rw[List.take_of_length_le (by simp)]
theorem start_eq {N:List Str} {vs:List V} {n:Nat} (h:N.length=n):L2.start N vs=vs.map some++List.replicate (n-vs.length) none:=by subst h;rfl
section
variable {C:Rc} {σ:L2.St} {H:Hp} {Q:VK} {D:Ends} {Qb:Bool->Hp->Prop}
theorem g_name {i:Nat} {v:V} {R:L2.St->Hp->Prop}:tG C (.name i) v σ H R=R (σ.set i (some v)) H:=rfl
theorem g_tup2 {i j:Nat} {a:Addr} {x y:V} {R:L2.St->Hp->Prop} (h:SqT C.K H a [x,y]) (q:R ((σ.set i (some x)).set j (some y)) H):tG C (.tup (.cons (.name i) (.cons (.name j) .nil))) (.ref a) σ H R:=
 ⟨a,[x,y],rfl,.inl h,rfl,_,_,rfl,_,_,rfl,rfl,q⟩
theorem g_tup3 {i j k:Nat} {a:Addr} {x y z:V} {R:L2.St->Hp->Prop} (h:SqT C.K H a [x,y,z]) (q:R (((σ.set i (some x)).set j (some y)).set k (some z)) H):tG C (.tup (.cons (.name i) (.cons (.name j) (.cons (.name k) .nil)))) (.ref a) σ H R:=
 ⟨a,[x,y,z],rfl,.inl h,rfl,_,_,rfl,_,_,rfl,_,_,rfl,rfl,q⟩
def kFor (C:Rc) (t:Ct) (b:Css) (D:Ends) (σ:L2.St) (J:It) (H1:Hp):Prop:=∃W:Nat->Nat->L2.St->Hp->Prop,(∃m,W 0 m σ H1)/\∀i m σ H,W i m σ H->
 (J.stop i H/\D.nx σ H)\/(J.go i H/\∃N:L2.St->Hp->Prop,(∀σ' H',N σ' H'->∃m',m'<m/\W (i+1) m' σ' H')/\∀x H',J.yld i H x H'->tG C t x σ H' fun σ2 H2=>tSs C b { D with nx:=N,ct:=N,bk:=D.nx } σ2 H2)
theorem s_for {t:Ct} {it:Ci} {b:Css}:tS C (.for_ t it b) D σ H=tI C it σ H (kFor C t b D σ):=rfl
noncomputable def kIv (C:Rc) (R:It->Hp->Prop):VK:=fun x H1=>
 (∃a,x=.ref a/\(∃xs,SqL C.K H1 a xs)/\R (Itl C.K a) H1)\/(∃a,x=.ref a/\(∃xs,SqT C.K H1 a xs)/\R (Itt C.K a) H1)\/∃z,x=.str z/\R (Its z) H1
theorem i_val {e:Ce} {R:It->Hp->Prop}:tI C (.val e) σ H R=tE C e σ H (kIv C R):=rfl
noncomputable def kR1 (R:It->Hp->Prop):VK:=fun x H1=>∃j:Int,x=.int j/\-(2 ^ 62)<=j/\j<2 ^ 62/\R (Itr 0 j.toNat) H1
theorem i_range1 {e:Ce} {R:It->Hp->Prop}:tI C (.range1 e) σ H R=tE C e σ H fun x H1=>∃j:Int,[x]=[.int j]/\-(2 ^ 62)<=j/\j<2 ^ 62/\R (Itr 0 j.toNat) H1:=rfl
theorem i_range1' {e:Ce} {R:It->Hp->Prop}:tI C (.range1 e) σ H R=tE C e σ H (kR1 R):=by
 rw[i_range1]
 congr 1
 funext x H1
 unfold kR1
 simp only[List.cons.injEq,and_true]
noncomputable def kR2b (R:It->Hp->Prop) (x:V):VK:=fun y H1=>∃i j:Int,x=.int i/\y=.int j/\(-(2 ^ 62)<=i/\i<2 ^ 62/\-(2 ^ 62)<=j/\j<2 ^ 62)/\R (Itr i (j-i).toNat) H1
noncomputable def kR2a (C:Rc) (σ:L2.St) (e:Ce) (R:It->Hp->Prop):VK:=fun x H1=>tE C e σ H1 (kR2b R x)
theorem i_range2' {a b:Ce} {R:It->Hp->Prop}:tI C (.range2 a b) σ H R=tE C a σ H (kR2a C σ b R):=by
 show(tE C a σ H fun x H1=>tE C b σ H1 fun y H2=>∃i j:Int,[x,y]=[.int i,.int j]/\(-(2 ^ 62)<=i/\i<2 ^ 62/\-(2 ^ 62)<=j/\j<2 ^ 62)/\R (Itr i (j-i).toNat) H2)=_
 congr 1
 funext x H1
 unfold kR2a
 congr 1
 funext y H2
 unfold kR2b
 simp only[List.cons.injEq,and_true,and_assoc]
theorem kR2a_at {e:Ce} {R:It->Hp->Prop} {x:V}:kR2a C σ e R x H=tE C e σ H (kR2b R x):=rfl
noncomputable def kZ2 (C:Rc) (R:It->Hp->Prop) (x:V):VK:=fun y H1=>∃(k j:Bool) (a b:Addr),x=.ref a/\y=.ref b/\(∃xs,Sq k C.K H1 a xs)/\(∃ys,Sq j C.K H1 b ys)/\R (Itz2 k j C.K a b) H1
noncomputable def kZ1 (C:Rc) (σ:L2.St) (e:Ce) (R:It->Hp->Prop):VK:=fun x H1=>tE C e σ H1 (kZ2 C R x)
theorem kZ1_at {e:Ce} {R:It->Hp->Prop} {x:V}:kZ1 C σ e R x H=tE C e σ H (kZ2 C R x):=rfl
noncomputable def kEn (C:Rc) (R:It->Hp->Prop):VK:=fun x H1=>(∃a,x=.ref a/\(∃xs,SqL C.K H1 a xs)/\R (Ite C.K a) H1)\/(∃z,x=.str z/\R (Iteg z) H1)\/∃a,x=.ref a/\(∃xs,SqT C.K H1 a xs)/\R (Itet C.K a) H1
theorem i_enum {a:Ce} {R:It->Hp->Prop}:tI C (.enum a) σ H R=tE C a σ H (kEn C R):=by
 show(tE C a σ H fun x H1=>∃y,[x]=[y]/\((∃a,y=.ref a/\(∃xs,SqL C.K H1 a xs)/\R (Ite C.K a) H1)\/(∃z,y=.str z/\R (Iteg z) H1)\/∃a,y=.ref a/\(∃xs,SqT C.K H1 a xs)/\R (Itet C.K a) H1))=_
 congr 1
 funext x H1
 unfold kEn
 exact propext ⟨fun⟨y,e,q⟩=>by cases e;exact q,fun q=>⟨x,rfl,q⟩⟩
theorem at_enL {R:It->Hp->Prop} {a:Addr} {xs:List V} (h:SqL C.K H a xs) (q:R (Ite C.K a) H):kEn C R (.ref a) H:=.inl ⟨a,rfl,⟨xs,h⟩,q⟩
theorem at_enS {R:It->Hp->Prop} {z:Str} (q:R (Iteg z) H):kEn C R (.str z) H:=.inr (.inl ⟨z,rfl,q⟩)
theorem at_iv_str {R:It->Hp->Prop} {z:Str} (q:R (Its z) H):kIv C R (.str z) H:=.inr (.inr ⟨z,rfl,q⟩)
theorem at_iv_lst {R:It->Hp->Prop} {a:Addr} {xs:List V} (h:SqL C.K H a xs) (q:R (Itl C.K a) H):kIv C R (.ref a) H:=.inl ⟨a,rfl,⟨xs,h⟩,q⟩
theorem at_iv_tup {R:It->Hp->Prop} {a:Addr} {xs:List V} (h:SqT C.K H a xs) (q:R (Itt C.K a) H):kIv C R (.ref a) H:=.inr (.inl ⟨a,rfl,⟨xs,h⟩,q⟩)
theorem at_r1 {R:It->Hp->Prop} {j:Int} (h0:-(2 ^ 62)<=j) (h1:j<2 ^ 62) (q:R (Itr 0 j.toNat) H):kR1 R (.int j) H:=⟨j,rfl,h0,h1,q⟩
theorem at_r2 {R:It->Hp->Prop} {i j:Int} (h0:-(2 ^ 62)<=i) (h1:i<2 ^ 62) (h2:-(2 ^ 62)<=j) (h3:j<2 ^ 62) (q:R (Itr i (j-i).toNat) H):kR2b R (.int i) (.int j) H:=⟨i,j,rfl,rfl,⟨h0,h1,h2,h3⟩,q⟩
theorem for_r {lo:Int} {n:Nat} {t:Ct} {b:Css} (Pv:Nat->L2.St->Hp->Prop) (h0:Pv 0 σ H)
  (hs:∀i σ H,i<n->Pv i σ H->tG C t (.int (lo+i)) σ H (tSs C b { D with nx:=Pv (i+1),ct:=Pv (i+1),bk:=D.nx })) (hd:∀σ H,Pv n σ H->D.nx σ H):kFor C t b D σ (Itr lo n) H:=for_range Pv h0 hs hd
theorem for_s {z:Str} {t:Ct} {b:Css} (Pv:Nat->L2.St->Hp->Prop) (h0:Pv 0 σ H)
  (hs:∀i c σ H,z.cps[i]?=some c->Pv i σ H->tG C t (.str ⟨#[c]⟩) σ H (tSs C b { D with nx:=Pv (i+1),ct:=Pv (i+1),bk:=D.nx })) (hd:∀σ H,Pv z.cps.size σ H->D.nx σ H):kFor C t b D σ (Its z) H:=by
 refine⟨fun i m σ H=>m=z.cps.size-i/\i<=z.cps.size/\Pv i σ H,⟨z.cps.size,by simp,Nat.zero_le _,h0⟩,?_⟩
 rintro i m σ H ⟨rfl,hi,p⟩
 by_cases hlt:i<z.cps.size
 .refine .inr ⟨hlt,Pv (i+1),fun σ' H' p'=>⟨z.cps.size-(i+1),by omega,rfl,hlt,p'⟩,fun x H' y=>?_⟩
  obtain⟨e,c,hc,rfl⟩:=y
  subst e
  exact hs i c σ _ hc p
 .have e:i=z.cps.size:=by omega
  subst e
  exact .inl ⟨Nat.le_refl _,hd σ H p⟩
theorem for_etx {l:List Bool} {t:Ct} {b:Css} (Pv:Nat->L2.St->Hp->Prop) (h0:Pv 0 σ H)
  (hs:∀i c σ H p,l[i]?=some c->H p=none->Pv i σ H->tG C t (.ref p) σ (upd H p (.tup [.int i,.str (tx [c])])) (tSs C b { D with nx:=Pv (i+1),ct:=Pv (i+1),bk:=D.nx })) (hd:∀σ H,Pv l.length σ H->D.nx σ H):kFor C t b D σ (Iteg (tx l)) H:=by
 refine⟨fun i m σ H=>m=l.length-i/\i<=l.length/\Pv i σ H,⟨l.length,by simp,Nat.zero_le _,h0⟩,?_⟩
 rintro i m σ H ⟨rfl,hi,p⟩
 by_cases hlt:i<l.length
 .refine .inr ⟨(show i<(tx l).cps.size by rw[tx_size];exact hlt),Pv (i+1),fun σ' H' p'=>⟨l.length-(i+1),by omega,rfl,hlt,p'⟩,fun x H' y=>?_⟩
  obtain⟨ad,v,rfl,hn,⟨c,hc,rfl⟩,rfl⟩:=y
  rw[tx_get,List.getElem?_eq_getElem hlt]at hc
  cases hc
  exact hs i l[i] σ _ ad (List.getElem?_eq_getElem hlt) hn p
 .have e:i=l.length:=by omega
  subst e
  exact .inl ⟨(show(tx l).cps.size=l.length from tx_size),hd σ H p⟩
theorem for_tx {l:List Bool} {t:Ct} {b:Css} (Pv:Nat->L2.St->Hp->Prop) (h0:Pv 0 σ H)
  (hs:∀i c σ H,l[i]?=some c->Pv i σ H->tG C t (.str (tx [c])) σ H (tSs C b { D with nx:=Pv (i+1),ct:=Pv (i+1),bk:=D.nx })) (hd:∀σ H,Pv l.length σ H->D.nx σ H):kFor C t b D σ (Its (tx l)) H:=by
 refine for_s Pv h0 (fun i c σ H hc p=>?_) fun σ H p=>hd σ H (by rw[tx_size]at p;exact p)
 rw[tx_get]at hc
 cases hl:l[i]? with
 |none=>rw[hl]at hc;cases hc
 |some d=>
  rw[hl]at hc
  cases hc
  exact hs i d σ H hl p
noncomputable def kWhl (C:Rc) (b:Css) (D:Ends) (N:L2.St->Hp->Prop) (σ:L2.St):Bool->Hp->Prop:=fun c H1=>if c=true then ∃N':L2.St->Hp->Prop,(∀σ' H',N' σ' H'->N σ' H')/\tSs C b { D with nx:=N',ct:=N',bk:=D.nx } σ H1 else D.nx σ H1
theorem whl_by {q:Cq} {b:Css} (Pv:Nat->L2.St->Hp->Prop) (m:Nat) (h0:Pv m σ H) (hs:∀m σ H,Pv m σ H->tQ C q σ H (kWhl C b D (fun σ' H'=>∃m',m'<m/\Pv m' σ' H') σ)):tS C (.whl q b) D σ H:=⟨Pv,⟨m,h0⟩,hs⟩
theorem kWhl_t {b:Css} {N:L2.St->Hp->Prop} (h:tSs C b { D with nx:=N,ct:=N,bk:=D.nx } σ H):kWhl C b D N σ true H:=⟨N,fun _ _ q=>q,h⟩
theorem kWhl_f {b:Css} {N:L2.St->Hp->Prop} (h:D.nx σ H):kWhl C b D N σ false H:=by unfold kWhl;rw[if_neg (by decide)];exact h
noncomputable def kPush (xs:List V) (P:List V->Hp->Prop):VK:=fun v H=>xs.length<sizeLine/\P (xs++[v]) H
noncomputable def kCT (C:Rc) (elt:Ce) (xs:List V) (P:List V->Hp->Prop) (σ:L2.St):Bool->Hp->Prop:=fun ok H=>if ok=true then tE C elt σ H (kPush xs P)else P xs H
noncomputable def kCG (C:Rc) (elt:Ce) (q:Cqo) (xs:List V) (P:List V->Hp->Prop):L2.St->Hp->Prop:=fun σ H=>tQo C q σ H (kCT C elt xs P σ)
theorem kCG_n {elt:Ce} {xs:List V} {P:List V->Hp->Prop}:kCG C elt .none xs P σ H=tE C elt σ H (kPush xs P):=rfl
theorem kCG_q {elt:Ce} {q:Cq} {xs:List V} {P:List V->Hp->Prop}:kCG C elt (.some q) xs P σ H=tQ C q σ H (kCT C elt xs P σ):=rfl
theorem kCT_t {elt:Ce} {xs:List V} {P:List V->Hp->Prop}:kCT C elt xs P σ true H=tE C elt σ H (kPush xs P):=rfl
theorem kCT_f {elt:Ce} {xs:List V} {P:List V->Hp->Prop}:kCT C elt xs P σ false H=P xs H:=rfl
theorem kPush_at {xs:List V} {P:List V->Hp->Prop} {v:V}:kPush xs P v H=(xs.length<sizeLine/\P (xs++[v]) H):=rfl
def kNew (Q:VK) (xs:List V) (H2:Hp):Prop:=∀p,H2 p=none->Q (.ref p) (upd H2 p (.lst xs))
def kComp (C:Rc) (elt:Ce) (own:List Nat) (t:Ct) (q:Cqo) (σ:L2.St) (Q:VK) (J:It) (H1:Hp):Prop:=tClause own (tG C t) (tQo C q) (tEmit (tE C elt)) J σ [] H1 (kNew Q)
theorem tE_comp {elt:Ce} {own:List Nat} {t:Ct} {it:Ci} {q:Cqo}:tE C (.comp elt own t it q .nil) σ H Q=tI C it σ H (kComp C elt own t q σ Q):=rfl
theorem comp_by {elt:Ce} {own:List Nat} {t:Ct} {q:Cqo} {J:It} {n:Nat} (Pv:Nat->List V->Hp->Prop) (h0:Pv 0 [] H) (hgo:∀i xs H,i<n->Pv i xs H->J.go i H) (hstop:∀xs H,Pv n xs H->J.stop n H)
  (hs:∀i xs H x H' (R:List V->Hp->Prop),i<n->Pv i xs H->J.yld i H x H'->(∀ys H2,Pv (i+1) ys H2->R ys H2)->tG C t x (clr own σ) H' (kCG C elt q xs R)) (hd:∀xs H,Pv n xs H->kNew Q xs H):kComp C elt own t q σ Q J H:=by
 refine⟨fun i m xs H=>m=n-i/\i<=n/\Pv i xs H,⟨n,by simp,Nat.zero_le _,h0⟩,?_⟩
 rintro i m xs H ⟨rfl,hi,p⟩
 by_cases hlt:i<n
 .refine .inr ⟨hgo i xs H hlt p,fun x H' y=>?_⟩
  exact hs i xs H x H' (fun c H4=>∃m',m'<n-i/\(m'=n-(i+1)/\i+1<=n/\Pv (i+1) c H4)) hlt p y fun ys H2 p2=>⟨n-(i+1),by omega,rfl,hlt,p2⟩
 .have e:i=n:=by omega
  subst e
  exact .inl ⟨hstop xs H p,hd xs H p⟩
theorem comp_l {elt:Ce} {own:List Nat} {t:Ct} {q:Cqo} {a:Addr} {vs:List V} (Pv:Nat->List V->Hp->Prop) (h0:Pv 0 [] H) (hl:∀i xs H,Pv i xs H->SqL C.K H a vs)
  (hs:∀i xs H x (R:List V->Hp->Prop),vs[i]?=some x->Pv i xs H->(∀ys H2,Pv (i+1) ys H2->R ys H2)->tG C t x (clr own σ) H (kCG C elt q xs R)) (hd:∀xs H,Pv vs.length xs H->kNew Q xs H):kComp C elt own t q σ Q (Itl C.K a) H:=
 comp_by (n:=vs.length) Pv h0 (fun i xs H hi p=>⟨vs,vs[i],hl i xs H p,by simp[hi]⟩) (fun xs H p=>⟨vs,hl _ xs H p,Nat.le_refl _⟩) (fun i xs H x H' R hi p y k=>by
  obtain⟨e,y⟩:=y
  subst e
  exact hs i xs H' x R (y vs (hl i xs H' p)) p k) hd
theorem comp_t {elt:Ce} {own:List Nat} {t:Ct} {q:Cqo} {a:Addr} {vs:List V} (Pv:Nat->List V->Hp->Prop) (h0:Pv 0 [] H) (hl:∀i xs H,Pv i xs H->SqT C.K H a vs)
  (hs:∀i xs H x (R:List V->Hp->Prop),vs[i]?=some x->Pv i xs H->(∀ys H2,Pv (i+1) ys H2->R ys H2)->tG C t x (clr own σ) H (kCG C elt q xs R)) (hd:∀xs H,Pv vs.length xs H->kNew Q xs H):kComp C elt own t q σ Q (Itt C.K a) H:=
 comp_by (n:=vs.length) Pv h0 (fun i xs H hi p=>⟨vs,vs[i],hl i xs H p,by simp[hi]⟩) (fun xs H p=>⟨vs,hl _ xs H p,Nat.le_refl _⟩) (fun i xs H x H' R hi p y k=>by
  obtain⟨e,y⟩:=y
  subst e
  exact hs i xs H' x R (y vs (hl i xs H' p)) p k) hd
theorem comp_r {elt:Ce} {own:List Nat} {t:Ct} {q:Cqo} {lo:Int} {n:Nat} (Pv:Nat->List V->Hp->Prop) (h0:Pv 0 [] H)
  (hs:∀i xs H (R:List V->Hp->Prop),i<n->Pv i xs H->(∀ys H2,Pv (i+1) ys H2->R ys H2)->tG C t (.int (lo+i)) (clr own σ) H (kCG C elt q xs R)) (hd:∀xs H,Pv n xs H->kNew Q xs H):kComp C elt own t q σ Q (Itr lo n) H:=
 comp_by (n:=n) Pv h0 (fun i xs H hi p=>hi) (fun xs H p=>Nat.le_refl _) (fun i xs H x H' R hi p y k=>by
  obtain⟨e,rfl⟩:=y
  subst e
  exact hs i xs H' R hi p k) hd
end
section
variable {C:Rc} {K:W.Frag} {σ:L2.St} {H:Hp} {Q:VK} {D:Ends} {Qb:Bool->Hp->Prop}
theorem call_e {f:Str} {es:Ces} {sp:Sp} (h:C.fs f=some sp) (q:tA C es σ H (kCall (some sp) (C.xk σ) Q)):tE C (.call f es) σ H Q:=by
 rw[tE_call h]
 exact q
theorem bl_len_str {x:Str}:rBlt K .len [.str x] H Q=(x.length<=sizeLine/\Q (.int x.length) H):=propext ⟨fun⟨u,n,e,h,q⟩=>by cases e;obtain⟨h1,h2⟩:=h;subst h2;exact⟨h1,q⟩,fun q=>⟨_,_,rfl,⟨q.1,rfl⟩,q.2⟩⟩
theorem bl_len_tx {l:List Bool}:rBlt K .len [.str (tx l)] H Q=(l.length<=sizeLine/\Q (.int l.length) H):=by rw[bl_len_str,tx_len]
theorem at_lenL {a:Addr} {xs:List V} (h:SqL K H a xs) (q:Q (.int xs.length) H):rBlt K .len [.ref a] H Q:=⟨_,_,rfl,.inl ⟨xs,h,rfl⟩,q⟩
theorem at_lenT {a:Addr} {xs:List V} (h:SqT K H a xs) (q:Q (.int xs.length) H):rBlt K .len [.ref a] H Q:=⟨_,_,rfl,.inr ⟨xs,h,rfl⟩,q⟩
theorem bl_abs {i:Int}:rBlt K .abs [.int i] H Q=Q (.int (if i<0 then -i else i)) H:=propext ⟨fun⟨u,e,q⟩=>by cases e;exact q,fun q=>⟨_,rfl,q⟩⟩
theorem bl_int_int {i:Int}:rBlt K .int [.int i] H Q=Q (.int i) H:=rfl
theorem bl_int_bl {k:Bool}:rBlt K .int [.bl k] H Q=Q (.int (if k then 1 else 0)) H:=rfl
theorem bl_int_tx {c:Bool}:rBlt K .int [.str (tx [c])] H Q=Q (.int (if c then 1 else 0)) H:=propext ⟨fun⟨n,e,_,q⟩=>by rw[tx_int]at e;cases e;exact q,fun q=>⟨_,tx_int,by rw[tx_len,List.length_singleton];decide,q⟩⟩
theorem bl_min2 {i j:Int}:rBlt K .min [.int i,.int j] H Q=Q (.int (if j<i then j else i)) H:=rfl
theorem at_min {a:Addr} {ns:List Int} (h:SqL K H a (ns.map V.int)) (hn:ns≠[]) (q:∀M,M∈ns->(∀b∈ns,M<=b)->Q (.int M) H):rBlt K .min [.ref a] H Q:=⟨a,ns,rfl,h,hn,fun M h1 h2=>q M h1 h2⟩
theorem at_ixL {a:Addr} {xs:List V} {i:Int} {v:V} (h:SqL K H a xs) (e:atI xs i=some v) (q:Q v H):rIxL K (.ref a) (.int i) H Q\/rIxT K (.ref a) (.int i) H Q:=.inl ⟨a,xs,i,v,rfl,rfl,h,e,q⟩
theorem at_ixT {a:Addr} {xs:List V} {i:Int} {v:V} (h:SqT K H a xs) (e:atI xs i=some v) (q:Q v H):rIxL K (.ref a) (.int i) H Q\/rIxT K (.ref a) (.int i) H Q:=.inr ⟨a,xs,i,v,rfl,rfl,h,e,q⟩
theorem atI_map {α β:Type} {f:α->β} {xs:List α} {i:Int}:atI (xs.map f) i=(atI xs i).map f:=by
 unfold atI
 rw[List.length_map]
 cases ixN xs.length i with
 |none=>rfl
 |some j=>simp
theorem at_ixtx {l:List Bool} {i:Int} {c:Bool} (hl:l.length<=sizeLine) (e:atI l i=some c) (q:Q (.str (tx [c])) H):rIxM K (.str (tx l)) (.int i) H Q:=by
 refine⟨by rw[tx_len];exact hl,cb c,?_,q⟩
 rw[tx_cps,atI_map,e]
 rfl
theorem at_twoT {a:Addr} {u v:V} {k:Bool} (h:SqT K H a [u,v]) (q:Q (if k then v else u) H):rIxL K (.ref a) (.int (if k then 1 else 0)) H Q\/rIxT K (.ref a) (.int (if k then 1 else 0)) H Q:=by
 refine at_ixT h ?_ q
 cases k<;>rfl
theorem tx_eq1 {c:Bool}:decide (tx [c]=tx [true])=c:=by
 cases c
 .exact decide_eq_false fun h=>by cases tx_inj h
 .exact decide_eq_true rfl
theorem b_addtx {x y:List Bool}:rBin K .Add (.str (tx x)) (.str (tx y)) H Q=(x.length+y.length<=sizeLine/\Q (.str (tx (x++y))) H):=by
 rw[b_adds,tx_len,tx_len,tx_app]
theorem at_neL {a b:Addr} {xs ys:List V} (h:SqL K H a xs) (h2:SqL K H b ys) (he:xs.length=ys.length->LEq xs ys) (q:Q (.bl (!decide (xs=ys))) H):rCmp K .NotEq (.ref a) (.ref b) H Q:=.inl ⟨a,b,xs,ys,rfl,rfl,h,h2,he,q⟩
theorem at_range1 {j:Int} (q:∀p,H p=none->Q (.ref p) (upd H p (.rng 0 j))):rBlt K .range [.int j] H Q:=⟨0,j,.inr ⟨rfl,rfl⟩,q⟩
theorem at_listR {r:Addr} {i j:Int} (h:H r=some (.rng i j)) (h1:-(2 ^ 62)<=i) (h2:i<2 ^ 62) (h3:-(2 ^ 62)<=j) (h4:j<2 ^ 62) (hz:(j-i).toNat<=sizeLine) (q:∀p,H p=none->Q (.ref p) (upd H p (.lst (rgs i (j-i).toNat)))):rBlt K .list [.ref r] H Q:=.inr ⟨r,i,j,rfl,h,⟨h1,h2,h3,h4⟩,hz,q⟩
theorem at_tupL {a:Addr} {xs:List V} (h:SqL K H a xs) (q:∀p,H p=none->Q (.ref p) (upd H p (.tup xs))):rBlt K .tuple [.ref a] H Q:=⟨a,xs,rfl,.inl ⟨h,q⟩⟩
theorem c_is {x:V}:rCmp K .Is x .non H Q=Q (.bl (decide (x=.non))) H:=propext ⟨fun⟨_,q⟩=>q,fun q=>⟨rfl,q⟩⟩
theorem c_isnot {x:V}:rCmp K .IsNot x .non H Q=Q (.bl (!decide (x=.non))) H:=propext ⟨fun⟨_,q⟩=>q,fun q=>⟨rfl,q⟩⟩
noncomputable def kG (C:Rc) (t:Ct) (D:Ends) (σ:L2.St):VK:=fun v H=>tG C t v σ H D.nx
theorem s_asg {t:Ct} {e:Ce}:tS C (.asg t e) D σ H=tE C e σ H (kG C t D σ):=rfl
theorem kG_tup2 {i j:Nat} {a:Addr} {x y:V} (h:SqT C.K H a [x,y]) (q:D.nx ((σ.set i (some x)).set j (some y)) H):kG C (.tup (.cons (.name i) (.cons (.name j) .nil))) D σ (.ref a) H:=g_tup2 h q
theorem kG_tup3 {i j k:Nat} {a:Addr} {x y z:V} (h:SqT C.K H a [x,y,z]) (q:D.nx (((σ.set i (some x)).set j (some y)).set k (some z)) H):kG C (.tup (.cons (.name i) (.cons (.name j) (.cons (.name k) .nil)))) D σ (.ref a) H:=g_tup3 h q
theorem at_cutT {a:Addr} {xs:List V} {lo hi:Option Int} (h:SqT K H a xs) (hn:¬(HT.sIx xs.length 0 lo=0/\HT.sIx xs.length xs.length hi=xs.length)) (q:∀p,H p=none->Q (.ref p) (upd H p (.tup (cutV xs lo hi)))):rSlL K (.ref a) lo hi H Q\/rSlT K (.ref a) lo hi H Q\/rSlW K (.ref a) lo hi H Q:=.inr (.inl ⟨a,xs,rfl,h,hn,q⟩)
theorem at_catT {a b:Addr} {xs ys:List V} (h:SqT K H a xs) (h2:SqT K H b ys) (hz:xs.length+ys.length<=sizeLine) (q0:xs=[]->Q (.ref b) H) (q1:xs≠[]->ys=[]->Q (.ref a) H) (q2:xs≠[]->ys≠[]->∀p,H p=none->Q (.ref p) (upd H p (.tup (xs++ys)))):rBin K .Add (.ref a) (.ref b) H Q:=by
 by_cases e:xs=[]
 .subst e
  exact .inr (.inr ⟨a,b,ys,rfl,rfl,h,h2,q0 rfl⟩)
 .exact .inr (.inl ⟨a,b,xs,ys,rfl,rfl,h,h2,e,hz,q1 e,q2 e⟩)
theorem at_cutL {a:Addr} {xs:List V} {lo hi:Option Int} (h:SqL K H a xs) (q:∀p,H p=none->Q (.ref p) (upd H p (.lst (cutV xs lo hi)))):rSlL K (.ref a) lo hi H Q\/rSlT K (.ref a) lo hi H Q\/rSlW K (.ref a) lo hi H Q:=.inl ⟨a,xs,rfl,h,q⟩
theorem at_app {a:Addr} {xs:List V} {y:V} (h:H a=some (.lst xs)) (hz:xs.length<sizeLine) (q:Q .non (upd H a (.lst (xs++[y])))):rMet K .append (.ref a) [y] H Q:=⟨a,xs,y,rfl,rfl,h,hz,q⟩
theorem tyL {a:Addr} {xs:List V} {m:Mf} (h:H a=some (.lst xs)) (hm:metTy m="list"):tyV K (metTy m) (.ref a) H:=.inl ⟨hm,xs,SqL.of h⟩
theorem same_new {H:Hp} {p:Addr} (h:H p=none) (o:HO):Same H (upd H p o):=fun b u q=>by rw[upd_ne (ne_of_none q h)];exact q
theorem lt_of_get {α:Type} {l:List α} {i:Nat} {c:α} (hc:l[i]?=some c):i<l.length:=by
 rcases Nat.lt_or_ge i l.length with h|h
 .exact h
 .rw[List.getElem?_eq_none_iff.mpr h]at hc;cases hc
noncomputable def kDx2 (x:V) (Q:VK):VK:=fun y H=>∃a v,x=.ref a/\DGet H a y (some v)/\Q v H
noncomputable def kDx1 (C:Rc) (σ:L2.St) (b:Ce) (Q:VK):VK:=fun x H=>tE C b σ H (kDx2 x Q)
theorem kDx1_at {b:Ce} {x:V}:kDx1 C σ b Q x H=tE C b σ H (kDx2 x Q):=rfl
theorem at_str01 {b:Bool} (q:Q (.str (tx [b])) H):rBlt K .str [.int (if b then 1 else 0)] H Q:=by
 refine⟨_,rfl,by cases b<;>decide,?_⟩
 cases b
 .have e:(Str.ofString (toString (if false=true then(1:Int)else 0)))=tx [false]:=by decide +kernel
  rw[e];exact q
 .have e:(Str.ofString (toString (if true=true then(1:Int)else 0)))=tx [true]:=by decide +kernel
  rw[e];exact q
end
end R3
namespace R3
open PySem PySem.Spec PyProof.Rows L2 PySem.Builtin PySem.Builtin.Str
theorem tx_join:∀{ls:List (List Bool)},Txt.join (tx []) (ls.map tx)=tx ls.flatten:=by
 intro ls
 unfold Txt.join
 rw[StrLaws.glued_eq_join]
 induction ls with
 |nil=>rfl
 |cons l r ih=>
  cases r with
  |nil=>simp[Str.join]
  |cons y r=>
   rw[List.map_cons,List.map_cons]
   show tx l++tx []++Str.join (tx []) (List.map tx (y :: r))=_
   rw[ih,tx_app,tx_app]
   simp
section
variable {K:W.Frag} {H:Hp} {Q:VK}
theorem at_join {a:Addr} {ls:List (List Bool)} (h:SqL K H a (ls.map fun l=>V.str (tx l))) (hz:ls.flatten.length<=16000000) (q:Q (.str (tx ls.flatten)) H):rMet K .join (.str (tx [])) [.ref a] H Q:=by
 refine⟨tx [],a,ls.map tx,rfl,rfl,.inl (by rw[List.map_map];exact h),?_,by rw[tx_join];exact q⟩
 have e:((ls.map tx).map (·.length)).sum=ls.flatten.length:=by
  rw[List.map_map,List.length_flatten]
  congr 1
  apply List.map_congr_left
  intro l _
  exact tx_len
 rw[e,tx_len,List.length_nil,Nat.mul_zero]
 omega
theorem tx_slice {l:List Bool} {a b:Nat} (h1:a<=b) (h2:b<=l.length):Txt.slice (tx l) (some (a:Int)) (some (b:Int))=tx ((l.drop a).take (b-a)):=by
 have e:=slice_closes (x:=tx l) (i:=a) (j:=b) ⟨by omega,by omega,by rw[tx_cps,List.length_map];omega⟩
 rw[eq_of_beq e,tx_cps]
 rw[show((b:Int)-(a:Int)).toNat=b-a by omega,Int.toNat_natCast]
 simp[tx,List.map_take,List.map_drop]
theorem indices_clip {n:Nat} {i j:Int} (h:(n:Int)<=j):strSliceIndices (some i) (some j) 1 n=strSliceIndices (some i) (some (n:Int)) 1 n:=by
 have h0:¬j<0:=by omega
 have h1:¬((n:Int)<0):=by omega
 have h2:(1:Int) > 0:=by decide
 simp only[strSliceIndices,h0,h1,h2,if_false,if_true,Int.min_eq_right h,Int.min_self]
theorem tx_from {l:List Bool} {a:Nat}:Txt.slice (tx l) (some (a:Int)) none=tx (l.drop a):=by
 rcases Nat.le_total a l.length with h|h
 .exact tx_drop h
 .rw[slice_beyond (by rw[tx_len];omega),List.drop_of_length_le h]
  rfl
end
section
variable {C:Rc} {K:W.Frag} {σ:L2.St} {H:Hp} {Q:VK} {D:Ends} {Qb:Bool->Hp->Prop} {i j:Int}
theorem b_shl:rBin K .LShift (.int i) (.int j) H Q=(CShl i j/\Q (.int (i*2 ^ j.toNat)) H):=propext ⟨fun⟨_,_,e,e',c,q⟩=>by cases e;cases e';exact⟨c,q⟩,fun q=>⟨_,_,rfl,rfl,q.1,q.2⟩⟩
theorem b_shr:rBin K .RShift (.int i) (.int j) H Q=(0<=j/\Q (.int (i / 2 ^ j.toNat)) H):=propext ⟨fun⟨_,_,e,e',c,q⟩=>by cases e;cases e';exact⟨c,q⟩,fun q=>⟨_,_,rfl,rfl,q.1,q.2⟩⟩
theorem b_and1:rBin K .BitAnd (.int i) (.int j) H Q=((0<=i/\j=1)/\Q (.int (i % 2)) H):=propext ⟨fun⟨_,_,e,e',c,q⟩=>by cases e;cases e';exact⟨c,q⟩,fun q=>⟨_,_,rfl,rfl,q.1,q.2⟩⟩
theorem at_truL {a:Addr} {xs:List V} (h:SqL C.K H a xs) (q:Qb (!xs.isEmpty) H):kTru C Qb (.ref a) H:=⟨_,.inl ⟨xs,h,rfl⟩,q⟩
theorem asg_via {i:Nat} {e:Ce} {r:Css} (h:∀K:VK,(∀v H',tSs C r D (σ.set i (some v)) H'->K v H')->tE C e σ H K):tSs C (.cons (.asg (.name i) e) r) D σ H:=h _ fun _ _ q=>q
theorem s_via {s:Cs} {r:Css} (h:∀N:L2.St->Hp->Prop,(∀σ' H',tSs C r D σ' H'->N σ' H')->tS C s { D with nx:=N } σ H):tSs C (.cons s r) D σ H:=h _ fun _ _ q=>q
noncomputable def kR3c (R:It->Hp->Prop) (x y:V):VK:=fun z H1=>∃i j c:Int,x=.int i/\y=.int j/\z=.int c/\(-(2 ^ 60)<=i/\i<2 ^ 60/\-(2 ^ 60)<=j/\j<2 ^ 60/\(0<c/\c<2 ^ 29\/c=-1))/\R (Itc i c (rStep i j c)) H1
noncomputable def kR3b (C:Rc) (σ:L2.St) (e:Ce) (R:It->Hp->Prop) (x:V):VK:=fun y H1=>tE C e σ H1 (kR3c R x y)
noncomputable def kR3a (C:Rc) (σ:L2.St) (e e':Ce) (R:It->Hp->Prop):VK:=fun x H1=>tE C e σ H1 (kR3b C σ e' R x)
theorem i_range3' {a b c:Ce} {R:It->Hp->Prop}:tI C (.range3 a b c) σ H R=tE C a σ H (kR3a C σ b c R):=by
 show(tE C a σ H fun x H1=>tE C b σ H1 fun y H2=>tE C c σ H2 fun z H3=>∃i j c:Int,[x,y,z]=[.int i,.int j,.int c]/\(-(2 ^ 60)<=i/\i<2 ^ 60/\-(2 ^ 60)<=j/\j<2 ^ 60/\(0<c/\c<2 ^ 29\/c=-1))/\R (Itc i c (rStep i j c)) H3)=_
 congr 1
 funext x H1
 unfold kR3a
 congr 1
 funext y H2
 unfold kR3b
 congr 1
 funext z H3
 unfold kR3c
 simp only[List.cons.injEq,and_true,and_assoc]
theorem kR3a_at {e e':Ce} {R:It->Hp->Prop} {x:V}:kR3a C σ e e' R x H=tE C e σ H (kR3b C σ e' R x):=rfl
theorem kR3b_at {e:Ce} {R:It->Hp->Prop} {x y:V}:kR3b C σ e R x y H=tE C e σ H (kR3c R x y):=rfl
theorem at_r3 {R:It->Hp->Prop} {i j c:Int} (h0:-(2 ^ 60)<=i) (h1:i<2 ^ 60) (h2:-(2 ^ 60)<=j) (h3:j<2 ^ 60) (h4:0<c) (h5:c<2 ^ 29) (q:R (Itc i c (nStep i j c)) H):kR3c R (.int i) (.int j) (.int c) H:=⟨i,j,c,rfl,rfl,rfl,⟨h0,h1,h2,h3,.inl ⟨h4,h5⟩⟩,by rw[rStep_pos h4];exact q⟩
theorem at_r3d {R:It->Hp->Prop} {i j:Int} (h0:-(2 ^ 60)<=i) (h1:i<2 ^ 60) (h2:-(2 ^ 60)<=j) (h3:j<2 ^ 60) (q:R (Itc i (-1) (i-j).toNat) H):kR3c R (.int i) (.int j) (.int (-1)) H:=⟨i,j,-1,rfl,rfl,rfl,⟨h0,h1,h2,h3,.inr rfl⟩,q⟩
noncomputable def kRv (C:Rc) (R:It->Hp->Prop):VK:=fun x H1=>RevV C.K x H1 R
theorem i_rev {a:Ce} {R:It->Hp->Prop}:tI C (.rev a) σ H R=tE C a σ H (kRv C R):=by
 show(tE C a σ H fun x H1=>∃y,[x]=[y]/\RevV C.K y H1 R)=_
 congr 1
 funext x H1
 exact propext ⟨fun⟨y,e,q⟩=>by cases e;exact q,fun q=>⟨x,rfl,q⟩⟩
theorem at_rvL {R:It->Hp->Prop} {a:Addr} {xs:List V} (h:SqL C.K H a xs) (q:R (Itlr C.K a xs.length) H):kRv C R (.ref a) H:=.inr ⟨a,xs,rfl,h,q⟩
theorem for_c {lo c:Int} {n:Nat} {t:Ct} {b:Css} (Pv:Nat->L2.St->Hp->Prop) (h0:Pv 0 σ H)
  (hs:∀i σ H,i<n->Pv i σ H->tG C t (.int (lo+i*c)) σ H (tSs C b { D with nx:=Pv (i+1),ct:=Pv (i+1),bk:=D.nx })) (hd:∀σ H,Pv n σ H->D.nx σ H):kFor C t b D σ (Itc lo c n) H:=by
 refine⟨fun i m σ H=>m=n-i/\i<=n/\Pv i σ H,⟨n,by simp,Nat.zero_le _,h0⟩,?_⟩
 rintro i m σ H ⟨rfl,hi,p⟩
 by_cases hlt:i<n
 .refine .inr ⟨hlt,Pv (i+1),fun σ' H' p'=>⟨n-(i+1),by omega,rfl,hlt,p'⟩,fun x H' y=>?_⟩
  obtain⟨e,rfl⟩:=y
  subst e
  exact hs i σ _ hlt p
 .have e:i=n:=by omega
  subst e
  exact .inl ⟨Nat.le_refl _,hd σ H p⟩
theorem for_lr {a:Addr} {xs:List V} {t:Ct} {b:Css} (Pv:Nat->L2.St->Hp->Prop) (h0:Pv 0 σ H) (hl:∀i σ H,i<=xs.length->Pv i σ H->SqL C.K H a xs)
  (hs:∀i x σ H,i<xs.length->xs[xs.length-1-i]?=some x->Pv i σ H->tG C t x σ H (tSs C b { D with nx:=Pv (i+1),ct:=Pv (i+1),bk:=D.nx })) (hd:∀σ H,Pv xs.length σ H->D.nx σ H):kFor C t b D σ (Itlr C.K a xs.length) H:=by
 refine⟨fun i m σ H=>m=xs.length-i/\i<=xs.length/\Pv i σ H,⟨xs.length,by simp,Nat.zero_le _,h0⟩,?_⟩
 rintro i m σ H ⟨rfl,hi,p⟩
 by_cases hlt:i<xs.length
 .refine .inr ⟨⟨hlt,xs,hl i σ H hi p,rfl⟩,Pv (i+1),fun σ' H' p'=>⟨xs.length-(i+1),by omega,rfl,hlt,p'⟩,fun x H' y=>?_⟩
  obtain⟨e,y⟩:=y
  subst e
  exact hs i x σ _ hlt (y xs (hl i σ _ hi p)) p
 .have e:i=xs.length:=by omega
  exact .inl ⟨e.symm,hd σ H (e ▸ p)⟩
theorem comp_c {elt:Ce} {own:List Nat} {t:Ct} {q:Cqo} {lo c:Int} {n:Nat} (Pv:Nat->List V->Hp->Prop) (h0:Pv 0 [] H)
  (hs:∀i xs H (R:List V->Hp->Prop),i<n->Pv i xs H->(∀ys H2,Pv (i+1) ys H2->R ys H2)->tG C t (.int (lo+i*c)) (clr own σ) H (kCG C elt q xs R)) (hd:∀xs H,Pv n xs H->kNew Q xs H):kComp C elt own t q σ Q (Itc lo c n) H:=
 comp_by (n:=n) Pv h0 (fun i xs H hi p=>hi) (fun xs H p=>Nat.le_refl _) (fun i xs H x H' R hi p y k=>by
  obtain⟨e,rfl⟩:=y
  subst e
  exact hs i xs H' R hi p k) hd
def kIn2 (C:Rc) (elt:Ce) (ws:List Nat) (t2:Ct) (q2:Cqo) (xs:List V) (P:List V->Hp->Prop) (σ:L2.St) (J:It) (H1:Hp):Prop:=tClause ws (tG C t2) (tQo C q2) (tEmit (tE C elt)) J σ xs H1 P
noncomputable def kCT2 (C:Rc) (elt:Ce) (ws:List Nat) (t2:Ct) (it2:Ci) (q2:Cqo) (xs:List V) (P:List V->Hp->Prop) (σ:L2.St):Bool->Hp->Prop:=fun ok H=>if ok=true then tI C it2 σ H (kIn2 C elt ws t2 q2 xs P σ)else P xs H
noncomputable def kCG2 (C:Rc) (elt:Ce) (q:Cqo) (ws:List Nat) (t2:Ct) (it2:Ci) (q2:Cqo) (xs:List V) (P:List V->Hp->Prop):L2.St->Hp->Prop:=fun σ H=>tQo C q σ H (kCT2 C elt ws t2 it2 q2 xs P σ)
theorem kCG2_n {elt:Ce} {ws:List Nat} {t2:Ct} {it2:Ci} {q2:Cqo} {xs:List V} {P:List V->Hp->Prop}:kCG2 C elt .none ws t2 it2 q2 xs P σ H=tI C it2 σ H (kIn2 C elt ws t2 q2 xs P σ):=rfl
theorem kCG2_q {elt:Ce} {q:Cq} {ws:List Nat} {t2:Ct} {it2:Ci} {q2:Cqo} {xs:List V} {P:List V->Hp->Prop}:kCG2 C elt (.some q) ws t2 it2 q2 xs P σ H=tQ C q σ H (kCT2 C elt ws t2 it2 q2 xs P σ):=rfl
theorem kCT2_t {elt:Ce} {ws:List Nat} {t2:Ct} {it2:Ci} {q2:Cqo} {xs:List V} {P:List V->Hp->Prop}:kCT2 C elt ws t2 it2 q2 xs P σ true H=tI C it2 σ H (kIn2 C elt ws t2 q2 xs P σ):=rfl
theorem kCT2_f {elt:Ce} {ws:List Nat} {t2:Ct} {it2:Ci} {q2:Cqo} {xs:List V} {P:List V->Hp->Prop}:kCT2 C elt ws t2 it2 q2 xs P σ false H=P xs H:=rfl
def kComp2 (C:Rc) (elt:Ce) (own:List Nat) (t:Ct) (q:Cqo) (ws:List Nat) (t2:Ct) (it2:Ci) (q2:Cqo) (σ:L2.St) (Q:VK) (J:It) (H1:Hp):Prop:=tClause own (tG C t) (tQo C q) (tNest (tI C it2) (tClause ws (tG C t2) (tQo C q2) (tEmit (tE C elt)))) J σ [] H1 (kNew Q)
theorem tE_comp2 {elt:Ce} {own:List Nat} {t:Ct} {it:Ci} {q:Cqo} {ws:List Nat} {t2:Ct} {it2:Ci} {q2:Cqo}:tE C (.comp elt own t it q (.cons ws t2 it2 q2 .nil)) σ H Q=tI C it σ H (kComp2 C elt own t q ws t2 it2 q2 σ Q):=rfl
end
section
variable {C:Rc} {σ:L2.St} {H:Hp} {Q:VK} {D:Ends}
theorem s_rse {nm:Str} {Ca:Addr} (h:C.cl nm=some Ca) (hx:W.excIn C.K Ca bmV "ValueError.__new__"=true) (q:C.xk σ (.str nm 0) none H):tS C (.rse nm) D σ H:=⟨⟨Ca,h,hx⟩,q⟩
noncomputable def CaughtN (C:Rc) (c:Str) (su:Css) (D:Ends):L2.St->XK:=fun σ' en _ H'=>∃nm Ca Cc,en=.str nm 0/\C.cl nm=some Ca/\C.cl c=some Cc/\W.exmOne C.K (.ref Ca) (.ref Cc)=some true/\tSs { C with xk:=fun _=>E0 } su { nx:=D.nx,rt:=D.rt } σ' H'
theorem s_tryN {b su:Css} {c:Str}:tS C (.tryN b c su) D σ H=tSs { C with xk:=CaughtN C c su D } b D σ H:=rfl
theorem caughtN {c nm:Str} {su:Css} {Ca Cc:Addr} (h:C.cl nm=some Ca) (hc:C.cl c=some Cc) (hx:W.exmOne C.K (.ref Ca) (.ref Cc)=some true)
  (q:tSs { C with xk:=fun _=>E0 } su { nx:=D.nx,rt:=D.rt } σ H):CaughtN C c su D σ (.str nm 0) none H:=⟨nm,Ca,Cc,rfl,h,hc,hx,q⟩
structure ClsG (C:Rc) (r:Str) (Cr:Addr) (L:List Str):Prop where
 own:C.cl r=some Cr
 e:∃Ce,C.cl "RunError"=some Ce/\W.exmOne C.K (.ref Cr) (.ref Ce)=some true
 ex:W.excIn C.K Cr bmV "ValueError.__new__"=true
 x:XCls C.K Cr
 kv:W.kitOne C.K (.ref Cr) (.type "ValueError")=some true
 k:∀c∈L,∃Cc,C.cl c=some Cc/\W.kitOne C.K (.ref Cr) (.ref Cc)=some (decide (c=r))
theorem ClsG.of {C C':Rc} {r:Str} {Cr:Addr} {L:List Str} (G:ClsG C r Cr L) (hK:C'.K=C.K) (hc:C'.cl=C.cl):ClsG C' r Cr L:=by
 obtain⟨a,b,c,d,e,f⟩:=G
 exact⟨by rw[hc];exact a,by rw[hc,hK];exact b,by rw[hK];exact c,by rw[hK];exact d,by rw[hK];exact e,by rw[hc,hK];exact f⟩
theorem ClsG.rse {r:Str} {Cr:Addr} {L:List Str} (G:ClsG C r Cr L) (q:C.xk σ (.str r 0) none H):tS C (.rse r) D σ H:=s_rse G.own G.ex q
end
noncomputable def fsOf (l:List (Str×Sp)) (y:Str):Option Sp:=l.lookup y
theorem lookup_here {x:Str} {s:Sp} {l:List (Str×Sp)}:fsOf ((x,s) :: l) x=some s:=by unfold fsOf;simp
theorem lookup_skip {x y:Str} {s:Sp} {l:List (Str×Sp)} (h:(y == x)=false):fsOf ((x,s) :: l) y=fsOf l y:=by
 unfold fsOf
 rw[List.lookup_cons,h]
theorem lookup_mem {y:Str} {s:Sp}:∀{l:List (Str×Sp)},fsOf l y=some s->(y,s)∈l
 | [],h=>by cases h
 |(x,t) :: l,h=>by
  unfold fsOf at h
  rw[List.lookup_cons]at h
  cases e:y == x with
  |true=>
   rw[e]at h
   cases h
   rw[eq_of_beq e]
   exact List.mem_cons_self ..
  |false=>
   rw[e]at h
   exact List.mem_cons_of_mem _ (lookup_mem h)
theorem hfs_of {P:Program} {w:World} {K:W.Frag} {mg:Str->Option Value} {base:Heap} {k:Nat} {l:List (Str×Sp)} (h:∀p∈l,∃f' fd' ps',FnOk P w K mg base CX0 k f' fd' ps' p.2/\mg p.1=some (.ref f')/\W.keepIn K (.ref f')=true/\Binds K fd' ps' []):
  ∀y sp',fsOf l y=some sp'->∃f' fd' ps',FnOk P w K mg base CX0 k f' fd' ps' sp'/\mg y=some (.ref f')/\W.keepIn K (.ref f')=true/\Binds K fd' ps' []:=fun y sp' e=>h (y,sp') (lookup_mem e)
theorem code_ok0 {P:Program} {w:World} {K:W.Frag} {mg:Str->Option Value} {base:Heap} {x qual:Str} {st:Stmt} {f:Addr} {fd:FuncData} {ps:List Str} {k:Nat} {sp:Sp} (F:Fun K x qual st f fd) (C:Rc) (S:FnScope C.N ps (defScope st)) (hK:C.K=K) (code:Css) (hm:mSs C.N C.B (defScope st) code (defBody st)=true)
  (len:∀vs H Q E,sp vs H Q E->vs.length=ps.length)
  (hfs:∀y sp',C.fs y=some sp'->∃f' fd' ps',FnOk P w K mg base CX0 k f' fd' ps' sp'/\mg y=some (.ref f')/\W.keepIn K (.ref f')=true/\Binds K fd' ps' []) (hB:∀y∈C.B,mg y=none) (hmk:mg "~"=none/\mg "^"=none/\mg "%"=none) (nt:tld C.B=false) (nh:hat C.B=false) (hxk:C.xk=fun _=>E0) (hcl:C.cl=fun _=>none)
  (hbody:∀vs H Q E,sp vs H Q E->tSs C code { nx:=fun _ H'=>Q .non H',rt:=Q } (start C.N vs) H):FnOk P w K mg base CX0 (k+1) f fd ps sp:=
 code_ok F C S hK code hm len ⟨fun y sp' e=>by
  obtain⟨f',fd',ps',h1,h2⟩:=hfs y sp' e
  exact⟨f',fd',ps',.inl h1,h2⟩,hB,hmk,(fun c Ca e=>by rw[hcl]at e;cases e),nt,nh⟩ hxk hbody
noncomputable def clOf (l:List (Str×Addr)) (y:Str):Option Addr:=l.lookup y
theorem cl_here {x:Str} {s:Addr} {l:List (Str×Addr)}:clOf ((x,s) :: l) x=some s:=by unfold clOf;simp
theorem cl_skip {x y:Str} {s:Addr} {l:List (Str×Addr)} (h:(y == x)=false):clOf ((x,s) :: l) y=clOf l y:=by
 unfold clOf
 rw[List.lookup_cons,h]
theorem cl_mem {y:Str} {s:Addr}:∀{l:List (Str×Addr)},clOf l y=some s->(y,s)∈l
 | [],h=>by cases h
 |(x,t) :: l,h=>by
  unfold clOf at h
  rw[List.lookup_cons]at h
  cases e:y == x with
  |true=>
   rw[e]at h
   cases h
   rw[eq_of_beq e]
   exact List.mem_cons_self ..
  |false=>
   rw[e]at h
   exact List.mem_cons_of_mem _ (cl_mem h)
theorem cl_of {K:W.Frag} {mg:Str->Option Value} {l:List (Str×Addr)} (h:∀p∈l,mg p.1=some (.ref p.2)/\W.nsIn K mainGlobals p.1=some (some (.ref p.2))):∀c Ca,clOf l c=some Ca->mg c=some (.ref Ca)/\W.nsIn K mainGlobals c=some (some (.ref Ca)):=fun c Ca e=>h (c,Ca) (cl_mem e)
theorem hfsX_of {P:Program} {w:World} {K:W.Frag} {mg:Str->Option Value} {base:Heap} {k:Nat} {B:List Str} {l:List (Str×Sp)} (h:∀p∈l,∃f' fd' ps',(FnOk P w K mg base CX0 k f' fd' ps' p.2\/FnOk P w K mg base (CX1 P w mg) k f' fd' ps' p.2/\bang p.1∈B)/\mg p.1=some (.ref f')/\W.keepIn K (.ref f')=true/\Binds K fd' ps' []):
  ∀y sp',fsOf l y=some sp'->∃f' fd' ps',(FnOk P w K mg base CX0 k f' fd' ps' sp'\/FnOk P w K mg base (CX1 P w mg) k f' fd' ps' sp'/\bang y∈B)/\mg y=some (.ref f')/\W.keepIn K (.ref f')=true/\Binds K fd' ps' []:=fun y sp' e=>h (y,sp') (lookup_mem e)
theorem xcls_of {K:W.Frag} {C:Addr} {cd:ClassData} (h1:W.findIn K (.ref C) "__getattribute__"=some (some (.builtin "BaseException.__getattribute__"))) (h2:W.findIn K (.ref C) "__getattr__"=some none) (h3:W.findIn K (.ref C) "__class__"=some (some (.builtin "object.__class__"))) (h4:W.subIn K (.ref C) (.type "BaseException")=some true) (h5:W.subIn K (.ref C) (.type "object")=some true) (h6:W.clsIn K C=some cd):XCls K C:=⟨h1,h2,h3,h4,h5,by rw[h6];rfl⟩
theorem mC {α:Type} {P:α->Prop} {a:α} {l:List α} (h:P a/\∀x∈l,P x):∀x∈a :: l,P x:=List.forall_mem_cons.mpr h
theorem mN {α:Type} {P:α->Prop}:∀x∈([]:List α),P x:=fun y hy=>absurd hy List.not_mem_nil
theorem len1 {α:Type} {P:List α->Prop} (h:∀x0,P [x0]):∀us:List α,us.length=1->P us
 | [x0],_=>h x0
theorem len2 {α:Type} {P:List α->Prop} (h:∀x0 x1,P [x0,x1]):∀us:List α,us.length=2->P us
 | [x0,x1],_=>h x0 x1
theorem len3 {α:Type} {P:List α->Prop} (h:∀x0 x1 x2,P [x0,x1,x2]):∀us:List α,us.length=3->P us
 | [x0,x1,x2],_=>h x0 x1 x2
theorem len4 {α:Type} {P:List α->Prop} (h:∀x0 x1 x2 x3,P [x0,x1,x2,x3]):∀us:List α,us.length=4->P us
 | [x0,x1,x2,x3],_=>h x0 x1 x2 x3
theorem len5 {α:Type} {P:List α->Prop} (h:∀x0 x1 x2 x3 x4,P [x0,x1,x2,x3,x4]):∀us:List α,us.length=5->P us
 | [x0,x1,x2,x3,x4],_=>h x0 x1 x2 x3 x4
noncomputable def All2 {α β:Type} (R:α->β->Prop):List α->List β->Prop
 | [],[]=>True
 |a :: as,b :: bs=>R a b/\All2 R as bs
 |_,_=>False
section
variable {α β:Type} {R S:α->β->Prop}
theorem All2.mono (h:∀a b,R a b->S a b):∀{as:List α} {bs:List β},All2 R as bs->All2 S as bs
 | [],[],_=>trivial
 |_ :: _,_ :: _,q=>⟨h _ _ q.1,All2.mono h q.2⟩
 | [],_ :: _,q=>q.elim
 |_ :: _,[],q=>q.elim
theorem All2.len:∀{as:List α} {bs:List β},All2 R as bs->as.length=bs.length
 | [],[],_=>rfl
 |_ :: _,_ :: _,q=>by simp[All2.len q.2]
 | [],_ :: _,q=>q.elim
 |_ :: _,[],q=>q.elim
theorem All2.app:∀{as cs:List α} {bs ds:List β},All2 R as bs->All2 R cs ds->All2 R (as++cs) (bs++ds)
 | [],_,[],_,_,q=>q
 |_ :: _,_,_ :: _,_,p,q=>⟨p.1,All2.app p.2 q⟩
 | [],_,_ :: _,_,p,_=>p.elim
 |_ :: _,_,[],_,p,_=>p.elim
theorem All2.snoc {a:α} {b:β} {as:List α} {bs:List β} (h:All2 R as bs) (r:R a b):All2 R (as++[a]) (bs++[b]):=h.app ⟨r,trivial⟩
theorem All2.get:∀{as:List α} {bs:List β} {i:Nat} {b:β},All2 R as bs->bs[i]?=some b->∃a,as[i]?=some a/\R a b
 | [],[],_,_,_,e=>by cases e
 |a :: _,_ :: _,0,_,q,e=>by cases e;exact⟨a,rfl,q.1⟩
 |_ :: as,_ :: bs,i+1,b,q,e=>by
  obtain⟨a,h1,h2⟩:=All2.get (i:=i) (b:=b) q.2 (by simpa using e)
  exact⟨a,by simpa using h1,h2⟩
 | [],_ :: _,_,_,q,_=>q.elim
 |_ :: _,[],_,_,q,_=>q.elim
theorem All2.getL:∀{as:List α} {bs:List β} {i:Nat} {a:α},All2 R as bs->as[i]?=some a->∃b,bs[i]?=some b/\R a b
 | [],[],_,_,_,e=>by cases e
 |_ :: _,b :: _,0,_,q,e=>by cases e;exact⟨b,rfl,q.1⟩
 |_ :: as,_ :: bs,i+1,a,q,e=>by
  obtain⟨b,h1,h2⟩:=All2.getL (i:=i) (a:=a) q.2 (by simpa using e)
  exact⟨b,by simpa using h1,h2⟩
 | [],_ :: _,_,_,q,_=>q.elim
 |_ :: _,[],_,_,q,_=>q.elim
end
noncomputable def kRestT {α:Type} (rest:TL α) (b:α) (P:α->Hp->Prop) (σ:L2.St):Bool->Hp->Prop:=fun ok H=>if ok=true then rest σ b H P else P b H
noncomputable def kRest {α:Type} (tc:TT) (rest:TL α) (b:α) (P:α->Hp->Prop):L2.St->Hp->Prop:=fun σ H=>tc σ H (kRestT rest b P σ)
def kCl {α:Type} (own:List Nat) (g:TG) (tc:TT) (rest:TL α) (σ:L2.St) (a:α) (N:α->Hp->Prop) (J:It) (H:Hp):Prop:=tClause own g tc rest J σ a H N
section
variable {C:Rc} {σ:L2.St} {H:Hp} {Q:VK} {D:Ends} {α:Type}
theorem kRest_n {rest:TL α} {b:α} {P:α->Hp->Prop}:kRest (tQo C .none) rest b P σ H=rest σ b H P:=rfl
theorem kRest_q {q:Cq} {rest:TL α} {b:α} {P:α->Hp->Prop}:kRest (tQo C (.some q)) rest b P σ H=tQ C q σ H (kRestT rest b P σ):=rfl
theorem kRestT_t {rest:TL α} {b:α} {P:α->Hp->Prop}:kRestT rest b P σ true H=rest σ b H P:=rfl
theorem kRestT_f {rest:TL α} {b:α} {P:α->Hp->Prop}:kRestT rest b P σ false H=P b H:=rfl
theorem cl_by {own:List Nat} {g:TG} {tc:TT} {rest:TL α} {J:It} {a:α} {N:α->Hp->Prop} {n:Nat} (Pv:Nat->α->Hp->Prop) (h0:Pv 0 a H) (hgo:∀i b H,i<n->Pv i b H->J.go i H) (hstop:∀b H,Pv n b H->J.stop n H)
  (hs:∀i b H x H' (R:α->Hp->Prop),i<n->Pv i b H->J.yld i H x H'->(∀c H2,Pv (i+1) c H2->R c H2)->g x (clr own σ) H' (kRest tc rest b R)) (hd:∀b H,Pv n b H->N b H):kCl own g tc rest σ a N J H:=by
 refine⟨fun i m b H=>m=n-i/\i<=n/\Pv i b H,⟨n,by simp,Nat.zero_le _,h0⟩,?_⟩
 rintro i m b H ⟨rfl,hi,p⟩
 by_cases hlt:i<n
 .refine .inr ⟨hgo i b H hlt p,fun x H' y=>?_⟩
  exact hs i b H x H' (fun c H4=>∃m',m'<n-i/\(m'=n-(i+1)/\i+1<=n/\Pv (i+1) c H4)) hlt p y fun ys H2 p2=>⟨n-(i+1),by omega,rfl,hlt,p2⟩
 .have e:i=n:=by omega
  subst e
  exact .inl ⟨hstop b H p,hd b H p⟩
theorem cl_l {own:List Nat} {g:TG} {tc:TT} {rest:TL α} {b0:α} {N:α->Hp->Prop} {a:Addr} {vs:List V} (Pv:Nat->α->Hp->Prop) (h0:Pv 0 b0 H) (hl:∀i b H,Pv i b H->SqL C.K H a vs)
  (hs:∀i b H x (R:α->Hp->Prop),vs[i]?=some x->Pv i b H->(∀c H2,Pv (i+1) c H2->R c H2)->g x (clr own σ) H (kRest tc rest b R)) (hd:∀b H,Pv vs.length b H->N b H):kCl own g tc rest σ b0 N (Itl C.K a) H:=
 cl_by (n:=vs.length) Pv h0 (fun i xs H hi p=>⟨vs,vs[i],hl i xs H p,by simp[hi]⟩) (fun xs H p=>⟨vs,hl _ xs H p,Nat.le_refl _⟩) (fun i xs H x H' R hi p y k=>by
  obtain⟨e,y⟩:=y
  subst e
  exact hs i xs H' x R (y vs (hl i xs H' p)) p k) hd
theorem cl_t {own:List Nat} {g:TG} {tc:TT} {rest:TL α} {b0:α} {N:α->Hp->Prop} {a:Addr} {vs:List V} (Pv:Nat->α->Hp->Prop) (h0:Pv 0 b0 H) (hl:∀i b H,Pv i b H->SqT C.K H a vs)
  (hs:∀i b H x (R:α->Hp->Prop),vs[i]?=some x->Pv i b H->(∀c H2,Pv (i+1) c H2->R c H2)->g x (clr own σ) H (kRest tc rest b R)) (hd:∀b H,Pv vs.length b H->N b H):kCl own g tc rest σ b0 N (Itt C.K a) H:=
 cl_by (n:=vs.length) Pv h0 (fun i xs H hi p=>⟨vs,vs[i],hl i xs H p,by simp[hi]⟩) (fun xs H p=>⟨vs,hl _ xs H p,Nat.le_refl _⟩) (fun i xs H x H' R hi p y k=>by
  obtain⟨e,y⟩:=y
  subst e
  exact hs i xs H' x R (y vs (hl i xs H' p)) p k) hd
theorem cl_e {own:List Nat} {g:TG} {tc:TT} {rest:TL α} {b0:α} {N:α->Hp->Prop} {a:Addr} {vs:List V} (Pv:Nat->α->Hp->Prop) (h0:Pv 0 b0 H) (hl:∀i b H,Pv i b H->SqL C.K H a vs)
  (hs:∀i b H x p (R:α->Hp->Prop),vs[i]?=some x->H p=none->Pv i b H->(∀c H2,Pv (i+1) c H2->R c H2)->g (.ref p) (clr own σ) (upd H p (.tup [.int i,x])) (kRest tc rest b R)) (hd:∀b H,Pv vs.length b H->N b H):kCl own g tc rest σ b0 N (Ite C.K a) H:=
 cl_by (n:=vs.length) Pv h0 (fun i xs H hi p=>⟨vs,vs[i],hl i xs H p,by simp[hi]⟩) (fun xs H p=>⟨vs,hl _ xs H p,rfl⟩) (fun i xs H x H' R hi p y k=>by
  obtain⟨ad,v,rfl,hn,y,rfl⟩:=y
  exact hs i xs H v ad R (y vs (hl i xs H p)) hn p k) hd
theorem cl_r {own:List Nat} {g:TG} {tc:TT} {rest:TL α} {b0:α} {N:α->Hp->Prop} {lo:Int} {n:Nat} (Pv:Nat->α->Hp->Prop) (h0:Pv 0 b0 H)
  (hs:∀i b H (R:α->Hp->Prop),i<n->Pv i b H->(∀c H2,Pv (i+1) c H2->R c H2)->g (.int (lo+i)) (clr own σ) H (kRest tc rest b R)) (hd:∀b H,Pv n b H->N b H):kCl own g tc rest σ b0 N (Itr lo n) H:=
 cl_by (n:=n) Pv h0 (fun i xs H hi p=>hi) (fun xs H p=>Nat.le_refl _) (fun i xs H x H' R hi p y k=>by
  obtain⟨e,rfl⟩:=y
  subst e
  exact hs i xs H' R hi p k) hd
theorem tE_compN {elt:Ce} {own:List Nat} {t:Ct} {it:Ci} {q:Cqo} {ws:List Nat} {t2:Ct} {it2:Ci} {q2:Cqo} {r:Cc}:tE C (.comp elt own t it q (.cons ws t2 it2 q2 r)) σ H Q=tI C it σ H (kCl own (tG C t) (tQo C q) (tR C (.cons ws t2 it2 q2 r) (tEmit (tE C elt))) σ [] (kNew Q)):=rfl
theorem tR_cons {ws:List Nat} {t:Ct} {it:Ci} {q:Cqo} {r:Cc} {em:TL (List V)} {b:List V} {P:List V->Hp->Prop}:tR C (.cons ws t it q r) em σ b H P=tI C it σ H (kCl ws (tG C t) (tQo C q) (tR C r em) σ b P):=rfl
theorem tR_nil {em:TL (List V)} {b:List V} {P:List V->Hp->Prop}:tR C .nil em σ b H P=em σ b H P:=rfl
theorem emit_at {elt:Ce} {b:List V} {P:List V->Hp->Prop}:tEmit (tE C elt) σ b H P=tE C elt σ H (kPush b P):=rfl
noncomputable def kAddS (b:(Option Int->Bool)×Nat) (P:(Option Int->Bool)×Nat->Hp->Prop):VK:=fun v H=>∃k,v=kO k/\b.2<4000/\P (fun j=>b.1 j || decide (j=k),b.2+1) H
theorem emitS_at {elt:Ce} {b:(Option Int->Bool)×Nat} {P:(Option Int->Bool)×Nat->Hp->Prop}:tEmitS (tE C elt) σ b H P=tE C elt σ H (kAddS b P):=rfl
theorem nest_at {it:Ci} {own:List Nat} {g:TG} {tc:TT} {rest:TL α} {b:α} {P:α->Hp->Prop}:tNest (tI C it) (tClause own g tc rest) σ b H P=tI C it σ H (kCl own g tc rest σ b P):=rfl
noncomputable def kSetD (i:Nat) (D:Ends) (σ:L2.St):(Option Int->Bool)×Nat->Hp->Prop:=fun a H2=>True/\∀p,H2 p=none->D.nx (σ.set i (some (.ref p))) (upd H2 p (SetO p a.1 a.2))
theorem s_setc2 {i:Nat} {elt:Ce} {own:List Nat} {t:Ct} {it:Ci} {q:Cqo} {ws:List Nat} {t2:Ct} {it2:Ci} {q2:Cqo}:tS C (.setc2 i elt own t it q ws t2 it2 q2) D σ H=tI C it σ H (kCl own (tG C t) (tQo C q) (tNest (tI C it2) (tClause ws (tG C t2) (tQo C q2) (tEmitS (tE C elt)))) σ (fun _=>false,0) (kSetD i D σ)):=rfl
theorem at_set {K:W.Frag} {a:Addr} {ns:List Int} (h:SqL K H a (ns.map V.int)) (hl:ns.length<=3999) (q:∀p,H p=none->Q (.ref p) (upd H p (SetO p (inL ns) ns.length))):rBlt K .set [.ref a] H Q:=⟨a,ns,rfl,h,hl,q⟩
noncomputable def kDctD (i:Nat) (D:Ends) (σ:L2.St):List (Key×V)->Hp->Prop:=fun a H2=>True/\∀p,H2 p=none->D.nx (σ.set i (some (.ref p))) (upd H2 p (.dK a))
noncomputable def kDctE (i:Nat) (D:Ends) (σ:L2.St):KTL->Hp->Prop:=fun a H2=>okT a H2/\∀p,H2 p=none->D.nx (σ.set i (some (.ref p))) (upd H2 p (.dT (plT a)))
theorem s_dctcK {i:Nat} {k v:Ce} {own:List Nat} {t:Ct} {it:Ci} {q:Cqo}:tS C (.dctc false i k v own t it q) D σ H=tI C it σ H (kCl own (tG C t) (tQo C q) (tEmitK (tE C k) (tE C v)) σ [] (kDctD i D σ)):=rfl
theorem s_dctcT {i:Nat} {k v:Ce} {own:List Nat} {t:Ct} {it:Ci} {q:Cqo}:tS C (.dctc true i k v own t it q) D σ H=tI C it σ H (kCl own (tG C t) (tQo C q) (tEmitT (tE C k) (tE C v)) σ [] (kDctE i D σ)):=rfl
noncomputable def kEK2 (a:List (Key×V)) (P:List (Key×V)->Hp->Prop) (y:V):VK:=fun v H2=>∃k,y=L2.kV k/\a.length<sizeLine/\P (putK a k v) H2
noncomputable def kEK1 (C:Rc) (σ:L2.St) (v:Ce) (a:List (Key×V)) (P:List (Key×V)->Hp->Prop):VK:=fun y H1=>tE C v σ H1 (kEK2 a P y)
theorem emitK_at {k v:Ce} {a:List (Key×V)} {P:List (Key×V)->Hp->Prop}:tEmitK (tE C k) (tE C v) σ a H P=tE C k σ H (kEK1 C σ v a P):=rfl
theorem kEK1_at {v:Ce} {a:List (Key×V)} {P:List (Key×V)->Hp->Prop} {y:V}:kEK1 C σ v a P y H=tE C v σ H (kEK2 a P y):=rfl
noncomputable def kET2 (a:KTL) (P:KTL->Hp->Prop) (y:V):VK:=fun v H2=>∃(k:List Key) (b:Addr),y=.ref b/\H2 b=some (.tup (k.map L2.kV))/\okT a H2/\(∀x∈a,x.1≠k)/\a.length<sizeLine/\P (a++[(k,b,v)]) H2
noncomputable def kET1 (C:Rc) (σ:L2.St) (v:Ce) (a:KTL) (P:KTL->Hp->Prop):VK:=fun y H1=>tE C v σ H1 (kET2 a P y)
theorem emitT_at {k v:Ce} {a:KTL} {P:KTL->Hp->Prop}:tEmitT (tE C k) (tE C v) σ a H P=tE C k σ H (kET1 C σ v a P):=rfl
theorem kET1_at {v:Ce} {a:KTL} {P:KTL->Hp->Prop} {y:V}:kET1 C σ v a P y H=tE C v σ H (kET2 a P y):=rfl
noncomputable def kSsc (Q:VK):(Option Int->Bool)×Nat->Hp->Prop:=fun a H2=>okSs Q a H2/\∀p,H2 p=none->True
theorem tE_ssc {elt:Ce} {own:List Nat} {t:Ct} {it:Ci} {q:Cqo}:tE C (.ssc elt own t it q) σ H Q=tI C it σ H (kCl own (tG C t) (tQo C q) (tEmitS (tE C elt)) σ (fun _=>false,0) (kSsc Q)):=rfl
theorem at_ssc {a:(Option Int->Bool)×Nat} (h1:a.1 none=false) (h2:∃b:List Int,b.length<64/\∀i,a.1 (some i)=true->i∈b) (q:∀(l:Addr) (us:List Int),H l=none->us.Pairwise (· < ·)->(∀i:Int,i∈us↔a.1 (some i)=true)->Q (.ref l) (upd H l (.lst (us.map V.int)))):kSsc Q a H:=⟨⟨h1,h2,q⟩,fun _ _=>trivial⟩
noncomputable def kInX2 (neg:Bool) (y:V) (Q:VK):VK:=fun x H2=>(∃a o,x=.ref a/\DGet H2 a y o/\Q (.bl (if neg then !o.isSome else o.isSome)) H2)\/rInO neg y x H2 Q
noncomputable def kInX1 (C:Rc) (σ:L2.St) (neg:Bool) (b:Ce) (Q:VK):VK:=fun y H1=>tE C b σ H1 (kInX2 neg y Q)
theorem tE_din {neg:Bool} {a b:Ce}:tE C (.din neg a b) σ H Q=tE C a σ H (kInX1 C σ neg b Q):=rfl
theorem tQ_din {neg:Bool} {a b:Ce} {Qb:Bool->Hp->Prop}:tQ C (.din neg a b) σ H Qb=tE C a σ H (kInX1 C σ neg b (kT Qb)):=rfl
theorem kInX1_at {neg:Bool} {b:Ce} {y:V}:kInX1 C σ neg b Q y H=tE C b σ H (kInX2 neg y Q):=rfl
theorem at_inO {neg:Bool} {k:Option Int} {y:V} {p:Addr} {S:Option Int->Bool} {n:Nat} (hy:y=kO k) (h:H p=some (SetO p S n)) (q:Q (.bl (if neg then !(S k)else S k)) H):kInX2 neg y Q (.ref p) H:=.inr ⟨k,p,S,n,hy,rfl,h,q⟩
noncomputable def kGet2 (a:Addr) (Q:VK):VK:=fun y H2=>(∃o,DGet H2 a y o/\Q (o.getD .non) H2)\/(y=.non/\NoN H2 a/\Q .non H2)
noncomputable def kGet1 (C:Rc) (σ:L2.St) (b:Ce) (Q:VK):VK:=fun x H1=>∃a,x=.ref a/\IsD H1 a/\tE C b σ H1 (kGet2 a Q)
theorem tE_dgt {a b:Ce}:tE C (.dgt a b) σ H Q=tE C a σ H (kGet1 C σ b Q):=rfl
noncomputable def kGetD3 (a:Addr) (y:V) (Q:VK):VK:=fun z H3=>∃o,DGet H3 a y o/\Q (o.getD z) H3
noncomputable def kGetD2 (C:Rc) (σ:L2.St) (c:Ce) (a:Addr) (Q:VK):VK:=fun y H2=>tE C c σ H2 (kGetD3 a y Q)
theorem kGetD2_at {c:Ce} {a:Addr} {y:V}:kGetD2 C σ c a Q y H=tE C c σ H (kGetD3 a y Q):=rfl
theorem at_get1 {b:Ce} {p:Addr} (h:IsD H p) (q:tE C b σ H (kGet2 p Q)):kGet1 C σ b Q (.ref p) H:=⟨p,rfl,h,q⟩
theorem at_get2 {p:Addr} {y:V} {o:Option V} (h:DGet H p y o) (q:Q (o.getD .non) H):kGet2 p Q y H:=.inl ⟨o,h,q⟩
theorem at_getN {p:Addr} (h:NoN H p) (q:Q .non H):kGet2 p Q .non H:=.inr ⟨rfl,h,q⟩
end
section
variable {C:Rc} {σ:L2.St} {H:Hp} {Q:VK} {Qb:Bool->Hp->Prop}
noncomputable def kX1 (C:Rc) (σ:L2.St) (k:Xf) (b:Ce) (Q:VK):VK:=fun x H=>tE C b σ H fun y H'=>rXf C.K k x y H' Q
noncomputable def kX2 (C:Rc) (k:Xf) (x:V) (Q:VK):VK:=fun y H=>rXf C.K k x y H Q
theorem tQ_cmx {k:Xf} {a b:Ce}:tQ C (.cmx k a b) σ H Qb=tE C a σ H (kX1 C σ k b (kT Qb)):=rfl
theorem kX1_at {k:Xf} {b:Ce} {x:V}:kX1 C σ k b Q x H=tE C b σ H (kX2 C k x Q):=rfl
theorem at_eqT0 {a b:Addr} {xs:List V} (h:SqT C.K H a xs) (h2:SqT C.K H b []) (q:Q (.bl (decide (xs=[]))) H):kX2 C .eqT (.ref a) Q (.ref b) H:=⟨a,b,xs,rfl,rfl,h,h2,q⟩
section
variable {D:Ends}
end
end
end R3
section
open PySem PySem.Spec PyProof.Rows L2 R3
local macro_rules | `(tactic| walk_at "y") => `(tactic| try walk_at "sy")
set_option hygiene false in
local macro_rules | `(tactic| walk_at "sy") => `(tactic| simp only [tQ_cmx, kX1_at, tE_compN, tR_cons, tR_nil, emit_at, tE_din, tQ_din, kInX1_at, tE_dgt, kGetD2_at, s_setc2, s_dctcK, s_dctcT, tE_ssc, emitS_at, nest_at, emitK_at, kEK1_at, emitT_at, kET1_at, kRest_n, kRest_q, kRestT_t, kRestT_f, tE_var, tE_int, tE_bl, tE_non, tE_str, tE_bin, kB1_at, kB2_at, tE_cmp, kC1_at, kC2_at, tE_idx, kI1_at, kI2_at, tE_neg, kNeg_int, kT_bl, tQ_cmp, tQ_not, kNotQ_at, tQ_and, tQ_or, kAndQ_t, kAndQ_f, kOrQ_t, kOrQ_f, b_shl, b_shr, b_and1, i_range3', kR3a_at, kR3b_at, i_rev, kCG2_n, kCG2_q, kCT2_t, kCT2_f, tE_comp2, b_add, b_addtx, b_sub, b_mul, b_muls, b_mod, b_div, b_pow, c_lt, c_gt, c_ge, c_eq, c_eqs, kDx1_at, c_is, c_isnot, ix_ref, ss_nil, ss_cons, seq_nx, seq_rt, seq_bk, seq_ct, s_ret, s_expr, kDrop_at, s_set, kSet_at, s_sub, kSub1_at, kSub2_at, kSub3_at, s_if, kIf_t, kIf_f, kV_some, kA1_at, kA2_at, a_nil, a_cons, tE_tup, tE_lst, kTup_at, kLst_at, kCall_at, tE_blt, kBlt_at, tE_met, kMet1_at, kMet2_at, tE_ife, kIfe_t, kIfe_f, tE_not, tE_and, tE_or, kAndV_t, tQ_val, tE_cut, kCut1_at, kCut2_at, kCut3_at, o_none, o_some, kPart_int, sl_ref, kAug_int, kPar1_at, kPar2_at, bl_len_tx, bl_abs, bl_int_int, bl_int_bl, bl_int_tx, bl_min2, tx_01, tx_10, tx_0, tx_1, tx_nil, tx_eq1, s_for, i_val, i_range1', i_range2', kR2a_at, kZ1_at, i_enum, g_name, tE_comp, kCG_n, kCG_q, kCT_t, kCT_f, kPush_at, clr, List.foldl_cons, List.foldl_nil, L2.start, List.map_cons, List.map_nil, List.length_cons, List.length_nil, List.cons_append, List.nil_append, List.replicate, Nat.reduceSub, Nat.reduceAdd, List.set_cons_zero, List.set_cons_succ, List.getElem?_cons_zero, List.getElem?_cons_succ, reduceCtorEq, decide_true, decide_false, eq_self, Bool.not_true, Bool.not_false, bne_self_eq_false, BEq.rfl])
namespace LW
open PySem PySem.Spec PyProof.Rows L2 R3
noncomputable def c_cell_at:Css:=(.cons (.ite (.cmp .Lt (.var 1) (.blt .len (.cons (.var 0) .nil))) (.cons (.ret (.idx (.var 0) (.var 1)))
  .nil) .nil)
  (.cons (.ret (.int 0))
  .nil))
noncomputable def c_box:Css:=(.cons (.asg (.name 2) (.call "_law_cell_at" (.cons (.var 0) (.cons (.var 1) .nil))))
  (.cons (.ret (.lst (.cons (.bin .Mult (.blt .abs (.cons (.var 2) .nil)) (.blt .int (.cons (.cmp .GtE (.blt .abs (.cons (.var 2) .nil)) (.bin .Pow (.int 10) (.int 18))) .nil))) (.cons (.bin .Add (.bin .Add (.bin .Mod (.var 2) (.int 2305843009213693951)) (.bin .Mult (.int 39373) (.var 1))) (.int 17)) (.cons (.int 0) .nil)))))
  .nil))
noncomputable def c_take:Css:=(.cons (.ite (.cmp .Gt (.idx (.var 0) (.int 0)) (.int 0)) (.cons (.asg (.name 2) (.bin .Mod (.idx (.var 0) (.int 0)) (.var 1)))
  (.cons (.asg (.sub (.var 0) (.int 0)) (.bin .FloorDiv (.idx (.var 0) (.int 0)) (.var 1)))
  (.cons (.ret (.var 2))
  .nil))) .nil)
  (.cons (.asg (.sub (.var 0) (.int 2)) (.bin .Add (.idx (.var 0) (.int 2)) (.int 1)))
  (.cons (.asg (.name 3) (.bin .Mod (.bin .Mult (.bin .Add (.idx (.var 0) (.int 1)) (.bin .Mult (.int 48271) (.idx (.var 0) (.int 2)))) (.bin .Add (.int 39373) (.idx (.var 0) (.int 2)))) (.int 2147483647)))
  (.cons (.asg (.name 4) (.bin .Mod (.bin .Mult (.bin .Add (.var 3) (.idx (.var 0) (.int 2))) (.bin .Add (.bin .Mod (.var 3) (.int 40009)) (.int 7))) (.int 2147483629)))
  (.cons (.ret (.bin .Mod (.bin .FloorDiv (.bin .Mod (.bin .Add (.bin .Mult (.var 4) (.int 48271)) (.var 3)) (.int 2147483587)) (.int 64)) (.var 1)))
  .nil)))))
def spCell (K:W.Frag):Sp:=fun vs H Q _=>∃(a:Addr) (ns:List Int) (k:Int),vs=[.ref a,.int k]/\SqL K H a (ns.map V.int)/\0<=k/\∀c:Int,Q (.int c) H
theorem atI_ints {ns:List Int} {k:Int} (h0:0<=k) (h1:k<ns.length):∃c:Int,atI (ns.map V.int) k=some (.int c):=by
 obtain⟨j,rfl⟩:=Int.eq_ofNat_of_zero_le h0
 have hk:j<ns.length:=by omega
 exact⟨ns[j],atI_nat (by rw[List.getElem?_map,List.getElem?_eq_getElem hk];rfl)⟩
theorem body_cell {C:Rc} (hN:C.N.length=2):∀vs H Q E,spCell C.K vs H Q E->tSs C c_cell_at { nx:=fun _ H'=>Q .non H',rt:=Q } (L2.start C.N vs) H:=by
 intro vs H Q E h
 obtain⟨a,ns,k,rfl,hs,hk,q⟩:=h
 rw[start_eq hN]
 unfold c_cell_at
 walk_at "y"
 refine at_lenL hs ?_
 rw[List.length_map]
 walk_at "y"
 refine by_dec (fun c=>?_) fun _=>?_
 .obtain⟨v,hv⟩:=atI_ints hk c
  walk_at "y"
  exact at_ixL hs hv (q v)
 .walk_at "y"
  exact q 0
def spBox0 (K:W.Frag):Sp:=fun vs H Q _=>∃(a:Addr) (ns:List Int) (k:Int),vs=[.ref a,.int k]/\SqL K H a (ns.map V.int)/\0<=k/\k<=1000/\∀(p:Addr) (x y:Int),H p=none->0<=x->0<=y->y<2 ^ 62->Q (.ref p) (upd H p (BoxL x y 0))
theorem body_box {C:Rc} (hN:C.N.length=3) (hf:C.fs "_law_cell_at"=some (spCell C.K)):∀vs H Q E,spBox0 C.K vs H Q E->tSs C c_box { nx:=fun _ H'=>Q .non H',rt:=Q } (L2.start C.N vs) H:=by
 intro vs H Q E h
 obtain⟨a,ns,k,rfl,hs,hk,hk2,q⟩:=h
 rw[start_eq hN]
 unfold c_box
 walk_at "y"
 refine call_e hf ?_
 walk_at "y"
 refine⟨a,ns,k,rfl,hs,hk,fun c=>?_⟩
 walk_at "y"
 have hm0:0<=c % 2305843009213693951:=Int.emod_nonneg _ (by decide)
 have hm1:c % 2305843009213693951<2305843009213693951:=Int.emod_lt_of_pos _ (by decide)
 refine⟨⟨by decide,by decide,by decide⟩,?_,by decide,.inl ⟨by decide,by decide⟩,by decide,fun p hp=>q p _ _ hp ?_ ?_ ?_⟩
 .refine .inr (.inl ⟨?_,?_⟩)<;>split<;>split<;>decide
 .split<;>split<;>omega
 .omega
 .omega
section
variable {K:W.Frag} {H:Hp} {b:Addr} {x y z:Int} {Q:VK}
theorem ix0 (h:H b=some (BoxL x y z)) (q:Q (.int x) H):rIxL K (.ref b) (.int 0) H Q\/rIxT K (.ref b) (.int 0) H Q:=.inl ⟨b,_,0,_,rfl,rfl,SqL.of h,rfl,q⟩
theorem ix1 (h:H b=some (BoxL x y z)) (q:Q (.int y) H):rIxL K (.ref b) (.int 1) H Q\/rIxT K (.ref b) (.int 1) H Q:=.inl ⟨b,_,1,_,rfl,rfl,SqL.of h,rfl,q⟩
theorem ix2 (h:H b=some (BoxL x y z)) (q:Q (.int z) H):rIxL K (.ref b) (.int 2) H Q\/rIxT K (.ref b) (.int 2) H Q:=.inl ⟨b,_,2,_,rfl,rfl,SqL.of h,rfl,q⟩
theorem st0 {u:Int} {Q:Hp->Prop} (h:H b=some (BoxL x y z)) (q:Q (upd H b (BoxL u y z))):rSetL (.ref b) (.int 0) (.int u) H Q:=⟨b,_,0,0,rfl,rfl,h,rfl,q⟩
theorem st2 {u:Int} {Q:Hp->Prop} (h:H b=some (BoxL x y z)) (q:Q (upd H b (BoxL x y u))):rSetL (.ref b) (.int 2) (.int u) H Q:=⟨b,_,2,2,rfl,rfl,h,rfl,q⟩
end
def spTake0:Sp:=fun vs H Q _=>∃(b:Addr) (x y z m:Int),vs=[.ref b,.int m]/\H b=some (BoxL x y z)/\0<=x/\0<=y/\y<2 ^ 62/\0<=z/\z<=2 ^ 40/\0<m/\m<4611686018427387904/\
 ∀(r x' z':Int),0<=r->r<m->0<=x'->0<=z'->z'<=z+1->Q (.int r) (upd H b (BoxL x' y z'))
theorem body_take {C:Rc} (hN:C.N.length=5):∀vs H Q E,spTake0 vs H Q E->tSs C c_take { nx:=fun _ H'=>Q .non H',rt:=Q } (L2.start C.N vs) H:=by
 intro vs H Q E h
 obtain⟨b,x,y,z,m,rfl,hb,hx,hy,hy2,hz,hz2,hm,hm2,q⟩:=h
 rw[start_eq hN]
 unfold c_take
 walk_at "sy"
 refine ix0 hb ?_
 walk_at "sy"
 refine by_dec (fun c=>?_) fun _=>?_
 .walk_at "sy"
  refine ix0 hb ?_
  walk_at "sy"
  refine⟨hm,?_⟩
  refine ix0 hb ?_
  walk_at "sy"
  refine⟨⟨hm,.inr (Nat.lt_of_lt_of_le ((Nat.log2_lt (by omega)).mpr (show m.natAbs<2 ^ 62 by omega)) (by decide))⟩,st0 hb ?_⟩
  walk_at "sy"
  exact q _ _ _ (Int.emod_nonneg _ (by omega)) (Int.emod_lt_of_pos _ hm) (Int.ediv_nonneg hx (by omega)) hz (by omega)
 .walk_at "sy"
  refine ix2 hb ?_
  walk_at "sy"
  refine st2 hb ?_
  have hb':upd H b (BoxL x y (z+1)) b=some (BoxL x y (z+1)):=upd_same
  walk_at "sy"
  refine ix1 hb' ?_
  walk_at "sy"
  refine ix2 hb' ?_
  walk_at "sy"
  refine⟨.inl ⟨by decide,by decide⟩,?_⟩
  refine ix2 hb' ?_
  walk_at "sy"
  refine⟨.inr (.inl ⟨by omega,by omega⟩),by decide,?_⟩
  refine ix2 hb' ?_
  walk_at "sy"
  generalize (y+48271*(z+1))*(39373+(z+1)) % 2147483647=once
  have ho0:0<=once % 40009:=Int.emod_nonneg _ (by decide)
  have ho1:once % 40009<40009:=Int.emod_lt_of_pos _ (by decide)
  refine⟨by decide,.inr (.inl ⟨by omega,by omega⟩),by decide,.inr (.inl ⟨by decide,by decide⟩),by decide,⟨by decide,by decide⟩,hm,?_⟩
  exact q _ _ _ (Int.emod_nonneg _ (by omega)) (Int.emod_lt_of_pos _ hm) hx (by omega) (by omega)
def spTake:Sp:=fun vs H Q _=>∃(b:Addr) (n:Nat) (m:Int),vs=[.ref b,.int m]/\H b=some (BoxO b n)/\n<=2 ^ 40/\0<m/\m<4611686018427387904/\∀(r:Int) (H':Hp),0<=r->r<m->Go 1 H H'->Q (.int r) H'
theorem take_fn {P:Program} {w:World} {K:W.Frag} {mg:Str->Option Value} {base:Heap} {k:Nat} {f:Addr} {fd:FuncData} {ps:List Str} (hp:ps.length=2) (F:FnOk P w K mg base CX0 k f fd ps spTake0):FnOk P w K mg base CX0 k f fd ps spTake:=by
 refine open_fn (shut_fn (sp':=fun vs H Q E=>spTake0 vs H (Shut Q) E) F fun _ _ _ _ h=>h) (fun vs H Q E h=>?_) fun vs H Q E h=>?_
 .obtain⟨b,n,m,rfl,hb,hn,hm,hm2,q⟩:=h
  refine⟨b,n,hb,fun x y z hx hy hy2 hz hzn=>⟨b,x,y,z,m,rfl,upd_same,hx,hy,hy2,hz,by omega,hm,hm2,fun r x' z' h1 h2 h3 h4 h5=>?_⟩⟩
  refine⟨b,x',y,z',n+1,upd_same,h3,hy,hy2,h4,by omega,?_⟩
  refine q r _ h1 h2 ?_
  rw[upd_upd]
  exact Go.draw hb (Nat.le_refl _) _
 .obtain⟨b,n,m,rfl,_⟩:=h
  rw[hp]
  rfl
def spBox (K:W.Frag):Sp:=fun vs H Q _=>∃(a:Addr) (ns:List Int) (k:Int),vs=[.ref a,.int k]/\SqL K H a (ns.map V.int)/\0<=k/\k<=1000/\∀(p:Addr),H p=none->Q (.ref p) (upd H p (BoxO p 0))
theorem box_fn {P:Program} {w:World} {K:W.Frag} {mg:Str->Option Value} {base:Heap} {k:Nat} {f:Addr} {fd:FuncData} {ps:List Str} (F:FnOk P w K mg base CX0 k f fd ps (spBox0 K)):FnOk P w K mg base CX0 k f fd ps (spBox K):=by
 refine shut_fn F fun vs H Q E h=>?_
 obtain⟨a,ns,k,rfl,hs,h0,h1,q⟩:=h
 refine⟨a,ns,k,rfl,hs,h0,h1,fun p x y hp hx hy hy2=>⟨p,x,y,0,0,upd_same,hx,hy,hy2,by omega,by omega,?_⟩⟩
 rw[upd_upd]
 exact q p hp
theorem _root_.R3.Go.boxed {c n:Nat} {H H':Hp} {b:Addr} (g:Go c H H') (h:H b=some (BoxO b n)) (hn:n+c<=2 ^ 40):∃m,H' b=some (BoxO b m)/\m<=n+c/\m<=2 ^ 40:=by
 obtain⟨m,hm,e⟩:=g.box b n h
 exact⟨m,e,hm,by omega⟩
noncomputable def Sc:V->Bool
 | .non=>true
 | .bl _=>true
 | .int _=>true
 | .str _=>true
 |_=>false
noncomputable def Eqv (H:Hp):Nat->V->V->Prop
 |0,v,w=>v=w/\Sc v=true
 |n+1,v,w=>(v=w/\Sc v=true)\/∃a b xs ys,v=.ref a/\w=.ref b/\((H a=some (.lst xs)/\H b=some (.lst ys))\/(H a=some (.tup xs)/\H b=some (.tup ys)))/\xs.length<=sizeLine/\xs.length=ys.length/\∀(i:Nat) x y,xs[i]?=some x->ys[i]?=some y->Eqv H n x y
def spSame (n:Nat):Sp:=fun vs H Q _=>∃v w,vs=[v,w]/\Eqv H n v w/\∀H',Same H H'->Q (.bl true) H'
section
variable {K:W.Frag} {H:Hp} {Q:VK}
end
end LW
namespace LW
open PySem PySem.Spec PyProof.Rows L2 R3
noncomputable abbrev Rm:=Option Nat×Option Nat
noncomputable def oV:Option Nat->V
 |none=>.non
 |some n=>.int n
def Tp (H H':Hp):Prop:=∀a xs,H a=some (.tup xs)->H' a=some (.tup xs)
theorem _root_.R3.Go.tp {c:Nat} {H H':Hp} (g:Go c H H'):Tp H H':=fun a xs h=>g.tup h
theorem tp_same {H H':Hp} (s:Same H H'):Tp H H':=fun a xs h=>s _ _ h
theorem tp_lst {H:Hp} {p:Addr} {xs:List V} (h:H p=some (.lst xs)) (o:HO):Tp H (upd H p o):=fun a ys e=>by
 rw[upd_ne (fun z=>by subst z;rw[h]at e;cases e)]
 exact e
theorem _root_.R3.Go.upd {c:Nat} {H H':Hp} {l:Addr} {o:HO} (g:Go c H H') (h:H l=none):Go c H (L2.upd H' l o):=by
 refine⟨fun a n e=>?_,fun a u e no=>?_,fun a e=>?_⟩
 .obtain⟨m,hm,e1⟩:=g.box a n e
  exact⟨m,hm,by rw[upd_ne (ne_of_none e h)];exact e1⟩
 .rw[upd_ne (ne_of_none e h)]
  exact g.oth a u e no
 .by_cases hl:a=l
  .subst hl
   exact h
  .rw[upd_ne hl]at e
   exact g.free a e
theorem take_at {Q:VK} {m:Int} {H0 H:Hp} {b:Addr} {n0 c:Nat} (hb:H0 b=some (BoxO b n0)) (g:Go c H0 H) (hn:n0+c<=2 ^ 40) (hm:0<m) (hm2:m<4611686018427387904) (q:∀r H',0<=r->r<m->Go 1 H H'->Go (c+1) H0 H'->Q (.int r) H'):spTake [.ref b,.int m] H Q E0:=by
 obtain⟨n,hb1,_,hn1⟩:=g.boxed hb hn
 exact⟨b,n,m,rfl,hb1,hn1,hm,hm2,fun r H' h0 h1 g1=>q r H' h0 h1 g1 (g.trans g1)⟩
def spMany:Sp:=fun vs H Q _=>∃(b:Addr) (n:Nat) (x y z:Int),vs=[.ref b,.int x,.int y,.int z]/\H b=some (BoxO b n)/\n<=2 ^ 39/\0<=x/\x<=y/\y<=1000/\7<=z/\z<=1000/\∀(r:Int) (H':Hp),(x<=r/\r<=y\/7<=r/\r<=z)->Go 2 H H'->Q (.int r) H'
def IsRoom (H:Hp) (v:V) (r:Rm):Prop:=∃p,v=.ref p/\H p=some (.tup [oV r.1,oV r.2])
theorem IsRoom.mono {H H':Hp} {v:V} {r:Rm} (t:Tp H H') (h:IsRoom H v r):IsRoom H' v r:=by
 obtain⟨p,e,h⟩:=h
 exact⟨p,e,t _ _ h⟩
noncomputable def Rooms (H:Hp):List V->List Rm->Prop
 | [],[]=>True
 |v :: vs,r :: rs=>IsRoom H v r/\Rooms H vs rs
 |_,_=>False
theorem Rooms.mono {H H':Hp} (t:Tp H H'):∀{vs:List V} {M:List Rm},Rooms H vs M->Rooms H' vs M
 | [],[],_=>trivial
 |v :: vs,r :: rs,h=>⟨h.1.mono t,Rooms.mono t h.2⟩
 | [],_ :: _,h=>h.elim
 |_ :: _,[],h=>h.elim
theorem Rooms.len {H:Hp}:∀{vs:List V} {M:List Rm},Rooms H vs M->vs.length=M.length
 | [],[],_=>rfl
 |v :: vs,r :: rs,h=>by simp[Rooms.len h.2]
 | [],_ :: _,h=>h.elim
 |_ :: _,[],h=>h.elim
theorem Rooms.snoc {H:Hp} {v:V} {r:Rm} (hr:IsRoom H v r):∀{vs:List V} {M:List Rm},Rooms H vs M->Rooms H (vs++[v]) (M++[r])
 | [],[],_=>⟨hr,trivial⟩
 |v :: vs,r :: rs,h=>⟨h.1,Rooms.snoc hr h.2⟩
 | [],_ :: _,h=>h.elim
 |_ :: _,[],h=>h.elim
theorem Rooms.get {H:Hp}:∀{vs:List V} {M:List Rm} {i:Nat} {r:Rm},Rooms H vs M->M[i]?=some r->∃p,vs[i]?=some (.ref p)/\H p=some (.tup [oV r.1,oV r.2])
 | [],[],i,r,_,e=>by cases e
 |v :: vs,r :: rs,0,r',h,e=>by
  cases e
  obtain⟨p,rfl,hp⟩:=h.1
  exact⟨p,rfl,hp⟩
 |v :: vs,r :: rs,i+1,r',h,e=>Rooms.get (i:=i) h.2 (by simpa using e)
 | [],_ :: _,_,_,h,_=>h.elim
 |_ :: _,[],_,_,h,_=>h.elim
def IsM (H:Hp) (a:Addr) (M:List Rm):Prop:=∃vs,H a=some (.tup vs)/\Rooms H vs M
theorem IsM.mono {H H':Hp} {a:Addr} {M:List Rm} (t:Tp H H') (h:IsM H a M):IsM H' a M:=by
 obtain⟨vs,h1,h2⟩:=h
 exact⟨vs,t _ _ h1,h2.mono t⟩
def OkR (N:Nat) (r:Rm):Prop:=(∀n,r.1=some n->n<N)/\∀n,r.2=some n->n<N
def OkM (M:List Rm):Prop:=∀r∈M,OkR M.length r
noncomputable def nV (n:Nat):V:=.int n
end LW
namespace LW
open PySem PySem.Spec PyProof.Rows L2 R3
noncomputable def c_p_walk:Css:=(.cons (.asg (.name 3) (.var 1))
  (.cons (.for_ (.name 4) (.val (.var 2)) (.cons (.ite (.cmp .Is (.var 3) .non) (.cons (.ret .non)
  .nil) .nil)
  (.cons (.asg (.name 3) (.idx (.idx (.var 0) (.var 3)) (.blt .int (.cons (.var 4) .nil))))
  .nil)))
  (.cons (.ret (.var 3))
  .nil)))
noncomputable def c_bits:Css:=(.cons (.ret (.met .join (.str "") (.cons (.comp (.idx (.str "01") (.call "_law_take" (.cons (.var 0) (.cons (.int 2) .nil)))) [2] (.name 2) (.range1 (.var 1)) .none .nil) .nil)))
  .nil)
noncomputable def stp (M:List Rm) (r:Nat) (c:Bool):Option Nat:=match M[r]? with
 |some rm=>if c then rm.2 else rm.1
 |none=>none
noncomputable def wk (M:List Rm) (o:Option Nat) (row:List Bool):Option Nat:=row.foldl (fun o c=>o.bind fun r=>stp M r c) o
theorem wk_none {M:List Rm} {row:List Bool}:wk M none row=none:=by
 induction row with
 |nil=>rfl
 |cons c row ih=>exact ih
theorem wk_app {M:List Rm} {o:Option Nat} {a b:List Bool}:wk M o (a++b)=wk M (wk M o a) b:=by unfold wk;rw[List.foldl_append]
theorem wk_succ {M:List Rm} {o:Option Nat} {row:List Bool} {i:Nat} {c:Bool} (h:row[i]?=some c):wk M o (row.take (i+1))=(wk M o (row.take i)).bind fun r=>stp M r c:=by
 rw[List.take_succ,h]
 show wk M o (row.take i++[c])=_
 rw[wk_app]
 rfl
theorem wk_cut {M:List Rm} {o:Option Nat} {row:List Bool} {i:Nat} (h:wk M o (row.take i)=none):wk M o row=none:=by
 rw[<- List.take_append_drop i row,wk_app,h,wk_none]
theorem stp_lt {M:List Rm} (hM:OkM M) {r:Nat} {c:Bool} {n:Nat} (h:stp M r c=some n):n<M.length:=by
 unfold stp at h
 cases e:M[r]? with
 |none=>rw[e]at h;cases h
 |some rm=>
  rw[e]at h
  have:=hM rm (List.mem_of_getElem? e)
  cases c
  .exact this.1 n h
  .exact this.2 n h
theorem wk_lt {M:List Rm} (hM:OkM M):∀{row:List Bool} {o:Option Nat} {n:Nat},(∀m,o=some m->m<M.length)->wk M o row=some n->n<M.length
 | [],o,n,ho,h=>ho n h
 |c :: row,o,n,ho,h=>wk_lt hM (row:=row) (o:=o.bind fun r=>stp M r c) (fun m hm=>by
   cases o with
   |none=>cases hm
   |some r=>exact stp_lt hM hm) h
theorem lead_at {C:Rc} {H:Hp} {a:Addr} {M:List Rm} {r:Nat} {c:Bool} {Q:VK} (hM:IsM H a M) (hr:r<M.length) (q:∀p,(∀Q':VK,Q' (oV (stp M r c)) H->rIxL C.K (.ref p) (.int (if c then 1 else 0)) H Q'\/rIxT C.K (.ref p) (.int (if c then 1 else 0)) H Q')->Q (.ref p) H):rIxL C.K (.ref a) (.int r) H Q\/rIxT C.K (.ref a) (.int r) H Q:=by
 obtain⟨vs,ha,hv⟩:=hM
 obtain⟨p,hp,hpt⟩:=hv.get (List.getElem?_eq_getElem hr)
 refine at_ixT (SqT.of ha) (v:=.ref p) (atI_nat hp) (q p fun Q' q'=>?_)
 refine at_twoT (SqT.of hpt) ?_
 have e:stp M r c=if c then M[r].2 else M[r].1:=by unfold stp;rw[List.getElem?_eq_getElem hr]
 rw[e]at q'
 cases c<;>exact q'
def spWalk:Sp:=fun vs H Q _=>∃(a:Addr) (M:List Rm) (r:Nat) (row:List Bool),vs=[.ref a,.int r,.str (tx row)]/\IsM H a M/\OkM M/\r<M.length/\Q (oV (wk M (some r) row)) H
theorem body_walk {C:Rc} (hN:C.N.length=5):∀vs H Q E,spWalk vs H Q E->tSs C c_p_walk { nx:=fun _ H'=>Q .non H',rt:=Q } (L2.start C.N vs) H:=by
 intro vs H Q E h
 obtain⟨a,M,r,row,rfl,hM,hO,hr,q⟩:=h
 rw[start_eq hN]
 unfold c_p_walk
 walk_at "sy"
 refine at_iv_str (for_tx (fun i σ H'=>H'=H/\∃x,σ=[some (.ref a),some (.int r),some (.str (tx row)),some (oV (wk M (some r) (row.take i))),x]) ⟨rfl,none,rfl⟩ ?_ ?_)
 .rintro i c σ H' hc ⟨rfl,x,rfl⟩
  walk_at "sy"
  cases e:wk M (some r) (row.take i)with
  |none=>
   simp only[oV]
   walk_at "sy"
   rw[wk_cut e]at q
   exact q
  |some m=>
   have hm:=wk_lt hO (fun k hk=>by cases hk;exact hr) e
   simp only[oV]
   walk_at "sy"
   refine lead_at (c:=c) hM hm fun p hp=>?_
   walk_at "sy"
   refine hp _ ?_
   walk_at "sy"
   refine⟨trivial,some (.str (tx [c])),?_⟩
   rw[wk_succ hc,e]
   rfl
 .rintro σ H' ⟨rfl,x,rfl⟩
  rw[List.take_length]
  walk_at "sy"
  exact q
def spBits:Sp:=fun vs H Q _=>∃(b:Addr) (n N:Nat),vs=[.ref b,.int N]/\H b=some (BoxO b n)/\n<=2 ^ 39/\N<=500/\∀(r:List Bool) (H':Hp),r.length=N->Go N H H'->Q (.str (tx r)) H'
theorem body_bits {C:Rc} (hN:C.N.length=3) (hT:C.fs "_law_take"=some spTake):∀vs H Q E,spBits vs H Q E->tSs C c_bits { nx:=fun _ H'=>Q .non H',rt:=Q } (L2.start C.N vs) H:=by
 intro vs H Q E h
 obtain⟨b,n,N,rfl,hb,hn,hN5,q⟩:=h
 rw[start_eq hN]
 unfold c_bits
 walk_at "sy"
 refine⟨rfl,?_⟩
 refine at_r1 (by omega) (by omega) (comp_r (fun i xs H'=>(∃r:List Bool,xs=(r.map fun c=>[c]).map (fun l=>V.str (tx l))/\r.length=i)/\Go i H H') ⟨⟨[],rfl,rfl⟩,Go.refl⟩ ?_ ?_)
 .rintro i xs H1 R hi ⟨⟨r,rfl,hr⟩,g1⟩ hR
  walk_at "sy"
  refine call_e hT ?_
  walk_at "sy"
  refine take_at hb g1 (by omega) (by omega) (by omega) fun r2 H2 h20 h21 g12 g2=>?_
  walk_at "sy"
  obtain⟨c0,hc0⟩:∃c0,atI [false,true] r2=some c0:=by
   have:r2=0\/r2=1:=by omega
   rcases this with rfl|rfl
   .exact⟨false,rfl⟩
   .exact⟨true,rfl⟩
  refine at_ixtx (by decide) hc0 ?_
  walk_at "sy"
  exact⟨by simp only[List.length_map];exact small1000 (by omega),hR _ _ ⟨⟨r++[c0],by simp,by simp[hr]⟩,g2⟩⟩
 .rintro xs H1 ⟨⟨r,rfl,hr⟩,g1⟩ p hp
  rw[Int.toNat_natCast]at hr g1
  walk_at "sy"
  have ef:(r.map fun c=>[c]).flatten=r:=by
   clear hr hp
   induction r with
   |nil=>rfl
   |cons c r ih=>rw[List.map_cons,List.flatten_cons,ih];rfl
  refine at_join (ls:=r.map fun c=>[c]) (SqL.of upd_same) (by rw[ef];omega) ?_
  rw[ef]
  exact q r _ hr (g1.upd (g1.free _ hp))
end LW
namespace LW
open PySem PySem.Spec PyProof.Rows L2 R3
noncomputable def c_p_behind_bit:Css:=(.cons (.asg (.name 4) (.idx (.idx (.var 0) (.var 2)) (.blt .int (.cons (.var 3) .nil))))
  (.cons (.ret (.ife (.cmp .Is (.var 4) .non) (.int 0) (.idx (.var 1) (.var 4))))
  .nil))
noncomputable def c_p_way_sums:Css:=(.cons (.ret (.comp (.bin .Add (.call "behind_bit" (.cons (.var 0) (.cons (.var 1) (.cons (.var 2) (.cons (.str "0") .nil))))) (.call "behind_bit" (.cons (.var 0) (.cons (.var 1) (.cons (.var 2) (.cons (.str "1") .nil)))))) [2] (.name 2) (.range1 (.blt .len (.cons (.var 0) .nil))) .none .nil))
  .nil)
noncomputable def c_p_ways:Css:=(.cons (.asg (.name 3) (.lst (.cons (.comp (.ife (.or (.cmp .Is (.var 1) .non) (.cmp .Eq (.var 4) (.var 1))) (.int 1) (.int 0)) [4] (.name 4) (.range1 (.blt .len (.cons (.var 0) .nil))) .none .nil) .nil)))
  (.cons (.for_ (.name 5) (.range1 (.var 2)) (.cons (.expr (.met .append (.var 3) (.cons (.call "way_sums" (.cons (.var 0) (.cons (.idx (.var 3) (.neg (.int 1))) .nil))) .nil)))
  .nil))
  (.cons (.ret (.var 3))
  .nil)))
noncomputable def c_p_counts:Css:=(.cons (.ret (.idx (.call "ways" (.cons (.var 0) (.cons .non (.cons (.var 1) .nil)))) (.var 1)))
  .nil)
theorem same_updF {H H':Hp} {a:Addr} {o:HO} (s:Same H H') (h:H a=none):Same H (upd H' a o):=fun b u q=>by
 rw[upd_ne (ne_of_none q h)]
 exact s b u q
theorem atI_end {α:Type} {vs:List α} {i:Nat} {v:α} (hl:vs.length=i+1) (h:vs[i]?=some v):atI vs (-1)=some v:=by
 unfold atI ixN
 rw[if_neg (by omega),if_pos (by omega)]
 show vs[((-1:Int)+(vs.length:Int)).toNat]?=some v
 rw[show((-1:Int)+(vs.length:Int)).toNat=i by omega]
 exact h
noncomputable def ow (f:Nat->Nat):Option Nat->Nat
 |none=>0
 |some m=>f m
noncomputable def wy (M:List Rm) (g:Option Nat):Nat->Nat->Nat
 |0,r=>if g=none\/g=some r then 1 else 0
 |n+1,r=>ow (wy M g n) (stp M r false)+ow (wy M g n) (stp M r true)
noncomputable def wyL (M:List Rm) (g:Option Nat) (n:Nat):List Int:=(List.range M.length).map fun r=>((wy M g n r:Nat):Int)
noncomputable def oi (ns:List Int):Option Nat->Int
 |none=>0
 |some m=>ns.getD m 0
noncomputable def wsL (M:List Rm) (ns:List Int) (k:Nat):List Int:=(List.range k).map fun r=>oi ns (stp M r false)+oi ns (stp M r true)
theorem wyL_get {M:List Rm} {g:Option Nat} {n m:Nat} (h:m<M.length):(wyL M g n).getD m 0=wy M g n m:=by
 unfold wyL
 rw[List.getD_eq_getElem?_getD,List.getElem?_map,List.getElem?_range h]
 rfl
theorem wyL_len {M:List Rm} {g:Option Nat} {n:Nat}:(wyL M g n).length=M.length:=by unfold wyL;simp
theorem oi_wy {M:List Rm} (hM:OkM M) {g:Option Nat} {n r:Nat} {c:Bool}:oi (wyL M g n) (stp M r c)=((ow (wy M g n) (stp M r c):Nat):Int):=by
 cases e:stp M r c with
 |none=>rfl
 |some m=>exact wyL_get (stp_lt hM e)
theorem wsL_wy {M:List Rm} (hM:OkM M) {g:Option Nat} {n:Nat}:wsL M (wyL M g n) M.length=wyL M g (n+1):=by
 unfold wsL
 show _=(List.range M.length).map fun r=>((wy M g (n+1) r:Nat):Int)
 apply List.map_congr_left
 intro r _
 rw[oi_wy hM,oi_wy hM]
 show _=((ow (wy M g n) (stp M r false)+ow (wy M g n) (stp M r true):Nat):Int)
 omega
def spBehind (K:W.Frag):Sp:=fun vs H Q _=>∃(a b:Addr) (M:List Rm) (r:Nat) (c:Bool) (ns:List Int),vs=[.ref a,.ref b,.int r,.str (tx [c])]/\IsM H a M/\OkM M/\r<M.length/\SqL K H b (ns.map V.int)/\ns.length=M.length/\Q (.int (oi ns (stp M r c))) H
theorem body_behind {C:Rc} (hN:C.N.length=5):∀vs H Q E,spBehind C.K vs H Q E->tSs C c_p_behind_bit { nx:=fun _ H'=>Q .non H',rt:=Q } (L2.start C.N vs) H:=by
 intro vs H Q E h
 obtain⟨a,b,M,r,c,ns,rfl,hM,hO,hr,hb,hl,q⟩:=h
 rw[start_eq hN]
 unfold c_p_behind_bit
 walk_at "sy"
 refine lead_at (c:=c) hM hr fun p hp=>?_
 walk_at "y"
 refine hp _ ?_
 cases e:stp M r c with
 |none=>
  rw[e]at q
  simp only[oV]
  walk_at "y"
  exact q
 |some m=>
  rw[e]at q
  have hm:=stp_lt hO e
  simp only[oV]
  walk_at "y"
  refine at_ixL hb (v:=.int (ns.getD m 0)) (atI_nat ?_) q
  rw[List.getElem?_map,List.getElem?_eq_getElem (by omega)]
  simp[List.getD_eq_getElem?_getD,(by omega:m<ns.length)]
def spWaySums (K:W.Frag):Sp:=fun vs H Q _=>∃(a b:Addr) (M:List Rm) (ns:List Int),vs=[.ref a,.ref b]/\IsM H a M/\OkM M/\M.length<=500/\SqL K H b (ns.map V.int)/\ns.length=M.length/\∀p,H p=none->Q (.ref p) (upd H p (.lst ((wsL M ns M.length).map V.int)))
theorem body_way_sums {C:Rc} (hN:C.N.length=3) (hB:C.fs "behind_bit"=some (spBehind C.K)):∀vs H Q E,spWaySums C.K vs H Q E->tSs C c_p_way_sums { nx:=fun _ H'=>Q .non H',rt:=Q } (L2.start C.N vs) H:=by
 intro vs H Q E h
 obtain⟨a,b,M,ns,rfl,hM,hO,hM5,hb,hl,q⟩:=h
 rw[start_eq hN]
 unfold c_p_way_sums
 obtain⟨rv,ha,hrv⟩:=id hM
 walk_at "sy"
 refine at_lenT (SqT.of ha) ?_
 rw[hrv.len]
 refine at_r1 (by omega) (by omega) (comp_r (fun i xs H'=>H'=H/\xs=(wsL M ns i).map V.int) ⟨rfl,rfl⟩ ?_ ?_)
 .rintro i xs H' R hi ⟨rfl,rfl⟩ hR
  rw[show(0:Int)+(i:Int)=(i:Int) by omega]
  have hi':i<M.length:=by omega
  walk_at "y"
  refine call_e hB ?_
  walk_at "y"
  refine⟨a,b,M,i,false,ns,rfl,hM,hO,hi',hb,hl,?_⟩
  walk_at "y"
  refine call_e hB ?_
  walk_at "y"
  refine⟨a,b,M,i,true,ns,rfl,hM,hO,hi',hb,hl,?_⟩
  walk_at "y"
  refine⟨by rw[List.length_map];unfold wsL;simp;exact small1000 (by omega),hR _ _ ⟨rfl,?_⟩⟩
  unfold wsL
  rw[List.range_succ,List.map_append,List.map_append]
  rfl
 .rintro xs H' ⟨rfl,rfl⟩ p hp
  exact q p hp
def spWays (K:W.Frag):Sp:=fun vs H Q _=>∃(a:Addr) (M:List Rm) (g:Option Nat) (n:Nat),vs=[.ref a,oV g,.int n]/\IsM H a M/\OkM M/\M.length<=500/\n<=900/\
 ∀(l:Addr) (vs':List V) (H':Hp),H l=none->Same H H'->H' l=some (.lst vs')->All2 (fun v k=>∃e,v=V.ref e/\e≠l/\H e=none/\H' e=some (.lst ((wyL M g k).map V.int))) vs' (List.range (n+1))->Q (.ref l) H'
theorem body_ways {C:Rc} (hN:C.N.length=6) (hW:C.fs "way_sums"=some (spWaySums C.K)):∀vs H Q E,spWays C.K vs H Q E->tSs C c_p_ways { nx:=fun _ H'=>Q .non H',rt:=Q } (L2.start C.N vs) H:=by
 intro vs H Q E h
 obtain⟨a,M,g,n,rfl,hM,hO,hM5,hn,q⟩:=h
 rw[start_eq hN]
 unfold c_p_ways
 obtain⟨rv,ha,hrv⟩:=id hM
 walk_at "sy"
 refine at_lenT (SqT.of ha) ?_
 rw[hrv.len]
 refine at_r1 (by omega) (by omega) (comp_r (fun i xs H'=>H'=H/\xs=((List.range i).map fun r=>((wy M g 0 r:Nat):Int)).map V.int) ⟨rfl,rfl⟩ ?_ ?_)
 .rintro i xs H' R hi ⟨rfl,rfl⟩ hR
  rw[show(0:Int)+(i:Int)=(i:Int) by omega]
  have fin:∀k:Nat,k=wy M g 0 i->kPush (((List.range i).map fun r=>((wy M g 0 r:Nat):Int)).map V.int) R (.int k) H':=by
   rintro k rfl
   refine⟨by simp;exact small1000 (by omega),hR _ _ ⟨rfl,?_⟩⟩
   rw[List.range_succ,List.map_append,List.map_append]
   rfl
  cases g with
  |none=>
   simp only[oV]
   walk_at "y"
   exact fin 1 (by simp[wy])
  |some k=>
   simp only[oV]
   walk_at "y"
   refine by_dec (fun hc=>?_) fun hc=>?_
   .walk_at "y"
    exact fin 1 (by have:k=i:=(by omega);simp[wy,this])
   .walk_at "y"
    exact fin 0 (by have:k≠i:=fun z=>hc (by omega);simp[wy,this])
 rintro xs H1 ⟨rfl,rfl⟩ e0 he0
 rw[Int.toNat_natCast]
 have s2:=same_new he0 (.lst (((List.range M.length).map fun r=>((wy M g 0 r:Nat):Int)).map V.int))
 have he2:upd H1 e0 (.lst (((List.range M.length).map fun r=>((wy M g 0 r:Nat):Int)).map V.int)) e0=some (.lst ((wyL M g 0).map V.int)):=upd_same
 generalize upd H1 e0 (.lst (((List.range M.length).map fun r=>((wy M g 0 r:Nat):Int)).map V.int))=H2 at s2 he2
 walk_at "y"
 refine⟨by decide,fun l hl=>?_⟩
 have hl0:H1 l=none:=s2.free hl
 have hel0:e0≠l:=ne_of_none he2 hl
 walk_at "y"
 refine at_r1 (by omega) (by omega) (for_r (fun i σ H'=>Same H1 H'/\(∃x4 x5,σ=[some (.ref a),some (oV g),some (.int n),some (.ref l),x4,x5])/\∃vs',H' l=some (.lst vs')/\All2 (fun v k=>∃e,v=V.ref e/\e≠l/\H1 e=none/\H' e=some (.lst ((wyL M g k).map V.int))) vs' (List.range (i+1))) ⟨same_updF s2 hl0,⟨_,_,rfl⟩,[.ref e0],upd_same,⟨e0,rfl,hel0,he0,by rw[upd_ne hel0];exact he2⟩,trivial⟩ ?_ ?_)
 .rintro i σ H3 hi ⟨s3,⟨x4,x5,rfl⟩,vs',hl3,hA⟩
  have hvl:=hA.len
  obtain⟨v,ev,e,rfl,hel,he1,he3⟩:=hA.get (i:=i) (b:=i) (by rw[List.getElem?_range (by omega)])
  rw[List.length_range]at hvl
  walk_at "y"
  refine⟨tyL hl3 rfl,call_e hW ?_⟩
  walk_at "y"
  have elast:atI vs' (-1)=some (.ref e):=atI_end hvl ev
  refine at_ixL (SqL.of hl3) elast ?_
  walk_at "y"
  refine⟨a,e,M,wyL M g i,rfl,hM.mono (tp_same s3),hO,hM5,SqL.of he3,wyL_len,fun p hp=>?_⟩
  rw[wsL_wy hO]
  have s4:=same_new hp (.lst ((wyL M g (i+1)).map V.int))
  have hp4:upd H3 p (.lst ((wyL M g (i+1)).map V.int)) p=some (.lst ((wyL M g (i+1)).map V.int)):=upd_same
  generalize upd H3 p (.lst ((wyL M g (i+1)).map V.int))=H4 at s4 hp4
  have hpl:p≠l:=fun z=>by subst z;rw[hl3]at hp;cases hp
  walk_at "y"
  refine at_app (s4 _ _ hl3) (small1000 (by omega)) ?_
  walk_at "y"
  refine⟨same_updF (s3.trans s4) hl0,⟨_,_,rfl⟩,vs'++[.ref p],upd_same,?_⟩
  rw[List.range_succ]
  refine All2.snoc (hA.mono fun v k ⟨e',h1,h2,h3,h4⟩=>⟨e',h1,h2,h3,by rw[upd_ne h2];exact s4 _ _ h4⟩) ⟨p,rfl,hpl,(s3.free hp),by rw[upd_ne hpl];exact hp4⟩
 .rintro σ H3 ⟨s3,⟨x4,x5,rfl⟩,vs',hl3,hA⟩
  rw[Int.toNat_natCast]at hA
  walk_at "y"
  exact q l vs' H3 hl0 s3 hl3 hA
def spCounts:Sp:=fun vs H Q _=>∃(a:Addr) (M:List Rm) (n:Nat),vs=[.ref a,.int n]/\IsM H a M/\OkM M/\M.length<=500/\n<=900/\∀(e:Addr) (H':Hp),H e=none->Same H H'->H' e=some (.lst ((wyL M none n).map V.int))->Q (.ref e) H'
theorem body_counts {C:Rc} (hN:C.N.length=2) (hW:C.fs "ways"=some (spWays C.K)):∀vs H Q E,spCounts vs H Q E->tSs C c_p_counts { nx:=fun _ H'=>Q .non H',rt:=Q } (L2.start C.N vs) H:=by
 intro vs H Q E h
 obtain⟨a,M,n,rfl,hM,hO,hM5,hn,q⟩:=h
 rw[start_eq hN]
 unfold c_p_counts
 walk_at "sy"
 refine call_e hW ?_
 walk_at "y"
 refine⟨a,M,none,n,rfl,hM,hO,hM5,hn,fun l vs' H' hl s hl' hA=>?_⟩
 obtain⟨v,ev,e,rfl,hel,he1,he3⟩:=hA.get (i:=n) (b:=n) (by rw[List.getElem?_range (by omega)])
 walk_at "y"
 exact at_ixL (SqL.of hl') (atI_nat ev) (q e H' he1 s he3)
def spLittle:Sp:=fun vs H Q _=>∃(b:Addr) (n:Nat),vs=[.ref b]/\H b=some (BoxO b n)/\n<=2 ^ 37/\∀(a:Addr) (M:List Rm) (H':Hp),Go 2000 H H'->IsM H' a M->OkM M->1<=M.length->M.length<=12->Q (.ref a) H'
end LW
namespace TM
open PySem PySem.Spec PyProof.Rows L2 R3 LW
noncomputable def c_p_lasting:Css:=(.cons (.asg (.name 2) (.blt .set (.cons (.var 1) .nil)))
  (.cons (.setc2 3 (.var 5) [4,5] (.name 4) (.val (.var 1)) .none [5] (.name 5) (.val (.idx (.var 0) (.var 4))) .none)
  (.cons (.ret (.comp (.var 4) [4] (.name 4) (.val (.var 1)) (.some (.and (.din false (.var 4) (.var 3)) (.or (.din false (.idx (.idx (.var 0) (.var 4)) (.int 0)) (.var 2)) (.din false (.idx (.idx (.var 0) (.var 4)) (.int 1)) (.var 2))))) .nil))
  .nil)))
noncomputable def c_p_part_of:Css:=(.cons (.dctc false 2 (.var 4) (.var 3) [3,4] (.tup (.cons (.name 3) (.cons (.name 4) .nil))) (.enum (.var 1)) .none)
  (.cons (.ret (.blt .tuple (.cons (.comp (.tup (.cons (.dgt (.var 2) (.idx (.idx (.var 0) (.var 4)) (.int 0))) (.cons (.dgt (.var 2) (.idx (.idx (.var 0) (.var 4)) (.int 1))) .nil))) [4] (.name 4) (.val (.var 1)) .none .nil) .nil)))
  .nil))
noncomputable def c_p_trimmed:Css:=(.cons (.asg (.name 1) (.blt .list (.cons (.blt .range (.cons (.blt .len (.cons (.var 0) .nil)) .nil)) .nil)))
  (.cons (.asg (.name 2) (.call "lasting" (.cons (.var 0) (.cons (.var 1) .nil))))
  (.cons (.whl (.cmp .Lt (.blt .len (.cons (.var 2) .nil)) (.blt .len (.cons (.var 1) .nil))) (.cons (.asg (.name 1) (.var 2))
  (.cons (.asg (.name 2) (.call "lasting" (.cons (.var 0) (.cons (.var 1) .nil))))
  .nil)))
  (.cons (.ret (.tup (.cons (.call "part_of" (.cons (.var 0) (.cons (.var 1) .nil))) (.cons (.var 1) .nil))))
  .nil))))
noncomputable def oI (o:Option Nat):Option Int:=o.map Int.ofNat
theorem oV_kO {o:Option Nat}:oV o=kO (oI o):=by cases o<;>rfl
theorem oI_inj {a b:Option Nat} (h:oI a=oI b):a=b:=by
 cases a<;>cases b<;>simp[oI]at h ⊢
 omega
noncomputable def fs1 (M:List Rm) (r:Nat):Option Nat:=(M[r]?.getD (none,none)).1
noncomputable def fs2 (M:List Rm) (r:Nat):Option Nat:=(M[r]?.getD (none,none)).2
theorem room_ix {C:Rc} {H:Hp} {a:Addr} {M:List Rm} {r:Nat} {Q:VK} (hM:IsM H a M) (hr:r<M.length) (q:∀p,H p=some (.tup [oV (fs1 M r),oV (fs2 M r)])->Q (.ref p) H):rIxL C.K (.ref a) (.int r) H Q\/rIxT C.K (.ref a) (.int r) H Q:=by
 obtain⟨vs,ha,hv⟩:=hM
 obtain⟨p,hp,hpt⟩:=hv.get (List.getElem?_eq_getElem hr)
 refine at_ixT (SqT.of ha) (v:=.ref p) (atI_nat hp) (q p ?_)
 unfold fs1 fs2
 rw[List.getElem?_eq_getElem hr]
 exact hpt
theorem fs_ok {M:List Rm} (hO:OkM M) {r n:Nat}:(fs1 M r=some n->n<M.length)/\(fs2 M r=some n->n<M.length):=by
 unfold fs1 fs2
 cases e:M[r]? with
 |none=>exact⟨fun h=>(nomatch h),fun h=>(nomatch h)⟩
 |some m=>
  have:=hO m (List.mem_of_getElem? e)
  exact⟨this.1 n,this.2 n⟩
noncomputable def ldS (M:List Rm) (rs:List Nat):Option Int->Bool:=fun k=>rs.any fun r=>decide (k=oI (fs1 M r)) || decide (k=oI (fs2 M r))
theorem ldS_snoc {M:List Rm} {rs:List Nat} {r:Nat}:ldS M (rs++[r])=fun k=>(ldS M rs k || decide (k=oI (fs1 M r))) || decide (k=oI (fs2 M r)):=by
 funext k
 unfold ldS
 rw[List.any_append]
 simp[Bool.or_assoc]
noncomputable def inR (rs:List Nat) (o:Option Nat):Bool:=match o with
 |some n=>rs.contains n
 |none=>false
theorem inL_oI {rs:List Nat} {o:Option Nat}:inL (rs.map Int.ofNat) (oI o)=inR rs o:=by
 cases o with
 |none=>rfl
 |some n=>
  show(rs.map Int.ofNat).contains (Int.ofNat n)=rs.contains n
  induction rs with
  |nil=>rfl
  |cons a rs ih=>
   rw[List.map_cons,List.contains_cons,List.contains_cons,ih]
   congr 1
   by_cases h:n=a
   .subst h;simp
   .rw[beq_eq_false_iff_ne.mpr h,beq_eq_false_iff_ne.mpr (fun z=>h (Int.ofNat.inj z))]
noncomputable def lastR (M:List Rm) (rs:List Nat) (r:Nat):Bool:=ldS M rs (some (r:Int))&&(inR rs (fs1 M r) || inR rs (fs2 M r))
noncomputable def lst (M:List Rm) (rs:List Nat):List Nat:=rs.filter (lastR M rs)
theorem nV_ints {rs:List Nat}:(rs.map Int.ofNat).map V.int=rs.map nV:=by rw[List.map_map];rfl
def spLast:Sp:=fun vs H Q _=>∃(a l:Addr) (M:List Rm) (rs:List Nat),vs=[.ref a,.ref l]/\IsM H a M/\H l=some (.lst (rs.map nV))/\(∀r∈rs,r<M.length)/\rs.length<=500/\∀(p:Addr) (H':Hp),H p=none->Same H H'->H' p=some (.lst ((lst M rs).map nV))->Q (.ref p) H'
theorem body_last {C:Rc} (hN:C.N.length=6):∀vs H Q E,spLast vs H Q E->tSs C c_p_lasting { nx:=fun _ H'=>Q .non H',rt:=Q } (L2.start C.N vs) H:=by
 intro vs H Q E h
 obtain⟨a,l,M,rs,rfl,hM,hl,hrs,hlen,q⟩:=h
 rw[start_eq hN]
 unfold c_p_lasting
 walk_at "y"
 refine at_set (ns:=rs.map Int.ofNat) (SqL.of (by rw[nV_ints];exact hl)) (by rw[List.length_map];omega) fun p hp=>?_
 have s1:=same_new hp (SetO p (inL (rs.map Int.ofNat)) (rs.map Int.ofNat).length)
 have hp1:upd H p (SetO p (inL (rs.map Int.ofNat)) (rs.map Int.ofNat).length) p=some (SetO p (inL (rs.map Int.ofNat)) (rs.map Int.ofNat).length):=upd_same
 generalize upd H p (SetO p (inL (rs.map Int.ofNat)) (rs.map Int.ofNat).length)=H1 at s1 hp1 ⊢
 have hl1:=s1 _ _ hl
 have hM1:=hM.mono (tp_same s1)
 walk_at "y"
 refine at_iv_lst (SqL.of hl1) (cl_l (vs:=rs.map nV) (fun i b H'=>b.1=ldS M (rs.take i)/\b.2=2*i/\H'=H1) ⟨rfl,rfl,rfl⟩ (fun i b H' pv=>SqL.of (by rw[pv.2.2];exact hl1)) ?_ ?_)
 .rintro i ⟨S,n⟩ H' x R hx ⟨hS,hn,hH⟩ hR
  subst hH
  rw[List.getElem?_map]at hx
  cases er:rs[i]? with
  |none=>rw[er]at hx;cases hx
  |some r=>
  rw[er]at hx
  cases hx
  have hi:=lt_of_get er
  have hrM:=hrs r (List.mem_of_getElem? er)
  dsimp only at hS hn
  subst hS hn
  simp only[nV]
  walk_at "y"
  refine room_ix hM1 hrM fun pr hpr=>?_
  walk_at "y"
  refine at_iv_tup (SqT.of hpr) (cl_t (vs:=[oV (fs1 M r),oV (fs2 M r)]) (fun j b H''=>b.1=(fun k=>(if j=0 then ldS M (rs.take i) k else if j=1 then(ldS M (rs.take i) k || decide (k=oI (fs1 M r)))else(ldS M (rs.take i) k || decide (k=oI (fs1 M r))) || decide (k=oI (fs2 M r))))/\b.2=2*i+j/\H''=H') ⟨rfl,rfl,rfl⟩ (fun j b H' pv=>SqT.of (by rw[pv.2.2];exact hpr)) ?_ ?_)
  .rintro j ⟨S,n⟩ H' x R2 hx ⟨hS,hn,rfl⟩ hR2
   dsimp only at hS hn
   subst hS hn
   have hj:j=0\/j=1:=by
    have:=lt_of_get hx
    simp only[List.length_cons,List.length_nil]at this
    omega
   rcases hj with rfl|rfl
   .simp only[List.getElem?_cons_zero,Option.some.injEq]at hx
    subst hx
    walk_at "y"
    refine⟨oI (fs1 M r),oV_kO,by omega,hR2 _ _ ⟨?_,rfl,rfl⟩⟩
    funext k
    simp
   .simp only[List.getElem?_cons_succ,List.getElem?_cons_zero,Option.some.injEq]at hx
    subst hx
    walk_at "y"
    refine⟨oI (fs2 M r),oV_kO,by omega,hR2 _ _ ⟨?_,rfl,rfl⟩⟩
    funext k
    simp
  .rintro⟨S,n⟩ H' ⟨hS,hn,rfl⟩
   dsimp only at hS hn
   subst hS hn
   refine hR _ _ ⟨?_,by simp;omega,rfl⟩
   rw[show rs.take (i+1)=rs.take i++[r] by rw[List.take_succ,er];rfl,ldS_snoc]
   rfl
 .rintro⟨S,n⟩ H' ⟨hS,hn,rfl⟩
  dsimp only at hS hn
  rw[List.length_map,List.take_length]at hS
  subst hS
  refine⟨trivial,fun p2 hp2=>?_⟩
  dsimp only
  have s2:=same_new hp2 (SetO p2 (ldS M rs) n)
  have hp22:upd H' p2 (SetO p2 (ldS M rs) n) p2=some (SetO p2 (ldS M rs) n):=upd_same
  generalize upd H' p2 (SetO p2 (ldS M rs) n)=H2 at s2 hp22 ⊢
  have hl2:=s2 _ _ hl1
  have hp12:=s2 _ _ hp1
  have hM2:=hM1.mono (tp_same s2)
  walk_at "y"
  refine at_iv_lst (SqL.of hl2) (comp_l (vs:=rs.map nV) (fun i xs H'=>xs=((rs.take i).filter (lastR M rs)).map nV/\H'=H2) ⟨rfl,rfl⟩ (fun i xs H' pv=>SqL.of (by rw[pv.2];exact hl2)) ?_ ?_)
  .rintro i xs H' x R hx ⟨rfl,rfl⟩ hR
   rw[List.getElem?_map]at hx
   cases er:rs[i]? with
   |none=>rw[er]at hx;cases hx
   |some r=>
   rw[er]at hx
   cases hx
   have hi:=lt_of_get er
   have hrM:=hrs r (List.mem_of_getElem? er)
   have et:(rs.take (i+1)).filter (lastR M rs)=(rs.take i).filter (lastR M rs)++[r].filter (lastR M rs):=by rw[List.take_succ,er,List.filter_append];rfl
   have hfl:((rs.take i).filter (lastR M rs)).length<=500:=Nat.le_trans (List.length_filter_le ..) (by rw[List.length_take];omega)
   have yes:lastR M rs r=true->R (((rs.take i).filter (lastR M rs)).map nV++[nV r]) H':=fun h=>hR _ _ ⟨by rw[et,List.filter_cons,if_pos h,List.map_append];rfl,rfl⟩
   have no:lastR M rs r=false->R (((rs.take i).filter (lastR M rs)).map nV) H':=fun h=>hR _ _ ⟨by rw[et,List.filter_cons,if_neg (by rw[h];decide)];simp,rfl⟩
   have e1:=inL_oI (rs:=rs) (o:=fs1 M r)
   have e2:=inL_oI (rs:=rs) (o:=fs2 M r)
   unfold lastR at yes no
   simp only[nV]at yes ⊢
   walk_at "y"
   refine at_inO (k:=some (r:Int)) rfl hp22 ?_
   simp only[Bool.false_eq_true,if_false]
   cases hld:ldS M rs (some (r:Int))with
   |false=>
    rw[hld]at no
    walk_at "y"
    exact no rfl
   |true=>
    rw[hld]at yes no
    walk_at "y"
    refine room_ix hM2 hrM fun pr hpr=>?_
    walk_at "y"
    refine at_ixT (SqT.of hpr) (v:=oV (fs1 M r)) rfl ?_
    walk_at "y"
    refine at_inO oV_kO hp12 ?_
    simp only[Bool.false_eq_true,if_false]
    rw[e1]
    cases h1:inR rs (fs1 M r)with
    |true=>
     rw[h1]at yes
     walk_at "y"
     exact⟨by rw[List.length_map];exact small1000 (by omega),yes rfl⟩
    |false=>
     rw[h1]at yes no
     walk_at "y"
     refine room_ix hM2 hrM fun pr hpr=>?_
     walk_at "y"
     refine at_ixT (SqT.of hpr) (v:=oV (fs2 M r)) rfl ?_
     walk_at "y"
     refine at_inO oV_kO hp12 ?_
     simp only[Bool.false_eq_true,if_false]
     rw[e2]
     cases h2:inR rs (fs2 M r)with
     |true=>
      rw[h2]at yes
      walk_at "y"
      exact⟨by rw[List.length_map];exact small1000 (by omega),yes rfl⟩
     |false=>
      rw[h2]at no
      walk_at "y"
      exact no rfl
  .rintro xs H' ⟨rfl,rfl⟩ p3 hp3
   rw[List.length_map,List.take_length]
   have hfin:upd H' p3 (.lst ((rs.filter (lastR M rs)).map nV)) p3=some (.lst ((lst M rs).map nV)):=upd_same
   exact q p3 _ ((s1.trans s2).free hp3) (s1.trans (s2.trans (same_new hp3 _))) hfin
theorem hash_small {i:Nat} (h:i<=1000):hashInt (i:Int)=i:=by
 unfold hashInt rawHash
 have e:(((i:Int).natAbs:Nat):Int) % ((2 ^ 61-1:Nat):Int)=i:=by
  rw[Int.natAbs_natCast]
  exact Int.emod_eq_of_lt (by omega) (Int.ofNat_lt.mpr (show i<2 ^ 61-1 by omega))
 dsimp only
 rw[e]
 have h1:¬((i:Int)<0):=by omega
 have h2:((i:Int) == -1)=false:=by rw[beq_eq_false_iff_ne];omega
 simp only[h1,if_false,h2,Bool.false_eq_true]
def TbK (n m:Nat) (kvs:List (Key×V)):Prop:=∀kv∈kvs,∃r j:Nat,kv=(.inl (r:Int),.int j)/\r<n/\j<m
theorem TbK.non {H:Hp} {p:Addr} {n m:Nat} {kvs:List (Key×V)} (h:TbK n m kvs) (hn:n<=1000) (hp:H p=some (.dK kvs)):NoN H p:=.inl ⟨kvs,hp,fun kv hkv=>by
 obtain⟨r,j,rfl,hr,_⟩:=h kv hkv
 exact⟨r,rfl,by rw[hash_small (by omega)];show(r:Int)≠0xFCA86420;omega⟩⟩
theorem lst_le {M:List Rm} {rs:List Nat}:(lst M rs).length<=rs.length:=List.length_filter_le ..
theorem lst_mem {M:List Rm} {rs:List Nat} {r:Nat} (h:r∈lst M rs):r∈rs:=(List.mem_filter.mp h).1
theorem rgs_nV {n:Nat}:rgs 0 n=(List.range n).map nV:=by
 unfold rgs
 apply List.map_congr_left
 intro k _
 show V.int (0+(k:Int))=V.int k
 rw[Int.zero_add]
end TM
namespace BD
open PySem PySem.Spec PyProof.Rows L2 R3 LW TM
noncomputable def c_p_rooms_in_bounds:Css:=(.cons (.asg (.tup (.cons (.name 1) (.cons (.name 2) (.cons (.name 3) (.cons (.name 4) (.cons (.name 5) .nil)))))) (.var 0))
  (.cons (.asg (.name 6) (.ife (.cmp .Is (.var 5) .non) (.lst (.cons (.int 0) .nil)) (.blt .list (.cons (.blt .range (.cons (.bin .Add (.var 5) (.int 1)) .nil)) .nil))))
  (.cons (.ret (.comp (.tup (.cons (.var 7) (.cons (.var 9) (.cons (.var 10) .nil)))) [7,8,9,10] (.tup (.cons (.name 7) (.cons (.name 8) .nil))) (.val (.tup (.cons (.tup (.cons (.int 0) (.cons (.var 2) .nil))) (.cons (.tup (.cons (.int 1) (.cons (.var 4) .nil))) .nil)))) .none (.cons [9,10] (.name 9) (.range2 (.int 1) (.bin .Add (.var 8) (.int 1))) .none (.cons [10] (.name 10) (.val (.var 6)) .none .nil))))
  .nil)))
noncomputable def c_p_room_behind:Css:=(.cons (.asg (.tup (.cons (.name 3) (.cons (.name 4) (.cons (.name 5) (.cons (.name 6) (.cons (.name 7) .nil)))))) (.var 0))
  (.cons (.asg (.tup (.cons (.name 8) (.cons (.name 9) (.cons (.name 10) .nil)))) (.var 1))
  (.cons (.ite (.cmp .IsNot (.var 7) .non) (.cons (.aug 10 false (.ife (.cmp .Eq (.var 2) (.int 1)) (.int 1) (.neg (.int 1))))
  .nil) .nil)
  (.cons (.ite (.cmp .Eq (.var 2) (.var 8)) (.cons (.ret (.tup (.cons (.var 2) (.cons (.bin .Add (.var 9) (.int 1)) (.cons (.var 10) .nil)))))
  .nil) .nil)
  (.cons (.ite (.cmp .Lt (.var 9) (.ife (.cmp .Eq (.var 8) (.int 1)) (.var 5) (.var 3))) (.cons (.ret .non)
  .nil) .nil)
  (.cons (.ret (.tup (.cons (.var 2) (.cons (.int 1) (.cons (.var 10) .nil)))))
  .nil))))))
noncomputable def c_p_machine_in_bounds:Css:=(.cons (.dctc true 2 (.var 4) (.var 3) [3,4] (.tup (.cons (.name 3) (.cons (.name 4) .nil))) (.enum (.var 1)) .none)
  (.cons (.ret (.blt .tuple (.cons (.comp (.tup (.cons (.dgt (.var 2) (.call "room_behind" (.cons (.var 0) (.cons (.var 4) (.cons (.int 0) .nil))))) (.cons (.dgt (.var 2) (.call "room_behind" (.cons (.var 0) (.cons (.var 4) (.cons (.int 1) .nil))))) .nil))) [4] (.name 4) (.val (.var 1)) .none .nil) .nil)))
  .nil))
noncomputable def c_p_machine_of:Css:=(.cons (.asg (.tup (.cons (.name 1) (.cons (.name 2) .nil))) (.call "trimmed" (.cons (.call "machine_in_bounds" (.cons (.var 0) (.cons (.call "rooms_in_bounds" (.cons (.var 0) .nil)) .nil))) .nil)))
  (.cons (.ret (.var 1))
  .nil))
structure IsB (H:Hp) (p:Addr) (l0 h0 l1 h1:Nat) (sp:Option Nat):Prop where
 at':H p=some (.tup [nV l0,nV h0,nV l1,nV h1,oV sp])
 b0:h0<=8
 b1:h1<=8
 bs:∀s,sp=some s->s<=16
theorem IsB.mono {H H':Hp} {p:Addr} {l0 h0 l1 h1:Nat} {sp:Option Nat} (h:IsB H p l0 h0 l1 h1 sp) (t:Tp H H'):IsB H' p l0 h0 l1 h1 sp:=⟨t _ _ h.at',h.b0,h.b1,h.bs⟩
theorem g_tup5 {C:Rc} {H:Hp} {σ:L2.St} {i j k m n:Nat} {a:Addr} {x y z u v:V} {R:L2.St->Hp->Prop} (h:SqT C.K H a [x,y,z,u,v]) (q:R (((((σ.set i (some x)).set j (some y)).set k (some z)).set m (some u)).set n (some v)) H):tG C (.tup (.cons (.name i) (.cons (.name j) (.cons (.name k) (.cons (.name m) (.cons (.name n) .nil)))))) (.ref a) σ H R:=
 ⟨a,[x,y,z,u,v],rfl,.inl h,rfl,_,_,rfl,_,_,rfl,_,_,rfl,_,_,rfl,_,_,rfl,rfl,q⟩
noncomputable abbrev K3:=Nat×Nat×Nat
def IsK3 (H:Hp) (v:V) (k:K3):Prop:=∃p,v=.ref p/\H p=some (.tup [nV k.1,nV k.2.1,nV k.2.2])
theorem IsK3.mono {H H':Hp} (s:Same H H') {v:V} {k:K3} (h:IsK3 H v k):IsK3 H' v k:=by
 obtain⟨p,e,hp⟩:=h
 exact⟨p,e,s _ _ hp⟩
noncomputable def r1 (lv:List Nat) (b pl:Nat):List K3:=lv.map fun l=>(b,pl,l)
noncomputable def r2 (lv:List Nat) (b:Nat) (h:Nat):List K3:=(List.range h).flatMap fun j=>r1 lv b (j+1)
noncomputable def rk (lv:List Nat) (h0 h1:Nat):List K3:=r2 lv 0 h0++r2 lv 1 h1
noncomputable def lvs:Option Nat->List Nat
 |none=>[0]
 |some s=>List.range (s+1)
theorem r2_succ {lv:List Nat} {b h:Nat}:r2 lv b (h+1)=r2 lv b h++r1 lv b (h+1):=by
 unfold r2
 rw[List.range_succ,List.flatMap_append]
 simp
theorem r2_len {lv:List Nat} {b:Nat}:∀{h},(r2 lv b h).length=h*lv.length
 |0=>by rw[Nat.zero_mul];rfl
 |h+1=>by rw[r2_succ,List.length_append,r2_len,Nat.add_mul,Nat.one_mul];unfold r1;rw[List.length_map]
theorem r2_mem {lv:List Nat} {b h:Nat} {k:K3}:k∈r2 lv b h->k.1=b/\1<=k.2.1/\k.2.1<=h/\k.2.2∈lv:=by
 unfold r2 r1
 intro hk
 obtain⟨j,hj,hk⟩:=List.mem_flatMap.mp hk
 obtain⟨l,hl,rfl⟩:=List.mem_map.mp hk
 have:=List.mem_range.mp hj
 exact⟨rfl,by show 1<=j+1;omega,by show j+1<=h;omega,hl⟩
theorem nd_map {α β:Type} {f:α->β} (hf:∀x y,f x=f y->x=y):∀{l:List α},l.Nodup->(l.map f).Nodup
 | [],_=>List.nodup_nil
 |a :: l,h=>by
  rw[List.nodup_cons]at h
  rw[List.map_cons,List.nodup_cons]
  refine⟨fun z=>?_,nd_map hf h.2⟩
  obtain⟨x,hx,e⟩:=List.mem_map.mp z
  rw[hf _ _ e]at hx
  exact h.1 hx
theorem r2_nd {lv:List Nat} (hl:lv.Nodup) {b:Nat}:∀{h},(r2 lv b h).Nodup
 |0=>List.nodup_nil
 |h+1=>by
  rw[r2_succ,List.nodup_append]
  refine⟨r2_nd hl,nd_map (fun x y e=>by injection e with _ e;injection e) hl,fun x hx y hy e=>?_⟩
  subst e
  have h1:=(r2_mem hx).2.2.1
  unfold r1 at hy
  obtain⟨l,_,rfl⟩:=List.mem_map.mp hy
  have:h+1<=h:=h1
  omega
theorem rk_nd {lv:List Nat} (hl:lv.Nodup) {h0 h1:Nat}:(rk lv h0 h1).Nodup:=by
 unfold rk
 rw[List.nodup_append]
 refine⟨r2_nd hl,r2_nd hl,fun x hx y hy e=>?_⟩
 subst e
 have a:=(r2_mem hx).1
 have b:=(r2_mem hy).1
 omega
theorem lvs_nd {sp:Option Nat}:(lvs sp).Nodup:=by
 cases sp with
 |none=>exact List.nodup_cons.mpr ⟨List.not_mem_nil,List.nodup_nil⟩
 |some s=>exact List.nodup_range
theorem lvs_ok {sp:Option Nat} (h:∀s,sp=some s->s<=16):(lvs sp).length<=17/\∀l∈lvs sp,l<=16:=by
 cases sp with
 |none=>exact⟨by decide,fun l hl=>by have:l=0:=(by simpa[lvs]using hl);omega⟩
 |some s=>
  have:=h s rfl
  refine⟨by show(List.range (s+1)).length<=17;rw[List.length_range];omega,fun l hl=>?_⟩
  have:=List.mem_range.mp (show l∈List.range (s+1) from hl)
  omega
theorem rk_ok {sp:Option Nat} {h0 h1:Nat} (hs:∀s,sp=some s->s<=16) (a0:h0<=8) (a1:h1<=8):(rk (lvs sp) h0 h1).length<=272/\∀k∈rk (lvs sp) h0 h1,k.1<2/\k.2.1<9/\k.2.2<17:=by
 obtain⟨h,hm⟩:=lvs_ok hs
 constructor
 .unfold rk
  rw[List.length_append,r2_len,r2_len]
  have e0:h0*(lvs sp).length<=8*17:=Nat.mul_le_mul a0 h
  have e1:h1*(lvs sp).length<=8*17:=Nat.mul_le_mul a1 h
  omega
 .intro k hk
  unfold rk at hk
  rcases List.mem_append.mp hk with hk|hk
  .obtain⟨e,_,e2,e3⟩:=r2_mem hk
   have:=hm _ e3
   omega
  .obtain⟨e,_,e2,e3⟩:=r2_mem hk
   have:=hm _ e3
   omega
def spRIn:Sp:=fun vs H Q _=>∃(bd:Addr) (l0 h0 l1 h1:Nat) (sp:Option Nat),vs=[.ref bd]/\IsB H bd l0 h0 l1 h1 sp/\∀(p:Addr) (xs:List V) (H':Hp),Same H H'->H' p=some (.lst xs)->All2 (IsK3 H') xs (rk (lvs sp) h0 h1)->Q (.ref p) H'
theorem all3_mono {H H':Hp} (s:Same H H') {xs:List V} {ks:List K3} (h:All2 (IsK3 H) xs ks):All2 (IsK3 H') xs ks:=h.mono fun _ _ z=>z.mono s
theorem body_rin {C:Rc} (hN:C.N.length=11):∀vs H Q E,spRIn vs H Q E->tSs C c_p_rooms_in_bounds { nx:=fun _ H'=>Q .non H',rt:=Q } (L2.start C.N vs) H:=by
 intro vs H Q E h
 obtain⟨bd,l0,h0,l1,h1,sp,rfl,hB,q⟩:=h
 rw[start_eq hN]
 unfold c_p_rooms_in_bounds
 walk_at "y"
 rw[s_asg]
 walk_at "y"
 refine g_tup5 (C:=C) (SqT.of hB.at') ?_
 simp only[seq_nx,List.set_cons_zero,List.set_cons_succ]
 obtain⟨hlv,hlm⟩:=lvs_ok hB.bs
 refine asg_via fun K hK=>?_
 have rest:∀(pl:Addr) (H1:Hp),Same H H1->H1 pl=some (.lst ((lvs sp).map nV))->K (.ref pl) H1:=by
  intro pl H1 s1 hpl
  refine hK _ _ ?_
  walk_at "y"
  refine⟨by show 2<=sizeLine;decide,fun q0 hq0=>?_⟩
  have t0:=same_new hq0 (.tup [.int 0,nV h0])
  have e0:upd H1 q0 (.tup [.int 0,nV h0]) q0=some (.tup [.int 0,nV h0]):=upd_same
  generalize upd H1 q0 (.tup [.int 0,nV h0])=H2 at t0 e0 ⊢
  walk_at "y"
  refine⟨by show 2<=sizeLine;decide,fun q1 hq1=>?_⟩
  have t1:=same_new hq1 (.tup [.int 1,nV h1])
  have e1:upd H2 q1 (.tup [.int 1,nV h1]) q1=some (.tup [.int 1,nV h1]):=upd_same
  generalize upd H2 q1 (.tup [.int 1,nV h1])=H3 at t1 e1 ⊢
  walk_at "y"
  refine⟨by show 2<=sizeLine;decide,fun q2 hq2=>?_⟩
  have t2:=same_new hq2 (.tup [.ref q0,.ref q1])
  have e2:upd H3 q2 (.tup [.ref q0,.ref q1]) q2=some (.tup [.ref q0,.ref q1]):=upd_same
  generalize upd H3 q2 (.tup [.ref q0,.ref q1])=H4 at t2 e2 ⊢
  have s4:Same H1 H4:=t0.trans (t1.trans t2)
  have e04:=t2 _ _ (t1 _ _ e0)
  have e14:=t2 _ _ e1
  have hpl4:=s4 _ _ hpl
  have hrk:=(rk_ok hB.bs hB.b0 hB.b1 (h0:=h0) (h1:=h1)).1
  refine at_iv_tup (SqT.of e2) (cl_t (vs:=[.ref q0,.ref q1]) (fun i xs H'=>Same H4 H'/\All2 (IsK3 H') xs (if i=0 then[]else if i=1 then r2 (lvs sp) 0 h0 else rk (lvs sp) h0 h1)) ⟨Same.refl _,trivial⟩ (fun i xs H' pv=>SqT.of (pv.1 _ _ e2)) ?_ ?_)
  .rintro i xs H5 x R hx ⟨s5,hA⟩ hR
   have hi2:i=0\/i=1:=by
    have:=lt_of_get hx
    simp only[List.length_cons,List.length_nil]at this
    omega
   obtain⟨qq,b,hh,rfl,hqq,hh8,pre,hpre,hpost,hb⟩:∃(qq:Addr) (b hh:Nat),x=.ref qq/\H5 qq=some (.tup [.int b,nV hh])/\hh<=8/\∃pre,All2 (IsK3 H5) xs pre/\(∀ys H6,Same H4 H6->All2 (IsK3 H6) ys (pre++r2 (lvs sp) b hh)->R ys H6)/\(pre++r2 (lvs sp) b hh).length<=272:=by
    rcases hi2 with rfl|rfl
    .cases hx
     refine⟨q0,0,h0,rfl,s5 _ _ e04,hB.b0,[],hA,fun ys H6 s6 h6=>hR _ _ ⟨s6,h6⟩,?_⟩
     rw[List.nil_append]
     unfold rk at hrk
     rw[List.length_append]at hrk
     omega
    .cases hx
     exact⟨q1,1,h1,rfl,s5 _ _ e14,hB.b1,r2 (lvs sp) 0 h0,hA,fun ys H6 s6 h6=>hR _ _ ⟨s6,h6⟩,hrk⟩
   refine g_tup2 (C:=C) (SqT.of hqq) ?_
   simp only[nV]
   walk_at "y"
   rw[List.length_append,r2_len]at hb
   have hap:=hpre.len
   refine at_r2 (by omega) (by omega) (by omega) (by omega) (cl_r (n:=((hh:Int)+1-1).toNat) (fun j ys H6=>Same H4 H6/\All2 (IsK3 H6) ys (pre++r2 (lvs sp) b j)) ⟨s5,by simpa[r2]using hpre⟩ ?_ ?_)
   .rintro j ys H6 R2 hj ⟨s6,h6⟩ hR2
    have hjh:j<hh:=by omega
    have hjl:j*(lvs sp).length+(lvs sp).length<=hh*(lvs sp).length:=by
     have:=Nat.mul_le_mul_right (lvs sp).length hjh
     rw[Nat.succ_mul]at this
     exact this
    walk_at "y"
    refine at_iv_lst (SqL.of (s6 _ _ hpl4)) (cl_l (vs:=(lvs sp).map nV) (fun m zs H7=>Same H4 H7/\All2 (IsK3 H7) zs (pre++r2 (lvs sp) b j++r1 ((lvs sp).take m) b (j+1))) ⟨s6,by simpa[r1]using h6⟩ (fun m zs H7 pv=>SqL.of (pv.1 _ _ hpl4)) ?_ ?_)
    .rintro m zs H7 x R3 hx ⟨s7,h7⟩ hR3
     rw[List.getElem?_map]at hx
     cases er:(lvs sp)[m]? with
     |none=>rw[er]at hx;cases hx
     |some lv=>
     rw[er]at hx
     cases hx
     have hm:=lt_of_get er
     have h7l:=h7.len
     rw[List.length_append,List.length_append,r2_len]at h7l
     unfold r1 at h7l
     rw[List.length_map,List.length_take]at h7l
     simp only[nV]
     walk_at "y"
     refine⟨by show 3<=sizeLine;decide,fun q8 hq8=>?_⟩
     have t8:=same_new hq8 (.tup [.int b,.int (1+j),.int lv])
     have e8:upd H7 q8 (.tup [.int b,.int (1+j),.int lv]) q8=some (.tup [nV b,nV (j+1),nV lv]):=by
      rw[upd_same]
      show some (HO.tup [.int b,.int (1+(j:Int)),.int lv])=some (HO.tup [.int b,.int ((j+1:Nat):Int),.int lv])
      rw[show(1:Int)+j=((j+1:Nat):Int) by omega]
     generalize upd H7 q8 (.tup [.int b,.int (1+j),.int lv])=H8 at t8 e8 ⊢
     refine⟨small1000 (by omega),hR3 _ _ ⟨s7.trans t8,?_⟩⟩
     rw[show r1 ((lvs sp).take (m+1)) b (j+1)=r1 ((lvs sp).take m) b (j+1)++[(b,j+1,lv)] by unfold r1;rw[List.take_succ,er,List.map_append];rfl,<- List.append_assoc]
     exact(all3_mono t8 h7).snoc ⟨q8,rfl,e8⟩
    .rintro zs H7 ⟨s7,h7⟩
     rw[List.length_map,List.take_length,List.append_assoc,<- r2_succ]at h7
     exact hR2 _ _ ⟨s7,h7⟩
   .rintro ys H6 ⟨s6,h6⟩
    rw[show((hh:Int)+1-1).toNat=hh by omega]at h6
    exact hpost ys H6 s6 h6
  .rintro xs H5 ⟨s5,hA⟩ p9 hp9
   have s9:=same_new hp9 (.lst xs)
   exact q p9 xs _ (s1.trans (s4.trans (s5.trans s9))) upd_same (all3_mono s9 hA)
 walk_at "y"
 cases sp with
 |none=>
  simp only[oV]
  walk_at "y"
  refine⟨by decide,fun pl hpl=>?_⟩
  exact rest pl _ (same_new hpl _) upd_same
 |some s=>
  have hs:=hB.bs s rfl
  simp only[oV]
  walk_at "y"
  refine at_range1 fun pr hpr=>?_
  walk_at "y"
  refine at_listR upd_same (by omega) (by omega) (by omega) (by omega) (Nat.le_of_lt (small1000 (by omega))) fun pl hpl=>?_
  rw[show((s:Int)+1-0).toNat=s+1 by omega,rgs_nV]
  exact rest pl _ ((same_new hpr _).trans (same_new hpl _)) upd_same
theorem hash3:∀b:Fin 2,∀p:Fin 9,∀l:Fin 17,reduceHash (Builtin.Tuple.tupleHashOf [hashInt (b.val:Int),hashInt (p.val:Int),hashInt (l.val:Int)])≠NH:=by decide +kernel
noncomputable def kI (k:K3):List Int:=[(k.1:Int),(k.2.1:Int),(k.2.2:Int)]
noncomputable def kK (k:K3):List Key:=(kI k).map Key.inl
theorem kK_inj {a b:K3} (h:kK a=kK b):a=b:=by
 obtain⟨a1,a2,a3⟩:=a
 obtain⟨b1,b2,b3⟩:=b
 unfold kK kI at h
 simp only[List.map_cons,List.map_nil,List.cons.injEq,Key.inl.injEq,and_true]at h
 obtain⟨h1,h2,h3⟩:=h
 rw[show a1=b1 by omega,show a2=b2 by omega,show a3=b3 by omega]
theorem kK_kV {k:K3}:(kK k).map L2.kV=[nV k.1,nV k.2.1,nV k.2.2]:=rfl
theorem nd_take {ks:List K3} {i:Nat} {k:K3} (h:ks.Nodup) (hk:ks[i]?=some k):k∉ks.take i:=by
 intro hm
 have hi:=lt_of_get hk
 have e:ks=ks.take i++k :: ks.drop (i+1):=by
  have h1:=List.take_append_drop i ks
  rw[List.drop_eq_getElem_cons hi]at h1
  rw[List.getElem?_eq_getElem hi]at hk
  rw[Option.some.inj hk]at h1
  exact h1.symm
 rw[e,List.nodup_append]at h
 exact h.2.2 k hm k List.mem_cons_self rfl
theorem take_snoc {ks:List K3} {i:Nat} {k:K3} (hk:ks[i]?=some k):ks.take (i+1)=ks.take i++[k]:=by rw[List.take_succ,hk];rfl
def TbT (ks:List K3) (m:Nat) (a:KTL):Prop:=∀x∈a,∃(k:K3) (j:Nat),k∈ks/\x.1=kK k/\x.2.2=.int j/\j<m
theorem TbT.non {H:Hp} {p:Addr} {ks:List K3} {m:Nat} {a:KTL} (h:TbT ks m a) (hk:∀k∈ks,k.1<2/\k.2.1<9/\k.2.2<17) (hp:H p=some (.dT (plT a))):NoN H p:=.inr ⟨plT a,hp,fun kv hkv=>by
 obtain⟨x,hx,rfl⟩:=List.mem_map.mp hkv
 obtain⟨k,j,hks,e,_⟩:=h x hx
 obtain⟨h1,h2,h3⟩:=hk k hks
 exact⟨kI k,e,hash3 ⟨k.1,h1⟩ ⟨k.2.1,h2⟩ ⟨k.2.2,h3⟩⟩⟩
end BD
namespace BE
open PySem PySem.Spec PyProof.Rows L2 R3 LW TM BD
noncomputable def lvl (sp:Option Nat) (lv c:Nat):Int:=match sp with
 |none=>lv
 |some _=>(lv:Int)+if c=1 then 1 else -1
noncomputable def bh (l0 l1:Nat) (sp:Option Nat) (k:K3) (c:Nat):Option (List Int):=
 if c=k.1 then some [(c:Int),(k.2.1:Int)+1,lvl sp k.2.2 c]else if k.2.1<(if k.1=1 then l1 else l0)then none else some [(c:Int),1,lvl sp k.2.2 c]
def spRBx:Sp:=fun vs H Q _=>∃(bd rm:Addr) (l0 h0 l1 h1:Nat) (sp:Option Nat) (k:K3) (c:Nat),vs=[.ref bd,.ref rm,.int c]/\IsB H bd l0 h0 l1 h1 sp/\H rm=some (.tup [nV k.1,nV k.2.1,nV k.2.2])/\(bh l0 l1 sp k c=none->∀H',Same H H'->Q .non H')/\∀z,bh l0 l1 sp k c=some z->∀(p:Addr) (H':Hp),Same H H'->H' p=some (.tup (z.map V.int))->Q (.ref p) H'
theorem body_rbx {C:Rc} (hN:C.N.length=11):∀vs H Q E,spRBx vs H Q E->tSs C c_p_room_behind { nx:=fun _ H'=>Q .non H',rt:=Q } (L2.start C.N vs) H:=by
 intro vs H Q E h
 obtain⟨bd,rm,l0,h0,l1,h1,sp,⟨b,pl,lv⟩,c,rfl,hB,hrm,q1,q2⟩:=h
 rw[start_eq hN]
 unfold c_p_room_behind
 walk_at "y"
 rw[s_asg]
 walk_at "y"
 refine g_tup5 (C:=C) (SqT.of hB.at') ?_
 walk_at "y"
 rw[s_asg]
 walk_at "y"
 refine kG_tup3 (SqT.of hrm) ?_
 simp only[nV,seq_nx,List.set_cons_zero,List.set_cons_succ]
 refine s_via fun N hNx=>?_
 have rest:∀lev:Int,lvl sp lv c=lev->N [some (.ref bd),some (.ref rm),some (.int c),some (.int l0),some (.int h0),some (.int l1),some (.int h1),some (oV sp),some (.int b),some (.int pl),some (.int lev)] H:=by
  intro lev hlev
  refine hNx _ _ ?_
  have e:bh l0 l1 sp (b,pl,lv) c=if c=b then some [(c:Int),(pl:Int)+1,lev]else if pl<(if b=1 then l1 else l0)then none else some [(c:Int),1,lev]:=by
   unfold bh
   rw[<- hlev]
  walk_at "y"
  refine by_dec (fun hq=>?_) fun hq=>?_
  .have hq:c=b:=by omega
   walk_at "y"
   refine⟨by show 3<=sizeLine;decide,fun p hp=>?_⟩
   exact q2 _ (by rw[e,if_pos hq]) p _ (same_new hp _) upd_same
  have hq:¬c=b:=by omega
  walk_at "y"
  refine by_dec (fun hb=>?_) fun hb=>?_
  .have hb:b=1:=by omega
   walk_at "y"
   refine by_dec (fun hq2=>?_) fun hq2=>?_
   .walk_at "y"
    exact q1 (by rw[e,if_neg hq,if_pos hb,if_pos (by omega)]) _ (Same.refl _)
   .walk_at "y"
    refine⟨by show 3<=sizeLine;decide,fun p hp=>?_⟩
    exact q2 _ (by rw[e,if_neg hq,if_pos hb,if_neg (by omega)]) p _ (same_new hp _) upd_same
  .have hb:¬b=1:=by omega
   walk_at "y"
   refine by_dec (fun hq2=>?_) fun hq2=>?_
   .walk_at "y"
    exact q1 (by rw[e,if_neg hq,if_neg hb,if_pos (by omega)]) _ (Same.refl _)
   .walk_at "y"
    refine⟨by show 3<=sizeLine;decide,fun p hp=>?_⟩
    exact q2 _ (by rw[e,if_neg hq,if_neg hb,if_neg (by omega)]) p _ (same_new hp _) upd_same
 cases sp with
 |none=>
  simp only[oV]
  walk_at "y"
  exact rest _ rfl
 |some s=>
  simp only[oV]
  walk_at "y"
  rw[s_aug (a:=(lv:Int)) rfl]
  walk_at "y"
  refine by_dec (fun hq=>?_) fun hq=>?_
  .walk_at "y"
   exact rest _ (by show(lv:Int)+(if c=1 then 1 else -1)=_;(rw[if_pos (by omega)]<;>rfl))
  .walk_at "y"
   exact rest _ (by show(lv:Int)+(if c=1 then 1 else -1)=_;(rw[if_neg (by omega)]<;>rfl))
noncomputable def ixK (ks:List K3) (z:Option (List Int)):Option Nat:=match z with
 |none=>none
 |some z=>ks.findIdx? fun k=>decide (kI k=z)
noncomputable def plN (ks:List K3) (m:Nat):List (List Key×V):=(List.range m).map fun i:Nat=>(kK (ks[i]?.getD (0,0,0)),V.int i)
theorem plN_succ {ks:List K3} {m:Nat} {k:K3} (h:ks[m]?=some k):plN ks (m+1)=plN ks m++[(kK k,V.int m)]:=by
 unfold plN
 rw[List.range_succ,List.map_append]
 simp[h]
theorem ix_none {ks:List K3} {z:List Int} (h:∀k∈ks,kI k≠z):ixK ks (some z)=none:=by
 show ks.findIdx? _=none
 rw[List.findIdx?_eq_none_iff]
 intro k hk
 exact decide_eq_false (h k hk)
theorem ix_some {ks:List K3} {z:List Int} {i:Nat} {k:K3} (hn:ks.Nodup) (hk:ks[i]?=some k) (hz:kI k=z):ixK ks (some z)=some i:=by
 show ks.findIdx? _=some i
 have hi:=lt_of_get hk
 rw[List.findIdx?_eq_some_iff_getElem]
 refine⟨hi,?_,fun j hj=>?_⟩
 .rw[List.getElem?_eq_getElem hi]at hk
  rw[Option.some.inj hk]
  exact decide_eq_true hz
 .have hjl:j<ks.length:=by omega
  intro hd
  have hd:=of_decide_eq_true hd
  have e:kK ks[j]=kK k:=by unfold kK;rw[hd,hz]
  have e2:=kK_inj e
  have h1:ks[j]?=some k:=by rw[List.getElem?_eq_getElem hjl,e2]
  have:=nd_take hn hk
  exact this (List.mem_of_getElem? (l:=ks.take i) (i:=j) (by rw[List.getElem?_take,if_pos hj];exact h1))
theorem inl_inj:∀{a b:List Int},(a.map Key.inl:List Key)=b.map Key.inl->a=b
 | [],[],_=>rfl
 | [],_ :: _,h=>by cases h
 |_ :: _,[],h=>by cases h
 |x :: a,y :: b,h=>by
  rw[List.map_cons,List.map_cons]at h
  injection h with h1 h2
  injection h1 with h1
  rw[h1,inl_inj h2]
theorem plN_val {ks:List K3} (hn:ks.Nodup) (z:List Int):(valV (plN ks ks.length) (z.map Key.inl)).getD .non=oV (ixK ks (some z)):=by
 have e0:valV (plN ks ks.length) (z.map Key.inl)=((List.range ks.length).find? fun i=>decide (kK (ks[i]?.getD (0,0,0))=z.map Key.inl)).map fun i:Nat=>V.int (i:Int):=by
  unfold valV plN
  rw[List.find?_map,Option.map_map]
  rfl
 rw[e0]
 cases e:(List.range ks.length).find? fun i=>decide (kK (ks[i]?.getD (0,0,0))=z.map Key.inl)with
 |none=>
  rw[List.find?_eq_none]at e
  rw[ix_none fun k hk hz=>?_]
  .rfl
  .obtain⟨i,hi⟩:=List.getElem?_of_mem hk
   refine e i (List.mem_range.mpr (lt_of_get hi)) (decide_eq_true ?_)
   rw[hi]
   show(kI k).map Key.inl=_
   rw[hz]
 |some i=>
  have h0:=List.find?_some e
  have h1:=of_decide_eq_true h0
  have h2:=List.mem_range.mp (List.mem_of_find?_eq_some e)
  have h3:ks[i]?=some ks[i]:=List.getElem?_eq_getElem h2
  rw[h3]at h1
  rw[ix_some hn h3 (inl_inj h1)]
  rfl
noncomputable def mx (l0 l1:Nat) (sp:Option Nat) (ks:List K3) (k:K3):Rm:=(ixK ks (bh l0 l1 sp k 0),ixK ks (bh l0 l1 sp k 1))
def spMInx:Sp:=fun vs H Q _=>∃(bd l:Addr) (l0 h0 l1 h1:Nat) (sp:Option Nat) (xs:List V),vs=[.ref bd,.ref l]/\IsB H bd l0 h0 l1 h1 sp/\H l=some (.lst xs)/\All2 (IsK3 H) xs (rk (lvs sp) h0 h1)/\∀(p:Addr) (H':Hp),Same H H'->IsM H' p ((rk (lvs sp) h0 h1).map (mx l0 l1 sp (rk (lvs sp) h0 h1)))->Q (.ref p) H'
theorem body_minx {C:Rc} (hN:C.N.length=5) (hR:C.fs "room_behind"=some spRBx):∀vs H Q E,spMInx vs H Q E->tSs C c_p_machine_in_bounds { nx:=fun _ H'=>Q .non H',rt:=Q } (L2.start C.N vs) H:=by
 intro vs H Q E h
 obtain⟨bd,l,l0,h0,l1,h1,sp,xs,rfl,hB,hl,hA,q⟩:=h
 rw[start_eq hN]
 unfold c_p_machine_in_bounds
 obtain⟨hrl,hrb⟩:=rk_ok hB.bs hB.b0 hB.b1 (h0:=h0) (h1:=h1)
 have hnd:=rk_nd (lvs_nd (sp:=sp)) (h0:=h0) (h1:=h1)
 generalize hks:rk (lvs sp) h0 h1=ks at hA q hrl hrb hnd
 have hxl:=hA.len
 walk_at "y"
 refine at_enL (SqL.of hl) (cl_e (vs:=xs) (fun i b H'=>i<=ks.length/\plT b=plN ks i/\TbT (ks.take i) ks.length b/\okT b H'/\b.length=i/\Same H H') ⟨Nat.zero_le _,rfl,fun x h=>absurd h List.not_mem_nil,fun x h=>absurd h List.not_mem_nil,rfl,Same.refl _⟩ (fun i b H' pv=>SqL.of (pv.2.2.2.2.2 _ _ hl)) ?_ ?_)
 .rintro i b H1 x p R hx hp ⟨_,hpl,hb,hok,hbl,s1⟩ hR'
  obtain⟨k,hk,pk,rfl,hpk⟩:=hA.getL hx
  have hi:=lt_of_get hk
  refine g_tup2 (SqT.of upd_same) ?_
  have t2:=same_new hp (.tup [.int i,.ref pk])
  have s2:=s1.trans t2
  generalize upd H1 p (.tup [.int i,.ref pk])=H2 at t2 s2 ⊢
  have ok2:okT b H2:=fun y hy=>t2 _ _ (hok y hy)
  walk_at "y"
  refine⟨kK k,pk,rfl,by rw[kK_kV];exact s2 _ _ hpk,ok2,fun y hy e=>?_,small1000 (by omega),hR' _ _ ⟨hi,?_,fun y hy=>?_,fun y hy=>?_,by simp[hbl],s2⟩⟩
  .obtain⟨k',j,hk',e',_⟩:=hb y hy
   have ek:k'=k:=kK_inj (e'.symm.trans e)
   subst ek
   exact nd_take hnd hk hk'
  .rw[plN_succ hk,<- hpl]
   unfold plT
   rw[List.map_append]
   rfl
  .rw[take_snoc hk]
   rcases List.mem_append.mp hy with hy|hy
   .obtain⟨k',j,hk',e'⟩:=hb y hy
    exact⟨k',j,List.mem_append_left _ hk',e'⟩
   .have:y=(kK k,pk,V.int i):=by simpa using hy
    subst this
    exact⟨k,i,List.mem_append_right _ (List.mem_singleton.mpr rfl),rfl,rfl,hi⟩
  .rcases List.mem_append.mp hy with hy|hy
   .exact ok2 y hy
   .have:y=(kK k,pk,V.int i):=by simpa using hy
    subst this
    show H2 pk=some (.tup ((kK k).map L2.kV))
    rw[kK_kV]
    exact s2 _ _ hpk
 .rintro a H1 ⟨_,hpl,hb,hok,hal,s1⟩
  rw[hxl,List.take_length]at hb
  rw[hxl]at hpl
  refine⟨hok,fun p hp=>?_⟩
  have s2:=s1.trans (same_new hp (.dT (plT a)))
  have hp2:upd H1 p (.dT (plT a)) p=some (.dT (plT a)):=upd_same
  generalize upd H1 p (.dT (plT a))=H2 at s2 hp2 ⊢
  have get0:∀{H3:Hp} {Q':VK},Same H2 H3->Q' (oV (ixK ks none)) H3->kGet2 p Q' .non H3:=fun s3 q'=>at_getN (hb.non hrb (s3 _ _ hp2)) q'
  have get1:∀{H3:Hp} {Q':VK} {pz:Addr} {z:List Int},Same H2 H3->H3 pz=some (.tup (z.map V.int))->Q' (oV (ixK ks (some z))) H3->kGet2 p Q' (.ref pz) H3:=by
   intro H3 Q' pz z s3 hz q'
   refine at_get2 (DGet.t (k:=z.map Key.inl) (s3 _ _ hp2) (by rw[hz,List.map_map];rfl)) ?_
   rw[hpl,plN_val hnd]
   exact q'
  walk_at "y"
  refine at_iv_lst (SqL.of (s2 _ _ hl)) (comp_l (vs:=xs) (fun i ys H'=>i<=ks.length/\Rooms H' ys ((ks.take i).map (mx l0 l1 sp ks))/\Same H2 H') ⟨Nat.zero_le _,trivial,Same.refl _⟩ (fun i ys H' pv=>SqL.of (pv.2.2 _ _ (s2 _ _ hl))) ?_ ?_)
  .rintro i ys H3 x R hx ⟨_,hR',s3⟩ hRR
   obtain⟨k,hk,pk,rfl,hpk⟩:=hA.getL hx
   have hi:=lt_of_get hk
   have s23:=s2.trans s3
   walk_at "y"
   refine at_get1 (.inr ⟨plT a,.inl (s3 _ _ hp2)⟩) ?_
   refine call_e hR ?_
   walk_at "y"
   have half:∀(H4:Hp),Same H3 H4->kA1 C (List.set (clr [4] [some (.ref bd),some (.ref l),some (.ref p),none,none]) 4 (some (.ref pk))) (.cons (.dgt (.var 2) (.call "room_behind" (.cons (.var 0) (.cons (.var 4) (.cons (.int 1) .nil))))) .nil) (kTup (kPush ys R)) (oV (ixK ks (bh l0 l1 sp k 0))) H4:=by
    intro H4 s34
    have s4:=s3.trans s34
    walk_at "y"
    refine at_get1 (.inr ⟨plT a,.inl (s4 _ _ hp2)⟩) ?_
    refine call_e hR ?_
    walk_at "y"
    have second:∀(H5:Hp),Same H4 H5->kA1 C (List.set (clr [4] [some (.ref bd),some (.ref l),some (.ref p),none,none]) 4 (some (.ref pk))) .nil (kA2 (oV (ixK ks (bh l0 l1 sp k 0))) (kTup (kPush ys R))) (oV (ixK ks (bh l0 l1 sp k 1))) H5:=by
     intro H5 s45
     walk_at "y"
     refine⟨by show 2<=sizeLine;decide,fun p6 hp6=>?_⟩
     have s6:=same_new hp6 (.tup [oV (ixK ks (bh l0 l1 sp k 0)),oV (ixK ks (bh l0 l1 sp k 1))])
     have h6:upd H5 p6 (.tup [oV (ixK ks (bh l0 l1 sp k 0)),oV (ixK ks (bh l0 l1 sp k 1))]) p6=some (.tup [oV (ixK ks (bh l0 l1 sp k 0)),oV (ixK ks (bh l0 l1 sp k 1))]):=upd_same
     generalize upd H5 p6 (.tup [oV (ixK ks (bh l0 l1 sp k 0)),oV (ixK ks (bh l0 l1 sp k 1))])=H6 at s6 h6 ⊢
     have hyl:=hR'.len
     rw[List.length_map,List.length_take]at hyl
     refine⟨small1000 (by omega),hRR _ _ ⟨hi,?_,(s4.trans s45).trans s6⟩⟩
     rw[take_snoc hk,List.map_append]
     exact(hR'.mono (tp_same (s34.trans (s45.trans s6)))).snoc ⟨p6,rfl,h6⟩
    refine⟨bd,pk,l0,h0,l1,h1,sp,k,1,rfl,hB.mono (tp_same (s2.trans s4)),(s2.trans s4) _ _ hpk,fun e H5 s45=>get0 (s4.trans s45) (by rw[<- e];exact second H5 s45),fun z e pz H5 s45 hz=>get1 (s4.trans s45) hz (by rw[<- e];exact second H5 s45)⟩
   refine⟨bd,pk,l0,h0,l1,h1,sp,k,0,rfl,hB.mono (tp_same s23),s23 _ _ hpk,fun e H4 s34=>get0 (s3.trans s34) (by rw[<- e];exact half H4 s34),fun z e pz H4 s34 hz=>get1 (s3.trans s34) hz (by rw[<- e];exact half H4 s34)⟩
  .rintro ys H3 ⟨_,hR',s3⟩ p5 hp5
   rw[hxl,List.take_length]at hR'
   walk_at "y"
   have h5:upd H3 p5 (.lst ys) p5=some (.lst ys):=upd_same
   have s5:=same_new hp5 (.lst ys)
   generalize upd H3 p5 (.lst ys)=H5 at h5 s5 ⊢
   refine at_tupL (SqL.of h5) fun p6 hp6=>?_
   have s6:=same_new hp6 (.tup ys)
   exact q p6 _ (s2.trans (s3.trans (s5.trans s6))) ⟨ys,upd_same,hR'.mono (tp_same (s5.trans s6))⟩
def Sus (M:List Rm) (S:List Nat):Prop:=∀r∈S,r<M.length/\(∃r'∈S,fs1 M r'=some r\/fs2 M r'=some r)/\∃r'∈S,fs1 M r=some r'\/fs2 M r=some r'
theorem sus_last {M:List Rm} {S rs:List Nat} (h:Sus M S) (hs:∀r∈S,r∈rs):∀r∈S,r∈lst M rs:=by
 intro r hr
 obtain⟨_,⟨r1,hr1,e1⟩,⟨r2,hr2,e2⟩⟩:=h r hr
 refine List.mem_filter.mpr ⟨hs r hr,?_⟩
 unfold lastR
 rw[Bool.and_eq_true]
 constructor
 .unfold ldS
  rw[List.any_eq_true]
  refine⟨r1,hs r1 hr1,?_⟩
  rw[Bool.or_eq_true]
  rcases e1 with e|e
  .left;rw[e];exact decide_eq_true rfl
  .right;rw[e];exact decide_eq_true rfl
 .rw[Bool.or_eq_true]
  rcases e2 with e|e
  .left;rw[e];exact List.contains_iff_mem.mpr (hs r2 hr2)
  .right;rw[e];exact List.contains_iff_mem.mpr (hs r2 hr2)
end BE
namespace TE
open PySem PySem.Spec PyProof.Rows L2 R3 LW TM BD BE
noncomputable def ixR (rs:List Nat):Option Nat->Option Nat
 |none=>none
 |some n=>if n∈rs then some (rs.idxOf n)else none
theorem ixR_some {rs:List Nat} {n:Nat}:ixR rs (some n)=if n∈rs then some (rs.idxOf n)else none:=rfl
theorem nd_inj {rs:List Nat} (h:rs.Nodup) {i j:Nat} {hi:i<rs.length} {hj:j<rs.length} (e:rs[i]=rs[j]):i=j:=by
 rcases Nat.lt_trichotomy i j with z|z|z
 .exact absurd e (List.pairwise_iff_getElem.mp h i j hi hj z)
 .exact z
 .exact absurd e.symm (List.pairwise_iff_getElem.mp h j i hj hi z)
noncomputable def prt (M:List Rm) (rs:List Nat):List Rm:=rs.map fun r=>(ixR rs (fs1 M r),ixR rs (fs2 M r))
theorem prt_len {M:List Rm} {rs:List Nat}:(prt M rs).length=rs.length:=by unfold prt;rw[List.length_map]
theorem ixR_lt {rs:List Nat} {o:Option Nat} {x:Nat} (h:ixR rs o=some x):x<rs.length:=by
 cases o with
 |none=>cases h
 |some n=>
  rw[ixR_some]at h
  by_cases hn:n∈rs
  .rw[if_pos hn]at h
   injection h with h
   rw[<- h]
   exact List.idxOf_lt_length_of_mem hn
  .rw[if_neg hn]at h
   cases h
theorem prt_ok {M:List Rm} {rs:List Nat}:OkM (prt M rs):=by
 intro r hr
 obtain⟨x,_,rfl⟩:=List.mem_map.mp hr
 rw[prt_len]
 exact⟨fun n h=>ixR_lt h,fun n h=>ixR_lt h⟩
noncomputable def ziR:List Nat->Nat->List (Key×V)
 | [],_=>[]
 |r :: rs,k=>((Key.inl (r:Int):Key),V.int k) :: ziR rs (k+1)
theorem ziR_snoc {r:Nat}:∀{rs:List Nat} {k:Nat},ziR (rs++[r]) k=ziR rs k++[((Key.inl (r:Int):Key),V.int (k+rs.length:Nat))]
 | [],k=>by simp[ziR]
 |a :: rs,k=>by
  show _ :: ziR (rs++[r]) (k+1)=_ :: (ziR rs (k+1)++_)
  rw[ziR_snoc,List.length_cons,show k+1+rs.length=k+(rs.length+1) by omega]
theorem inl_nat {a b:Nat}:((Key.inl (a:Int):Key)=Key.inl (b:Int))↔a=b:=⟨fun h=>by injection h with h;omega,fun h=>by rw[h]⟩
theorem ziR_val {x:Nat}:∀{rs:List Nat} {k:Nat},valV (ziR rs k) (Key.inl (x:Int))=if x∈rs then some (V.int (k+rs.idxOf x:Nat))else none
 | [],k=>by simp[ziR,valV]
 |r :: rs,k=>by
  by_cases h:r=x
  .subst h
   rw[show ziR (r :: rs) k=((Key.inl (r:Int):Key),V.int k) :: ziR rs (k+1) from rfl,valV_pos rfl]
   simp
  .rw[show ziR (r :: rs) k=((Key.inl (r:Int):Key),V.int k) :: ziR rs (k+1) from rfl,valV_neg (fun z=>h (inl_nat.mp z)),ziR_val]
   have hx:¬x=r:=fun z=>h z.symm
   have e1:(r == x)=false:=by rw[beq_eq_false_iff_ne];exact h
   simp only[List.mem_cons,hx,false_or]
   rw[List.idxOf_cons,e1]
   split
   .simp only[cond_false]
    rw[show k+1+rs.idxOf x=k+(rs.idxOf x+1) by omega]
   .rfl
theorem ziR_len:∀{rs:List Nat} {k:Nat},(ziR rs k).length=rs.length
 | [],_=>rfl
 |_ :: rs,k=>by show(ziR rs (k+1)).length+1=_;rw[ziR_len];rfl
theorem ziR_tb {n:Nat}:∀{rs:List Nat} {k m:Nat},(∀r∈rs,r<n)->k+rs.length<=m->TbK n m (ziR rs k)
 | [],_,_,_,_=>fun kv h=>absurd h List.not_mem_nil
 |r :: rs,k,m,h,hm=>fun kv hkv=>by
  rw[List.length_cons]at hm
  rcases List.mem_cons.mp hkv with rfl|hkv
  .exact⟨r,k,rfl,h r (by simp),by omega⟩
  .exact ziR_tb (k:=k+1) (fun x hx=>h x (by simp[hx])) (by omega) kv hkv
theorem get_zi {C:Rc} {H:Hp} {Q:VK} {p:Addr} {n:Nat} {rs:List Nat} {o:Option Nat} (h:∀r∈rs,r<n) (hn:n<=1000) (hp:H p=some (.dK (ziR rs 0))) (q:Q (oV (ixR rs o)) H):kGet2 p Q (oV o) H:=by
 cases o with
 |none=>exact at_getN ((ziR_tb (m:=rs.length) h (by omega)).non hn hp) q
 |some x=>
  refine at_get2 (DGet.k (k:=.inl (x:Int)) hp) ?_
  rw[ziR_val]
  rw[ixR_some]at q
  by_cases hx:x∈rs
  .rw[if_pos hx]at q ⊢
   rw[Nat.zero_add]
   exact q
  .rw[if_neg hx]at q ⊢
   exact q
def spPartX:Sp:=fun vs H Q _=>∃(a l:Addr) (M:List Rm) (rs:List Nat),vs=[.ref a,.ref l]/\IsM H a M/\M.length<=500/\H l=some (.lst (rs.map nV))/\(∀r∈rs,r<M.length)/\rs.Nodup/\rs.length<=500/\∀(p:Addr) (H':Hp),Same H H'->IsM H' p (prt M rs)->Q (.ref p) H'
theorem body_partX {C:Rc} (hN:C.N.length=5):∀vs H Q E,spPartX vs H Q E->tSs C c_p_part_of { nx:=fun _ H'=>Q .non H',rt:=Q } (L2.start C.N vs) H:=by
 intro vs H Q E h
 obtain⟨a,l,M,rs,rfl,hM,hM5,hl,hrs,hnd,hlen,q⟩:=h
 rw[start_eq hN]
 unfold c_p_part_of
 walk_at "y"
 refine at_enL (SqL.of hl) (cl_e (vs:=rs.map nV) (fun i b H'=>b=ziR (rs.take i) 0/\i<=rs.length/\Same H H') ⟨rfl,Nat.zero_le _,Same.refl _⟩ (fun i b H' pv=>SqL.of (pv.2.2 _ _ hl)) ?_ ?_)
 .rintro i b H1 x p R hx hp ⟨rfl,hi0,s1⟩ hR
  rw[List.getElem?_map]at hx
  cases er:rs[i]? with
  |none=>rw[er]at hx;cases hx
  |some r=>
  rw[er]at hx
  cases hx
  have hi:=lt_of_get er
  refine g_tup2 (SqT.of upd_same) ?_
  have s2:=s1.trans (same_new hp (.tup [.int i,nV r]))
  generalize upd H1 p (.tup [.int i,nV r])=H2 at s2 ⊢
  simp only[nV]
  walk_at "y"
  have et:rs.take (i+1)=rs.take i++[r]:=by rw[List.take_succ,er];rfl
  have hno:r∉rs.take i:=fun hm=>by
   obtain⟨j,hj,ej⟩:=List.mem_iff_getElem.mp hm
   rw[List.length_take]at hj
   rw[List.getElem_take]at ej
   have er':rs[i]'hi=r:=by rw[List.getElem?_eq_getElem hi]at er;exact Option.some.inj er
   have:=nd_inj hnd (hi:=by omega) (hj:=hi) (ej.trans er'.symm)
   omega
  refine⟨.inl (r:Int),rfl,by rw[ziR_len,List.length_take];exact small1000 (by omega),hR _ _ ⟨?_,by omega,s2⟩⟩
  rw[putK_new _ (by rw[ziR_val,if_neg hno]),et,ziR_snoc,List.length_take,Nat.min_eq_left (by omega),Nat.zero_add]
 .rintro kvs H1 ⟨rfl,_,s1⟩
  rw[List.length_map,List.take_length]
  refine⟨trivial,fun p hp=>?_⟩
  have s2:=s1.trans (same_new hp (.dK (ziR rs 0)))
  have hp2:upd H1 p (.dK (ziR rs 0)) p=some (.dK (ziR rs 0)):=upd_same
  generalize upd H1 p (.dK (ziR rs 0))=H2 at s2 hp2 ⊢
  walk_at "y"
  refine at_iv_lst (SqL.of (s2 _ _ hl)) (comp_l (vs:=rs.map nV) (fun i xs H'=>Rooms H' xs ((rs.take i).map fun r=>(ixR rs (fs1 M r),ixR rs (fs2 M r)))/\i<=rs.length/\Same H2 H') ⟨trivial,Nat.zero_le _,Same.refl _⟩ (fun i xs H' pv=>SqL.of (pv.2.2 _ _ (s2 _ _ hl))) ?_ ?_)
  .rintro i xs H3 x R hx ⟨hR',hi0,s3⟩ hR
   rw[List.getElem?_map]at hx
   cases er:rs[i]? with
   |none=>rw[er]at hx;cases hx
   |some r=>
   rw[er]at hx
   cases hx
   have hi:=lt_of_get er
   have hrM:=hrs r (List.mem_of_getElem? er)
   have hM3:=hM.mono (tp_same (s2.trans s3))
   have hp3:=s3 _ _ hp2
   simp only[nV]
   walk_at "y"
   refine at_get1 (.inl ⟨_,.inl hp3⟩) ?_
   walk_at "y"
   refine room_ix hM3 hrM fun pr hpr=>?_
   walk_at "y"
   refine at_ixT (SqT.of hpr) (v:=oV (fs1 M r)) rfl ?_
   refine get_zi (C:=C) hrs (by omega) hp3 ?_
   walk_at "y"
   refine at_get1 (.inl ⟨_,.inl hp3⟩) ?_
   walk_at "y"
   refine room_ix hM3 hrM fun pr hpr=>?_
   walk_at "y"
   refine at_ixT (SqT.of hpr) (v:=oV (fs2 M r)) rfl ?_
   refine get_zi (C:=C) hrs (by omega) hp3 ?_
   walk_at "y"
   refine⟨by show 2<=sizeLine;decide,fun p4 hp4=>?_⟩
   have s4:=same_new hp4 (.tup [oV (ixR rs (fs1 M r)),oV (ixR rs (fs2 M r))])
   have h4:upd H3 p4 (.tup [oV (ixR rs (fs1 M r)),oV (ixR rs (fs2 M r))]) p4=some (.tup [oV (ixR rs (fs1 M r)),oV (ixR rs (fs2 M r))]):=upd_same
   generalize upd H3 p4 (.tup [oV (ixR rs (fs1 M r)),oV (ixR rs (fs2 M r))])=H4 at s4 h4 ⊢
   have hxl:=hR'.len
   rw[List.length_map,List.length_take]at hxl
   refine⟨small1000 (by omega),hR _ _ ⟨?_,by omega,s3.trans s4⟩⟩
   rw[List.take_succ,er,List.map_append]
   exact(hR'.mono (tp_same s4)).snoc ⟨p4,rfl,h4⟩
  .rintro xs H3 ⟨hR',_,s3⟩ p5 hp5
   rw[List.length_map,List.take_length]at hR'
   walk_at "y"
   have h5:upd H3 p5 (.lst xs) p5=some (.lst xs):=upd_same
   have s5:=same_new hp5 (.lst xs)
   generalize upd H3 p5 (.lst xs)=H5 at h5 s5 ⊢
   refine at_tupL (SqL.of h5) fun p6 hp6=>?_
   have s6:=same_new hp6 (.tup xs)
   exact q p6 _ (s2.trans (s3.trans (s5.trans s6))) ⟨xs,upd_same,hR'.mono (tp_same (s5.trans s6))⟩
structure Rs (M:List Rm) (rs:List Nat):Prop where
 rise:rs.Pairwise (· < ·)
 lt:∀r∈rs,r<M.length
 fix:lst M rs=rs
 all:∀S,Sus M S->∀r∈S,r∈rs
theorem rise_nd {rs:List Nat} (h:rs.Pairwise (· < ·)):rs.Nodup:=h.imp fun {a b} z=>Nat.ne_of_lt z
theorem rise_ext:∀{a b:List Nat},a.Pairwise (· < ·)->b.Pairwise (· < ·)->(∀x,x∈a↔x∈b)->a=b
 | [],[],_,_,_=>rfl
 | [],y :: b,_,_,h=>absurd ((h y).mpr (by simp)) List.not_mem_nil
 |x :: a,[],_,_,h=>absurd ((h x).mp (by simp)) List.not_mem_nil
 |x :: a,y :: b,ha,hb,h=>by
  rw[List.pairwise_cons]at ha hb
  have e:x=y:=by
   rcases List.mem_cons.mp ((h x).mp (by simp))with e|e
   .exact e
   .rcases List.mem_cons.mp ((h y).mpr (by simp))with e'|e'
    .exact e'.symm
    .have:=hb.1 x e
     have:=ha.1 y e'
     omega
  subst e
  congr 1
  refine rise_ext ha.2 hb.2 fun z=>?_
  have:=h z
  simp only[List.mem_cons]at this
  constructor
  .intro hz
   rcases this.mp (.inr hz)with e|e
   .have:=ha.1 z hz;omega
   .exact e
  .intro hz
   rcases this.mpr (.inr hz)with e|e
   .have:=hb.1 z hz;omega
   .exact e
theorem sus_fix {M:List Rm} {rs:List Nat} (hl:∀r∈rs,r<M.length) (h:lst M rs=rs):Sus M rs:=by
 intro r hr
 have h2:r∈lst M rs:=by rw[h];exact hr
 have h3:=(List.mem_filter.mp h2).2
 unfold lastR at h3
 rw[Bool.and_eq_true,Bool.or_eq_true]at h3
 refine⟨hl r hr,?_,?_⟩
 .obtain⟨r',hr',e⟩:=List.any_eq_true.mp h3.1
  refine⟨r',hr',?_⟩
  rw[Bool.or_eq_true,decide_eq_true_eq,decide_eq_true_eq]at e
  rcases e with e|e
  .exact .inl (oI_inj (b:=some r) (by rw[<- e];rfl))
  .exact .inr (oI_inj (b:=some r) (by rw[<- e];rfl))
 .have key:∀o,inR rs o=true->∃r'∈rs,o=some r':=fun o ho=>by
   cases o with
   |none=>cases ho
   |some n=>exact⟨n,List.contains_iff_mem.mp ho,rfl⟩
  rcases h3.2 with e|e
  .obtain⟨r',hr',e'⟩:=key _ e
   exact⟨r',hr',.inl e'⟩
  .obtain⟨r',hr',e'⟩:=key _ e
   exact⟨r',hr',.inr e'⟩
theorem Rs.sus {M:List Rm} {rs:List Nat} (h:Rs M rs):Sus M rs:=sus_fix h.lt h.fix
theorem Rs.uniq {M:List Rm} {rs rs':List Nat} (h:Rs M rs) (h':Rs M rs'):rs=rs':=rise_ext h.rise h'.rise fun x=>⟨fun z=>h'.all _ h.sus x z,fun z=>h.all _ h'.sus x z⟩
set_option tactic.hygienic true in
theorem filter_eq {α:Type} {p:α->Bool}:∀{l:List α},l.length<=(l.filter p).length->l.filter p=l
 | [],_=>rfl
 |a :: l,h=>by
  rw[List.filter_cons]at h ⊢
  have:=List.length_filter_le p l
  split at h
  .rename_i hp
   rw[if_pos hp]
   rw[List.length_cons,List.length_cons]at h
   rw[filter_eq (by omega)]
  .rw[List.length_cons]at h
   omega
def spTrimX:Sp:=fun vs H Q _=>∃(a:Addr) (M:List Rm),vs=[.ref a]/\IsM H a M/\M.length<=500/\∀(p p' l:Addr) (rs:List Nat) (H':Hp),Same H H'->H l=none->H' p=some (.tup [.ref p',.ref l])->H' l=some (.lst (rs.map nV))->IsM H' p' (prt M rs)->Rs M rs->Q (.ref p) H'
theorem body_trimX {C:Rc} (hN:C.N.length=3) (hL:C.fs "lasting"=some spLast) (hP:C.fs "part_of"=some spPartX):∀vs H Q E,spTrimX vs H Q E->tSs C c_p_trimmed { nx:=fun _ H'=>Q .non H',rt:=Q } (L2.start C.N vs) H:=by
 intro vs H Q E h
 obtain⟨a,M,rfl,hM,hM5,q⟩:=h
 rw[start_eq hN]
 unfold c_p_trimmed
 obtain⟨mv,hmv,hmr⟩:=id hM
 walk_at "y"
 refine at_lenT (SqT.of hmv) ?_
 rw[hmr.len]
 walk_at "y"
 refine at_range1 fun pr hpr=>?_
 walk_at "y"
 have hsz:((M.length:Int)-0).toNat<=sizeLine:=Nat.le_of_lt (small1000 (by omega))
 refine at_listR upd_same (by omega) (by omega) (by omega) (by omega) hsz fun p1 hp1=>?_
 rw[show((M.length:Int)-0).toNat=M.length by omega,rgs_nV]
 have s1:=(same_new hpr (.rng 0 M.length)).trans (same_new hp1 (.lst ((List.range M.length).map nV)))
 have h1:upd (upd H pr (.rng 0 M.length)) p1 (.lst ((List.range M.length).map nV)) p1=some (.lst ((List.range M.length).map nV)):=upd_same
 have f1:H p1=none:=(same_new hpr (.rng 0 M.length)).free hp1
 generalize upd (upd H pr (.rng 0 M.length)) p1 (.lst ((List.range M.length).map nV))=H1 at s1 h1 ⊢
 walk_at "y"
 refine call_e hL ?_
 walk_at "y"
 refine⟨a,p1,M,List.range M.length,rfl,hM.mono (tp_same s1),h1,fun r hr=>List.mem_range.mp hr,by rw[List.length_range];omega,fun p2 H2 hp2 s2 h2=>?_⟩
 walk_at "y"
 refine whl_by (fun m σ H'=>Same H H'/\∃(l1 l2:Addr) (rs:List Nat),σ=[some (.ref a),some (.ref l1),some (.ref l2)]/\H l1=none/\H l2=none/\H' l1=some (.lst (rs.map nV))/\H' l2=some (.lst ((lst M rs).map nV))/\(∀r∈rs,r<M.length)/\rs.Pairwise (· < ·)/\rs.length<=M.length/\(∀S,Sus M S->∀r∈S,r∈rs)/\m=rs.length) _ ⟨s1.trans s2,p1,p2,List.range M.length,rfl,f1,s1.free hp2,s2 _ _ h1,h2,fun r hr=>List.mem_range.mp hr,List.pairwise_lt_range,by rw[List.length_range];omega,fun S hS r hr=>List.mem_range.mpr (hS r hr).1,rfl⟩ ?_
 rintro m σ H3 ⟨s3,l1,l2,rs,rfl,f1,f2,hl1,hl2,hrs,hri,hrl,hSr,rfl⟩
 walk_at "y"
 refine at_lenL (SqL.of hl2) ?_
 walk_at "y"
 refine at_lenL (SqL.of hl1) ?_
 rw[List.length_map,List.length_map]
 walk_at "y"
 have hle:=lst_le (M:=M) (rs:=rs)
 refine by_dec (fun hc=>kWhl_t ?_) fun hc=>kWhl_f ?_
 .walk_at "y"
  refine call_e hL ?_
  walk_at "y"
  refine⟨a,l2,M,lst M rs,rfl,hM.mono (tp_same s3),hl2,fun r hr=>hrs r (lst_mem hr),by omega,fun p4 H4 hp4 s4 h4=>?_⟩
  walk_at "y"
  exact⟨(lst M rs).length,by omega,s3.trans s4,l2,p4,lst M rs,rfl,f2,s3.free hp4,s4 _ _ hl2,h4,fun r hr=>hrs r (lst_mem hr),hri.sublist List.filter_sublist,by omega,fun S hS=>sus_last hS (hSr S hS),rfl⟩
 .walk_at "y"
  refine call_e hP ?_
  walk_at "y"
  refine⟨a,l1,M,rs,rfl,hM.mono (tp_same s3),hM5,hl1,hrs,rise_nd hri,by omega,fun p4 H4 s4 hM4=>?_⟩
  walk_at "y"
  refine⟨by show 2<=sizeLine;decide,fun p5 hp5=>?_⟩
  have s5:=same_new hp5 (.tup [.ref p4,.ref l1])
  exact q p5 p4 l1 rs _ (s3.trans (s4.trans s5)) f1 upd_same (s5 _ _ (s4 _ _ hl1)) (hM4.mono (tp_same s5)) ⟨hri,hrs,filter_eq (by have:¬((lst M rs).length:Int)<rs.length:=hc;unfold lst at this;omega),hSr⟩
theorem idx_rng {n x:Nat} (h:x<n):(List.range n).idxOf x=x:=by
 have hm:x∈List.range n:=List.mem_range.mpr h
 have hl:=List.idxOf_lt_length_of_mem hm
 have e:=List.getElem_idxOf hl
 rw[List.getElem_range]at e
 exact e
theorem prt_at {M:List Rm} {rs:List Nat} (hn:rs.Nodup) {r:Nat} (hr:r∈rs):(prt M rs)[rs.idxOf r]?=some (ixR rs (fs1 M r),ixR rs (fs2 M r)):=by
 have hl:=List.idxOf_lt_length_of_mem hr
 unfold prt
 rw[List.getElem?_map,List.getElem?_eq_getElem hl,List.getElem_idxOf hl]
 rfl
theorem fs_prt {M:List Rm} {rs:List Nat} (hn:rs.Nodup) {r:Nat} (hr:r∈rs):fs1 (prt M rs) (rs.idxOf r)=ixR rs (fs1 M r)/\fs2 (prt M rs) (rs.idxOf r)=ixR rs (fs2 M r):=by
 unfold fs1 fs2
 rw[prt_at hn hr]
 exact⟨rfl,rfl⟩
theorem ixR_mem {rs:List Nat} {r:Nat} (h:r∈rs):ixR rs (some r)=some (rs.idxOf r):=by rw[ixR_some,if_pos h]
theorem Rs.again {M:List Rm} {rs:List Nat} (h:Rs M rs):Rs (prt M rs) (List.range rs.length)/\prt (prt M rs) (List.range rs.length)=prt M rs:=by
 have hn:=rise_nd h.rise
 have hidx:∀i,i<rs.length->∃r∈rs,rs.idxOf r=i:=fun i hi=>⟨rs[i],List.getElem_mem hi,by
  have h1:rs.idxOf rs[i]<rs.length:=List.idxOf_lt_length_of_mem (List.getElem_mem hi)
  exact nd_inj hn (hi:=h1) (hj:=hi) (List.getElem_idxOf h1)⟩
 have hs:Sus (prt M rs) (List.range rs.length):=by
  intro i hi
  obtain⟨r,hr,rfl⟩:=hidx i (List.mem_range.mp hi)
  obtain⟨_,⟨r1,hr1,e1⟩,⟨r2,hr2,e2⟩⟩:=h.sus r hr
  obtain⟨a1,a2⟩:=fs_prt (M:=M) hn hr1
  obtain⟨b1,b2⟩:=fs_prt (M:=M) hn hr
  refine⟨by rw[prt_len];exact List.mem_range.mp hi,⟨rs.idxOf r1,List.mem_range.mpr (List.idxOf_lt_length_of_mem hr1),?_⟩,⟨rs.idxOf r2,List.mem_range.mpr (List.idxOf_lt_length_of_mem hr2),?_⟩⟩
  .rcases e1 with e|e
   .left;rw[a1,e,ixR_mem hr]
   .right;rw[a2,e,ixR_mem hr]
  .rcases e2 with e|e
   .left;rw[b1,e,ixR_mem hr2]
   .right;rw[b2,e,ixR_mem hr2]
 refine⟨⟨List.pairwise_lt_range,fun r hr=>by rw[prt_len];exact List.mem_range.mp hr,?_,fun S hS r hr=>by rw[List.mem_range,<- prt_len (M:=M)];exact(hS r hr).1⟩,?_⟩
 .unfold lst
  rw[List.filter_eq_self]
  intro r hr
  have:=sus_last hs (rs:=List.range rs.length) (fun _ z=>z) r hr
  exact(List.mem_filter.mp this).2
 .apply List.ext_getElem?
  intro i
  by_cases hi:i<rs.length
  .obtain⟨r,hr,rfl⟩:=hidx i hi
   rw[prt_at hn hr]
   obtain⟨b1,b2⟩:=fs_prt (M:=M) hn hr
   have key:∀o,ixR (List.range rs.length) (ixR rs o)=ixR rs o:=fun o=>by
    cases e:ixR rs o with
    |none=>rfl
    |some x=>
     have hx:=ixR_lt e
     rw[ixR_mem (List.mem_range.mpr hx),idx_rng hx]
   unfold prt
   rw[List.getElem?_map,List.getElem?_range hi]
   show some (ixR _ (fs1 (prt M rs) _),ixR _ (fs2 (prt M rs) _))=_
   rw[b1,b2,key,key]
  .rw[List.getElem?_eq_none (by rw[prt_len,List.length_range];omega),List.getElem?_eq_none (by rw[prt_len];omega)]
end TE
namespace SR
open PySem PySem.Spec PyProof.Rows L2 R3 LW
def spExch:Sp:=fun vs H Q _=>∃l:List Bool,vs=[.str (tx l)]/\l.length<=1000/\∀H',Same H H'->Q (.str (tx (l.map (!·)))) H'
theorem flat1:∀{l:List Bool},(l.map fun c=>[c]).flatten=l
 | []=>rfl
 |c :: r=>by rw[List.map_cons,List.flatten_cons,flat1];rfl
theorem take_succ_get {l:List Bool} {i:Nat} {c:Bool} (h:l[i]?=some c):l.take (i+1)=l.take i++[c]:=by
 rw[List.take_succ,h];rfl
theorem clip_lo {n:Nat} {i j:Int} (h:(n:Int)<=i):Builtin.Str.strSliceIndices (some i) (some j) 1 n=Builtin.Str.strSliceIndices (some (n:Int)) (some j) 1 n:=by
 have h0:¬i<0:=by omega
 have h1:¬((n:Int)<0):=by omega
 have h2:(1:Int) > 0:=by decide
 simp only[Builtin.Str.strSliceIndices,h0,h1,h2,if_false,if_true,Int.min_eq_right h,Int.min_self]
theorem clip_hi {n:Nat} {j:Int} (h:(n:Int)<=j):Builtin.Str.strSliceIndices none (some j) 1 n=Builtin.Str.strSliceIndices none (some (n:Int)) 1 n:=by
 have h0:¬j<0:=by omega
 have h1:¬((n:Int)<0):=by omega
 have h2:(1:Int) > 0:=by decide
 simp only[Builtin.Str.strSliceIndices,h0,h1,h2,if_false,if_true,Int.min_eq_right h,Int.min_self]
theorem tx_to {l:List Bool} {n:Nat}:Txt.slice (tx l) none (some (n:Int))=tx (l.take n):=by
 rcases Nat.le_total n l.length with h|h
 .exact tx_take h
 .have e:Txt.slice (tx l) none (some (n:Int))=Txt.slice (tx l) none (some (l.length:Int)):=by
   unfold Txt.slice
   rw[tx_len,clip_hi (by omega)]
  rw[e,tx_take (Nat.le_refl _),List.take_of_length_le h,List.take_of_length_le (Nat.le_refl _)]
theorem tx_sl {l:List Bool} {a b:Nat} (h:a<=b):Txt.slice (tx l) (some (a:Int)) (some (b:Int))=tx ((l.drop a).take (b-a)):=by
 rcases Nat.le_total b l.length with hb|hb
 .exact tx_slice h hb
 .have e:Txt.slice (tx l) (some (a:Int)) (some (b:Int))=Txt.slice (tx l) (some (a:Int)) (some (l.length:Int)):=by
   unfold Txt.slice
   rw[tx_len,indices_clip (by omega)]
  rw[e]
  rcases Nat.le_total a l.length with ha|ha
  .rw[tx_slice ha (Nat.le_refl _),List.take_of_length_le (by simp),List.take_of_length_le (by simp;omega)]
  .have e2:Txt.slice (tx l) (some (a:Int)) (some (l.length:Int))=Txt.slice (tx l) (some (l.length:Int)) (some (l.length:Int)):=by
    unfold Txt.slice
    rw[tx_len,clip_lo (by omega)]
   rw[e2,tx_slice (Nat.le_refl _) (Nat.le_refl _),List.drop_of_length_le ha]
   simp
section
variable {K:W.Frag} {H:Hp} {Q:VK}
theorem sl_to {l:List Bool} {n:Nat} (hl:l.length<=sizeLine) (q:Q (.str (tx (l.take n))) H):rSl K (.str (tx l)) none (some (n:Int)) H Q:=⟨by rw[tx_len];exact hl,by rw[tx_to];exact q⟩
theorem sl_from {l:List Bool} {n:Nat} (hl:l.length<=sizeLine) (q:Q (.str (tx (l.drop n))) H):rSl K (.str (tx l)) (some (n:Int)) none H Q:=⟨by rw[tx_len];exact hl,by rw[tx_from];exact q⟩
theorem sl_mid {l:List Bool} {a b:Nat} (hl:l.length<=sizeLine) (h:a<=b) (q:Q (.str (tx ((l.drop a).take (b-a)))) H):rSl K (.str (tx l)) (some (a:Int)) (some (b:Int)) H Q:=⟨by rw[tx_len];exact hl,by rw[tx_sl h];exact q⟩
end
theorem small16 {n:Nat} (h:n<=1000):n<=sizeLine:=Nat.le_of_lt (small1000 h)
noncomputable def ones (l:List Bool):List V:=(l.map fun c=>[c]).map fun l=>V.str (tx l)
theorem ones_len {l:List Bool}:(ones l).length=l.length:=by unfold ones;simp
theorem ones_snoc {l:List Bool} {c:Bool}:ones l++[V.str (tx [c])]=ones (l++[c]):=by unfold ones;simp
theorem at_joinO {K:W.Frag} {H:Hp} {Q:VK} {a:Addr} {l:List Bool} (h:SqL K H a (ones l)) (hz:l.length<=16000000) (q:Q (.str (tx l)) H):rMet K .join (.str (tx [])) [.ref a] H Q:=by
 refine at_join (ls:=l.map fun c=>[c]) h (by rw[flat1];exact hz) ?_
 rw[flat1]
 exact q
noncomputable def tn (l:List Bool) (n:Nat):List Bool:=(l.take n).map (!·)++l.drop n
end SR
namespace K04
open PySem PySem.Spec PyProof.Rows L2 R3 LW
noncomputable def c_p_rooms_behind:Css:=(.cons (.asg (.name 3) (.comp (.idx (.idx (.var 0) (.var 4)) (.blt .int (.cons (.var 2) .nil))) [4] (.name 4) (.val (.var 1)) .none .nil))
  (.cons (.ret (.ssc (.var 5) [5] (.name 5) (.val (.var 3)) (.some (.cmp .IsNot (.var 5) .non))))
  .nil))
noncomputable def c_p_fault_at:Css:=(.cons (.asg (.name 2) (.call "machine_of" (.cons (.var 0) .nil)))
  (.cons (.asg (.name 3) (.blt .list (.cons (.blt .range (.cons (.blt .len (.cons (.var 2) .nil)) .nil)) .nil)))
  (.cons (.for_ (.tup (.cons (.name 4) (.cons (.name 5) .nil))) (.enum (.var 1)) (.cons (.ite (.not (.val (.var 3))) (.cons (.ret (.var 4))
  .nil) .nil)
  (.cons (.asg (.name 3) (.call "rooms_behind" (.cons (.var 2) (.cons (.var 3) (.cons (.var 5) .nil)))))
  .nil)))
  (.cons (.ret (.ife (.val (.var 3)) .non (.blt .len (.cons (.var 1) .nil))))
  .nil))))
noncomputable def c_p_keeps:Css:=(.cons (.ret (.cmp .Is (.call "fault_at" (.cons (.var 0) (.cons (.var 1) .nil))) .non))
  .nil)
noncomputable def c_bounds:Css:=(.cons (.ite (.cmp .Eq (.call "_law_take" (.cons (.var 0) (.cons (.int 8) .nil))) (.int 0)) (.cons (.asg (.name 1) (.lst (.cons (.bin .Add (.int 1) (.call "_law_take" (.cons (.var 0) (.cons (.int 8) .nil)))) (.cons (.bin .Add (.int 1) (.call "_law_take" (.cons (.var 0) (.cons (.int 8) .nil)))) .nil))))
  (.cons (.asg (.name 2) (.comp (.bin .Add (.var 3) (.call "_law_take" (.cons (.var 0) (.cons (.bin .Sub (.int 9) (.var 3)) .nil)))) [3] (.name 3) (.val (.var 1)) .none .nil))
  (.cons (.ret (.tup (.cons (.idx (.var 1) (.int 0)) (.cons (.idx (.var 2) (.int 0)) (.cons (.idx (.var 1) (.int 1)) (.cons (.idx (.var 2) (.int 1)) (.cons (.idx (.lst (.cons .non (.cons .non (.cons (.bin .Add (.int 3) (.call "_law_take" (.cons (.var 0) (.cons (.int 14) .nil)))) .nil)))) (.call "_law_take" (.cons (.var 0) (.cons (.int 3) .nil)))) .nil)))))))
  .nil))) .nil)
  (.cons (.asg (.name 1) (.lst (.cons (.bin .Add (.int 1) (.call "_law_take" (.cons (.var 0) (.cons (.int 2) .nil)))) (.cons (.bin .Add (.int 1) (.call "_law_take" (.cons (.var 0) (.cons (.int 2) .nil)))) .nil))))
  (.cons (.asg (.name 2) (.comp (.bin .Add (.var 3) (.call "_law_take" (.cons (.var 0) (.cons (.int 4) .nil)))) [3] (.name 3) (.val (.var 1)) .none .nil))
  (.cons (.ret (.tup (.cons (.idx (.var 1) (.int 0)) (.cons (.idx (.var 2) (.int 0)) (.cons (.idx (.var 1) (.int 1)) (.cons (.idx (.var 2) (.int 1)) (.cons (.idx (.lst (.cons .non (.cons .non (.cons (.bin .Add (.int 1) (.call "_law_take" (.cons (.var 0) (.cons (.int 6) .nil)))) .nil)))) (.call "_law_take" (.cons (.var 0) (.cons (.int 3) .nil)))) .nil)))))))
  .nil))))
open SR TM BD BE TE
theorem at_nn {C:Rc} {H:Hp} {Q:VK} {a:Addr} {y r:Int} (h:H a=some (.lst [.non,.non,.int y])) (h0:0<=r) (h1:r<3) (hy:0<=y) (q:∀o:Option Nat,(∀s,o=some s->(s:Int)=y)->Q (oV o) H):rIxL C.K (.ref a) (.int r) H Q\/rIxT C.K (.ref a) (.int r) H Q:=by
 obtain⟨k,rfl⟩:=Int.eq_ofNat_of_zero_le h0
 have hk:k=0\/k=1\/k=2:=by omega
 rcases hk with rfl|rfl|rfl
 .exact at_ixL (SqL.of h) (v:=.non) rfl (q none fun _ z=>(nomatch z))
 .exact at_ixL (SqL.of h) (v:=.non) rfl (q none fun _ z=>(nomatch z))
 .refine at_ixL (SqL.of h) (v:=.int y) rfl ?_
  have:=q (some y.toNat) fun s z=>by cases z;omega
  rw[show oV (some y.toNat)=.int y by show V.int (y.toNat:Int)=_;rw[Int.toNat_of_nonneg hy]]at this
  exact this
def spBoundsX:Sp:=fun vs H Q _=>∃(b:Addr) (n:Nat),vs=[.ref b]/\H b=some (BoxO b n)/\n<=2 ^ 39/\∀(p:Addr) (l0 h0 l1 h1:Nat) (sp:Option Nat) (H':Hp),Go 20 H H'->IsB H' p l0 h0 l1 h1 sp->1<=l0->l0<=h0->1<=l1->l1<=h1->Q (.ref p) H'
theorem body_boundsX {C:Rc} (hN:C.N.length=4) (hT:C.fs "_law_take"=some spTake):∀vs H Q E,spBoundsX vs H Q E->tSs C c_bounds { nx:=fun _ H'=>Q .non H',rt:=Q } (L2.start C.N vs) H:=by
 intro vs H Q E h
 obtain⟨b,n,rfl,hb,hn,q⟩:=h
 rw[start_eq hN]
 unfold c_bounds
 walk_at "y"
 refine call_e hT ?_
 walk_at "y"
 refine⟨b,n,_,rfl,hb,by omega,by omega,by omega,fun r0 H0 h00 h01 g0=>?_⟩
 obtain⟨n0,hb0,hn0,_⟩:=g0.boxed hb (by omega)
 walk_at "y"
 refine by_dec (fun hq=>?_) fun hq=>?_
 .walk_at "y"
  refine call_e hT ?_
  walk_at "y"
  refine⟨b,n0,_,rfl,hb0,by omega,by omega,by omega,fun r1 H1 h10 h11 g1=>?_⟩
  obtain⟨r1,rfl⟩:=Int.eq_ofNat_of_zero_le h10
  obtain⟨n1,hb1,hn1,_⟩:=g1.boxed hb0 (by omega)
  walk_at "y"
  refine call_e hT ?_
  walk_at "y"
  refine⟨b,n1,_,rfl,hb1,by omega,by omega,by omega,fun r2 H2 h20 h21 g2=>?_⟩
  obtain⟨r2,rfl⟩:=Int.eq_ofNat_of_zero_le h20
  obtain⟨n2,hb2,hn2,_⟩:=g2.boxed hb1 (by omega)
  walk_at "y"
  refine⟨by decide,fun pl hpl=>?_⟩
  have g3:Go 3 H (upd H2 pl (.lst [.int (1+r1),.int (1+r2)])):=(((g0.trans g1).trans g2).trans (Go.new (c:=0) hpl _)).mono (by omega)
  have hpl3:upd H2 pl (.lst [.int (1+r1),.int (1+r2)]) pl=some (.lst ([1+r1,1+r2].map nV)):=by
   rw[upd_same]
   show some (HO.lst [.int (1+(r1:Int)),.int (1+(r2:Int))])=some (HO.lst [.int ((1+r1:Nat):Int),.int ((1+r2:Nat):Int)])
   rw[show(1:Int)+r1=((1+r1:Nat):Int) by omega,show(1:Int)+r2=((1+r2:Nat):Int) by omega]
  generalize upd H2 pl (.lst [.int (1+r1),.int (1+r2)])=H3 at g3 hpl3 ⊢
  walk_at "y"
  refine at_iv_lst (SqL.of hpl3) (comp_l (vs:=[1+r1,1+r2].map nV) (fun i xs H'=>(∃hs:List Nat,xs=hs.map nV/\hs.length=i/\i<=2/\All2 (fun(h lo:Nat)=>lo<=h/\h<=8) hs ([1+r1,1+r2].take i))/\Go i H3 H') ⟨⟨[],rfl,rfl,by omega,trivial⟩,Go.refl⟩ (fun i xs H' pv=>SqL.of (pv.2.lst hpl3)) ?_ ?_)
  .rintro i xs H4 x R hx ⟨⟨hs,rfl,hsl,hi2,hs8⟩,g4⟩ hR
   rw[List.getElem?_map]at hx
   cases er:[1+r1,1+r2][i]? with
   |none=>rw[er]at hx;cases hx
   |some lo=>
   rw[er]at hx
   cases hx
   have hi:=lt_of_get er
   simp only[List.length_cons,List.length_nil]at hi
   have hlo:lo<=8:=by
    have:=List.mem_of_getElem? er
    simp only[List.mem_cons,List.not_mem_nil,or_false]at this
    rcases this with rfl|rfl<;>omega
   obtain⟨n4,hb4,hn4,_⟩:=(g3.trans g4).boxed hb (by omega)
   simp only[nV]
   walk_at "y"
   refine call_e hT ?_
   walk_at "y"
   refine⟨b,n4,_,rfl,hb4,by omega,by omega,by omega,fun r5 H5 h50 h51 g5=>?_⟩
   obtain⟨r5,rfl⟩:=Int.eq_ofNat_of_zero_le h50
   walk_at "y"
   refine⟨by rw[List.length_map];exact small1000 (by omega),hR _ _ ⟨⟨hs++[lo+r5],by rw[List.map_append];rfl,by simp[hsl],by omega,by rw[List.take_succ,er];exact hs8.snoc ⟨by omega,by omega⟩⟩,g4.trans g5⟩⟩
  .rintro xs H4 ⟨⟨hs,rfl,hsl,_,hs8⟩,g4⟩ ph hph
   have hsl:hs.length=2:=hsl
   have g4:Go 2 H3 H4:=g4
   obtain⟨y1,y2,rfl⟩:∃y1 y2,hs=[y1,y2]:=by
    match hs,hsl with
    | [y1,y2],_=>exact⟨y1,y2,rfl⟩
   obtain⟨⟨a1,a2⟩,⟨b1,b2⟩,_⟩:=hs8
   have g5:Go 5 H (upd H4 ph (.lst ([y1,y2].map nV))):=((g3.trans g4).trans (Go.new (c:=0) hph _)).mono (by omega)
   have hph5:upd H4 ph (.lst ([y1,y2].map nV)) ph=some (.lst ([y1,y2].map nV)):=upd_same
   have hpl5:=(Go.new (c:=0) hph (.lst ([y1,y2].map nV))).lst (g4.lst hpl3)
   generalize upd H4 ph (.lst ([y1,y2].map nV))=H5 at g5 hph5 hpl5 ⊢
   obtain⟨n5,hb5,hn5,_⟩:=g5.boxed hb (by omega)
   walk_at "y"
   refine at_ixL (SqL.of hpl5) (v:=nV (1+r1)) rfl ?_
   walk_at "y"
   refine at_ixL (SqL.of hph5) (v:=nV y1) rfl ?_
   walk_at "y"
   refine at_ixL (SqL.of hpl5) (v:=nV (1+r2)) rfl ?_
   walk_at "y"
   refine at_ixL (SqL.of hph5) (v:=nV y2) rfl ?_
   walk_at "y"
   refine call_e hT ?_
   walk_at "y"
   refine⟨b,n5,_,rfl,hb5,by omega,by omega,by omega,fun r6 H6 h60 h61 g6=>?_⟩
   walk_at "y"
   refine⟨by decide,fun p7 hp7=>?_⟩
   have g7:Go 6 H (upd H6 p7 (.lst [.non,.non,.int (3+r6)])):=((g5.trans g6).trans (Go.new (c:=0) hp7 _)).mono (by omega)
   have h7:upd H6 p7 (.lst [.non,.non,.int (3+r6)]) p7=some (.lst [.non,.non,.int (3+r6)]):=upd_same
   generalize upd H6 p7 (.lst [.non,.non,.int (3+r6)])=H7 at g7 h7 ⊢
   obtain⟨n7,hb7,hn7,_⟩:=g7.boxed hb (by omega)
   refine call_e hT ?_
   walk_at "y"
   refine⟨b,n7,_,rfl,hb7,by omega,by omega,by omega,fun r8 H8 h80 h81 g8=>?_⟩
   walk_at "y"
   refine at_nn (g8.lst h7) h80 h81 (by omega) fun sp hsp=>?_
   walk_at "y"
   refine⟨by show 5<=sizeLine;decide,fun p9 hp9=>?_⟩
   refine q p9 (1+r1) y1 (1+r2) y2 sp _ (((g7.trans g8).trans (Go.new (c:=0) hp9 _)).mono (by omega)) ⟨upd_same,a2,b2,fun s z=>?_⟩ (by omega) a1 (by omega) b1
   have:=hsp s z
   omega
 .walk_at "y"
  refine call_e hT ?_
  walk_at "y"
  refine⟨b,n0,_,rfl,hb0,by omega,by omega,by omega,fun r1 H1 h10 h11 g1=>?_⟩
  obtain⟨r1,rfl⟩:=Int.eq_ofNat_of_zero_le h10
  obtain⟨n1,hb1,hn1,_⟩:=g1.boxed hb0 (by omega)
  walk_at "y"
  refine call_e hT ?_
  walk_at "y"
  refine⟨b,n1,_,rfl,hb1,by omega,by omega,by omega,fun r2 H2 h20 h21 g2=>?_⟩
  obtain⟨r2,rfl⟩:=Int.eq_ofNat_of_zero_le h20
  obtain⟨n2,hb2,hn2,_⟩:=g2.boxed hb1 (by omega)
  walk_at "y"
  refine⟨by decide,fun pl hpl=>?_⟩
  have g3:Go 3 H (upd H2 pl (.lst [.int (1+r1),.int (1+r2)])):=(((g0.trans g1).trans g2).trans (Go.new (c:=0) hpl _)).mono (by omega)
  have hpl3:upd H2 pl (.lst [.int (1+r1),.int (1+r2)]) pl=some (.lst ([1+r1,1+r2].map nV)):=by
   rw[upd_same]
   show some (HO.lst [.int (1+(r1:Int)),.int (1+(r2:Int))])=some (HO.lst [.int ((1+r1:Nat):Int),.int ((1+r2:Nat):Int)])
   rw[show(1:Int)+r1=((1+r1:Nat):Int) by omega,show(1:Int)+r2=((1+r2:Nat):Int) by omega]
  generalize upd H2 pl (.lst [.int (1+r1),.int (1+r2)])=H3 at g3 hpl3 ⊢
  walk_at "y"
  refine at_iv_lst (SqL.of hpl3) (comp_l (vs:=[1+r1,1+r2].map nV) (fun i xs H'=>(∃hs:List Nat,xs=hs.map nV/\hs.length=i/\i<=2/\All2 (fun(h lo:Nat)=>lo<=h/\h<=8) hs ([1+r1,1+r2].take i))/\Go i H3 H') ⟨⟨[],rfl,rfl,by omega,trivial⟩,Go.refl⟩ (fun i xs H' pv=>SqL.of (pv.2.lst hpl3)) ?_ ?_)
  .rintro i xs H4 x R hx ⟨⟨hs,rfl,hsl,hi2,hs8⟩,g4⟩ hR
   rw[List.getElem?_map]at hx
   cases er:[1+r1,1+r2][i]? with
   |none=>rw[er]at hx;cases hx
   |some lo=>
   rw[er]at hx
   cases hx
   have hi:=lt_of_get er
   simp only[List.length_cons,List.length_nil]at hi
   have hlo:lo<=2:=by
    have:=List.mem_of_getElem? er
    simp only[List.mem_cons,List.not_mem_nil,or_false]at this
    rcases this with rfl|rfl<;>omega
   obtain⟨n4,hb4,hn4,_⟩:=(g3.trans g4).boxed hb (by omega)
   simp only[nV]
   walk_at "y"
   refine call_e hT ?_
   walk_at "y"
   refine⟨b,n4,_,rfl,hb4,by omega,by omega,by omega,fun r5 H5 h50 h51 g5=>?_⟩
   obtain⟨r5,rfl⟩:=Int.eq_ofNat_of_zero_le h50
   walk_at "y"
   refine⟨by rw[List.length_map];exact small1000 (by omega),hR _ _ ⟨⟨hs++[lo+r5],by rw[List.map_append];rfl,by simp[hsl],by omega,by rw[List.take_succ,er];exact hs8.snoc ⟨by omega,by omega⟩⟩,g4.trans g5⟩⟩
  .rintro xs H4 ⟨⟨hs,rfl,hsl,_,hs8⟩,g4⟩ ph hph
   have hsl:hs.length=2:=hsl
   have g4:Go 2 H3 H4:=g4
   obtain⟨y1,y2,rfl⟩:∃y1 y2,hs=[y1,y2]:=by
    match hs,hsl with
    | [y1,y2],_=>exact⟨y1,y2,rfl⟩
   obtain⟨⟨a1,a2⟩,⟨b1,b2⟩,_⟩:=hs8
   have g5:Go 5 H (upd H4 ph (.lst ([y1,y2].map nV))):=((g3.trans g4).trans (Go.new (c:=0) hph _)).mono (by omega)
   have hph5:upd H4 ph (.lst ([y1,y2].map nV)) ph=some (.lst ([y1,y2].map nV)):=upd_same
   have hpl5:=(Go.new (c:=0) hph (.lst ([y1,y2].map nV))).lst (g4.lst hpl3)
   generalize upd H4 ph (.lst ([y1,y2].map nV))=H5 at g5 hph5 hpl5 ⊢
   obtain⟨n5,hb5,hn5,_⟩:=g5.boxed hb (by omega)
   walk_at "y"
   refine at_ixL (SqL.of hpl5) (v:=nV (1+r1)) rfl ?_
   walk_at "y"
   refine at_ixL (SqL.of hph5) (v:=nV y1) rfl ?_
   walk_at "y"
   refine at_ixL (SqL.of hpl5) (v:=nV (1+r2)) rfl ?_
   walk_at "y"
   refine at_ixL (SqL.of hph5) (v:=nV y2) rfl ?_
   walk_at "y"
   refine call_e hT ?_
   walk_at "y"
   refine⟨b,n5,_,rfl,hb5,by omega,by omega,by omega,fun r6 H6 h60 h61 g6=>?_⟩
   walk_at "y"
   refine⟨by decide,fun p7 hp7=>?_⟩
   have g7:Go 6 H (upd H6 p7 (.lst [.non,.non,.int (1+r6)])):=((g5.trans g6).trans (Go.new (c:=0) hp7 _)).mono (by omega)
   have h7:upd H6 p7 (.lst [.non,.non,.int (1+r6)]) p7=some (.lst [.non,.non,.int (1+r6)]):=upd_same
   generalize upd H6 p7 (.lst [.non,.non,.int (1+r6)])=H7 at g7 h7 ⊢
   obtain⟨n7,hb7,hn7,_⟩:=g7.boxed hb (by omega)
   refine call_e hT ?_
   walk_at "y"
   refine⟨b,n7,_,rfl,hb7,by omega,by omega,by omega,fun r8 H8 h80 h81 g8=>?_⟩
   walk_at "y"
   refine at_nn (g8.lst h7) h80 h81 (by omega) fun sp hsp=>?_
   walk_at "y"
   refine⟨by show 5<=sizeLine;decide,fun p9 hp9=>?_⟩
   refine q p9 (1+r1) y1 (1+r2) y2 sp _ (((g7.trans g8).trans (Go.new (c:=0) hp9 _)).mono (by omega)) ⟨upd_same,a2,b2,fun s z=>?_⟩ (by omega) a1 (by omega) b1
   have:=hsp s z
   omega
noncomputable def bd (M:List Rm) (b:Bool) (p:Nat):Option Nat:=if b then fs2 M p else fs1 M p
theorem nd_le' {n:Nat} {l:List Nat} (h:l.Nodup) (hs:∀i∈l,i<n):l.length<=n:=by
 have:=nd_le (l:=l.map Int.ofNat) (b:=(List.range n).map Int.ofNat) (nd_map (fun x y e=>Int.ofNat.inj e) h) fun i hi=>by
  obtain⟨x,hx,rfl⟩:=List.mem_map.mp hi
  exact List.mem_map_of_mem (List.mem_range.mpr (hs x hx))
 rw[List.length_map,List.length_map,List.length_range]at this
 exact this
noncomputable def sS (os:List (Option Nat)):Option Int->Bool:=fun k=>os.any fun o=>o.isSome&&decide (k=oI o)
theorem sS_snoc {os:List (Option Nat)} {o:Option Nat}:sS (os++[o])=fun k=>sS os k || (o.isSome&&decide (k=oI o)):=by
 funext k
 unfold sS
 rw[List.any_append]
 simp
theorem sS_none {os:List (Option Nat)}:sS os none=false:=by
 unfold sS
 rw[List.any_eq_false]
 intro o _
 cases o with
 |none=>simp
 |some n=>simp[oI]
theorem sS_some {os:List (Option Nat)} {i:Int}:sS os (some i)=true↔∃n:Nat,some n∈os/\i=n:=by
 unfold sS
 rw[List.any_eq_true]
 constructor
 .rintro⟨o,ho,h⟩
  cases o with
  |none=>simp at h
  |some n=>
   have:some i=oI (some n):=by simpa using h
   exact⟨n,ho,Option.some.inj this⟩
 .rintro⟨n,hn,rfl⟩
  exact⟨some n,hn,by simp[oI]⟩
def spRBh:Sp:=fun vs H Q _=>∃(a l:Addr) (M:List Rm) (rs:List Nat) (b:Bool),vs=[.ref a,.ref l,.str (tx [b])]/\IsM H a M/\OkM M/\M.length<=63/\H l=some (.lst (rs.map nV))/\(∀r∈rs,r<M.length)/\rs.length<=63/\∀(l':Addr) (rs':List Nat) (H':Hp),Same H H'->H' l'=some (.lst (rs'.map nV))->rs'.Pairwise (· < ·)->(∀r,r∈rs'↔∃p∈rs,bd M b p=some r)->Q (.ref l') H'
theorem bd_lt {M:List Rm} (hO:OkM M) {b:Bool} {p r:Nat} (h:bd M b p=some r):r<M.length:=by
 obtain⟨h1,h2⟩:=fs_ok hO (r:=p) (n:=r)
 cases b with
 |true=>exact h2 h
 |false=>exact h1 h
theorem nats_of {us:List Int} (h:us.Pairwise (· < ·)) (h0:∀i∈us,0<=i):∃bs:List Nat,bs.Pairwise (· < ·)/\us.map V.int=bs.map nV/\∀r:Nat,r∈bs↔(r:Int)∈us:=by
 refine⟨us.map Int.toNat,?_,?_,fun r=>?_⟩
 .rw[List.pairwise_map]
  refine List.Pairwise.imp_of_mem (fun {a b} ha hb z=>?_) h
  have:=h0 a ha
  have:=h0 b hb
  omega
 .rw[List.map_map]
  apply List.map_congr_left
  intro i hi
  show V.int i=V.int (i.toNat:Nat)
  rw[Int.toNat_of_nonneg (h0 i hi)]
 .rw[List.mem_map]
  constructor
  .rintro⟨i,hi,rfl⟩
   rw[Int.toNat_of_nonneg (h0 i hi)]
   exact hi
  .intro hi
   exact⟨r,hi,by simp⟩
theorem body_rbh {C:Rc} (hN:C.N.length=6):∀vs H Q E,spRBh vs H Q E->tSs C c_p_rooms_behind { nx:=fun _ H'=>Q .non H',rt:=Q } (L2.start C.N vs) H:=by
 intro vs H Q E h
 obtain⟨a,l,M,rs,b,rfl,hM,hO,h63,hl,hrs,hrl,q⟩:=h
 rw[start_eq hN]
 unfold c_p_rooms_behind
 walk_at "y"
 refine at_iv_lst (SqL.of hl) (comp_l (vs:=rs.map nV) (fun i xs H'=>i<=rs.length/\xs=((rs.take i).map (bd M b)).map oV/\H'=H) ⟨Nat.zero_le _,rfl,rfl⟩ (fun i xs H' pv=>SqL.of (by rw[pv.2.2];exact hl)) ?_ ?_)
 .rintro i xs H' x K hx ⟨_,rfl,rfl⟩ hK
  rw[List.getElem?_map]at hx
  obtain⟨r,er,rfl⟩:=Option.map_eq_some_iff.mp hx
  have hi:=lt_of_get er
  simp only[nV]
  walk_at "y"
  refine room_ix hM (hrs r (List.mem_of_getElem? er)) fun pr hpr=>?_
  walk_at "y"
  refine at_twoT (SqT.of hpr) ?_
  refine⟨by rw[List.length_map,List.length_map,List.length_take];exact small1000 (by omega),hK _ _ ⟨hi,?_,rfl⟩⟩
  rw[List.take_succ,er,List.map_append,List.map_append]
  show _++[if b=true then oV (fs2 M r)else oV (fs1 M r)]=_++[oV (bd M b r)]
  cases b<;>rfl
 .rintro xs H' ⟨_,rfl,rfl⟩ L hL
  rw[List.length_map,List.take_length]
  have s1:=same_new hL (.lst ((rs.map (bd M b)).map oV))
  have hL1:upd H' L (.lst ((rs.map (bd M b)).map oV)) L=some (.lst ((rs.map (bd M b)).map oV)):=upd_same
  generalize upd H' L (.lst ((rs.map (bd M b)).map oV))=H1 at s1 hL1 ⊢
  walk_at "y"
  refine at_iv_lst (SqL.of hL1) (cl_l (vs:=(rs.map (bd M b)).map oV) (fun i a H'=>i<=rs.length/\a.1=sS ((rs.map (bd M b)).take i)/\a.2<=i/\H'=H1) ⟨Nat.zero_le _,rfl,Nat.le_refl _,rfl⟩ (fun i a H' pv=>SqL.of (by rw[pv.2.2.2];exact hL1)) ?_ ?_)
  .rintro i ⟨S,n⟩ H2 x R hx ⟨_,hS,hn,rfl⟩ hR
   rw[List.getElem?_map]at hx
   obtain⟨o,ho,rfl⟩:=Option.map_eq_some_iff.mp hx
   have hi:i<rs.length:=by have:=lt_of_get ho;rwa [List.length_map]at this
   have hsn:=sS_snoc (os:=(rs.map (bd M b)).take i) (o:=o)
   have et:(rs.map (bd M b)).take (i+1)=(rs.map (bd M b)).take i++[o]:=by rw[List.take_succ,ho];rfl
   rw[<- et]at hsn
   dsimp only at hS hn
   subst hS
   cases o with
   |none=>
    simp only[oV]
    walk_at "y"
    refine hR _ _ ⟨hi,?_,by show n<=i+1;omega,rfl⟩
    show sS _=sS _
    rw[hsn]
    funext k
    simp
   |some y=>
    simp only[oV]
    walk_at "y"
    refine⟨some (y:Int),rfl,by show n<4000;omega,hR _ _ ⟨hi,?_,by show n+1<=i+1;omega,rfl⟩⟩
    show(fun j=>sS _ j || decide (j=some (y:Int)))=sS _
    rw[hsn]
    funext k
    show _=(_ || (true&&decide (k=some (y:Int))))
    rw[Bool.true_and]
  .rintro⟨S,n⟩ H2 ⟨_,hS,hn,rfl⟩
   rw[List.length_map,List.take_of_length_le (Nat.le_refl _)]at hS
   dsimp only at hS hn
   subst hS
   refine at_ssc sS_none ⟨(List.range M.length).map Int.ofNat,by rw[List.length_map,List.length_range];omega,fun i hi=>?_⟩ fun l' us hl' hus hmem=>?_
   .obtain⟨n,hn,rfl⟩:=sS_some.mp hi
    obtain⟨p,_,hp⟩:=List.mem_map.mp hn
    exact List.mem_map_of_mem (f:=Int.ofNat) (List.mem_range.mpr (bd_lt hO hp))
   .dsimp only at hmem
    obtain⟨bs',hb1,hb2,hb3⟩:=nats_of hus (fun i hi=>by
     obtain⟨n,_,rfl⟩:=sS_some.mp ((hmem i).mp hi)
     exact Int.natCast_nonneg n)
    rw[hb2]
    refine q l' bs' _ (s1.trans (same_new hl' _)) upd_same hb1 fun r=>?_
    rw[hb3,hmem,sS_some]
    constructor
    .rintro⟨n,hn,e⟩
     obtain⟨p,hp,hpe⟩:=List.mem_map.mp hn
     exact⟨p,hp,by rw[hpe,show r=n by omega]⟩
    .rintro⟨p,hp,hpe⟩
     exact⟨r,by rw[<- hpe];exact List.mem_map_of_mem hp,rfl⟩
end K04
namespace LW
open PySem PySem.Spec PyProof.Rows L2 R3
noncomputable def sg (N:Nat) (f:Nat->Nat):Nat:=((List.range N).map f).sum
noncomputable abbrev Tb:=Nat->Nat->Nat
noncomputable def mm (N:Nat) (A B:Tb):Tb:=fun i j=>sg N fun k=>A i k*B k j
noncomputable def Ad (M:List Rm):Tb:=fun i j=>(if stp M i false=some j then 1 else 0)+(if stp M i true=some j then 1 else 0)
noncomputable def pw (M:List Rm):Nat->Tb
 |0=>fun i j=>if i=j then 1 else 0
 |n+1=>mm M.length (Ad M) (pw M n)
end LW
namespace RW
open PySem PySem.Spec PyProof.Rows L2 R3 LW SR
noncomputable def ob (f:Nat->List (List Bool)) (b:Bool):Option Nat->List (List Bool)
 |none=>[]
 |some m=>(f m).map (b :: ·)
noncomputable def rws (M:List Rm) (g:Option Nat):Nat->Nat->List (List Bool)
 |0,r=>if g=none\/g=some r then[[]]else[]
 |n+1,r=>ob (rws M g n) false (stp M r false)++ob (rws M g n) true (stp M r true)
theorem ob_len {f:Nat->List (List Bool)} {h:Nat->Nat} (e:∀m,(f m).length=h m) {b:Bool} {o:Option Nat}:(ob f b o).length=ow h o:=by
 cases o with
 |none=>rfl
 |some m=>simp[ob,ow,e]
theorem rws_len {M:List Rm} {g:Option Nat}:∀{n r:Nat},(rws M g n r).length=wy M g n r
 |0,r=>by unfold rws wy;split<;>rfl
 |n+1,r=>by
  unfold rws wy
  rw[List.length_append,ob_len fun m=>rws_len,ob_len fun m=>rws_len]
theorem rws_each {M:List Rm} {g:Option Nat}:∀{n r:Nat} {x:List Bool},x∈rws M g n r->x.length=n
 |0,r,x,h=>by
  unfold rws at h
  split at h
  .simp at h;subst h;rfl
  .cases h
 |n+1,r,x,h=>by
  unfold rws at h
  have key:∀b o,x∈ob (rws M g n) b o->x.length=n+1:=by
   intro b o hx
   cases o with
   |none=>cases hx
   |some m=>
    obtain⟨y,hy,rfl⟩:=List.mem_map.mp hx
    rw[List.length_cons,rws_each hy]
  rcases List.mem_append.mp h with h|h
  .exact key _ _ h
  .exact key _ _ h
noncomputable def rV (x:List Bool):V:=.str (tx x)
def Tbs (H:Hp) (l:Addr) (M:List Rm) (g:Option Nat) (n:Nat):Prop:=∃vs,H l=some (.lst vs)/\All2 (fun v k=>∃e,v=V.ref e/\H e=some (.lst ((wyL M g k).map V.int))) vs (List.range (n+1))
theorem Tbs.mono {H H':Hp} {l:Addr} {M:List Rm} {g:Option Nat} {n:Nat} (t:Tbs H l M g n) (s:Same H H'):Tbs H' l M g n:=by
 obtain⟨vs,h,a⟩:=t
 exact⟨vs,s _ _ h,a.mono fun v k ⟨e,h1,h2⟩=>⟨e,h1,s _ _ h2⟩⟩
theorem Tbs.at {K:W.Frag} {H:Hp} {l:Addr} {M:List Rm} {g:Option Nat} {n k:Nat} {Q:VK} (t:Tbs H l M g n) (hk:k<=n) (q:∀e,H e=some (.lst ((wyL M g k).map V.int))->Q (.ref e) H):rIxL K (.ref l) (.int k) H Q\/rIxT K (.ref l) (.int k) H Q:=by
 obtain⟨vs,h,a⟩:=t
 obtain⟨v,hv,e,rfl,he⟩:=a.get (i:=k) (b:=k) (by rw[List.getElem?_range (by omega)])
 exact at_ixL (SqL.of h) (atI_nat hv) (q e he)
theorem at_wy {K:W.Frag} {H:Hp} {e:Addr} {M:List Rm} {g:Option Nat} {k r:Nat} {Q:VK} (h:H e=some (.lst ((wyL M g k).map V.int))) (hr:r<M.length) (q:Q (.int (wy M g k r)) H):rIxL K (.ref e) (.int r) H Q\/rIxT K (.ref e) (.int r) H Q:=by
 refine at_ixL (SqL.of h) (v:=.int (wy M g k r)) (atI_nat ?_) q
 rw[List.getElem?_map]
 unfold wyL
 rw[List.getElem?_map,List.getElem?_range hr]
 rfl
noncomputable def od (f:Nat->Int):Option Nat->Int
 |none=>0
 |some m=>f m
noncomputable def ext (M:List Rm) (g:Option Nat) (k:Nat) (w:List Bool×Nat):List (List Bool):=(rws M g k w.2).map (w.1++·)
end RW
namespace NR
open PySem PySem.Spec PyProof.Rows L2 R3 LW SR RW
noncomputable def c_p_row_left:Css:=(.cons (.asg (.name 4) (.lst .nil))
  (.cons (.asg (.name 5) (.var 2))
  (.cons (.asg (.name 6) (.var 3))
  (.cons (.for_ (.name 7) (.rev (.cut (.var 1) .none (.some (.neg (.int 1))))) (.cons (.asg (.name 8) (.call "behind_bit" (.cons (.var 0) (.cons (.var 7) (.cons (.var 5) (.cons (.str "0") .nil))))))
  (.cons (.asg (.name 9) (.ife (.cmp .Lt (.var 6) (.var 8)) (.int 0) (.int 1)))
  (.cons (.ite (.cmp .Eq (.var 9) (.int 1)) (.cons (.aug 6 true (.var 8))
  .nil) .nil)
  (.cons (.expr (.met .append (.var 4) (.cons (.blt .str (.cons (.var 9) .nil)) .nil)))
  (.cons (.asg (.name 5) (.idx (.idx (.var 0) (.var 5)) (.var 9)))
  .nil))))))
  (.cons (.ret (.met .join (.str "") (.cons (.var 4) .nil)))
  .nil)))))
noncomputable def kChn (C:Rc) (n:Int) (Qb:Bool->Hp->Prop):VK:=fun w' H4=>rCmp C.K .Lt (.int n) w' H4 fun x H'=>∃k,x=.bl k/\Qb k H'
theorem kChn_at {C:Rc} {H:Hp} {Qb:Bool->Hp->Prop} {n m:Int} (q:Qb (decide (n<m)) H):kChn C n Qb (.int m) H:=⟨n,m,rfl,rfl,_,rfl,q⟩
theorem tQ_chn {C:Rc} {σ:L2.St} {H:Hp} {Qb:Bool->Hp->Prop} {c:Ce} {j:Nat} {a n:Int} (hσ:σ[j]?=some (some (.int n))) (h:a<=n) (q:tE C c σ H (kChn C n Qb)):tQ C (.chn .LtE .Lt (.int a) (.var j) c) σ H Qb:=by
 show tTest (tChain (rCmp C.K .LtE) (rCmp C.K .Lt) (tE C (.int a)) (tE C (.var j)) (tE C c)) σ H Qb
 unfold tTest tChain
 simp only[tE_int,tE_var,hσ,kV_some]
 refine⟨a,n,rfl,rfl,true,?_,?_⟩
 .show V.bl (decide (a<=n))=_
  rw[decide_eq_true h]
 .rw[if_pos rfl]
  exact q
theorem cut_but {xs:List V} {n:Nat}:cutV xs none (some (-(n:Int)-1))=xs.take (xs.length-n-1):=by
 unfold cutV HT.sIx
 dsimp only
 rw[if_pos (by omega)]
 simp
 congr 1
 omega
theorem cut_but1 {xs:List V}:cutV xs none (some (-1))=xs.take (xs.length-1):=by
 have:=cut_but (xs:=xs) (n:=0)
 simpa using this
theorem ob_get {f:Nat->List (List Bool)} {b:Bool} {m k:Nat} {x:List Bool} (h:(f m)[k]?=some x):(ob f b (some m))[k]?=some (b :: x):=by
 show((f m).map (b :: ·))[k]?=_
 rw[List.getElem?_map,h]
 rfl
def Way (M:List Rm) (g:Option Nat) (n r k:Nat) (bs:List Bool) (i r' k':Nat):Prop:=bs.length=i/\i<=n/\r'<M.length/\k'<wy M g (n-i) r'/\∀x,(rws M g (n-i) r')[k']?=some x->(rws M g n r)[k]?=some (bs++x)
theorem way_step {M:List Rm} (hM:OkM M) {g:Option Nat} {n r k:Nat} {bs:List Bool} {i r' k':Nat} (w:Way M g n r k bs i r' k') (hi:i<n):∃c r2 k2,LW.stp M r' c=some r2/\c=!decide (k'<ow (wy M g (n-(i+1))) (LW.stp M r' false))/\k2=(if c then k'-ow (wy M g (n-(i+1))) (LW.stp M r' false)else k')/\Way M g n r k (bs++[c]) (i+1) r2 k2:=by
 obtain⟨h1,h2,h3,h4,h5⟩:=w
 obtain⟨m,hm⟩:∃m,n-i=m+1:=⟨n-i-1,by omega⟩
 have hm2:n-(i+1)=m:=by omega
 rw[hm]at h4 h5
 rw[hm2]
 have h4':k'<ow (wy M g m) (LW.stp M r' false)+ow (wy M g m) (LW.stp M r' true):=h4
 by_cases hc:k'<ow (wy M g m) (LW.stp M r' false)
 .cases e:LW.stp M r' false with
  |none=>rw[e]at hc;exact absurd hc (Nat.not_lt_zero _)
  |some r2=>
   rw[e]at hc
   refine⟨false,r2,k',e,by rw[decide_eq_true hc];rfl,rfl,by simp[h1],by omega,stp_lt hM e,by rw[hm2];exact hc,fun x hx=>?_⟩
   rw[hm2]at hx
   have:=h5 (false :: x) (by
    unfold rws
    rw[e,List.getElem?_append_left (by rw[ob_len fun m=>rws_len];exact hc)]
    exact ob_get hx)
   rw[this]
   simp
 .have hc2:k'-ow (wy M g m) (LW.stp M r' false)<ow (wy M g m) (LW.stp M r' true):=by omega
  cases e:LW.stp M r' true with
  |none=>rw[e]at hc2;exact absurd hc2 (Nat.not_lt_zero _)
  |some r2=>
   rw[e]at hc2
   refine⟨true,r2,k'-ow (wy M g m) (LW.stp M r' false),e,by rw[decide_eq_false hc];rfl,rfl,by simp[h1],by omega,stp_lt hM e,by rw[hm2];exact hc2,fun x hx=>?_⟩
   rw[hm2]at hx
   have hl:(ob (rws M g m) false (LW.stp M r' false)).length=ow (wy M g m) (LW.stp M r' false):=ob_len fun m=>rws_len
   have:=h5 (true :: x) (by
    unfold rws
    rw[List.getElem?_append_right (by rw[hl];omega),hl,e]
    exact ob_get hx)
   rw[this]
   simp
def spRowLeft (K:W.Frag):Sp:=fun vs H Q _=>∃(a l:Addr) (M:List Rm) (g:Option Nat) (n r k:Nat),vs=[.ref a,.ref l,.int r,.int k]/\IsM H a M/\OkM M/\M.length<=500/\Tbs H l M g n/\n<=900/\r<M.length/\k<wy M g n r/\∀(row:List Bool) (H':Hp),Same H H'->(rws M g n r)[k]?=some row->Q (.str (tx row)) H'
theorem body_row_left {C:Rc} (hN:C.N.length=10) (hB:C.fs "behind_bit"=some (spBehind C.K)):∀vs H Q E,spRowLeft C.K vs H Q E->tSs C c_p_row_left { nx:=fun _ H'=>Q .non H',rt:=Q } (L2.start C.N vs) H:=by
 intro vs H Q E h
 obtain⟨a,l,M,g,n,r,k,rfl,hM,hO,hM5,hT,hn,hr,hk,q⟩:=h
 rw[start_eq hN]
 unfold c_p_row_left
 walk_at "y"
 refine⟨by decide,fun b hb=>?_⟩
 have s1:=same_new hb (.lst [])
 have hb1:upd H b (.lst []) b=some (.lst (ones [])):=upd_same
 generalize upd H b (.lst [])=H1 at s1 hb1 ⊢
 obtain⟨vs,hl,hA⟩:=hT.mono s1
 have hvl:=hA.len
 rw[List.length_range]at hvl
 walk_at "y"
 refine at_cutL (SqL.of hl) fun c hc=>?_
 rw[cut_but1,hvl,Nat.add_sub_cancel]
 have s2:=same_new hc (.lst (vs.take n))
 have hc2:upd H1 c (.lst (vs.take n)) c=some (.lst (vs.take n)):=upd_same
 have hbc:b≠c:=fun e=>by subst e;rw[hb1]at hc;cases hc
 generalize upd H1 c (.lst (vs.take n))=H2 at s2 hc2 ⊢
 have hlt:(vs.take n).length=n:=by rw[List.length_take];omega
 refine at_rvL (SqL.of hc2) (for_lr (xs:=vs.take n) (fun i σ H'=>Same H H'/\H' c=some (.lst (vs.take n))/\(∀d o,H1 d=some o->d≠b->H' d=some o)/\∃(bs:List Bool) (r' k':Nat) (x7 x8 x9:Option V),σ=[some (.ref a),some (.ref l),some (.int r),some (.int k),some (.ref b),some (.int r'),some (.int k'),x7,x8,x9]/\H' b=some (.lst (ones bs))/\Way M g n r k bs i r' k') ⟨s1.trans s2,hc2,(fun d o hd _=>s2 _ _ hd),[],r,k,none,none,none,rfl,s2 _ _ hb1,rfl,by omega,hr,hk,fun x hx=>hx⟩ (fun i σ H' _ pv=>SqL.of pv.2.1) ?_ ?_)
 .rintro i x σ H3 hi hx ⟨s3,hc3,hk3,bs,r',k',x7,x8,x9,rfl,hb3,w⟩
  rw[hlt]at hi hx
  have hi2:n-1-i<n:=by omega
  rw[List.getElem?_take_of_lt hi2]at hx
  obtain⟨k2,ek,e,rfl,he⟩:=hA.getL hx
  rw[List.getElem?_range (by omega)]at ek
  cases ek
  have heb:e≠b:=fun z=>by
   subst z
   rw[hb1]at he
   have h0:=Option.some.inj he
   injection h0 with h0
   have:=congrArg List.length h0
   simp[ones,wyL]at this
   omega
  have he3:=hk3 _ _ he heb
  obtain⟨cc,r2,k2,e1,e2,e3,w2⟩:=way_step hO w hi
  rw[show n-1-i=n-(i+1) by omega]at he3
  walk_at "y"
  refine call_e hB ?_
  walk_at "y"
  refine⟨a,e,M,r',false,wyL M g (n-(i+1)),rfl,hM.mono (tp_same s3),hO,w.2.2.1,SqL.of he3,wyL_len,?_⟩
  rw[oi_wy hO]
  walk_at "y"
  have ed:decide ((k':Int)<((ow (wy M g (n-(i+1))) (LW.stp M r' false):Nat):Int))=!cc:=by
   rw[e2,Bool.not_not]
   exact decide_eq_decide.mpr ⟨fun z=>by omega,fun z=>by omega⟩
  rw[ed]
  cases cc with
  |true=>
   have hle:ow (wy M g (n-(i+1))) (LW.stp M r' false)<=k':=by
    have:=e2.symm
    rw[Bool.not_eq_true',decide_eq_false_iff_not]at this
    omega
   walk_at "y"
   rw[s_aug (a:=(k':Int)) rfl]
   walk_at "y"
   simp only[if_true]
   rw[show(k':Int)-((ow (wy M g (n-(i+1))) (LW.stp M r' false):Nat):Int)=(k2:Int) by rw[if_pos rfl]at e3;omega]
   walk_at "y"
   refine⟨tyL hb3 rfl,at_str01 (b:=true) ?_⟩
   walk_at "y"
   refine at_app hb3 (by rw[ones_len,w.1];exact small1000 (by omega)) ?_
   rw[ones_snoc]
   have hM4:IsM (upd H3 b (.lst (ones (bs++[true])))) a M:=(hM.mono (tp_same s3)).mono (tp_lst hb3 _)
   walk_at "y"
   refine lead_at (c:=true) hM4 w.2.2.1 fun p hp=>?_
   walk_at "y"
   refine hp _ ?_
   rw[e1]
   simp only[oV]
   walk_at "y"
   refine⟨same_updF s3 hb,by rw[upd_ne (Ne.symm hbc)];exact hc3,(fun d o hd hdb=>by rw[upd_ne hdb];exact hk3 d o hd hdb),_,r2,k2,_,_,_,rfl,upd_same,w2⟩
  |false=>
   have ek2:k2=k':=e3
   subst ek2
   walk_at "y"
   rw[show decide ((0:Int)=1)=false from rfl]
   walk_at "y"
   refine⟨tyL hb3 rfl,at_str01 (b:=false) ?_⟩
   walk_at "y"
   refine at_app hb3 (by rw[ones_len,w.1];exact small1000 (by omega)) ?_
   rw[ones_snoc]
   have hM4:IsM (upd H3 b (.lst (ones (bs++[false])))) a M:=(hM.mono (tp_same s3)).mono (tp_lst hb3 _)
   walk_at "y"
   refine lead_at (c:=false) hM4 w.2.2.1 fun p hp=>?_
   walk_at "y"
   refine hp _ ?_
   rw[e1]
   simp only[oV]
   walk_at "y"
   refine⟨same_updF s3 hb,by rw[upd_ne (Ne.symm hbc)];exact hc3,(fun d o hd hdb=>by rw[upd_ne hdb];exact hk3 d o hd hdb),_,r2,k2,_,_,_,rfl,upd_same,w2⟩
 .rintro σ H3 ⟨s3,hc3,hk3,bs,r',k',x7,x8,x9,rfl,hb3,w⟩
  rw[hlt]at w
  obtain⟨w1,w2,w3,w4,w5⟩:=w
  rw[Nat.sub_self]at w4 w5
  obtain⟨x,hx⟩:∃x,(rws M g 0 r')[k']?=some x:=⟨_,List.getElem?_eq_getElem (by rw[rws_len];exact w4)⟩
  have hxl:=rws_each (List.mem_of_getElem? hx)
  have ex:x=[]:=List.length_eq_zero_iff.mp hxl
  subst ex
  have:=w5 _ hx
  rw[List.append_nil]at this
  walk_at "y"
  refine⟨rfl,at_joinO (SqL.of hb3) (by omega) ?_⟩
  exact q bs H3 s3 this
theorem tbs_of {H H':Hp} {l:Addr} {vs:List V} {M:List Rm} {g:Option Nat} {n:Nat} (hl:H' l=some (.lst vs)) (hA:All2 (fun v k=>∃e,v=V.ref e/\e≠l/\H e=none/\H' e=some (.lst ((wyL M g k).map V.int))) vs (List.range (n+1))):Tbs H' l M g n:=⟨vs,hl,hA.mono fun v k ⟨e,h1,_,_,h4⟩=>⟨e,h1,h4⟩⟩
noncomputable def gtB:List Bool->List Bool->Bool
 |a :: as,b :: bs=>(a&&!b) || (a == b&&gtB as bs)
 |_ :: _,[]=>true
 | [],_=>false
theorem gt_irr:∀{x:List Bool},gtB x x=false
 | []=>rfl
 |a :: x=>by
  show((a&&!a) || (a == a&&gtB x x))=false
  rw[gt_irr (x:=x)]
  cases a<;>rfl
theorem rws_up {M:List Rm} {g:Option Nat}:∀{n r:Nat},(rws M g n r).Pairwise fun x y=>gtB y x=true
 |0,r=>by
  unfold rws
  split<;>simp
 |n+1,r=>by
  unfold rws
  rw[List.pairwise_append]
  have one:∀c,(ob (rws M g n) c (LW.stp M r c)).Pairwise fun x y=>gtB y x=true:=by
   intro c
   cases LW.stp M r c with
   |none=>exact List.Pairwise.nil
   |some m=>
    show((rws M g n m).map (c :: ·)).Pairwise _
    rw[List.pairwise_map]
    refine(rws_up (n:=n) (r:=m)).imp fun {x y} h=>?_
    show((c&&!c) || (c == c&&gtB y x))=true
    rw[h]
    cases c<;>rfl
  have hd:∀c x,x∈ob (rws M g n) c (LW.stp M r c)->∃z,x=c :: z:=by
   intro c x h
   cases e:LW.stp M r c with
   |none=>rw[e]at h;cases h
   |some m=>
    rw[e]at h
    obtain⟨z,_,rfl⟩:=List.mem_map.mp h
    exact⟨z,rfl⟩
  refine⟨one false,one true,fun x hx y hy=>?_⟩
  obtain⟨z,rfl⟩:=hd _ _ hx
  obtain⟨z',rfl⟩:=hd _ _ hy
  rfl
noncomputable def nxt (M:List Rm) (g:Option Nat) (r:Nat) (row:List Bool):Option (List Bool):=((rws M g row.length r).filter fun y=>gtB y row).head?
noncomputable def oT:Option Nat->V:=oV
noncomputable def oR:Option (List Bool)->V
 |none=>.non
 |some x=>rV x
end NR
namespace XR
open PySem PySem.Spec PyProof.Rows L2 R3 LW SR RW NR
noncomputable def c_p_row_atX:Css:=(.cons (.asg (.name 5) (.call "ways" (.cons (.var 0) (.cons (.var 2) (.cons (.var 3) .nil)))))
  (.cons (.ite (.not (.chn .LtE .Lt (.int 0) (.var 4) (.idx (.idx (.var 5) (.var 3)) (.var 1)))) (.cons (.rse "NoNumber")
  .nil) .nil)
  (.cons (.ret (.call "row_left" (.cons (.var 0) (.cons (.var 5) (.cons (.var 1) (.cons (.var 4) .nil))))))
  .nil)))
theorem tQ_chn_f {C:Rc} {σ:L2.St} {H:Hp} {Qb:Bool->Hp->Prop} {c:Ce} {j:Nat} {a n:Int} (hσ:σ[j]?=some (some (.int n))) (h:¬a<=n) (q:Qb false H):tQ C (.chn .LtE .Lt (.int a) (.var j) c) σ H Qb:=by
 show tTest (tChain (rCmp C.K .LtE) (rCmp C.K .Lt) (tE C (.int a)) (tE C (.var j)) (tE C c)) σ H Qb
 unfold tTest tChain
 simp only[tE_int,tE_var,hσ,kV_some]
 refine⟨a,n,rfl,rfl,false,?_,?_⟩
 .show V.bl (decide (a<=n))=_
  rw[decide_eq_false h]
 .rw[if_neg (by decide)]
  exact⟨false,rfl,q⟩
def spRowAtX:Sp:=fun vs H Q E=>∃(a:Addr) (M:List Rm) (g:Option Nat) (n r:Nat) (k:Int),vs=[.ref a,.int r,oV g,.int n,.int k]/\IsM H a M/\OkM M/\M.length<=500/\n<=900/\r<M.length/\
 (∀(row:List Bool) (H':Hp),Same H H'->0<=k->(rws M g n r)[k.toNat]?=some row->Q (.str (tx row)) H')/\∀H',Same H H'->(k<0\/(wy M g n r:Int)<=k)->E (.str "NoNumber" 0) none H'
theorem body_row_atX {C:Rc} {Ca:Addr} (hN:C.N.length=6) (hW:C.fs "ways"=some (spWays C.K)) (hL:C.fs "row_left"=some (spRowLeft C.K)) {L:List Str} (G:ClsG C "NoNumber" Ca L):∀vs H Q E,spRowAtX vs H Q E->tSs { C with xk:=fun _=>E } c_p_row_atX { nx:=fun _ H'=>Q .non H',rt:=Q } (L2.start C.N vs) H:=by
 intro vs H Q E h
 obtain⟨a,M,g,n,r,k,rfl,hM,hO,hM5,hn,hr,q,qx⟩:=h
 rw[start_eq hN]
 unfold c_p_row_atX
 generalize hC:({ C with xk:=fun _=>E }:Rc)=C'
 have hW':C'.fs "ways"=some (spWays C'.K):=by rw[<- hC];exact hW
 have hL':C'.fs "row_left"=some (spRowLeft C'.K):=by rw[<- hC];exact hL
 have G':ClsG C' "NoNumber" Ca L:=by rw[<- hC];exact G.of rfl rfl
 have hE:∀σ,C'.xk σ=E:=fun σ=>by rw[<- hC]
 walk_at "y"
 refine call_e hW' ?_
 walk_at "y"
 refine⟨a,M,g,n,rfl,hM,hO,hM5,hn,fun l vs' H1 hl s1 hl1 hA=>?_⟩
 have hT:=tbs_of hl1 hA
 walk_at "y"
 by_cases h0:0<=k
 .refine tQ_chn rfl h0 ?_
  walk_at "y"
  refine hT.at (Nat.le_refl _) fun e he=>?_
  walk_at "y"
  refine at_wy he hr (kChn_at ?_)
  refine by_dec (F:=fun b H=>kNotQ _ b H) (fun hlt=>?_) fun hlt=>?_
  .walk_at "y"
   refine call_e hL' ?_
   walk_at "y"
   refine⟨a,l,M,g,n,r,k.toNat,by rw[Int.toNat_of_nonneg h0],hM.mono (tp_same s1),hO,hM5,hT,hn,hr,by omega,fun row H2 s2 hrow=>q row H2 (s1.trans s2) h0 hrow⟩
  .walk_at "y"
   refine G'.rse ?_
   rw[hE]
   exact qx H1 s1 (.inr (by omega))
 .refine tQ_chn_f rfl h0 ?_
  walk_at "y"
  refine G'.rse ?_
  rw[hE]
  exact qx H1 s1 (.inl (by omega))
end XR
namespace NM
open PySem PySem.Spec PyProof.Rows L2 R3 LW SR RW NR
noncomputable def c_p_number_left:Css:=(.cons (.asg (.name 4) (.int 0))
  (.cons (.asg (.name 5) (.var 2))
  (.cons (.for_ (.tup (.cons (.name 6) (.cons (.name 7) .nil))) (.enum (.var 3)) (.cons (.ite (.cmp .Eq (.var 7) (.str "1")) (.cons (.aug 4 false (.call "behind_bit" (.cons (.var 0) (.cons (.idx (.var 1) (.bin .Sub (.bin .Sub (.blt .len (.cons (.var 3) .nil)) (.var 6)) (.int 1))) (.cons (.var 5) (.cons (.str "0") .nil))))))
  .nil) .nil)
  (.cons (.asg (.name 5) (.idx (.idx (.var 0) (.var 5)) (.blt .int (.cons (.var 7) .nil))))
  .nil)))
  (.cons (.ret (.var 4))
  .nil))))
noncomputable def c_p_number_of:Css:=(.cons (.asg (.name 4) (.call "walk" (.cons (.var 0) (.cons (.var 1) (.cons (.var 3) .nil)))))
  (.cons (.ite (.or (.cmp .Is (.var 4) .non) (.cmp .NotIn (.var 2) (.tup (.cons .non (.cons (.var 4) .nil))))) (.cons .raise_
  .nil) .nil)
  (.cons (.ret (.call "number_left" (.cons (.var 0) (.cons (.call "ways" (.cons (.var 0) (.cons (.var 2) (.cons (.blt .len (.cons (.var 3) .nil)) .nil)))) (.cons (.var 1) (.cons (.var 3) .nil))))))
  .nil)))
def Ah (M:List Rm) (g:Option Nat) (n r:Nat) (row:List Bool) (i h k:Nat):Prop:=wk M (some r) (row.take i)=some h/\∀j y,(rws M g (n-i) h)[j]?=some y->(rws M g n r)[k+j]?=some (row.take i++y)
theorem ah_step {M:List Rm} {g:Option Nat} {n r:Nat} {row:List Bool} {i h k h':Nat} {c:Bool} (a:Ah M g n r row i h k) (hi:i<n) (hc:row[i]?=some c) (hs:LW.stp M h c=some h'):Ah M g n r row (i+1) h' (if c then k+ow (wy M g (n-(i+1))) (LW.stp M h false)else k):=by
 obtain⟨a1,a2⟩:=a
 have hw:=wk_succ (M:=M) (o:=some r) hc
 rw[a1]at hw
 refine⟨by rw[hw];exact hs,fun j y hy=>?_⟩
 obtain⟨m,hm⟩:∃m,n-i=m+1:=⟨n-i-1,by omega⟩
 have hm2:n-(i+1)=m:=by omega
 rw[hm]at a2
 rw[hm2]at hy ⊢
 have et:row.take (i+1)=row.take i++[c]:=by rw[List.take_succ,hc];rfl
 have hl:(ob (rws M g m) false (LW.stp M h false)).length=ow (wy M g m) (LW.stp M h false):=ob_len fun m=>rws_len
 rw[et]
 cases c with
 |false=>
  have:=a2 j (false :: y) (by
   unfold rws
   have hj:j<(ob (rws M g m) false (LW.stp M h false)).length:=by
    rw[hs]
    show j<((rws M g m h').map _).length
    rw[List.length_map]
    exact lt_of_get hy
   rw[List.getElem?_append_left hj,hs]
   exact ob_get hy)
  rw[if_neg (by decide),this]
  simp
 |true=>
  have:=a2 (ow (wy M g m) (LW.stp M h false)+j) (true :: y) (by
   unfold rws
   rw[List.getElem?_append_right (by rw[hl];omega),hl,hs,Nat.add_sub_cancel_left]
   exact ob_get hy)
  rw[if_pos rfl,Nat.add_assoc,this]
  simp
theorem wk_pre {M:List Rm} {o:Option Nat} {row:List Bool} {e i:Nat} (h:wk M o row=some e):∃m,wk M o (row.take i)=some m:=by
 cases q:wk M o (row.take i)with
 |none=>rw[wk_cut q]at h;cases h
 |some m=>exact⟨m,rfl⟩
def spNumLeft (K:W.Frag):Sp:=fun vs H Q _=>∃(a l:Addr) (M:List Rm) (g:Option Nat) (r e:Nat) (row:List Bool),vs=[.ref a,.ref l,.int r,.str (tx row)]/\IsM H a M/\OkM M/\M.length<=500/\Tbs H l M g row.length/\row.length<=900/\r<M.length/\wk M (some r) row=some e/\(g=none\/g=some e)/\∀(k:Nat) (H':Hp),Same H H'->(rws M g row.length r)[k]?=some row->Q (.int k) H'
theorem body_number_left {C:Rc} (hN:C.N.length=8) (hB:C.fs "behind_bit"=some (spBehind C.K)):∀vs H Q E,spNumLeft C.K vs H Q E->tSs C c_p_number_left { nx:=fun _ H'=>Q .non H',rt:=Q } (L2.start C.N vs) H:=by
 intro vs H Q E h
 obtain⟨a,l,M,g,r,e,row,rfl,hM,hO,hM5,hT,hn,hr,hwe,hg,q⟩:=h
 rw[start_eq hN]
 unfold c_p_number_left
 have hz:row.length<=sizeLine:=Nat.le_of_lt (small1000 (by omega))
 walk_at "y"
 refine at_enS (for_etx (l:=row) (fun i σ H'=>Same H H'/\∃(h k:Nat) (x6 x7:Option V),σ=[some (.ref a),some (.ref l),some (.int r),some (.str (tx row)),some (.int k),some (.int h),x6,x7]/\Ah M g row.length r row i h k) ⟨Same.refl _,r,0,none,none,rfl,rfl,fun j y hy=>by rw[Nat.zero_add];exact hy⟩ ?_ ?_)
 .rintro i c σ H2 p hc hp ⟨s2,h,k,x6,x7,rfl,ah⟩
  have hi:i<row.length:=lt_of_get hc
  refine g_tup2 (SqT.of upd_same) ?_
  have s3:=s2.trans (same_new hp (.tup [.int i,.str (tx [c])]))
  generalize upd H2 p (.tup [.int i,.str (tx [c])])=H3 at s3 ⊢
  have hh:h<M.length:=wk_lt hO (fun m hm=>by cases hm;exact hr) ah.1
  have hM3:=hM.mono (tp_same s3)
  obtain⟨h',eh'⟩:∃h',LW.stp M h c=some h':=by
   obtain⟨m,hm⟩:=wk_pre (i:=i+1) hwe
   rw[wk_succ hc,ah.1]at hm
   exact⟨m,hm⟩
  have ah2:=ah_step ah hi hc eh'
  cases c with
  |false=>
   walk_at "y"
   refine lead_at (c:=false) hM3 hh fun p' hp'=>?_
   walk_at "y"
   refine hp' _ ?_
   rw[eh']
   simp only[oV]
   walk_at "y"
   exact⟨s3,h',k,_,_,rfl,ah2⟩
  |true=>
   walk_at "y"
   rw[s_aug (a:=(k:Int)) rfl]
   refine call_e hB ?_
   walk_at "y"
   refine⟨hz,?_⟩
   rw[show(row.length:Int)-i-1=((row.length-(i+1):Nat):Int) by omega]
   refine(hT.mono s3).at (by omega) fun e he=>?_
   walk_at "y"
   refine⟨a,e,M,h,false,wyL M g (row.length-(i+1)),rfl,hM3,hO,hh,SqL.of he,wyL_len,?_⟩
   rw[oi_wy hO]
   walk_at "y"
   refine lead_at (c:=true) hM3 hh fun p' hp'=>?_
   walk_at "y"
   refine hp' _ ?_
   rw[eh']
   simp only[oV]
   walk_at "y"
   simp only[if_false]
   rw[<- Int.natCast_add]
   exact⟨s3,h',k+ow (wy M g (row.length-(i+1))) (LW.stp M h false),_,_,rfl,ah2⟩
 .rintro σ H2 ⟨s2,h,k,x6,x7,rfl,ah⟩
  obtain⟨a1,a2⟩:=ah
  rw[List.take_length,hwe]at a1
  cases a1
  rw[Nat.sub_self]at a2
  have:=a2 0 [] (by
   unfold rws
   rw[if_pos hg]
   rfl)
  rw[List.take_length,List.append_nil]at this
  walk_at "y"
  exact q k H2 s2 this
theorem goal_in {g:Option Nat} {e:Nat} (h:g=none\/g=some e):inV (oV g) [V.non,V.int e]=true:=by
 rcases h with rfl|rfl
 .rfl
 .show([V.non,V.int e].any fun y=>eqV y (V.int e))=true
  simp[eqV]
theorem at_notin {K:W.Frag} {H:Hp} {Q:VK} {x:V} {p:Addr} {xs:List V} (h:SqT K H p xs) (h1:flatV x=true) (h2:xs.all flatV=true) (h3:inV x xs=true) (q:Q (.bl false) H):rCmp K .NotIn x (.ref p) H Q:=by
 refine⟨p,xs,rfl,.inr h,h1,h2,?_⟩
 rw[if_pos rfl,h3]
 exact q
def spNumOf:Sp:=fun vs H Q _=>∃(a:Addr) (M:List Rm) (g:Option Nat) (r e:Nat) (row:List Bool),vs=[.ref a,.int r,oV g,.str (tx row)]/\IsM H a M/\OkM M/\M.length<=500/\row.length<=900/\r<M.length/\wk M (some r) row=some e/\(g=none\/g=some e)/\∀(k:Nat) (H':Hp),Same H H'->(rws M g row.length r)[k]?=some row->Q (.int k) H'
theorem body_number_of {C:Rc} (hN:C.N.length=5) (hW:C.fs "walk"=some spWalk) (hWs:C.fs "ways"=some (spWays C.K)) (hL:C.fs "number_left"=some (spNumLeft C.K)):∀vs H Q E,spNumOf vs H Q E->tSs C c_p_number_of { nx:=fun _ H'=>Q .non H',rt:=Q } (L2.start C.N vs) H:=by
 intro vs H Q E h
 obtain⟨a,M,g,r,e,row,rfl,hM,hO,hM5,hn,hr,hwe,hg,q⟩:=h
 rw[start_eq hN]
 unfold c_p_number_of
 have hz:row.length<=sizeLine:=Nat.le_of_lt (small1000 (by omega))
 walk_at "y"
 refine call_e hW ?_
 walk_at "y"
 refine⟨a,M,r,row,rfl,hM,hO,hr,?_⟩
 rw[hwe]
 simp only[oV]
 walk_at "y"
 refine⟨by decide,fun p hp=>?_⟩
 have s1:=same_new hp (.tup [V.non,V.int e])
 have hp1:upd H p (.tup [V.non,V.int e]) p=some (.tup [V.non,V.int e]):=upd_same
 generalize upd H p (.tup [V.non,V.int e])=H1 at s1 hp1 ⊢
 walk_at "y"
 refine at_notin (SqT.of hp1) (by cases g<;>rfl) rfl (goal_in hg) ?_
 walk_at "y"
 refine call_e hL ?_
 walk_at "y"
 refine call_e hWs ?_
 walk_at "y"
 refine⟨hz,a,M,g,row.length,rfl,hM.mono (tp_same s1),hO,hM5,hn,fun l vs' H2 hl s2 hl2 hA=>?_⟩
 have hT:=tbs_of hl2 hA
 walk_at "y"
 exact⟨a,l,M,g,r,e,row,rfl,hM.mono (tp_same (s1.trans s2)),hO,hM5,hT,hn,hr,hwe,hg,fun k H3 s3 hk=>q k H3 (s1.trans (s2.trans s3)) hk⟩
end NM
namespace GR
open PySem PySem.Spec PyProof.Rows L2 R3 LW SR RW
noncomputable def gw (M:List Rm):Nat->Nat->Nat
 |0,_=>1
 |s+1,r=>gw M s r+(ow (gw M s) (LW.stp M r false)+ow (gw M s) (LW.stp M r true))
noncomputable def tw (M:List Rm) (s r:Nat):Nat:=ow (gw M s) (LW.stp M r false)+ow (gw M s) (LW.stp M r true)
noncomputable def fp (M:List Rm) (s r:Nat):Nat:=tw M s r / Nat.gcd (tw M s r) (gw M s r)
end GR
namespace K24
open PySem PySem.Spec PyProof.Rows L2 R3 LW
open RW NR NM
theorem rws_inj {M:List Rm} {g:Option Nat} {n r k k':Nat} {row:List Bool} (h:(rws M g n r)[k]?=some row) (h':(rws M g n r)[k']?=some row):k=k':=by
 have up:=List.pairwise_iff_getElem.mp (rws_up (M:=M) (g:=g) (n:=n) (r:=r))
 obtain⟨hk,e⟩:=List.getElem?_eq_some_iff.mp h
 obtain⟨hk',e'⟩:=List.getElem?_eq_some_iff.mp h'
 rcases Nat.lt_trichotomy k k' with z|z|z
 .have:=up k k' hk hk' z
  rw[e,e',gt_irr]at this
  cases this
 .exact z
 .have:=up k' k hk' hk z
  rw[e,e',gt_irr]at this
  cases this
set_option tactic.hygienic true in
theorem rws_wk {M:List Rm} {g:Option Nat}:∀{n r:Nat} {row:List Bool},row∈rws M g n r->∃e,wk M (some r) row=some e/\(g=none\/g=some e)
 |0,r,row,h=>by
  unfold rws at h
  split at h
  .rename_i hg
   have:row=[]:=by simpa using h
   subst this
   exact⟨r,rfl,hg⟩
  .cases h
 |n+1,r,row,h=>by
  unfold rws at h
  rcases List.mem_append.mp h with h|h
  .cases e:stp M r false with
   |none=>rw[e]at h;cases h
   |some m=>
    rw[e]at h
    obtain⟨x,hx,rfl⟩:=List.mem_map.mp h
    obtain⟨z,h1,h2⟩:=rws_wk hx
    refine⟨z,?_,h2⟩
    show wk M ((some r).bind fun r=>stp M r false) x=_
    rw[Option.bind_some,e]
    exact h1
  .cases e:stp M r true with
   |none=>rw[e]at h;cases h
   |some m=>
    rw[e]at h
    obtain⟨x,hx,rfl⟩:=List.mem_map.mp h
    obtain⟨z,h1,h2⟩:=rws_wk hx
    refine⟨z,?_,h2⟩
    show wk M ((some r).bind fun r=>stp M r true) x=_
    rw[Option.bind_some,e]
    exact h1
def Told (H:Hp) (e:Addr) (M:List Rm) (g:Option Nat) (n r part:Nat):Prop:=
 (wy M g n r=0/\H e=some (.lst [.int 0]))\/∃(row:List Bool) (e2:Addr),0<wy M g n r/\(rws M g n r)[wy M g n r*part / 7]?=some row/\H e=some (.lst [.int (wy M g n r),.str (tx row),.int ((wy M g n r*part / 7:Nat):Int),oR (nxt M g r row),.ref e2])/\H e2=some (.lst ((rws M g (min n 5) r).map rV))
def spTold:Sp:=fun vs H Q _=>∃(a:Addr) (M:List Rm) (g:Option Nat) (n r part:Nat),vs=[.ref a,.int r,oV g,.int n,.int part]/\IsM H a M/\OkM M/\M.length<=500/\n<=100/\r<M.length/\part<7/\∀(e:Addr) (H':Hp),Same H H'->Told H' e M g n r part->Q (.ref e) H'
def spBent:Sp:=fun vs H Q _=>∃(b:Addr) (m:Nat) (a:Addr) (M:List Rm),vs=[.ref b,.ref a]/\H b=some (BoxO b m)/\m<=2 ^ 39/\IsM H a M/\OkM M/\1<=M.length/\M.length<=60/\∀(a':Addr) (M':List Rm) (H':Hp),Go 5 H H'->IsM H' a' M'->OkM M'->M'.length=M.length->Q (.ref a') H'
def spParted:Sp:=fun vs H Q _=>∃(a:Addr) (M:List Rm) (g:Option Nat) (n r part:Nat) (e:Addr),vs=[.ref a,.int r,oV g,.int n,.ref e]/\IsM H a M/\OkM M/\M.length<=500/\n<=100/\r<M.length/\part<7/\Told H e M g n r part/\∀H',Same H H'->Q (.bl true) H'
structure FsLaw (C:Rc):Prop where
 box:C.fs "_law_box"=some (spBox C.K)
 little:C.fs "_law_little"=some spLittle
 many:C.fs "_law_many"=some spMany
 take:C.fs "_law_take"=some spTake
 bent:C.fs "_law_bent"=some spBent
 told:C.fs "_law_told"=some spTold
 parted:C.fs "_law_parted"=some spParted
end K24
namespace BK
open PySem PySem.Spec PyProof.Rows L2 R3 LW SR
theorem nStep_mul {n m:Nat} (hm:0<m):nStep 0 ((n*m:Nat):Int) m=n:=by
 unfold nStep
 rcases Nat.eq_zero_or_pos n with rfl|hn
 .rw[Nat.zero_mul,if_neg (by omega)]
 .have hp:0<n*m:=Nat.mul_pos hn hm
  rw[if_pos (by omega)]
  have e:((n*m:Nat):Int)-0-1=((n*m-1:Nat):Int):=by omega
  have d:(n*m-1) / m=n-1:=by
   have h1:n*m=(n-1)*m+m:=by
    have:n=(n-1)+1:=by omega
    conv=>lhs;rw[this,Nat.add_mul,Nat.one_mul]
   apply Nat.div_eq_of_lt_le
   .omega
   .rw[Nat.add_mul,Nat.one_mul];omega
  rw[e,<- Int.natCast_ediv,d]
  omega
end BK
namespace K65
open PySem PySem.Spec PyProof.Rows L2 R3 LW
noncomputable def n_p_walk:List Str:=["machine","room","row","here","bit"]
noncomputable def b_p_walk:List Str:=["int"]
noncomputable def n_p_rooms_behind:List Str:=["machine","rooms","bit","leads","room","lead"]
noncomputable def b_p_rooms_behind:List Str:=["int","sorted"]
noncomputable def n_p_lasting:List Str:=["machine","rooms","inside","led_to","room","lead"]
noncomputable def b_p_lasting:List Str:=["set"]
noncomputable def n_p_part_of:List Str:=["machine","numbers","anew","at","room"]
noncomputable def b_p_part_of:List Str:=["enumerate","tuple"]
noncomputable def n_p_trimmed:List Str:=["machine","numbers","fewer"]
noncomputable def b_p_trimmed:List Str:=["len","list","range"]
noncomputable def n_p_behind_bit:List Str:=["machine","numbers","room","bit","lead"]
noncomputable def b_p_behind_bit:List Str:=["int"]
noncomputable def n_p_way_sums:List Str:=["machine","numbers","room"]
noncomputable def b_p_way_sums:List Str:=["len","range"]
noncomputable def n_p_ways:List Str:=["machine","goal","many","left","room","step"]
noncomputable def b_p_ways:List Str:=["len","range"]
noncomputable def n_p_counts:List Str:=["machine","many"]
noncomputable def b_p_counts:List Str:=[]
noncomputable def n_p_row_left:List Str:=["machine","left","room","number","bits","here","ahead","further","by_nought","bit"]
noncomputable def b_p_row_left:List Str:=["reversed","str"]
noncomputable def n_p_row_at:List Str:=["machine","room","goal","many","number","left"]
noncomputable def b_p_row_at:List Str:=[]
noncomputable def n_p_number_left:List Str:=["machine","left","room","row","ahead","here","at","bit"]
noncomputable def b_p_number_left:List Str:=["enumerate","int","len"]
noncomputable def n_p_number_of:List Str:=["machine","room","goal","row","end"]
noncomputable def b_p_number_of:List Str:=["len"]
noncomputable def n_p_rooms_in_bounds:List Str:=["bounds","low0","high0","low1","high1","spread","levels","bit","high","place","level"]
noncomputable def b_p_rooms_in_bounds:List Str:=["list","range"]
noncomputable def n_p_room_behind:List Str:=["bounds","room","bit","low0","high0","low1","high1","spread","last","place","level"]
noncomputable def b_p_room_behind:List Str:=[]
noncomputable def n_p_machine_in_bounds:List Str:=["bounds","rooms","numbers","at","room"]
noncomputable def b_p_machine_in_bounds:List Str:=["enumerate","tuple"]
noncomputable def n_p_machine_of:List Str:=["bounds","less","numbers"]
noncomputable def b_p_machine_of:List Str:=[]
noncomputable def n_p_fault_at:List Str:=["bounds","row","machine","rooms","at","bit"]
noncomputable def b_p_fault_at:List Str:=["enumerate","len","list","range"]
noncomputable def n_p_keeps:List Str:=["bounds","row"]
noncomputable def b_p_keeps:List Str:=[]
noncomputable def n_cell_at:List Str:=["_law_script","_law_k"]
noncomputable def b_cell_at:List Str:=["len"]
noncomputable def n_box:List Str:=["_law_script","_law_k","_law_cell"]
noncomputable def b_box:List Str:=["abs","int"]
noncomputable def n_take:List Str:=["_law_box_here","_law_many_here","_law_found","_law_once","_law_twice"]
noncomputable def b_take:List Str:=[]
noncomputable def n_bits:List Str:=["_law_box_here","_law_many_here","_law_k"]
noncomputable def b_bits:List Str:=["range"]
noncomputable def n_bounds:List Str:=["_law_box_here","_law_lows","_law_highs","_law_low"]
noncomputable def b_bounds:List Str:=[]
noncomputable def n_enough:List Str:=["_law_machine","_law_part","_law_many_here"]
noncomputable def b_enough:List Str:=["min","range"]
noncomputable def c_enough:Css:=(.cons (.for_ (.name 2) (.range2 (.int 1) (.int 41)) (.cons (.ite (.cmp .GtE (.blt .min (.cons (.call "counts" (.cons (.var 0) (.cons (.var 2) .nil))) .nil)) (.bin .LShift (.int 1) (.var 1))) (.cons (.ret (.var 2))
  .nil) .nil)
  .nil))
  (.cons (.ret .non)
  .nil))
noncomputable def n_put:List Str:=["_law_machine","_law_many_here","_law_part","_law_bits_here","_law_row","_law_room","_law_at","_law_block"]
noncomputable def b_put:List Str:=["!row_at","int","len","range"]
noncomputable def c_put:Css:=(.cons (.asg (.name 4) (.str ""))
  (.cons (.asg (.name 5) (.int 0))
  (.cons (.for_ (.name 6) (.range3 (.int 0) (.blt .len (.cons (.var 3) .nil)) (.var 2)) (.cons (.asg (.name 7) (.call "row_at" (.cons (.var 0) (.cons (.var 5) (.cons .non (.cons (.var 1) (.cons (.blt .int (.cons (.cut (.var 3) (.some (.var 6)) (.some (.bin .Add (.var 6) (.var 2)))) (.cons (.int 2) .nil))) .nil)))))))
  (.cons (.asg (.name 4) (.bin .Add (.var 4) (.var 7)))
  (.cons (.asg (.name 5) (.call "walk" (.cons (.var 0) (.cons (.var 5) (.cons (.var 7) .nil)))))
  .nil))))
  (.cons (.ret (.var 4))
  .nil))))
noncomputable def n_binary:List Str:=["_law_number","_law_many_here","_law_k"]
noncomputable def b_binary:List Str:=["range"]
noncomputable def c_binary:Css:=(.cons (.ret (.met .join (.str "") (.cons (.comp (.idx (.str "01") (.bin .BitAnd (.bin .RShift (.var 0) (.var 2)) (.int 1))) [2] (.name 2) (.range3 (.bin .Sub (.var 1) (.int 1)) (.neg (.int 1)) (.neg (.int 1))) .none .nil) .nil)))
  .nil)
noncomputable def n_got:List Str:=["_law_machine","_law_many_here","_law_part","_law_row","_law_bits_here","_law_room","_law_at","_law_number"]
noncomputable def b_got:List Str:=["len","range"]
noncomputable def c_got:Css:=(.cons (.asg (.name 4) (.str ""))
  (.cons (.asg (.name 5) (.int 0))
  (.cons (.for_ (.name 6) (.range3 (.int 0) (.blt .len (.cons (.var 3) .nil)) (.var 1)) (.cons (.asg (.name 7) (.call "number_of" (.cons (.var 0) (.cons (.var 5) (.cons .non (.cons (.cut (.var 3) (.some (.var 6)) (.some (.bin .Add (.var 6) (.var 1)))) .nil))))))
  (.cons (.asg (.name 4) (.bin .Add (.var 4) (.call "_law_binary" (.cons (.var 7) (.cons (.var 2) .nil)))))
  (.cons (.asg (.name 5) (.call "walk" (.cons (.var 0) (.cons (.var 5) (.cons (.cut (.var 3) (.some (.var 6)) (.some (.bin .Add (.var 6) (.var 1)))) .nil)))))
  .nil))))
  (.cons (.ret (.var 4))
  .nil))))
noncomputable def n_too_few:List Str:=["_law_machine","_law_part","_law_many_here","_law_room"]
noncomputable def b_too_few:List Str:=["!row_at","len","range"]
noncomputable def c_too_few:Css:=(.cons (.for_ (.name 3) (.range1 (.blt .len (.cons (.var 0) .nil))) (.cons (.tryN (.cons (.expr (.call "row_at" (.cons (.var 0) (.cons (.var 3) (.cons .non (.cons (.var 2) (.cons (.bin .Sub (.bin .LShift (.int 1) (.var 1)) (.int 1)) .nil)))))))
  .nil) "NoNumber" (.cons (.ret (.bl true))
  .nil))
  .nil))
  (.cons (.ret (.bl false))
  .nil))
noncomputable def n_law:List Str:=["_law_script","_law_bounds_here","_law_machine","_law_box_here","_law_part","_law_many_here","_law_k","_law_bits_here","_law_at","_law_other","_law_rows","_law_one","_law_row"]
noncomputable def b_law:List Str:=["int","len","list","min","range"]
noncomputable def c_law:Css:=(.cons (.asg (.name 1) (.call "_law_bounds" (.cons (.call "_law_box" (.cons (.var 0) (.cons (.int 0) .nil))) .nil)))
  (.cons (.asg (.name 2) (.call "machine_of" (.cons (.var 1) .nil)))
  (.cons (.ite (.cmp .Gt (.blt .len (.cons (.var 2) .nil)) (.int 60)) (.cons (.asg (.name 1) (.bin .Add (.cut (.var 1) .none (.some (.int 4))) (.tup (.cons .non .nil))))
  (.cons (.asg (.name 2) (.call "machine_of" (.cons (.var 1) .nil)))
  .nil)) .nil)
  (.cons (.ite (.cmx .eqT (.var 2) (.tup .nil)) (.cons (.ret (.and (.cmp .Is (.call "keeps" (.cons (.var 1) (.cons (.str "0") .nil))) (.bl false)) (.cmp .Is (.call "keeps" (.cons (.var 1) (.cons (.str "1") .nil))) (.bl false))))
  .nil) .nil)
  (.cons (.ite (.cmp .NotEq (.idx (.call "trimmed" (.cons (.var 2) .nil)) (.int 1)) (.blt .list (.cons (.blt .range (.cons (.blt .len (.cons (.var 2) .nil)) .nil)) .nil))) (.cons (.ret (.bl false))
  .nil) .nil)
  (.cons (.asg (.name 3) (.call "_law_box" (.cons (.var 0) (.cons (.int 1) .nil))))
  (.cons (.asg (.name 4) (.bin .Add (.int 1) (.call "_law_take" (.cons (.var 3) (.cons (.int 6) .nil)))))
  (.cons (.asg (.name 5) (.call "_law_enough" (.cons (.var 2) (.cons (.var 4) .nil))))
  (.cons (.ite (.cmp .Is (.var 5) .non) (.cons (.ret (.call "_law_too_few" (.cons (.var 2) (.cons (.var 4) (.cons (.bin .Add (.int 1) (.call "_law_take" (.cons (.var 3) (.cons (.int 40) .nil)))) .nil)))))
  .nil) .nil)
  (.cons (.for_ (.name 6) (.range1 (.int 4)) (.cons (.asg (.name 3) (.call "_law_box" (.cons (.var 0) (.cons (.bin .Add (.var 6) (.int 2)) .nil))))
  (.cons (.asg (.name 7) (.call "_law_bits" (.cons (.var 3) (.cons (.bin .Mult (.var 4) (.bin .Add (.int 1) (.call "_law_take" (.cons (.var 3) (.cons (.blt .min (.cons (.int 12) (.cons (.bin .FloorDiv (.int 400) (.var 5)) .nil))) .nil))))) .nil))))
  (.cons (.asg (.name 8) (.call "_law_take" (.cons (.var 3) (.cons (.blt .len (.cons (.var 7) .nil)) .nil))))
  (.cons (.asg (.name 9) (.bin .Add (.bin .Add (.cut (.var 7) .none (.some (.var 8))) (.idx (.str "10") (.blt .int (.cons (.idx (.var 7) (.var 8)) .nil)))) (.cut (.var 7) (.some (.bin .Add (.var 8) (.int 1))) .none)))
  (.cons (.asg (.name 10) (.comp (.call "_law_put" (.cons (.var 2) (.cons (.var 5) (.cons (.var 4) (.cons (.var 11) .nil))))) [11] (.name 11) (.val (.tup (.cons (.var 7) (.cons (.var 9) .nil)))) .none .nil))
  (.cons (.ite (.or (.cmp .Eq (.idx (.var 10) (.int 0)) (.idx (.var 10) (.int 1))) (.or (.cmp .IsNot (.call "keeps" (.cons (.var 1) (.cons (.idx (.var 10) (.int 0)) .nil))) (.bl true)) (.cmp .IsNot (.call "keeps" (.cons (.var 1) (.cons (.idx (.var 10) (.int 1)) .nil))) (.bl true)))) (.cons (.ret (.bl false))
  .nil) .nil)
  (.cons (.ite (.cmp .NotEq (.comp (.call "_law_got" (.cons (.var 2) (.cons (.var 5) (.cons (.var 4) (.cons (.var 12) .nil))))) [12] (.name 12) (.val (.var 10)) .none .nil) (.lst (.cons (.var 7) (.cons (.var 9) .nil)))) (.cons (.ret (.bl false))
  .nil) .nil)
  .nil))))))))
  (.cons (.ret (.bl true))
  .nil)))))))))))
open SR RW NR NM XR TM BD BE TE
noncomputable def Mx (l0 h0 l1 h1:Nat) (sp:Option Nat):List Rm:=(rk (lvs sp) h0 h1).map (mx l0 l1 sp (rk (lvs sp) h0 h1))
def IsO (l0 h0 l1 h1:Nat) (sp:Option Nat) (M:List Rm):Prop:=∃rs,Rs (Mx l0 h0 l1 h1 sp) rs/\M=prt (Mx l0 h0 l1 h1 sp) rs
theorem IsO.uniq {l0 h0 l1 h1:Nat} {sp:Option Nat} {M M':List Rm} (h:IsO l0 h0 l1 h1 sp M) (h':IsO l0 h0 l1 h1 sp M'):M=M':=by
 obtain⟨rs,e1,rfl⟩:=h
 obtain⟨rs',e2,rfl⟩:=h'
 rw[e1.uniq e2]
theorem IsO.ok {l0 h0 l1 h1:Nat} {sp:Option Nat} {M:List Rm} (h:IsO l0 h0 l1 h1 sp M):OkM M:=by
 obtain⟨rs,e1,rfl⟩:=h
 exact prt_ok
theorem IsO.again {l0 h0 l1 h1:Nat} {sp:Option Nat} {M:List Rm} (h:IsO l0 h0 l1 h1 sp M):Rs M (List.range M.length):=by
 obtain⟨rs,e1,rfl⟩:=h
 rw[prt_len]
 exact e1.again.1
theorem IsO.len {l0 h0 l1 h1:Nat} {sp:Option Nat} {M:List Rm} (h:IsO l0 h0 l1 h1 sp M):M.length<=(rk (lvs sp) h0 h1).length:=by
 obtain⟨rs,e1,rfl⟩:=h
 rw[prt_len]
 have:=K04.nd_le' (rise_nd e1.rise) e1.lt
 unfold Mx at this
 rwa [List.length_map]at this
def spMOfO:Sp:=fun vs H Q _=>∃(bd:Addr) (l0 h0 l1 h1:Nat) (sp:Option Nat),vs=[.ref bd]/\IsB H bd l0 h0 l1 h1 sp/\∀(p:Addr) (M:List Rm) (H':Hp),Same H H'->IsM H' p M->IsO l0 h0 l1 h1 sp M->Q (.ref p) H'
theorem body_mofO {C:Rc} (hN:C.N.length=3) (hT:C.fs "trimmed"=some spTrimX) (hM:C.fs "machine_in_bounds"=some spMInx) (hR:C.fs "rooms_in_bounds"=some spRIn):∀vs H Q E,spMOfO vs H Q E->tSs C c_p_machine_of { nx:=fun _ H'=>Q .non H',rt:=Q } (L2.start C.N vs) H:=by
 intro vs H Q E h
 obtain⟨bd,l0,h0,l1,h1,sp,rfl,hB,q⟩:=h
 rw[start_eq hN]
 unfold c_p_machine_of
 have hrl:=(rk_ok hB.bs hB.b0 hB.b1 (h0:=h0) (h1:=h1)).1
 walk_at "y"
 rw[s_asg]
 refine call_e hT ?_
 walk_at "y"
 refine call_e hM ?_
 walk_at "y"
 refine call_e hR ?_
 walk_at "y"
 refine⟨bd,l0,h0,l1,h1,sp,rfl,hB,fun p xs H1 s1 hp hxs=>?_⟩
 walk_at "y"
 refine⟨bd,p,l0,h0,l1,h1,sp,xs,rfl,hB.mono (tp_same s1),hp,hxs,fun p2 H2 s2 hM2=>?_⟩
 walk_at "y"
 refine⟨p2,_,rfl,hM2,by rw[List.length_map];omega,fun p3 p' l rs H3 s3 _ hp3 hl hM3 hRs=>?_⟩
 refine kG_tup2 (SqT.of hp3) ?_
 walk_at "y"
 exact q p' _ H3 (s1.trans (s2.trans s3)) hM3 ⟨rs,hRs,rfl⟩
theorem bd_stp {M:List Rm} {b:Bool} {p:Nat}:K04.bd M b p=stp M p b:=by
 unfold K04.bd fs1 fs2 stp
 cases e:M[p]? with
 |none=>cases b<;>rfl
 |some r=>cases b<;>rfl
def Wkd (M:List Rm) (row:List Bool):Prop:=∃r,r<M.length/\∃e,wk M (some r) row=some e
def spFaultO:Sp:=fun vs H Q _=>∃(p:Addr) (l0 h0 l1 h1:Nat) (sp:Option Nat) (M:List Rm) (row:List Bool),vs=[.ref p,.str (tx row)]/\IsB H p l0 h0 l1 h1 sp/\IsO l0 h0 l1 h1 sp M/\M.length<=60/\row.length<=900/\
 ((M=[]/\row≠[]/\∀H',Same H H'->Q (.int 0) H')\/(Wkd M row/\∀H',Same H H'->Q .non H'))
theorem body_faultO {C:Rc} (hN:C.N.length=6) (hM:C.fs "machine_of"=some spMOfO) (hR:C.fs "rooms_behind"=some K04.spRBh):∀vs H Q E,spFaultO vs H Q E->tSs C K04.c_p_fault_at { nx:=fun _ H'=>Q .non H',rt:=Q } (L2.start C.N vs) H:=by
 intro vs H Q E h
 obtain⟨p,l0,h0,l1,h1,sp,M,row,rfl,hB,hI,h60,hrow,q⟩:=h
 rw[start_eq hN]
 unfold K04.c_p_fault_at
 have hO:=hI.ok
 walk_at "y"
 refine call_e hM ?_
 walk_at "y"
 refine⟨p,l0,h0,l1,h1,sp,rfl,hB,fun m M' H1 s1 hm hI'=>?_⟩
 cases hI.uniq hI'
 obtain⟨mv,hmv,hmr⟩:=id hm
 walk_at "y"
 refine at_lenT (SqT.of hmv) ?_
 rw[hmr.len]
 walk_at "y"
 refine at_range1 fun pr hpr=>?_
 walk_at "y"
 refine at_listR upd_same (by omega) (by omega) (by omega) (by omega) (Nat.le_of_lt (small1000 (by omega))) fun R hRr=>?_
 rw[show(((M.length:Nat):Int)-0).toNat=M.length by omega,rgs_nV]
 have s2:=(same_new hpr (.rng 0 ((M.length:Nat):Int))).trans (same_new hRr (.lst ((List.range M.length).map nV)))
 have hR2:upd (upd H1 pr (.rng 0 ((M.length:Nat):Int))) R (.lst ((List.range M.length).map nV)) R=some (.lst ((List.range M.length).map nV)):=upd_same
 generalize upd (upd H1 pr (.rng 0 ((M.length:Nat):Int))) R (.lst ((List.range M.length).map nV))=H2 at s2 hR2 ⊢
 walk_at "y"
 refine at_enS (for_etx (fun i σ H'=>(∃(l:Addr) (rs:List Nat) (x4 x5:Option V),σ=[some (.ref p),some (.str (tx row)),some (.ref m),some (.ref l),x4,x5]/\H' l=some (.lst (rs.map nV))/\rs.Pairwise (· < ·)/\(∀r∈rs,r<M.length)/\((M=[]/\row≠[]/\i=0/\∀H',Same H H'->Q (.int 0) H')\/((∃r e,wk M (some r) row=some e/\∃m,wk M (some r) (row.take i)=some m/\m∈rs)/\∀H',Same H H'->Q .non H')))/\Same H1 H') ⟨⟨R,List.range M.length,_,_,rfl,hR2,List.pairwise_lt_range,fun r hr=>List.mem_range.mp hr,?_⟩,s2⟩ ?_ ?_)
 .rcases q with⟨z1,z2,z3⟩|⟨⟨r,hr,e,he⟩,z3⟩
  .exact .inl ⟨z1,z2,rfl,z3⟩
  .exact .inr ⟨⟨r,e,he,r,rfl,List.mem_range.mpr hr⟩,z3⟩
 .rintro i c σ H3 pp hc hpp ⟨⟨l,rs,x4,x5,rfl,hl,hri,hlt,hq⟩,s3⟩
  have hi:=lt_of_get hc
  refine g_tup2 (SqT.of upd_same) ?_
  have s4:=s3.trans (same_new hpp (.tup [.int i,.str (tx [c])]))
  have hl4:=same_new hpp (.tup [.int i,.str (tx [c])]) _ _ hl
  generalize upd H3 pp (.tup [.int i,.str (tx [c])])=H4 at s4 hl4 ⊢
  walk_at "y"
  refine at_truL (SqL.of hl4) ?_
  rcases hq with⟨z1,z2,z3,z4⟩|⟨⟨r,e,he,w,hw,hwr⟩,z4⟩
  .have:rs=[]:=by
    cases rs with
    |nil=>rfl
    |cons r rs=>
     have:=hlt r (by simp)
     rw[z1]at this
     exact absurd this (Nat.not_lt_zero _)
   subst this
   subst z3
   rw[show((([]:List Nat).map nV).isEmpty)=true from rfl]
   walk_at "y"
   exact z4 _ (s1.trans s4)
  .have hne:(rs.map nV).isEmpty=false:=by
    cases rs with
    |nil=>exact absurd hwr List.not_mem_nil
    |cons r rs=>rfl
   rw[hne]
   walk_at "y"
   refine call_e hR ?_
   walk_at "y"
   have hrl:rs.length<=63:=by
    have:=K04.nd_le' (rise_nd hri) hlt
    omega
   refine⟨m,l,_,rs,c,rfl,hm.mono (tp_same s4),hO,by omega,hl4,hlt,hrl,fun l' rs' H5 s5 hl' hri' hm'=>?_⟩
   walk_at "y"
   refine⟨⟨l',rs',_,_,rfl,hl',hri',fun r hr=>?_,.inr ⟨⟨r,e,he,?_⟩,z4⟩⟩,s4.trans s5⟩
   .obtain⟨p,_,hp⟩:=(hm' r).mp hr
    exact K04.bd_lt hO hp
   .obtain⟨w',hw'⟩:=wk_pre (i:=i+1) he
    refine⟨w',hw',(hm' w').mpr ⟨w,hwr,?_⟩⟩
    rw[wk_succ hc,hw]at hw'
    rw[bd_stp]
    exact hw'
 .rintro σ H3 ⟨⟨l,rs,x4,x5,rfl,hl,hri,hlt,hq⟩,s3⟩
  walk_at "y"
  refine at_truL (SqL.of hl) ?_
  rcases hq with⟨z1,z2,z3,z4⟩|⟨⟨r,e,he,w,hw,hwr⟩,z4⟩
  .exact absurd (List.eq_nil_of_length_eq_zero z3) z2
  .have hne:(rs.map nV).isEmpty=false:=by
    cases rs with
    |nil=>exact absurd hwr List.not_mem_nil
    |cons r rs=>rfl
   rw[hne]
   walk_at "y"
   exact z4 _ (s1.trans s3)
def spKeepsO:Sp:=fun vs H Q _=>∃(p:Addr) (l0 h0 l1 h1:Nat) (sp:Option Nat) (M:List Rm) (row:List Bool),vs=[.ref p,.str (tx row)]/\IsB H p l0 h0 l1 h1 sp/\IsO l0 h0 l1 h1 sp M/\M.length<=60/\row.length<=900/\
 ((M=[]/\row≠[]/\∀H',Same H H'->Q (.bl false) H')\/(Wkd M row/\∀H',Same H H'->Q (.bl true) H'))
theorem body_keepsO {C:Rc} (hN:C.N.length=2) (hF:C.fs "fault_at"=some spFaultO):∀vs H Q E,spKeepsO vs H Q E->tSs C K04.c_p_keeps { nx:=fun _ H'=>Q .non H',rt:=Q } (L2.start C.N vs) H:=by
 intro vs H Q E h
 obtain⟨p,l0,h0,l1,h1,sp,M,row,rfl,hB,hI,h60,hrow,q⟩:=h
 rw[start_eq hN]
 unfold K04.c_p_keeps
 walk_at "y"
 refine call_e hF ?_
 walk_at "y"
 refine⟨p,l0,h0,l1,h1,sp,M,row,rfl,hB,hI,h60,hrow,?_⟩
 rcases q with⟨z1,z2,z3⟩|⟨z1,z3⟩
 .refine .inl ⟨z1,z2,fun H' s'=>?_⟩
  walk_at "y"
  exact z3 _ s'
 .refine .inr ⟨z1,fun H' s'=>?_⟩
  walk_at "y"
  exact z3 _ s'
noncomputable def num (l:List Bool):Nat:=l.foldl (fun n b=>n*2+if b then 1 else 0) 0
theorem num_lt0:∀(l:List Bool) (a:Nat),l.foldl (fun n b=>n*2+if b then 1 else 0) a<(a+1)*2 ^ l.length
 | [],a=>by simp
 |b :: l,a=>by
  have:=num_lt0 l (a*2+if b then 1 else 0)
  rw[List.foldl_cons,List.length_cons,Nat.pow_succ]
  refine Nat.lt_of_lt_of_le this ?_
  rw[Nat.mul_comm (2 ^ l.length) 2,<- Nat.mul_assoc]
  refine Nat.mul_le_mul_right _ ?_
  cases b<;>simp<;>omega
theorem num_ge0:∀(l:List Bool) (a:Nat),a*2 ^ l.length<=l.foldl (fun n b=>n*2+if b then 1 else 0) a
 | [],a=>by simp
 |b :: l,a=>by
  have:=num_ge0 l (a*2+if b then 1 else 0)
  rw[List.foldl_cons,List.length_cons,Nat.pow_succ]
  refine Nat.le_trans ?_ this
  rw[Nat.mul_comm (2 ^ l.length) 2,<- Nat.mul_assoc]
  exact Nat.mul_le_mul_right _ (Nat.le_add_right _ _)
theorem num_lt {l:List Bool}:num l<2 ^ l.length:=by have:=num_lt0 l 0;simpa[num]using this
theorem bit_at0:∀{l:List Bool} {a i:Nat} {c:Bool},l[i]?=some c->l.foldl (fun n b=>n*2+if b then 1 else 0) a / 2 ^ (l.length-1-i) % 2=if c then 1 else 0
 | [],_,_,_,h=>by simp at h
 |b :: l,a,0,c,h=>by
  have e:b=c:=by simpa using h
  subst e
  have h1:=num_ge0 l (a*2+if b then 1 else 0)
  have h2:=num_lt0 l (a*2+if b then 1 else 0)
  rw[List.foldl_cons,show(b :: l).length-1-0=l.length by simp,Nat.div_eq_of_lt_le h1 h2]
  cases b<;>simp<;>omega
 |b :: l,a,i+1,c,h=>by
  have h':l[i]?=some c:=by simpa using h
  rw[List.foldl_cons,show(b :: l).length-1-(i+1)=l.length-1-i by simp;omega]
  exact bit_at0 h'
theorem bit_at {l:List Bool} {i:Nat} {c:Bool} (h:l[i]?=some c):num l / 2 ^ (l.length-1-i) % 2=if c then 1 else 0:=bit_at0 h
theorem num_inj {l l':List Bool} (hl:l.length=l'.length) (h:num l=num l'):l=l':=by
 apply List.ext_getElem?
 intro i
 cases e1:l[i]? with
 |none=>rw[List.getElem?_eq_none (by rw[<- hl];exact List.getElem?_eq_none_iff.mp e1)]
 |some c=>
  have hi:=lt_of_get e1
  obtain⟨d,e2⟩:∃d,l'[i]?=some d:=⟨_,List.getElem?_eq_getElem (by omega)⟩
  have z1:=bit_at e1
  have z2:=bit_at e2
  rw[<- h,<- hl,z1]at z2
  rw[e2]
  cases c<;>cases d<;>first|rfl|cases z2
theorem rdn:∀{l:List Bool},1<=l.length->l.length<=6->(int_private% "readNumeral") 0 2 (l.map cb)=(int_private% "Numeral.value") (num l)
 | [],h,_=>by simp at h
 | [a],_,_=>by cases a<;>kernel_rfl
 | [a,b],_,_=>by cases a<;>cases b<;>kernel_rfl
 | [a,b,c],_,_=>by cases a<;>cases b<;>cases c<;>kernel_rfl
 | [a,b,c,d],_,_=>by cases a<;>cases b<;>cases c<;>cases d<;>kernel_rfl
 | [a,b,c,d,e],_,_=>by cases a<;>cases b<;>cases c<;>cases d<;>cases e<;>kernel_rfl
 | [a,b,c,d,e,f],_,_=>by cases a<;>cases b<;>cases c<;>cases d<;>cases e<;>cases f<;>kernel_rfl
 |_ :: _ :: _ :: _ :: _ :: _ :: _ :: _,_,h=>by simp at h
theorem tw_cb:∀(l:List Bool),(l.map cb).takeWhile (· != 0)=l.map cb
 | []=>rfl
 |b :: l=>by
  rw[List.map_cons,List.takeWhile_cons,tw_cb l]
  cases b<;>rfl
theorem tx_cps {l:List Bool}:(tx l).cps.toList=l.map cb:=rfl
theorem b2_num {l:List Bool} (h1:1<=l.length) (h6:l.length<=6):L2.B2 (tx l) (num l):=by
 refine⟨?_,?_,?_,?_⟩
 .show(l.map cb).toArray.all _=true
  rw[List.all_toArray,List.all_map,List.all_eq_true]
  intro b _
  cases b<;>rfl
 .rw[tx_cps,tw_cb,List.length_map];omega
 .rw[tx_cps,tw_cb];exact rdn h1 h6
 .rw[tx_cps,tw_cb];exact beq_self_eq_true _
theorem at_int2 {K:W.Frag} {H:Hp} {Q:VK} {l:List Bool} (h1:1<=l.length) (h6:l.length<=6) (q:Q (.int (num l)) H):rBlt K .int [.str (tx l),.int 2] H Q:=⟨rfl,_,b2_num h1 h6,q⟩
def spBinary:Sp:=fun vs H Q _=>∃l:List Bool,vs=[.int (num l),.int l.length]/\l.length<=6/\∀H',Same H H'->Q (.str (tx l)) H'
theorem body_binary {C:Rc} (hN:C.N.length=3):∀vs H Q E,spBinary vs H Q E->tSs C c_binary { nx:=fun _ H'=>Q .non H',rt:=Q } (L2.start C.N vs) H:=by
 intro vs H Q E h
 obtain⟨l,rfl,hl6,q⟩:=h
 rw[start_eq hN]
 unfold c_binary
 walk_at "y"
 refine⟨rfl,?_⟩
 refine at_r3d (by omega) (by omega) (by omega) (by omega) (comp_c (fun i xs H'=>xs=ones (l.take i)/\H'=H) ⟨rfl,rfl⟩ ?_ ?_)
 .rintro i xs H' R hi ⟨rfl,rfl⟩ hR
  have hi':i<l.length:=by omega
  have hc:l[i]?=some l[i]:=List.getElem?_eq_getElem hi'
  have hb:=bit_at hc
  generalize l[i]=c at hc hb
  walk_at "y"
  have e:((l.length:Int)-1+(i:Int) * -1).toNat=l.length-1-i:=by omega
  refine⟨by omega,⟨Int.ediv_nonneg (by omega) (Int.le_of_lt (Int.pow_pos (by decide))),trivial⟩,?_⟩
  rw[e]
  have hx:((num l:Nat):Int) / 2 ^ (l.length-1-i) % 2=if c then 1 else 0:=by
   have:((num l / 2 ^ (l.length-1-i) % 2:Nat):Int)=((if c then 1 else 0:Nat):Int):=by rw[hb]
   rw[Int.natCast_emod,Int.natCast_ediv,Int.natCast_pow]at this
   rw[show((2:Nat):Int)=2 from rfl]at this
   rw[this]
   cases c<;>rfl
  rw[hx]
  refine at_ixtx (c:=c) (by decide) (by cases c<;>rfl) ?_
  walk_at "y"
  refine⟨by rw[ones_len,List.length_take];exact small1000 (by omega),hR _ _ ⟨by rw[take_succ_get hc];exact ones_snoc,rfl⟩⟩
 .rintro xs H' ⟨rfl,rfl⟩ p3 hp3
  rw[List.take_of_length_le (by omega)]
  walk_at "y"
  refine at_joinO (SqL.of upd_same) (by omega) ?_
  exact q _ (same_new hp3 _)
def spEnough:Sp:=fun vs H Q _=>∃(a:Addr) (M:List Rm) (part:Nat),vs=[.ref a,.int part]/\IsM H a M/\OkM M/\1<=M.length/\M.length<=60/\part<=6/\
 (∀H',Same H H'->(∀n,1<=n->n<=40->∃r,r<M.length/\wy M none n r<2 ^ part)->Q .non H')/\∀(n:Nat) H',Same H H'->1<=n->n<=40->(∀r,r<M.length->2 ^ part<=wy M none n r)->Q (.int n) H'
theorem body_enough {C:Rc} (hN:C.N.length=3) (hC:C.fs "counts"=some spCounts):∀vs H Q E,spEnough vs H Q E->tSs C c_enough { nx:=fun _ H'=>Q .non H',rt:=Q } (L2.start C.N vs) H:=by
 intro vs H Q E h
 obtain⟨a,M,part,rfl,hM,hO,hl1,h60,hp6,qn,qs⟩:=h
 rw[start_eq hN]
 unfold c_enough
 walk_at "y"
 refine at_r2 (by omega) (by omega) (by omega) (by omega) (for_r (n:=(41-1:Int).toNat) (fun i σ H'=>(∃x2,σ=[some (.ref a),some (.int part),x2])/\Same H H'/\∀n,1<=n->n<=i->∃r,r<M.length/\wy M none n r<2 ^ part) ⟨⟨_,rfl⟩,Same.refl _,fun n h1 h2=>by omega⟩ ?_ ?_)
 .rintro i σ H1 hi ⟨⟨x2,rfl⟩,s1,hn⟩
  have hi:i<40:=hi
  rw[show(1:Int)+(i:Int)=((i+1:Nat):Int) by omega]
  walk_at "y"
  refine call_e hC ?_
  walk_at "y"
  refine⟨a,M,i+1,rfl,hM.mono (tp_same s1),hO,by omega,by omega,fun e H2 he s2 h2=>?_⟩
  have s12:=s1.trans s2
  walk_at "y"
  refine at_min (SqL.of h2) (by intro z;have:=@wyL_len M none (i+1);rw[z]at this;simp at this;omega) fun m hm hle=>?_
  walk_at "y"
  refine⟨⟨by omega,by omega,by decide⟩,?_⟩
  rw[Int.toNat_natCast,Int.one_mul]
  have hpw:(((2 ^ part:Nat):Nat):Int)=2 ^ part:=by rw[Int.natCast_pow];rfl
  rw[<- hpw]
  have all:∀r,r<M.length->m<=((wy M none (i+1) r:Nat):Int):=fun r hr=>hle _ (by unfold wyL;exact List.mem_map_of_mem (f:=fun r=>((wy M none (i+1) r:Nat):Int)) (List.mem_range.mpr hr))
  refine by_dec (fun hge=>?_) fun hge=>?_
  .walk_at "y"
   exact qs (i+1) _ s12 (by omega) (by omega) fun r hr=>by have:=all r hr;omega
  .walk_at "y"
   refine⟨⟨_,rfl⟩,s12,fun n h1 h2=>?_⟩
   rcases Nat.lt_or_ge i n with z|z
   .have e:n=i+1:=by omega
    subst e
    unfold wyL at hm
    obtain⟨r,hr,rfl⟩:=List.mem_map.mp hm
    exact⟨r,List.mem_range.mp hr,by omega⟩
   .exact hn n h1 z
 .rintro σ H1 ⟨⟨x2,rfl⟩,s1,hn⟩
  walk_at "y"
  exact qn _ s1 hn
noncomputable def wd (M:List Rm) (n r k:Nat):List Bool:=((rws M none n r)[k]?).getD []
noncomputable def blk (part:Nat) (bits:List Bool) (i:Nat):List Bool:=(bits.drop (i*part)).take part
noncomputable def sr (M:List Rm) (n part:Nat) (bits:List Bool):Nat->List Bool×Nat
 |0=>([],0)
 |i+1=>((sr M n part bits i).1++wd M n (sr M n part bits i).2 (num (blk part bits i)),(wk M (some (sr M n part bits i).2) (wd M n (sr M n part bits i).2 (num (blk part bits i)))).getD 0)
structure Pt (M:List Rm) (n part B:Nat) (bits:List Bool):Prop where
 ok:OkM M
 pos:1<=M.length
 le:M.length<=60
 n1:1<=n
 n40:n<=40
 p1:1<=part
 p6:part<=6
 wide:∀r,r<M.length->2 ^ part<=wy M none n r
 len:bits.length=B*part
 long:B*n<=400
theorem wd_ok {M:List Rm} {n r k:Nat} (hO:OkM M) (hr:r<M.length) (hk:k<wy M none n r):(rws M none n r)[k]?=some (wd M n r k)/\(wd M n r k).length=n/\∃e,wk M (some r) (wd M n r k)=some e/\e<M.length:=by
 have e1:(rws M none n r)[k]?=some (wd M n r k):=by
  unfold wd
  rw[List.getElem?_eq_getElem (by rw[rws_len];exact hk)]
  rfl
 have hm:=List.mem_of_getElem? e1
 obtain⟨e,he,_⟩:=K24.rws_wk hm
 exact⟨e1,rws_each hm,e,he,wk_lt hO (fun m z=>by injection z with z;omega) he⟩
theorem blk_len {part B:Nat} {bits:List Bool} (h:bits.length=B*part) {i:Nat} (hi:i<B):(blk part bits i).length=part:=by
 unfold blk
 have:=Nat.mul_le_mul_right part (show i+1<=B from hi)
 rw[Nat.add_mul,Nat.one_mul]at this
 rw[List.length_take,List.length_drop]
 omega
section
variable {M:List Rm} {n part B:Nat} {bits:List Bool}
theorem Pt.lt (P:Pt M n part B bits) {i r:Nat} (hi:i<B) (hr:r<M.length):num (blk part bits i)<wy M none n r:=by
 have h1:=@num_lt (blk part bits i)
 rw[blk_len P.len hi]at h1
 have:=P.wide r hr
 omega
theorem Pt.sr (P:Pt M n part B bits):∀{i:Nat},i<=B->(sr M n part bits i).2<M.length/\(sr M n part bits i).1.length=i*n/\wk M (some 0) (sr M n part bits i).1=some (sr M n part bits i).2
 |0,_=>⟨P.pos,by simp[K65.sr],rfl⟩
 |i+1,hi=>by
  obtain⟨h1,h2,h3⟩:=P.sr (i:=i) (by omega)
  obtain⟨_,h4,e,h5,h6⟩:=wd_ok P.ok h1 (P.lt (i:=i) (by omega) h1)
  have e2:(K65.sr M n part bits (i+1)).2=e:=by
   show(wk M _ _).getD 0=e
   rw[h5]
   rfl
  refine⟨by rw[e2];exact h6,?_,?_⟩
  .show(_++_:List Bool).length=_
   rw[List.length_append,h2,h4,Nat.add_mul,Nat.one_mul]
  .rw[e2]
   show wk M (some 0) (_++_)=_
   rw[wk_app,h3,h5]
theorem Pt.step (P:Pt M n part B bits) {i:Nat} (hi:i<B):wk M (some (K65.sr M n part bits i).2) (wd M n (K65.sr M n part bits i).2 (num (blk part bits i)))=some (K65.sr M n part bits (i+1)).2:=by
 obtain⟨h1,_,_⟩:=P.sr (i:=i) (by omega)
 obtain⟨_,_,e,h5,_⟩:=wd_ok P.ok h1 (P.lt hi h1)
 rw[h5]
 show some e=some ((wk M _ _).getD 0)
 rw[h5]
 rfl
theorem sr_pre {i j:Nat} (h:i<=j):∃t,(sr M n part bits j).1=(sr M n part bits i).1++t:=by
 induction j with
 |zero=>exact⟨[],by rw[show i=0 by omega];simp⟩
 |succ j ih=>
  by_cases e:i=j+1
  .exact⟨[],by rw[e];simp⟩
  .obtain⟨t,ht⟩:=ih (by omega)
   refine⟨t++wd M n (sr M n part bits j).2 (num (blk part bits j)),?_⟩
   show _++_=_
   rw[ht,List.append_assoc]
theorem Pt.blk (P:Pt M n part B bits) {i:Nat} (hi:i<B):((K65.sr M n part bits B).1.drop (i*n)).take n=wd M n (K65.sr M n part bits i).2 (num (blk part bits i)):=by
 obtain⟨h1,h2,h3⟩:=P.sr (i:=i) (by omega)
 obtain⟨_,h4,_⟩:=wd_ok P.ok h1 (P.lt hi h1)
 obtain⟨t,ht⟩:=sr_pre (M:=M) (n:=n) (part:=part) (bits:=bits) (show i+1<=B from hi)
 rw[ht]
 show(((_++wd _ _ _ _)++t:List Bool).drop (i*n)).take n=_
 rw[List.append_assoc,<- h2,List.drop_left]
 conv=>lhs;arg 1;rw[<- h4]
 exact List.take_left
theorem take_blk {part B:Nat} {bits:List Bool} {i:Nat}:bits.take ((i+1)*part)=bits.take (i*part)++blk part bits i:=by
 unfold blk
 rw[Nat.add_mul,Nat.one_mul,List.take_add]
theorem Pt.inj {bits':List Bool} (P:Pt M n part B bits) (P':Pt M n part B bits') (h:(K65.sr M n part bits B).1=(K65.sr M n part bits' B).1):bits=bits':=by
 have key:∀i,i<=B->(K65.sr M n part bits i).2=(K65.sr M n part bits' i).2/\bits.take (i*part)=bits'.take (i*part):=by
  intro i
  induction i with
  |zero=>intro _;exact⟨rfl,by simp⟩
  |succ i ih=>
   intro hi
   obtain⟨e1,e2⟩:=ih (by omega)
   obtain⟨h1,_,_⟩:=P.sr (i:=i) (by omega)
   have b1:=P.blk (i:=i) (by omega)
   have b2:=P'.blk (i:=i) (by omega)
   rw[<- h,b1,<- e1]at b2
   obtain⟨g1,_⟩:=wd_ok P.ok h1 (P.lt (i:=i) (by omega) h1)
   obtain⟨g2,_⟩:=wd_ok P.ok h1 (P'.lt (i:=i) (by omega) h1)
   rw[<- b2]at g2
   have en:=K24.rws_inj g1 g2
   have eb:=num_inj (by rw[blk_len P.len (by omega),blk_len P'.len (by omega)]) en
   refine⟨?_,by rw[take_blk (B:=B),take_blk (B:=B),e2,eb]⟩
   show(wk M _ _).getD 0=(wk M _ _).getD 0
   rw[<- e1,eb]
 have:=(key B (Nat.le_refl _)).2
 rwa [<- P.len,List.take_length,P.len,<- P'.len,List.take_length]at this
end
def spPut:Sp:=fun vs H Q _=>∃(a:Addr) (M:List Rm) (n part B:Nat) (bits:List Bool),vs=[.ref a,.int n,.int part,.str (tx bits)]/\IsM H a M/\Pt M n part B bits/\∀H',Same H H'->Q (.str (tx (sr M n part bits B).1)) H'
theorem mul_lt_of {i n m:Nat} (hi:i<n):i*m+m<=n*m:=by
 have:=Nat.mul_le_mul_right m (show i+1<=n from hi)
 rwa [Nat.add_mul,Nat.one_mul]at this
theorem body_put {C:Rc} (hN:C.N.length=8) (hR:C.fs "row_at"=some spRowAtX) (hW:C.fs "walk"=some spWalk):∀vs H Q E,spPut vs H Q E->tSs C c_put { nx:=fun _ H'=>Q .non H',rt:=Q } (L2.start C.N vs) H:=by
 intro vs H Q E h
 obtain⟨a,M,n,part,B,bits,rfl,hM,P,q⟩:=h
 rw[start_eq hN]
 unfold c_put
 have hpl:B<=B*n:=Nat.le_mul_of_pos_right B P.n1
 have hbl:B*part<=B*6:=Nat.mul_le_mul_left B P.p6
 have c1:=P.n40
 have c2:=P.p6
 have c3:=P.le
 have c4:=P.long
 have c5:=P.len
 have c6:=P.p1
 have c7:=P.n1
 have hz:bits.length<=sizeLine:=Nat.le_trans (show _<=2400 by omega) (by decide)
 walk_at "y"
 refine⟨hz,?_⟩
 refine at_r3 (by omega) (by omega) (by omega) (by omega) (by omega) (by omega) ?_
 rw[P.len,BK.nStep_mul (by omega)]
 refine for_c (fun i σ H'=>(∃x6 x7,σ=[some (.ref a),some (.int n),some (.int part),some (.str (tx bits)),some (.str (tx (sr M n part bits i).1)),some (.int (sr M n part bits i).2),x6,x7])/\Same H H') ⟨⟨_,_,rfl⟩,Same.refl _⟩ ?_ ?_
 .rintro i σ H' hi ⟨⟨x6,x7,rfl⟩,s1⟩
  have hb:=mul_lt_of (m:=part) hi
  have hbn:=mul_lt_of (m:=n) hi
  obtain⟨h1,h2,h3⟩:=P.sr (i:=i) (by omega)
  obtain⟨g1,g2,e,g3,g4⟩:=wd_ok P.ok h1 (P.lt (i:=i) (by omega) h1)
  have gs:=P.step hi
  have bl:=blk_len P.len hi
  rw[show(0:Int)+(i:Int)*(part:Int)=((i*part:Nat):Int) by rw[Int.natCast_mul,Int.zero_add]]
  have hM':=hM.mono (tp_same s1)
  walk_at "y"
  refine call_e hR ?_
  walk_at "y"
  rw[show((i*part:Nat):Int)+(part:Int)=((i*part+part:Nat):Int) by omega]
  refine sl_mid hz (by omega) ?_
  rw[Nat.add_sub_cancel_left,show(bits.drop (i*part)).take part=blk part bits i from rfl]
  walk_at "y"
  refine at_int2 (by omega) (by omega) ?_
  walk_at "y"
  refine⟨a,M,none,n,_,_,rfl,hM',P.ok,by omega,by omega,h1,fun row H2 s2 _ hrow=>?_,fun H2 s2 hk=>?_⟩
  .rw[Int.toNat_natCast,g1]at hrow
   injection hrow with hrow
   subst hrow
   walk_at "y"
   refine⟨Nat.le_trans (show _<=2000 by omega) (by decide),?_⟩
   refine call_e hW ?_
   walk_at "y"
   refine⟨a,M,_,_,rfl,hM'.mono (tp_same s2),P.ok,h1,?_⟩
   rw[gs]
   walk_at "y"
   exact⟨⟨_,_,rfl⟩,s1.trans s2⟩
  .have:=P.lt (i:=i) (by omega) h1
   omega
 .rintro σ H' ⟨⟨x6,x7,rfl⟩,s1⟩
  walk_at "y"
  exact q _ s1
def spGot:Sp:=fun vs H Q _=>∃(a:Addr) (M:List Rm) (n part B:Nat) (bits:List Bool),vs=[.ref a,.int n,.int part,.str (tx (sr M n part bits B).1)]/\IsM H a M/\Pt M n part B bits/\∀H',Same H H'->Q (.str (tx bits)) H'
theorem body_got {C:Rc} (hN:C.N.length=8) (hR:C.fs "number_of"=some spNumOf) (hB:C.fs "_law_binary"=some spBinary) (hW:C.fs "walk"=some spWalk):∀vs H Q E,spGot vs H Q E->tSs C c_got { nx:=fun _ H'=>Q .non H',rt:=Q } (L2.start C.N vs) H:=by
 intro vs H Q E h
 obtain⟨a,M,n,part,B,bits,rfl,hM,P,q⟩:=h
 rw[start_eq hN]
 unfold c_got
 have hpl:B<=B*n:=Nat.le_mul_of_pos_right B P.n1
 have hbl:B*part<=B*6:=Nat.mul_le_mul_left B P.p6
 have c1:=P.n40
 have c2:=P.p6
 have c3:=P.le
 have c4:=P.long
 have c5:=P.len
 have c6:=P.p1
 have c7:=P.n1
 obtain⟨_,hl,_⟩:=P.sr (Nat.le_refl B)
 generalize hrow:(sr M n part bits B).1=row at hl
 have hz:row.length<=sizeLine:=Nat.le_trans (show _<=2400 by omega) (by decide)
 walk_at "y"
 refine⟨hz,?_⟩
 refine at_r3 (by omega) (by omega) (by omega) (by omega) (by omega) (by omega) ?_
 rw[hl,BK.nStep_mul (by omega)]
 refine for_c (fun i σ H'=>(∃x6 x7,σ=[some (.ref a),some (.int n),some (.int part),some (.str (tx row)),some (.str (tx (bits.take (i*part)))),some (.int (sr M n part bits i).2),x6,x7])/\Same H H') ⟨⟨_,_,by rw[Nat.zero_mul];rfl⟩,Same.refl _⟩ ?_ ?_
 .rintro i σ H' hi ⟨⟨x6,x7,rfl⟩,s1⟩
  have hb:=mul_lt_of (m:=part) hi
  have hbn:=mul_lt_of (m:=n) hi
  obtain⟨h1,h2,h3⟩:=P.sr (i:=i) (by omega)
  obtain⟨g1,g2,e,g3,g4⟩:=wd_ok P.ok h1 (P.lt (i:=i) (by omega) h1)
  have gs:=P.step hi
  have bl:=blk_len P.len hi
  have hw:=P.blk hi
  rw[hrow]at hw
  rw[show(0:Int)+(i:Int)*(n:Int)=((i*n:Nat):Int) by rw[Int.natCast_mul,Int.zero_add]]
  have hM':=hM.mono (tp_same s1)
  generalize hv:wd M n (sr M n part bits i).2 (num (blk part bits i))=w at g1 g2 g3 gs hw
  walk_at "y"
  refine call_e hR ?_
  walk_at "y"
  rw[show((i*n:Nat):Int)+(n:Int)=((i*n+n:Nat):Int) by omega]
  refine sl_mid hz (by omega) ?_
  rw[Nat.add_sub_cancel_left,hw]
  walk_at "y"
  refine⟨a,M,none,_,_,w,rfl,hM',P.ok,by omega,by omega,h1,g3,.inl rfl,fun k H2 s2 hk=>?_⟩
  rw[g2]at hk
  have ek:=K24.rws_inj g1 hk
  subst ek
  walk_at "y"
  refine call_e hB ?_
  walk_at "y"
  refine⟨blk part bits i,by rw[bl],by omega,fun H3 s3=>?_⟩
  walk_at "y"
  refine⟨Nat.le_trans (show _<=4000 by rw[List.length_take];omega) (by decide),?_⟩
  refine call_e hW ?_
  walk_at "y"
  rw[show((i*n:Nat):Int)+(n:Int)=((i*n+n:Nat):Int) by omega]
  refine sl_mid hz (by omega) ?_
  rw[Nat.add_sub_cancel_left,hw]
  walk_at "y"
  refine⟨a,M,_,_,rfl,hM'.mono (tp_same (s2.trans s3)),P.ok,h1,?_⟩
  rw[gs]
  walk_at "y"
  exact⟨⟨_,_,by rw[take_blk (B:=B)];rfl⟩,s1.trans (s2.trans s3)⟩
 .rintro σ H' ⟨⟨x6,x7,rfl⟩,s1⟩
  walk_at "y"
  rw[<- P.len,List.take_length]
  exact q _ s1
def spTooFew:Sp:=fun vs H Q _=>∃(a:Addr) (M:List Rm) (n part:Nat),vs=[.ref a,.int part,.int n]/\IsM H a M/\OkM M/\M.length<=60/\n<=40/\part<=6/\(∃r,r<M.length/\wy M none n r<2 ^ part)/\∀H',Same H H'->Q (.bl true) H'
theorem body_few {C:Rc} {c1:Addr} {L:List Str} (hN:C.N.length=4) (hR:C.fs "row_at"=some spRowAtX) (G:ClsG C "NoNumber" c1 L) (hx:W.exmOne C.K (.ref c1) (.ref c1)=some true):∀vs H Q E,spTooFew vs H Q E->tSs C c_too_few { nx:=fun _ H'=>Q .non H',rt:=Q } (L2.start C.N vs) H:=by
 intro vs H Q E h
 obtain⟨a,M,n,part,rfl,hM,hO,h60,hn,hp,⟨r0,hr0,hw⟩,q⟩:=h
 rw[start_eq hN]
 unfold c_too_few
 obtain⟨mv,hmv,hmr⟩:=id hM
 walk_at "y"
 refine at_lenT (SqT.of hmv) ?_
 rw[hmr.len]
 walk_at "y"
 refine at_r1 (by omega) (by omega) (for_r (n:=((M.length:Nat):Int).toNat) (fun i σ H'=>(∃x3,σ=[some (.ref a),some (.int part),some (.int n),x3])/\Same H H'/\i<=r0) ⟨⟨_,rfl⟩,Same.refl _,Nat.zero_le _⟩ ?_ ?_)
 .rintro i σ H1 hi ⟨⟨x3,rfl⟩,s1,hir⟩
  have hi:i<M.length:=by omega
  rw[show(0:Int)+(i:Int)=((i:Nat):Int) by omega]
  walk_at "y"
  rw[s_tryN]
  generalize hC:({ C with xk:=CaughtN C "NoNumber" _ _ }:Rc)=C'
  have hR':C'.fs "row_at"=some spRowAtX:=by rw[<- hC];exact hR
  walk_at "y"
  refine call_e hR' ?_
  walk_at "y"
  refine⟨⟨by omega,by omega,by decide⟩,?_⟩
  have hpw:(1:Int)*2 ^ ((part:Nat):Int).toNat=((2 ^ part:Nat):Int):=by rw[Int.toNat_natCast,Int.one_mul,Int.natCast_pow];rfl
  rw[hpw]
  have hpos:0<2 ^ part:=Nat.pow_pos (by decide)
  refine⟨a,M,none,n,i,_,rfl,hM.mono (tp_same s1),hO,by omega,by omega,hi,fun row H2 s2 h0 hrow=>?_,fun H2 s2 _=>?_⟩
  .have:=lt_of_get hrow
   rw[rws_len]at this
   walk_at "y"
   refine⟨⟨_,rfl⟩,s1.trans s2,?_⟩
   rcases Nat.lt_or_ge i r0 with z|z
   .exact z
   .have e:i=r0:=by omega
    subst e
    omega
  .rw[<- hC]
   refine caughtN G.own G.own hx ?_
   walk_at "y"
   exact q _ (s1.trans s2)
 .rintro σ H1 ⟨⟨x3,rfl⟩,s1,hir⟩
  omega
theorem r2_len1 {b h:Nat}:(r2 [0] b h).length=h:=by
 induction h with
 |zero=>rfl
 |succ h ih=>rw[r2_succ,List.length_append,ih];rfl
theorem flipped {bits:List Bool} {i:Nat} {c:Bool} (h:bits[i]?=some c):(bits.take i++[!c]++bits.drop (i+1)).length=bits.length/\bits≠bits.take i++[!c]++bits.drop (i+1):=by
 have hi:=lt_of_get h
 refine⟨by simp;omega,fun e=>?_⟩
 have e2:(bits.take i++[!c]++bits.drop (i+1))[i]?=some (!c):=by
  rw[List.getElem?_append_left (by simp;omega),List.getElem?_append_right (by simp;omega),List.length_take,Nat.min_eq_left (by omega),Nat.sub_self]
  rfl
 rw[<- e,h]at e2
 cases c<;>simp at e2
theorem at_isB {K:W.Frag} {H:Hp} {Q:VK} {b c:Bool} (q:Q (.bl (decide (b=c))) H):rCmp K .Is (.bl b) (.bl c) H Q:=⟨c,rfl,rfl,by cases b<;>cases c<;>exact q⟩
theorem at_isnB {K:W.Frag} {H:Hp} {Q:VK} {b c:Bool} (q:Q (.bl (!decide (b=c))) H):rCmp K .IsNot (.bl b) (.bl c) H Q:=⟨c,rfl,rfl,by cases b<;>cases c<;>exact q⟩
theorem leq_nV {a b:List Nat}:LEq (a.map nV) (b.map nV):=by
 intro i x y h1 h2
 rw[List.getElem?_map]at h1 h2
 obtain⟨n,_,rfl⟩:=Option.map_eq_some_iff.mp h1
 obtain⟨m,_,rfl⟩:=Option.map_eq_some_iff.mp h2
 exact .inl ⟨rfl,fun b z=>nomatch z⟩
theorem leq_two {x y:Str}:LEq [V.str x,V.str y] [V.str x,V.str y]:=by
 intro i u v h1 h2
 rw[h1]at h2
 injection h2 with h2
 subst h2
 rcases List.mem_cons.mp (List.mem_of_getElem? h1)with rfl|h1
 .exact .inl ⟨rfl,fun b z=>nomatch z⟩
 .rw[List.mem_singleton.mp h1]
  exact .inl ⟨rfl,fun b z=>nomatch z⟩
def spLaw (K:W.Frag):Sp:=fun vs H Q _=>∃(a:Addr) (ns:List Int),vs=[.ref a]/\SqL K H a (ns.map V.int)/\ns.length<=63/\∀H',Q (.bl true) H'
structure FsLaw (C:Rc):Prop where
 box:C.fs "_law_box"=some (spBox C.K)
 bounds:C.fs "_law_bounds"=some K04.spBoundsX
 mof:C.fs "machine_of"=some spMOfO
 keeps:C.fs "keeps"=some spKeepsO
 trim:C.fs "trimmed"=some spTrimX
 take:C.fs "_law_take"=some spTake
 enough:C.fs "_law_enough"=some spEnough
 few:C.fs "_law_too_few"=some spTooFew
 bits:C.fs "_law_bits"=some spBits
 put:C.fs "_law_put"=some spPut
 got:C.fs "_law_got"=some spGot
theorem body_law {C:Rc} (hN:C.N.length=13) (F:FsLaw C):∀vs H Q E,spLaw C.K vs H Q E->tSs C c_law { nx:=fun _ H'=>Q .non H',rt:=Q } (L2.start C.N vs) H:=by
 intro vs H Q E h
 obtain⟨a,ns,rfl,hs,h63,q⟩:=h
 rw[start_eq hN]
 unfold c_law
 walk_at "y"
 refine call_e F.bounds ?_
 walk_at "y"
 refine call_e F.box ?_
 walk_at "y"
 refine⟨a,ns,_,rfl,hs,by omega,by omega,fun b hb=>?_⟩
 have hs1:=(same_new hb (BoxO b 0)).seq hs
 have hb1:upd H b (BoxO b 0) b=some (BoxO b 0):=upd_same
 generalize upd H b (BoxO b 0)=H1 at hs1 hb1 ⊢
 walk_at "y"
 refine⟨b,0,rfl,hb1,by omega,fun p l0 h0 l1 h1 sp H2 g2 hB a0 b0 a1 b1=>?_⟩
 have hs2:=g2.seq hs1
 walk_at "y"
 refine call_e F.mof ?_
 walk_at "y"
 refine⟨p,l0,h0,l1,h1,sp,rfl,hB,fun m M H3 s3 hM hI=>?_⟩
 have hs3:=s3.seq hs2
 have hB3:=hB.mono (tp_same s3)
 obtain⟨mv,hmv,hmr⟩:=id hM
 walk_at "y"
 refine at_lenT (SqT.of hmv) ?_
 rw[hmr.len]
 walk_at "y"
 generalize hD:kSeq C _ _=D0
 have key:∀(p m:Addr) (sp:Option Nat) (M:List Rm) (H':Hp),SqL C.K H' a (ns.map V.int)->IsB H' p l0 h0 l1 h1 sp->IsM H' m M->IsO l0 h0 l1 h1 sp M->M.length<=60->D0.nx [some (.ref a),some (.ref p),some (.ref m),none,none,none,none,none,none,none,none,none,none] H':=by
  intro p m sp M H0 hs hB hM hI h60
  rw[<- hD]
  clear hD D0
  obtain⟨mv,hmv,hmr⟩:=id hM
  walk_at "y"
  refine⟨by decide,fun p1 hp1=>?_⟩
  have s1:=same_new hp1 (.tup [])
  have f1:upd H0 p1 (.tup []) p1=some (.tup []):=upd_same
  generalize upd H0 p1 (.tup [])=H1 at s1 f1 ⊢
  have hs:=s1.seq hs
  have hB:=hB.mono (tp_same s1)
  have hM:=hM.mono (tp_same s1)
  have hmv:=s1 _ _ hmv
  have hO:=hI.ok
  refine at_eqT0 (SqT.of hmv) (SqT.of f1) ?_
  walk_at "y"
  refine by_dec (fun hq=>?_) fun hq=>?_
  .have hM0:M=[]:=List.length_eq_zero_iff.mp (by rw[<- hmr.len,hq];rfl)
   walk_at "y"
   refine call_e F.keeps ?_
   walk_at "y"
   refine⟨p,l0,h0,l1,h1,sp,M,[false],rfl,hB,hI,h60,by decide,.inl ⟨hM0,by simp,fun H2 s2=>?_⟩⟩
   walk_at "y"
   refine at_isB ?_
   walk_at "y"
   refine call_e F.keeps ?_
   walk_at "y"
   refine⟨p,l0,h0,l1,h1,sp,M,[true],rfl,hB.mono (tp_same s2),hI,h60,by decide,.inl ⟨hM0,by simp,fun H3 s3=>?_⟩⟩
   walk_at "y"
   refine at_isB ?_
   exact q _
  have hpos:1<=M.length:=by
   have:=hmr.len
   cases mv with
   |nil=>exact absurd rfl hq
   |cons _ _=>simp at this;omega
  walk_at "y"
  refine call_e F.trim ?_
  walk_at "y"
  refine⟨m,M,rfl,hM,by omega,fun t t' l rs H2 s2 _ ht hl hM2 hRs=>?_⟩
  cases hRs.uniq hI.again
  have hs:=s2.seq hs
  have hB:=hB.mono (tp_same s2)
  have hM:=hM.mono (tp_same s2)
  have hmv:=s2 _ _ hmv
  walk_at "y"
  refine at_ixT (SqT.of ht) rfl ?_
  walk_at "y"
  refine at_lenT (SqT.of hmv) ?_
  rw[hmr.len]
  walk_at "y"
  refine at_range1 fun pr hpr=>?_
  walk_at "y"
  refine at_listR upd_same (by omega) (by omega) (by omega) (by omega) (Nat.le_of_lt (small1000 (by omega))) fun R hRr=>?_
  rw[show(((M.length:Nat):Int)-0).toNat=M.length by omega,rgs_nV]
  have s3:=(same_new hpr (.rng 0 ((M.length:Nat):Int))).trans (same_new hRr (.lst ((List.range M.length).map nV)))
  have hR3:upd (upd H2 pr (.rng 0 ((M.length:Nat):Int))) R (.lst ((List.range M.length).map nV)) R=some (.lst ((List.range M.length).map nV)):=upd_same
  generalize upd (upd H2 pr (.rng 0 ((M.length:Nat):Int))) R (.lst ((List.range M.length).map nV))=H3 at s3 hR3 ⊢
  walk_at "y"
  refine at_neL (SqL.of (s3 _ _ hl)) (SqL.of hR3) (fun _=>leq_nV) ?_
  rw[decide_eq_true rfl]
  have hs:=s3.seq hs
  have hB:=hB.mono (tp_same s3)
  have hM:=hM.mono (tp_same s3)
  have hmv:=s3 _ _ hmv
  walk_at "y"
  refine call_e F.box ?_
  walk_at "y"
  refine⟨a,ns,_,rfl,hs,by omega,by omega,fun b hb=>?_⟩
  have s4:=same_new hb (BoxO b 0)
  have hb4:upd H3 b (BoxO b 0) b=some (BoxO b 0):=upd_same
  generalize upd H3 b (BoxO b 0)=H4 at s4 hb4 ⊢
  walk_at "y"
  refine call_e F.take ?_
  walk_at "y"
  refine⟨b,0,_,rfl,hb4,by omega,by decide,by decide,fun k5 H5 h50 h51 g5=>?_⟩
  obtain⟨k5,rfl⟩:=Int.eq_ofNat_of_zero_le h50
  have s5:=(Go.of_same (c:=0) s4).trans g5
  obtain⟨n5,hb5,hn5,_⟩:=g5.boxed hb4 (by omega)
  have hs:=s5.seq hs
  have hB:=hB.mono s5.tp
  have hM:=hM.mono s5.tp
  walk_at "y"
  rw[show(1:Int)+((k5:Nat):Int)=((k5+1:Nat):Int) by omega]
  refine call_e F.enough ?_
  walk_at "y"
  refine⟨m,M,k5+1,rfl,hM,hO,hpos,h60,by omega,fun H6 s6 hno=>?_,fun n H6 s6 hn1 hn40 hw=>?_⟩
  .have hM:=hM.mono (tp_same s6)
   walk_at "y"
   refine call_e F.few ?_
   walk_at "y"
   refine call_e F.take ?_
   walk_at "y"
   refine⟨b,n5,_,rfl,s6 _ _ hb5,by omega,by decide,by decide,fun k7 H7 h70 h71 g7=>?_⟩
   obtain⟨k7,rfl⟩:=Int.eq_ofNat_of_zero_le h70
   walk_at "y"
   refine⟨m,M,k7+1,k5+1,by rw[show(1:Int)+((k7:Nat):Int)=((k7+1:Nat):Int) by omega],hM.mono g7.tp,hO,h60,by omega,by omega,hno _ (by omega) (by omega),fun H8 s8=>?_⟩
   walk_at "y"
   exact q _
  have hs:=s6.seq hs
  have hB:=hB.mono (tp_same s6)
  have hM:=hM.mono (tp_same s6)
  walk_at "y"
  refine at_r1 (by omega) (by omega) (for_r (n:=(4:Int).toNat) (fun i σ H'=>(∃x3 x6 x7 x8 x9 x10 x11 x12,σ=[some (.ref a),some (.ref p),some (.ref m),x3,some (.int ((k5+1:Nat):Int)),some (.int n),x6,x7,x8,x9,x10,x11,x12])/\SqL C.K H' a (ns.map V.int)/\IsB H' p l0 h0 l1 h1 sp/\IsM H' m M) ⟨⟨_,_,_,_,_,_,_,_,rfl⟩,hs,hB,hM⟩ ?_ ?_)
  .rintro i σ H7 hi ⟨⟨x3,x6,x7,x8,x9,x10,x11,x12,rfl⟩,hs,hB,hM⟩
   have hi:i<4:=hi
   walk_at "y"
   refine call_e F.box ?_
   walk_at "y"
   refine⟨a,ns,_,rfl,hs,by omega,by omega,fun b hb=>?_⟩
   have s8:=same_new hb (BoxO b 0)
   have hb8:upd H7 b (BoxO b 0) b=some (BoxO b 0):=upd_same
   generalize upd H7 b (BoxO b 0)=H8 at s8 hb8 ⊢
   have hs:=s8.seq hs
   have hB:=hB.mono (tp_same s8)
   have hM:=hM.mono (tp_same s8)
   walk_at "y"
   refine call_e F.bits ?_
   walk_at "y"
   refine call_e F.take ?_
   walk_at "y"
   refine⟨⟨by omega,.inl (by omega)⟩,?_⟩
   have hdiv:(1:Int)<=400 / (n:Int)/\(400 / (n:Int))*(n:Int)<=400:=by
    refine⟨?_,Int.ediv_mul_le _ (by omega)⟩
    rw[Int.le_ediv_iff_mul_le (by omega)]
    omega
   generalize hmn:(if 400 / (n:Int)<12 then 400 / (n:Int)else(12:Int))=mn
   have hmn2:1<=mn/\mn<=12/\mn<=400 / (n:Int):=by
    rw[<- hmn]
    split<;>omega
   refine⟨b,0,_,rfl,hb8,by omega,by omega,by omega,fun k9 H9 h90 h91 g9=>?_⟩
   obtain⟨k9,rfl⟩:=Int.eq_ofNat_of_zero_le h90
   obtain⟨n9,hb9,hn9,_⟩:=g9.boxed hb8 (by omega)
   walk_at "y"
   refine⟨.inl ⟨by omega,by omega⟩,?_⟩
   have hlong:(k9+1)*n<=400:=by
    have h1:((k9:Int)+1)*(n:Int)<=(400 / (n:Int))*(n:Int):=Int.mul_le_mul_of_nonneg_right (by omega) (by omega)
    have h2:(((k9+1)*n:Nat):Int)=((k9:Int)+1)*(n:Int):=by rw[Int.natCast_mul];rfl
    omega
   have hsz:(k5+1)*(1+k9)<=6*12:=Nat.mul_le_mul (by omega) (by omega)
   rw[show((k5+1:Nat):Int)*(1+(k9:Int))=(((k5+1)*(1+k9):Nat):Int) by rw[Int.natCast_mul];rfl]
   refine⟨b,n9,_,rfl,hb9,by omega,by omega,fun bits H10 hbits g10=>?_⟩
   obtain⟨n10,hb10,hn10,_⟩:=g10.boxed hb9 (by omega)
   have hz:bits.length<=sizeLine:=small16 (by omega)
   have hbp:1<=bits.length:=by rw[hbits];exact Nat.mul_pos (by omega) (by omega)
   walk_at "y"
   refine call_e F.take ?_
   walk_at "y"
   refine⟨hz,?_⟩
   refine⟨b,n10,_,rfl,hb10,by omega,by omega,by omega,fun k11 H11 h110 h111 g11=>?_⟩
   obtain⟨k11,rfl⟩:=Int.eq_ofNat_of_zero_le h110
   have hk11:k11<bits.length:=by omega
   obtain⟨c,hc⟩:∃c,bits[k11]?=some c:=⟨_,List.getElem?_eq_getElem hk11⟩
   obtain⟨hfl,hfn⟩:=flipped hc
   have gg:=g9.trans (g10.trans g11)
   have hs:=gg.seq hs
   have hB:=hB.mono gg.tp
   have hM:=hM.mono gg.tp
   walk_at "y"
   refine sl_to hz ?_
   walk_at "y"
   refine at_ixtx hz (by rw[atI_nat];exact hc) ?_
   walk_at "y"
   refine at_ixtx (c:=!c) (by decide) (by cases c<;>rfl) ?_
   walk_at "y"
   refine⟨Nat.le_trans (show _<=1000 by simp;omega) (by decide),?_⟩
   rw[show((k11:Nat):Int)+1=((k11+1:Nat):Int) by omega]
   refine sl_from hz ?_
   walk_at "y"
   refine⟨Nat.le_trans (show _<=1000 by simp;omega) (by decide),?_⟩
   generalize bits.take k11++[!c]++bits.drop (k11+1)=other at hfl hfn ⊢
   have hlen:bits.length=(k9+1)*(k5+1):=by rw[hbits,Nat.mul_comm,Nat.add_comm 1]
   have P1:Pt M n (k5+1) (k9+1) bits:=⟨hO,hpos,h60,hn1,hn40,by omega,by omega,hw,hlen,hlong⟩
   have P2:Pt M n (k5+1) (k9+1) other:=⟨hO,hpos,h60,hn1,hn40,by omega,by omega,hw,by rw[hfl,hlen],hlong⟩
   refine⟨by decide,fun pt hpt=>?_⟩
   have s12:=same_new hpt (.tup [.str (tx bits),.str (tx other)])
   have hpt2:upd H11 pt (.tup [.str (tx bits),.str (tx other)]) pt=some (.tup [.str (tx bits),.str (tx other)]):=upd_same
   generalize upd H11 pt (.tup [.str (tx bits),.str (tx other)])=H12 at s12 hpt2 ⊢
   have hs:=s12.seq hs
   have hB:=hB.mono (tp_same s12)
   have hM:=hM.mono (tp_same s12)
   generalize hra:(sr M n (k5+1) bits (k9+1)).1=ra
   generalize hrb:(sr M n (k5+1) other (k9+1)).1=rb
   have hla:=(P1.sr (Nat.le_refl _)).2.1
   have hlb:=(P2.sr (Nat.le_refl _)).2.1
   have hwa:=(P1.sr (Nat.le_refl _)).2.2
   have hwb:=(P2.sr (Nat.le_refl _)).2.2
   rw[hra]at hla hwa
   rw[hrb]at hlb hwb
   have hne:ra≠rb:=fun z=>hfn (P1.inj P2 (by rw[hra,hrb,z]))
   walk_at "y"
   refine at_iv_tup (SqT.of hpt2) (comp_t (vs:=[.str (tx bits),.str (tx other)]) (fun i xs H'=>xs=[V.str (tx ra),V.str (tx rb)].take i/\i<=2/\Same H12 H') ⟨rfl,by omega,Same.refl _⟩ (fun i xs H' pv=>SqT.of (pv.2.2 _ _ hpt2)) ?_ ?_)
   .rintro j xs H13 x R hx ⟨rfl,hj,s13⟩ hR
    have hj2:=lt_of_get hx
    have hj2:j=0\/j=1:=by simp at hj2;omega
    rcases hj2 with rfl|rfl
    .cases hx
     walk_at "y"
     refine call_e F.put ?_
     walk_at "y"
     refine⟨m,M,n,k5+1,k9+1,bits,rfl,hM.mono (tp_same s13),P1,fun H14 s14=>?_⟩
     rw[hra]
     walk_at "y"
     exact⟨small1000 (by simp),hR _ _ ⟨rfl,by omega,s13.trans s14⟩⟩
    .cases hx
     walk_at "y"
     refine call_e F.put ?_
     walk_at "y"
     refine⟨m,M,n,k5+1,k9+1,other,rfl,hM.mono (tp_same s13),P2,fun H14 s14=>?_⟩
     rw[hrb]
     walk_at "y"
     exact⟨small1000 (by simp),hR _ _ ⟨rfl,by omega,s13.trans s14⟩⟩
   .rintro xs H13 ⟨rfl,_,s13⟩ L hL
    have s14:=same_new hL (.lst [V.str (tx ra),V.str (tx rb)])
    have hL2:upd H13 L (.lst [V.str (tx ra),V.str (tx rb)]) L=some (.lst [V.str (tx ra),V.str (tx rb)]):=upd_same
    show kSet _ _ _ (.ref L) (upd H13 L (.lst [V.str (tx ra),V.str (tx rb)]))
    generalize upd H13 L (.lst [V.str (tx ra),V.str (tx rb)])=H14 at s14 hL2 ⊢
    have s1314:=s13.trans s14
    have hs:=s1314.seq hs
    have hB:=hB.mono (tp_same s1314)
    have hM:=hM.mono (tp_same s1314)
    walk_at "y"
    refine at_ixL (SqL.of hL2) rfl ?_
    walk_at "y"
    refine at_ixL (SqL.of hL2) rfl ?_
    walk_at "y"
    rw[decide_eq_false (fun z=>hne (tx_inj z))]
    walk_at "y"
    refine call_e F.keeps ?_
    walk_at "y"
    refine at_ixL (SqL.of hL2) rfl ?_
    walk_at "y"
    refine⟨p,l0,h0,l1,h1,sp,M,ra,rfl,hB,hI,h60,by omega,.inr ⟨⟨0,hpos,_,hwa⟩,fun H15 s15=>?_⟩⟩
    walk_at "y"
    refine at_isnB ?_
    walk_at "y"
    refine call_e F.keeps ?_
    walk_at "y"
    refine at_ixL (SqL.of (s15 _ _ hL2)) rfl ?_
    walk_at "y"
    refine⟨p,l0,h0,l1,h1,sp,M,rb,rfl,hB.mono (tp_same s15),hI,h60,by omega,.inr ⟨⟨0,hpos,_,hwb⟩,fun H16 s16=>?_⟩⟩
    walk_at "y"
    refine at_isnB ?_
    have s1516:=s15.trans s16
    have hs:=s1516.seq hs
    have hB:=hB.mono (tp_same s1516)
    have hM:=hM.mono (tp_same s1516)
    have hL2:=s1516 _ _ hL2
    walk_at "y"
    refine at_iv_lst (SqL.of hL2) (comp_l (vs:=[.str (tx ra),.str (tx rb)]) (fun i xs H'=>xs=[V.str (tx bits),V.str (tx other)].take i/\i<=2/\Same H16 H') ⟨rfl,by omega,Same.refl _⟩ (fun i xs H' pv=>SqL.of (pv.2.2 _ _ hL2)) ?_ ?_)
    .rintro j xs H17 x R hx ⟨rfl,hj,s17⟩ hR
     have hj2:=lt_of_get hx
     have hj2:j=0\/j=1:=by simp at hj2;omega
     rcases hj2 with rfl|rfl
     .cases hx
      walk_at "y"
      refine call_e F.got ?_
      walk_at "y"
      refine⟨m,M,n,k5+1,k9+1,bits,by rw[hra],hM.mono (tp_same s17),P1,fun H18 s18=>?_⟩
      walk_at "y"
      exact⟨small1000 (by simp),hR _ _ ⟨rfl,by omega,s17.trans s18⟩⟩
     .cases hx
      walk_at "y"
      refine call_e F.got ?_
      walk_at "y"
      refine⟨m,M,n,k5+1,k9+1,other,by rw[hrb],hM.mono (tp_same s17),P2,fun H18 s18=>?_⟩
      walk_at "y"
      exact⟨small1000 (by simp),hR _ _ ⟨rfl,by omega,s17.trans s18⟩⟩
    .rintro xs H17 ⟨rfl,_,s17⟩ L3 hL3
     have s18:=same_new hL3 (.lst [V.str (tx bits),V.str (tx other)])
     have hL4:upd H17 L3 (.lst [V.str (tx bits),V.str (tx other)]) L3=some (.lst [V.str (tx bits),V.str (tx other)]):=upd_same
     show kC1 _ _ _ _ _ (.ref L3) (upd H17 L3 (.lst [V.str (tx bits),V.str (tx other)]))
     generalize upd H17 L3 (.lst [V.str (tx bits),V.str (tx other)])=H18 at s18 hL4 ⊢
     walk_at "y"
     refine⟨by decide,fun p19 hp19=>?_⟩
     have s19:=same_new hp19 (.lst [V.str (tx bits),V.str (tx other)])
     have hp20:upd H18 p19 (.lst [V.str (tx bits),V.str (tx other)]) p19=some (.lst [V.str (tx bits),V.str (tx other)]):=upd_same
     generalize upd H18 p19 (.lst [V.str (tx bits),V.str (tx other)])=H19 at s19 hp20 ⊢
     refine at_neL (SqL.of (s19 _ _ hL4)) (SqL.of hp20) (fun _=>leq_two) ?_
     rw[decide_eq_true rfl]
     walk_at "y"
     have sF:=s17.trans (s18.trans s19)
     exact⟨⟨_,_,_,_,_,_,_,_,rfl⟩,sF.seq hs,hB.mono (tp_same sF),hM.mono (tp_same sF)⟩
  .rintro σ H7 ⟨⟨x3,x6,x7,x8,x9,x10,x11,x12,rfl⟩,hs,hB,hM⟩
   walk_at "y"
   exact q _
 refine by_dec (fun hgt=>?_) fun hgt=>?_
 .walk_at "y"
  refine at_cutT (SqT.of hB3.at') (fun z=>absurd z.2 (show ¬(4:Nat)=5 by decide)) fun p4 hp4=>?_
  have s4:=same_new hp4 (.tup [nV l0,nV h0,nV l1,nV h1])
  have hp5:upd H3 p4 (.tup [nV l0,nV h0,nV l1,nV h1]) p4=some (.tup [nV l0,nV h0,nV l1,nV h1]):=upd_same
  show kB1 _ _ _ _ _ (.ref p4) (upd H3 p4 (.tup [nV l0,nV h0,nV l1,nV h1]))
  generalize upd H3 p4 (.tup [nV l0,nV h0,nV l1,nV h1])=H4 at s4 hp5 ⊢
  walk_at "y"
  refine⟨by decide,fun p6 hp6=>?_⟩
  have s5:=same_new hp6 (.tup [.non])
  have hp7:upd H4 p6 (.tup [.non]) p6=some (.tup [.non]):=upd_same
  generalize upd H4 p6 (.tup [.non])=H5 at s5 hp7 ⊢
  refine at_catT (SqT.of (s5 _ _ hp5)) (SqT.of hp7) (small16 (show 5<=1000 by decide)) (fun z=>nomatch z) (fun _ z=>nomatch z) fun _ _ p8 hp8=>?_
  have s6:=s4.trans (s5.trans (same_new hp8 (.tup ([nV l0,nV h0,nV l1,nV h1]++[.non]))))
  have hp9:upd H5 p8 (.tup ([nV l0,nV h0,nV l1,nV h1]++[.non])) p8=some (.tup [nV l0,nV h0,nV l1,nV h1,oV none]):=upd_same
  generalize upd H5 p8 (.tup ([nV l0,nV h0,nV l1,nV h1]++[.non]))=H6 at s6 hp9 ⊢
  have hB6:IsB H6 p8 l0 h0 l1 h1 none:=⟨hp9,hB.b0,hB.b1,fun s z=>nomatch z⟩
  walk_at "y"
  refine call_e F.mof ?_
  walk_at "y"
  refine⟨p8,l0,h0,l1,h1,none,rfl,hB6,fun m' M' H7 s7 hM' hI'=>?_⟩
  walk_at "y"
  refine key p8 m' none M' H7 ((s6.trans s7).seq hs3) (hB6.mono (tp_same s7)) hM' hI' ?_
  have h1':=hI'.len
  have h2':(rk (lvs none) h0 h1).length=h0+h1:=by
   unfold rk lvs
   rw[List.length_append,r2_len1,r2_len1]
  have:=hB.b0
  have:=hB.b1
  omega
 .walk_at "y"
  exact key p m sp M H3 hs3 hB3 hM hI (by omega)
end K65
namespace K65
open PySem PySem.Spec PyProof.Rows L2 R3 LW SR RW NR NM XR TM BD BE TE
noncomputable def top (i:Nat):Stmt:=PySem.Challenge.pw_runbound_k65_whole_bits_by_numbers.main.body.getD i (.Pass ⟨0,0,0,0⟩)
theorem m_walk:mSs n_p_walk b_p_walk (defScope (top 5)) c_p_walk (defBody (top 5))=true:=by decide +kernel
theorem sc_walk:FnScope n_p_walk ["machine","room","row"] (defScope (top 5)):=⟨rfl,rfl,rfl,by decide +kernel,rfl,by decide +kernel,by decide +kernel⟩
theorem m_rbh:mSs n_p_rooms_behind b_p_rooms_behind (defScope (top 6)) K04.c_p_rooms_behind (defBody (top 6))=true:=by decide +kernel
theorem sc_rbh:FnScope n_p_rooms_behind ["machine","rooms","bit"] (defScope (top 6)):=⟨rfl,rfl,rfl,by decide +kernel,rfl,by decide +kernel,by decide +kernel⟩
theorem m_last:mSs n_p_lasting b_p_lasting (defScope (top 7)) c_p_lasting (defBody (top 7))=true:=by decide +kernel
theorem sc_last:FnScope n_p_lasting ["machine","rooms"] (defScope (top 7)):=⟨rfl,rfl,rfl,by decide +kernel,rfl,by decide +kernel,by decide +kernel⟩
theorem m_part:mSs n_p_part_of b_p_part_of (defScope (top 8)) c_p_part_of (defBody (top 8))=true:=by decide +kernel
theorem sc_part:FnScope n_p_part_of ["machine","numbers"] (defScope (top 8)):=⟨rfl,rfl,rfl,by decide +kernel,rfl,by decide +kernel,by decide +kernel⟩
theorem m_trim:mSs n_p_trimmed b_p_trimmed (defScope (top 9)) c_p_trimmed (defBody (top 9))=true:=by decide +kernel
theorem sc_trim:FnScope n_p_trimmed ["machine"] (defScope (top 9)):=⟨rfl,rfl,rfl,by decide +kernel,rfl,by decide +kernel,by decide +kernel⟩
theorem m_behind:mSs n_p_behind_bit b_p_behind_bit (defScope (top 11)) c_p_behind_bit (defBody (top 11))=true:=by decide +kernel
theorem sc_behind:FnScope n_p_behind_bit ["machine","numbers","room","bit"] (defScope (top 11)):=⟨rfl,rfl,rfl,by decide +kernel,rfl,by decide +kernel,by decide +kernel⟩
theorem m_waysums:mSs n_p_way_sums b_p_way_sums (defScope (top 12)) c_p_way_sums (defBody (top 12))=true:=by decide +kernel
theorem sc_waysums:FnScope n_p_way_sums ["machine","numbers"] (defScope (top 12)):=⟨rfl,rfl,rfl,by decide +kernel,rfl,by decide +kernel,by decide +kernel⟩
theorem m_ways:mSs n_p_ways b_p_ways (defScope (top 13)) c_p_ways (defBody (top 13))=true:=by decide +kernel
theorem sc_ways:FnScope n_p_ways ["machine","goal","many"] (defScope (top 13)):=⟨rfl,rfl,rfl,by decide +kernel,rfl,by decide +kernel,by decide +kernel⟩
theorem m_counts:mSs n_p_counts b_p_counts (defScope (top 14)) c_p_counts (defBody (top 14))=true:=by decide +kernel
theorem sc_counts:FnScope n_p_counts ["machine","many"] (defScope (top 14)):=⟨rfl,rfl,rfl,by decide +kernel,rfl,by decide +kernel,by decide +kernel⟩
theorem m_rleft:mSs n_p_row_left b_p_row_left (defScope (top 15)) c_p_row_left (defBody (top 15))=true:=by decide +kernel
theorem sc_rleft:FnScope n_p_row_left ["machine","left","room","number"] (defScope (top 15)):=⟨rfl,rfl,rfl,by decide +kernel,rfl,by decide +kernel,by decide +kernel⟩
theorem m_rat:mSs n_p_row_at b_p_row_at (defScope (top 16)) c_p_row_atX (defBody (top 16))=true:=by decide +kernel
theorem sc_rat:FnScope n_p_row_at ["machine","room","goal","many","number"] (defScope (top 16)):=⟨rfl,rfl,rfl,by decide +kernel,rfl,by decide +kernel,by decide +kernel⟩
theorem m_nleft:mSs n_p_number_left b_p_number_left (defScope (top 17)) c_p_number_left (defBody (top 17))=true:=by decide +kernel
theorem sc_nleft:FnScope n_p_number_left ["machine","left","room","row"] (defScope (top 17)):=⟨rfl,rfl,rfl,by decide +kernel,rfl,by decide +kernel,by decide +kernel⟩
theorem m_nof:mSs n_p_number_of b_p_number_of (defScope (top 18)) c_p_number_of (defBody (top 18))=true:=by decide +kernel
theorem sc_nof:FnScope n_p_number_of ["machine","room","goal","row"] (defScope (top 18)):=⟨rfl,rfl,rfl,by decide +kernel,rfl,by decide +kernel,by decide +kernel⟩
theorem m_rin:mSs n_p_rooms_in_bounds b_p_rooms_in_bounds (defScope (top 20)) c_p_rooms_in_bounds (defBody (top 20))=true:=by decide +kernel
theorem sc_rin:FnScope n_p_rooms_in_bounds ["bounds"] (defScope (top 20)):=⟨rfl,rfl,rfl,by decide +kernel,rfl,by decide +kernel,by decide +kernel⟩
theorem m_rb:mSs n_p_room_behind b_p_room_behind (defScope (top 21)) c_p_room_behind (defBody (top 21))=true:=by decide +kernel
theorem sc_rb:FnScope n_p_room_behind ["bounds","room","bit"] (defScope (top 21)):=⟨rfl,rfl,rfl,by decide +kernel,rfl,by decide +kernel,by decide +kernel⟩
theorem m_min:mSs n_p_machine_in_bounds b_p_machine_in_bounds (defScope (top 22)) c_p_machine_in_bounds (defBody (top 22))=true:=by decide +kernel
theorem sc_min:FnScope n_p_machine_in_bounds ["bounds","rooms"] (defScope (top 22)):=⟨rfl,rfl,rfl,by decide +kernel,rfl,by decide +kernel,by decide +kernel⟩
theorem m_mof:mSs n_p_machine_of b_p_machine_of (defScope (top 23)) c_p_machine_of (defBody (top 23))=true:=by decide +kernel
theorem sc_mof:FnScope n_p_machine_of ["bounds"] (defScope (top 23)):=⟨rfl,rfl,rfl,by decide +kernel,rfl,by decide +kernel,by decide +kernel⟩
theorem m_fault:mSs n_p_fault_at b_p_fault_at (defScope (top 24)) K04.c_p_fault_at (defBody (top 24))=true:=by decide +kernel
theorem sc_fault:FnScope n_p_fault_at ["bounds","row"] (defScope (top 24)):=⟨rfl,rfl,rfl,by decide +kernel,rfl,by decide +kernel,by decide +kernel⟩
theorem m_keeps:mSs n_p_keeps b_p_keeps (defScope (top 25)) K04.c_p_keeps (defBody (top 25))=true:=by decide +kernel
theorem sc_keeps:FnScope n_p_keeps ["bounds","row"] (defScope (top 25)):=⟨rfl,rfl,rfl,by decide +kernel,rfl,by decide +kernel,by decide +kernel⟩
theorem m_cell:mSs n_cell_at b_cell_at (defScope (top 27)) c_cell_at (defBody (top 27))=true:=by decide +kernel
theorem sc_cell:FnScope n_cell_at ["_law_script","_law_k"] (defScope (top 27)):=⟨rfl,rfl,rfl,by decide +kernel,rfl,by decide +kernel,by decide +kernel⟩
theorem m_box:mSs n_box b_box (defScope (top 28)) c_box (defBody (top 28))=true:=by decide +kernel
theorem sc_box:FnScope n_box ["_law_script","_law_k"] (defScope (top 28)):=⟨rfl,rfl,rfl,by decide +kernel,rfl,by decide +kernel,by decide +kernel⟩
theorem m_take:mSs n_take b_take (defScope (top 29)) c_take (defBody (top 29))=true:=by decide +kernel
theorem sc_take:FnScope n_take ["_law_box_here","_law_many_here"] (defScope (top 29)):=⟨rfl,rfl,rfl,by decide +kernel,rfl,by decide +kernel,by decide +kernel⟩
theorem m_bits:mSs n_bits b_bits (defScope (top 31)) c_bits (defBody (top 31))=true:=by decide +kernel
theorem sc_bits:FnScope n_bits ["_law_box_here","_law_many_here"] (defScope (top 31)):=⟨rfl,rfl,rfl,by decide +kernel,rfl,by decide +kernel,by decide +kernel⟩
theorem m_bounds:mSs n_bounds b_bounds (defScope (top 32)) K04.c_bounds (defBody (top 32))=true:=by decide +kernel
theorem sc_bounds:FnScope n_bounds ["_law_box_here"] (defScope (top 32)):=⟨rfl,rfl,rfl,by decide +kernel,rfl,by decide +kernel,by decide +kernel⟩
theorem m_enough:mSs n_enough b_enough (defScope (top 33)) c_enough (defBody (top 33))=true:=by decide +kernel
theorem sc_enough:FnScope n_enough ["_law_machine","_law_part"] (defScope (top 33)):=⟨rfl,rfl,rfl,by decide +kernel,rfl,by decide +kernel,by decide +kernel⟩
theorem m_put:mSs n_put b_put (defScope (top 34)) c_put (defBody (top 34))=true:=by decide +kernel
theorem sc_put:FnScope n_put ["_law_machine","_law_many_here","_law_part","_law_bits_here"] (defScope (top 34)):=⟨rfl,rfl,rfl,by decide +kernel,rfl,by decide +kernel,by decide +kernel⟩
theorem m_binary:mSs n_binary b_binary (defScope (top 35)) c_binary (defBody (top 35))=true:=by decide +kernel
theorem sc_binary:FnScope n_binary ["_law_number","_law_many_here"] (defScope (top 35)):=⟨rfl,rfl,rfl,by decide +kernel,rfl,by decide +kernel,by decide +kernel⟩
theorem m_got:mSs n_got b_got (defScope (top 36)) c_got (defBody (top 36))=true:=by decide +kernel
theorem sc_got:FnScope n_got ["_law_machine","_law_many_here","_law_part","_law_row"] (defScope (top 36)):=⟨rfl,rfl,rfl,by decide +kernel,rfl,by decide +kernel,by decide +kernel⟩
theorem m_few:mSs n_too_few b_too_few (defScope (top 37)) c_too_few (defBody (top 37))=true:=by decide +kernel
theorem sc_few:FnScope n_too_few ["_law_machine","_law_part","_law_many_here"] (defScope (top 37)):=⟨rfl,rfl,rfl,by decide +kernel,rfl,by decide +kernel,by decide +kernel⟩
theorem m_law:mSs n_law b_law (defScope (top 38)) c_law (defBody (top 38))=true:=by decide +kernel
theorem sc_law:FnScope n_law ["_law_script"] (defScope (top 38)):=⟨rfl,rfl,rfl,by decide +kernel,rfl,by decide +kernel,by decide +kernel⟩
set_option hygiene false in
local macro_rules | `(tactic| walk_at "o") => `(tactic| (intro vs H Q E h; repeat (first | (obtain ⟨rfl, _⟩ := h; rfl) | (obtain ⟨_, h⟩ := h))))
def FnD (K:W.Frag) (x:Str) (st:Stmt):Prop:=∃(f:Addr) (fd:FuncData),W.nsIn K mainGlobals x=some (some (.ref f))/\Fun K x x st f fd
theorem fnd_mk {K:W.Frag} {x:Str} {st:Stmt} {f:Addr} {oc:Value} {od an:Option Addr} {osl:Array (Option Value)} {kV doc pm cdv ct:Value} (a:W.nsIn K mainGlobals x=some (some (.ref f))) (l:K.lookup f=some ⟨oc,od,.func (W.fnOf x x (defArgs st) (defBody st) (defScope st) .none kV doc pm an cdv ct),osl⟩) (c:W.codeIn K cdv x=true) (k:W.keepIn K (.ref f)=true):FnD K x st:=⟨f,_,a,fun_mk l c k⟩
theorem all_mk {l:W.OpenLaw} {w:World} {K:W.Frag} {h:Heap} {mg:Str->Option Value} {fa:Addr} (X:K.In h) (G:h.Ns mainGlobals mg) (hfa:mg "law"=some (.ref fa))
  {C1 C2 C3:Addr} {cld1:ClassData}
  (p1:FnD K "walk" (top 5))
  (p2:FnD K "rooms_behind" (top 6))
  (p3:FnD K "lasting" (top 7))
  (p4:FnD K "part_of" (top 8))
  (p5:FnD K "trimmed" (top 9))
  (p6:FnD K "behind_bit" (top 11))
  (p7:FnD K "way_sums" (top 12))
  (p8:FnD K "ways" (top 13))
  (p9:FnD K "counts" (top 14))
  (p10:FnD K "row_left" (top 15))
  (p11:FnD K "row_at" (top 16))
  (p12:FnD K "number_left" (top 17))
  (p13:FnD K "number_of" (top 18))
  (p14:FnD K "rooms_in_bounds" (top 20))
  (p15:FnD K "room_behind" (top 21))
  (p16:FnD K "machine_in_bounds" (top 22))
  (p17:FnD K "machine_of" (top 23))
  (p18:FnD K "fault_at" (top 24))
  (p19:FnD K "keeps" (top 25))
  (p20:FnD K "_law_cell_at" (top 27))
  (p21:FnD K "_law_box" (top 28))
  (p22:FnD K "_law_take" (top 29))
  (p23:FnD K "_law_bits" (top 31))
  (p24:FnD K "_law_bounds" (top 32))
  (p25:FnD K "_law_enough" (top 33))
  (p26:FnD K "_law_put" (top 34))
  (p27:FnD K "_law_binary" (top 35))
  (p28:FnD K "_law_got" (top 36))
  (p29:FnD K "_law_too_few" (top 37))
  (p30:FnD K "law" (top 38))
  (z1:W.nsIn K mainGlobals "~"=some none)
  (z2:W.nsIn K mainGlobals "^"=some none)
  (z3:W.nsIn K mainGlobals "%"=some none)
  (z4:W.nsIn K mainGlobals "int"=some none)
  (z5:W.nsIn K mainGlobals "sorted"=some none)
  (z6:W.nsIn K mainGlobals "set"=some none)
  (z7:W.nsIn K mainGlobals "enumerate"=some none)
  (z8:W.nsIn K mainGlobals "tuple"=some none)
  (z9:W.nsIn K mainGlobals "len"=some none)
  (z10:W.nsIn K mainGlobals "list"=some none)
  (z11:W.nsIn K mainGlobals "range"=some none)
  (z12:W.nsIn K mainGlobals "reversed"=some none)
  (z13:W.nsIn K mainGlobals "str"=some none)
  (z14:W.nsIn K mainGlobals "abs"=some none)
  (z15:W.nsIn K mainGlobals "min"=some none)
  (z16:W.nsIn K mainGlobals "!row_at"=some none)
  (ca1:W.nsIn K mainGlobals "NoNumber"=some (some (.ref C1)))
  (ca2:W.nsIn K mainGlobals "NoRow"=some (some (.ref C2)))
  (ca3:W.nsIn K mainGlobals "RunError"=some (some (.ref C3)))
  (ex1:W.excIn K C1 bmV "ValueError.__new__"=true)
  (xa1:W.findIn K (.ref C1) "__getattribute__"=some (some (.builtin "BaseException.__getattribute__")))
  (xb1:W.findIn K (.ref C1) "__getattr__"=some none)
  (xc1:W.findIn K (.ref C1) "__class__"=some (some (.builtin "object.__class__")))
  (xd1:W.subIn K (.ref C1) (.type "BaseException")=some true)
  (xe1:W.subIn K (.ref C1) (.type "object")=some true)
  (xf1:W.clsIn K C1=some cld1)
  (xm1:W.exmOne K (.ref C1) (.ref C3)=some true)
  (xv1:W.kitOne K (.ref C1) (.type "ValueError")=some true)
  (xk1_1:W.kitOne K (.ref C1) (.ref C1)=some true)
  (xk1_2:W.kitOne K (.ref C1) (.ref C2)=some false)
  (xs1:W.exmOne K (.ref C1) (.ref C1)=some true):
  ∃fd:FuncData,(∀(s:Shared) (v:Value),BindsTo s fd ⟨[v],[]⟩ [("_law_script",v)])/\∀base:Heap,K.In base->base.Ns mainGlobals mg->FnOk l.prog w K mg base CX0 60 fa fd ["_law_script"] (spLaw K):=by
 obtain⟨f1,g1,a1,F1⟩:=p1
 obtain⟨f2,g2,a2,F2⟩:=p2
 obtain⟨f3,g3,a3,F3⟩:=p3
 obtain⟨f4,g4,a4,F4⟩:=p4
 obtain⟨f5,g5,a5,F5⟩:=p5
 obtain⟨f6,g6,a6,F6⟩:=p6
 obtain⟨f7,g7,a7,F7⟩:=p7
 obtain⟨f8,g8,a8,F8⟩:=p8
 obtain⟨f9,g9,a9,F9⟩:=p9
 obtain⟨f10,g10,a10,F10⟩:=p10
 obtain⟨f11,g11,a11,F11⟩:=p11
 obtain⟨f12,g12,a12,F12⟩:=p12
 obtain⟨f13,g13,a13,F13⟩:=p13
 obtain⟨f14,g14,a14,F14⟩:=p14
 obtain⟨f15,g15,a15,F15⟩:=p15
 obtain⟨f16,g16,a16,F16⟩:=p16
 obtain⟨f17,g17,a17,F17⟩:=p17
 obtain⟨f18,g18,a18,F18⟩:=p18
 obtain⟨f19,g19,a19,F19⟩:=p19
 obtain⟨f20,g20,a20,F20⟩:=p20
 obtain⟨f21,g21,a21,F21⟩:=p21
 obtain⟨f22,g22,a22,F22⟩:=p22
 obtain⟨f23,g23,a23,F23⟩:=p23
 obtain⟨f24,g24,a24,F24⟩:=p24
 obtain⟨f25,g25,a25,F25⟩:=p25
 obtain⟨f26,g26,a26,F26⟩:=p26
 obtain⟨f27,g27,a27,F27⟩:=p27
 obtain⟨f28,g28,a28,F28⟩:=p28
 obtain⟨f29,g29,a29,F29⟩:=p29
 obtain⟨f30,g30,a30,F30⟩:=p30
 obtain⟨oc30,od30,kV30,dc30,pm30,an30,cd30,ct30,sl30,rfl,l30,c30⟩:=F30.ex
 have e:=hfa.symm.trans (W.mg_of X G a30)
 cases e
 have b1:=F1.binds (ps:=["machine","room","row"]) fun _ _ _ _ _ _ us hl=>len3 (P:=fun us=>bindArgs _ ({ pos:=us }:Args)=pure (List.zip _ us)) (fun _ _ _=>rfl) us hl
 have m1:=W.mg_of X G a1
 have b2:=F2.binds (ps:=["machine","rooms","bit"]) fun _ _ _ _ _ _ us hl=>len3 (P:=fun us=>bindArgs _ ({ pos:=us }:Args)=pure (List.zip _ us)) (fun _ _ _=>rfl) us hl
 have m2:=W.mg_of X G a2
 have b3:=F3.binds (ps:=["machine","rooms"]) fun _ _ _ _ _ _ us hl=>len2 (P:=fun us=>bindArgs _ ({ pos:=us }:Args)=pure (List.zip _ us)) (fun _ _=>rfl) us hl
 have m3:=W.mg_of X G a3
 have b4:=F4.binds (ps:=["machine","numbers"]) fun _ _ _ _ _ _ us hl=>len2 (P:=fun us=>bindArgs _ ({ pos:=us }:Args)=pure (List.zip _ us)) (fun _ _=>rfl) us hl
 have m4:=W.mg_of X G a4
 have b5:=F5.binds (ps:=["machine"]) fun _ _ _ _ _ _ us hl=>len1 (P:=fun us=>bindArgs _ ({ pos:=us }:Args)=pure (List.zip _ us)) (fun _=>rfl) us hl
 have m5:=W.mg_of X G a5
 have b6:=F6.binds (ps:=["machine","numbers","room","bit"]) fun _ _ _ _ _ _ us hl=>len4 (P:=fun us=>bindArgs _ ({ pos:=us }:Args)=pure (List.zip _ us)) (fun _ _ _ _=>rfl) us hl
 have m6:=W.mg_of X G a6
 have b7:=F7.binds (ps:=["machine","numbers"]) fun _ _ _ _ _ _ us hl=>len2 (P:=fun us=>bindArgs _ ({ pos:=us }:Args)=pure (List.zip _ us)) (fun _ _=>rfl) us hl
 have m7:=W.mg_of X G a7
 have b8:=F8.binds (ps:=["machine","goal","many"]) fun _ _ _ _ _ _ us hl=>len3 (P:=fun us=>bindArgs _ ({ pos:=us }:Args)=pure (List.zip _ us)) (fun _ _ _=>rfl) us hl
 have m8:=W.mg_of X G a8
 have b9:=F9.binds (ps:=["machine","many"]) fun _ _ _ _ _ _ us hl=>len2 (P:=fun us=>bindArgs _ ({ pos:=us }:Args)=pure (List.zip _ us)) (fun _ _=>rfl) us hl
 have m9:=W.mg_of X G a9
 have b10:=F10.binds (ps:=["machine","left","room","number"]) fun _ _ _ _ _ _ us hl=>len4 (P:=fun us=>bindArgs _ ({ pos:=us }:Args)=pure (List.zip _ us)) (fun _ _ _ _=>rfl) us hl
 have m10:=W.mg_of X G a10
 have b11:=F11.binds (ps:=["machine","room","goal","many","number"]) fun _ _ _ _ _ _ us hl=>len5 (P:=fun us=>bindArgs _ ({ pos:=us }:Args)=pure (List.zip _ us)) (fun _ _ _ _ _=>rfl) us hl
 have m11:=W.mg_of X G a11
 have b12:=F12.binds (ps:=["machine","left","room","row"]) fun _ _ _ _ _ _ us hl=>len4 (P:=fun us=>bindArgs _ ({ pos:=us }:Args)=pure (List.zip _ us)) (fun _ _ _ _=>rfl) us hl
 have m12:=W.mg_of X G a12
 have b13:=F13.binds (ps:=["machine","room","goal","row"]) fun _ _ _ _ _ _ us hl=>len4 (P:=fun us=>bindArgs _ ({ pos:=us }:Args)=pure (List.zip _ us)) (fun _ _ _ _=>rfl) us hl
 have m13:=W.mg_of X G a13
 have b14:=F14.binds (ps:=["bounds"]) fun _ _ _ _ _ _ us hl=>len1 (P:=fun us=>bindArgs _ ({ pos:=us }:Args)=pure (List.zip _ us)) (fun _=>rfl) us hl
 have m14:=W.mg_of X G a14
 have b15:=F15.binds (ps:=["bounds","room","bit"]) fun _ _ _ _ _ _ us hl=>len3 (P:=fun us=>bindArgs _ ({ pos:=us }:Args)=pure (List.zip _ us)) (fun _ _ _=>rfl) us hl
 have m15:=W.mg_of X G a15
 have b16:=F16.binds (ps:=["bounds","rooms"]) fun _ _ _ _ _ _ us hl=>len2 (P:=fun us=>bindArgs _ ({ pos:=us }:Args)=pure (List.zip _ us)) (fun _ _=>rfl) us hl
 have m16:=W.mg_of X G a16
 have b17:=F17.binds (ps:=["bounds"]) fun _ _ _ _ _ _ us hl=>len1 (P:=fun us=>bindArgs _ ({ pos:=us }:Args)=pure (List.zip _ us)) (fun _=>rfl) us hl
 have m17:=W.mg_of X G a17
 have b18:=F18.binds (ps:=["bounds","row"]) fun _ _ _ _ _ _ us hl=>len2 (P:=fun us=>bindArgs _ ({ pos:=us }:Args)=pure (List.zip _ us)) (fun _ _=>rfl) us hl
 have m18:=W.mg_of X G a18
 have b19:=F19.binds (ps:=["bounds","row"]) fun _ _ _ _ _ _ us hl=>len2 (P:=fun us=>bindArgs _ ({ pos:=us }:Args)=pure (List.zip _ us)) (fun _ _=>rfl) us hl
 have m19:=W.mg_of X G a19
 have b20:=F20.binds (ps:=["_law_script","_law_k"]) fun _ _ _ _ _ _ us hl=>len2 (P:=fun us=>bindArgs _ ({ pos:=us }:Args)=pure (List.zip _ us)) (fun _ _=>rfl) us hl
 have m20:=W.mg_of X G a20
 have b21:=F21.binds (ps:=["_law_script","_law_k"]) fun _ _ _ _ _ _ us hl=>len2 (P:=fun us=>bindArgs _ ({ pos:=us }:Args)=pure (List.zip _ us)) (fun _ _=>rfl) us hl
 have m21:=W.mg_of X G a21
 have b22:=F22.binds (ps:=["_law_box_here","_law_many_here"]) fun _ _ _ _ _ _ us hl=>len2 (P:=fun us=>bindArgs _ ({ pos:=us }:Args)=pure (List.zip _ us)) (fun _ _=>rfl) us hl
 have m22:=W.mg_of X G a22
 have b23:=F23.binds (ps:=["_law_box_here","_law_many_here"]) fun _ _ _ _ _ _ us hl=>len2 (P:=fun us=>bindArgs _ ({ pos:=us }:Args)=pure (List.zip _ us)) (fun _ _=>rfl) us hl
 have m23:=W.mg_of X G a23
 have b24:=F24.binds (ps:=["_law_box_here"]) fun _ _ _ _ _ _ us hl=>len1 (P:=fun us=>bindArgs _ ({ pos:=us }:Args)=pure (List.zip _ us)) (fun _=>rfl) us hl
 have m24:=W.mg_of X G a24
 have b25:=F25.binds (ps:=["_law_machine","_law_part"]) fun _ _ _ _ _ _ us hl=>len2 (P:=fun us=>bindArgs _ ({ pos:=us }:Args)=pure (List.zip _ us)) (fun _ _=>rfl) us hl
 have m25:=W.mg_of X G a25
 have b26:=F26.binds (ps:=["_law_machine","_law_many_here","_law_part","_law_bits_here"]) fun _ _ _ _ _ _ us hl=>len4 (P:=fun us=>bindArgs _ ({ pos:=us }:Args)=pure (List.zip _ us)) (fun _ _ _ _=>rfl) us hl
 have m26:=W.mg_of X G a26
 have b27:=F27.binds (ps:=["_law_number","_law_many_here"]) fun _ _ _ _ _ _ us hl=>len2 (P:=fun us=>bindArgs _ ({ pos:=us }:Args)=pure (List.zip _ us)) (fun _ _=>rfl) us hl
 have m27:=W.mg_of X G a27
 have b28:=F28.binds (ps:=["_law_machine","_law_many_here","_law_part","_law_row"]) fun _ _ _ _ _ _ us hl=>len4 (P:=fun us=>bindArgs _ ({ pos:=us }:Args)=pure (List.zip _ us)) (fun _ _ _ _=>rfl) us hl
 have m28:=W.mg_of X G a28
 have b29:=F29.binds (ps:=["_law_machine","_law_part","_law_many_here"]) fun _ _ _ _ _ _ us hl=>len3 (P:=fun us=>bindArgs _ ({ pos:=us }:Args)=pure (List.zip _ us)) (fun _ _ _=>rfl) us hl
 have m29:=W.mg_of X G a29
 have m30:=W.mg_of X G a30
 have n1:=W.mg_none_of X G z1
 have n2:=W.mg_none_of X G z2
 have n3:=W.mg_none_of X G z3
 have n4:=W.mg_none_of X G z4
 have n5:=W.mg_none_of X G z5
 have n6:=W.mg_none_of X G z6
 have n7:=W.mg_none_of X G z7
 have n8:=W.mg_none_of X G z8
 have n9:=W.mg_none_of X G z9
 have n10:=W.mg_none_of X G z10
 have n11:=W.mg_none_of X G z11
 have n12:=W.mg_none_of X G z12
 have n13:=W.mg_none_of X G z13
 have n14:=W.mg_none_of X G z14
 have n15:=W.mg_none_of X G z15
 have n16:=W.mg_none_of X G z16
 refine⟨W.fnOf "law" "law" (defArgs (top 38)) (defBody (top 38)) (defScope (top 38)) .none kV30 dc30 pm30 an30 cd30 ct30,fun s v=>.of_eq rfl,fun base _ _=>?_⟩
 have mc1:=W.mg_of X G ca1
 have mc2:=W.mg_of X G ca2
 have mc3:=W.mg_of X G ca3
 have O1:=code_ok0 (P:=l.prog) (w:=w) (mg:=mg) (base:=base) (k:=0) F1 { N:=n_p_walk,B:=b_p_walk,K:=K,fs:=fsOf [] } sc_walk rfl c_p_walk m_walk (sp:=spWalk) (by walk_at "o") (hfs_of mN) (mC ⟨n4,mN⟩) ⟨n1,n2,n3⟩ (show tld b_p_walk=false by decide +kernel) (show hat b_p_walk=false by decide +kernel) rfl rfl (body_walk rfl  )
 have O2:=code_ok0 (P:=l.prog) (w:=w) (mg:=mg) (base:=base) (k:=0) F2 { N:=n_p_rooms_behind,B:=b_p_rooms_behind,K:=K,fs:=fsOf [] } sc_rbh rfl K04.c_p_rooms_behind m_rbh (sp:=K04.spRBh) (by walk_at "o") (hfs_of mN) (mC ⟨n4,(mC ⟨n5,mN⟩)⟩) ⟨n1,n2,n3⟩ (show tld b_p_rooms_behind=false by decide +kernel) (show hat b_p_rooms_behind=false by decide +kernel) rfl rfl (K04.body_rbh rfl  )
 have O3:=code_ok0 (P:=l.prog) (w:=w) (mg:=mg) (base:=base) (k:=0) F3 { N:=n_p_lasting,B:=b_p_lasting,K:=K,fs:=fsOf [] } sc_last rfl c_p_lasting m_last (sp:=spLast) (by walk_at "o") (hfs_of mN) (mC ⟨n6,mN⟩) ⟨n1,n2,n3⟩ (show tld b_p_lasting=false by decide +kernel) (show hat b_p_lasting=false by decide +kernel) rfl rfl (body_last rfl  )
 have O4:=code_ok0 (P:=l.prog) (w:=w) (mg:=mg) (base:=base) (k:=0) F4 { N:=n_p_part_of,B:=b_p_part_of,K:=K,fs:=fsOf [] } sc_part rfl c_p_part_of m_part (sp:=spPartX) (by walk_at "o") (hfs_of mN) (mC ⟨n7,(mC ⟨n8,mN⟩)⟩) ⟨n1,n2,n3⟩ (show tld b_p_part_of=false by decide +kernel) (show hat b_p_part_of=false by decide +kernel) rfl rfl (body_partX rfl  )
 have O5:=code_ok0 (P:=l.prog) (w:=w) (mg:=mg) (base:=base) (k:=1) F5 { N:=n_p_trimmed,B:=b_p_trimmed,K:=K,fs:=fsOf [("lasting",spLast),("part_of",spPartX)] } sc_trim rfl c_p_trimmed m_trim (sp:=spTrimX) (by walk_at "o") (hfs_of (mC ⟨⟨_,_,_,(O3).mono (by omega),m3,F3.kp,b3⟩,(mC ⟨⟨_,_,_,(O4).mono (by omega),m4,F4.kp,b4⟩,mN⟩)⟩)) (mC ⟨n9,(mC ⟨n10,(mC ⟨n11,mN⟩)⟩)⟩) ⟨n1,n2,n3⟩ (show tld b_p_trimmed=false by decide +kernel) (show hat b_p_trimmed=false by decide +kernel) rfl rfl (body_trimX rfl (show fsOf _ "lasting"=some (spLast) from lookup_here) (show fsOf _ "part_of"=some (spPartX) from((lookup_skip (by decide +kernel)).trans lookup_here)) )
 have O6:=code_ok0 (P:=l.prog) (w:=w) (mg:=mg) (base:=base) (k:=0) F6 { N:=n_p_behind_bit,B:=b_p_behind_bit,K:=K,fs:=fsOf [] } sc_behind rfl c_p_behind_bit m_behind (sp:=spBehind K) (by walk_at "o") (hfs_of mN) (mC ⟨n4,mN⟩) ⟨n1,n2,n3⟩ (show tld b_p_behind_bit=false by decide +kernel) (show hat b_p_behind_bit=false by decide +kernel) rfl rfl (body_behind (C:={ N:=n_p_behind_bit,B:=b_p_behind_bit,K:=K,fs:=fsOf [] }) rfl  )
 have O7:=code_ok0 (P:=l.prog) (w:=w) (mg:=mg) (base:=base) (k:=1) F7 { N:=n_p_way_sums,B:=b_p_way_sums,K:=K,fs:=fsOf [("behind_bit",spBehind K)] } sc_waysums rfl c_p_way_sums m_waysums (sp:=spWaySums K) (by walk_at "o") (hfs_of (mC ⟨⟨_,_,_,(O6).mono (by omega),m6,F6.kp,b6⟩,mN⟩)) (mC ⟨n9,(mC ⟨n11,mN⟩)⟩) ⟨n1,n2,n3⟩ (show tld b_p_way_sums=false by decide +kernel) (show hat b_p_way_sums=false by decide +kernel) rfl rfl (body_way_sums (C:={ N:=n_p_way_sums,B:=b_p_way_sums,K:=K,fs:=fsOf [("behind_bit",spBehind K)] }) rfl (show fsOf _ "behind_bit"=some (spBehind K) from lookup_here) )
 have O8:=code_ok0 (P:=l.prog) (w:=w) (mg:=mg) (base:=base) (k:=2) F8 { N:=n_p_ways,B:=b_p_ways,K:=K,fs:=fsOf [("way_sums",spWaySums K)] } sc_ways rfl c_p_ways m_ways (sp:=spWays K) (by walk_at "o") (hfs_of (mC ⟨⟨_,_,_,(O7).mono (by omega),m7,F7.kp,b7⟩,mN⟩)) (mC ⟨n9,(mC ⟨n11,mN⟩)⟩) ⟨n1,n2,n3⟩ (show tld b_p_ways=false by decide +kernel) (show hat b_p_ways=false by decide +kernel) rfl rfl (body_ways (C:={ N:=n_p_ways,B:=b_p_ways,K:=K,fs:=fsOf [("way_sums",spWaySums K)] }) rfl (show fsOf _ "way_sums"=some (spWaySums K) from lookup_here) )
 have O9:=code_ok0 (P:=l.prog) (w:=w) (mg:=mg) (base:=base) (k:=3) F9 { N:=n_p_counts,B:=b_p_counts,K:=K,fs:=fsOf [("ways",spWays K)] } sc_counts rfl c_p_counts m_counts (sp:=spCounts) (by walk_at "o") (hfs_of (mC ⟨⟨_,_,_,(O8).mono (by omega),m8,F8.kp,b8⟩,mN⟩)) mN ⟨n1,n2,n3⟩ (show tld b_p_counts=false by decide +kernel) (show hat b_p_counts=false by decide +kernel) rfl rfl (body_counts rfl (show fsOf _ "ways"=some (spWays K) from lookup_here) )
 have O10:=code_ok0 (P:=l.prog) (w:=w) (mg:=mg) (base:=base) (k:=1) F10 { N:=n_p_row_left,B:=b_p_row_left,K:=K,fs:=fsOf [("behind_bit",spBehind K)] } sc_rleft rfl c_p_row_left m_rleft (sp:=spRowLeft K) (by walk_at "o") (hfs_of (mC ⟨⟨_,_,_,(O6).mono (by omega),m6,F6.kp,b6⟩,mN⟩)) (mC ⟨n12,(mC ⟨n13,mN⟩)⟩) ⟨n1,n2,n3⟩ (show tld b_p_row_left=false by decide +kernel) (show hat b_p_row_left=false by decide +kernel) rfl rfl (body_row_left (C:={ N:=n_p_row_left,B:=b_p_row_left,K:=K,fs:=fsOf [("behind_bit",spBehind K)] }) rfl (show fsOf _ "behind_bit"=some (spBehind K) from lookup_here) )
 have O11:=code_okX (P:=l.prog) (w:=w) (mg:=mg) (base:=base) (k:=3) F11 { N:=n_p_row_at,B:=b_p_row_at,K:=K,fs:=fsOf [("ways",spWays K),("row_left",spRowLeft K)],cl:=clOf [("NoNumber",C1),("NoRow",C2),("RunError",C3)] } sc_rat rfl c_p_row_atX m_rat (sp:=spRowAtX) (by walk_at "o") ⟨(hfsX_of (mC ⟨⟨_,_,_,.inl ((O8).mono (by omega)),m8,F8.kp,b8⟩,(mC ⟨⟨_,_,_,.inl ((O10).mono (by omega)),m10,F10.kp,b10⟩,mN⟩)⟩)),mN,⟨n1,n2,n3⟩,cl_of (mC ⟨⟨mc1,ca1⟩,(mC ⟨⟨mc2,ca2⟩,(mC ⟨⟨mc3,ca3⟩,mN⟩)⟩)⟩),(show tld b_p_row_at=false by decide +kernel),(show hat b_p_row_at=false by decide +kernel)⟩ (body_row_atX (C:={ N:=n_p_row_at,B:=b_p_row_at,K:=K,fs:=fsOf [("ways",spWays K),("row_left",spRowLeft K)],cl:=clOf [("NoNumber",C1),("NoRow",C2),("RunError",C3)] }) rfl (show fsOf _ "ways"=some (spWays K) from lookup_here) (show fsOf _ "row_left"=some (spRowLeft K) from((lookup_skip (by decide +kernel)).trans lookup_here)) (show ClsG ({ N:=n_p_row_at,B:=b_p_row_at,K:=K,fs:=fsOf [("ways",spWays K),("row_left",spRowLeft K)],cl:=clOf [("NoNumber",C1),("NoRow",C2),("RunError",C3)] }:Rc) "NoNumber" C1 ["NoNumber","NoRow"] from⟨(show clOf [("NoNumber",C1),("NoRow",C2),("RunError",C3)] "NoNumber"=some C1 from cl_here),⟨C3,(show clOf [("NoNumber",C1),("NoRow",C2),("RunError",C3)] "RunError"=some C3 from((cl_skip (by decide +kernel)).trans ((cl_skip (by decide +kernel)).trans cl_here))),xm1⟩,ex1,xcls_of xa1 xb1 xc1 xd1 xe1 xf1,xv1,(mC ⟨⟨C1,(show clOf [("NoNumber",C1),("NoRow",C2),("RunError",C3)] "NoNumber"=some C1 from cl_here),(show decide (("NoNumber":Str)="NoNumber")=true by decide +kernel) ▸ xk1_1⟩,(mC ⟨⟨C2,(show clOf [("NoNumber",C1),("NoRow",C2),("RunError",C3)] "NoRow"=some C2 from((cl_skip (by decide +kernel)).trans cl_here)),(show decide (("NoRow":Str)="NoNumber")=false by decide +kernel) ▸ xk1_2⟩,mN⟩)⟩)⟩) )
 have O12:=code_ok0 (P:=l.prog) (w:=w) (mg:=mg) (base:=base) (k:=1) F12 { N:=n_p_number_left,B:=b_p_number_left,K:=K,fs:=fsOf [("behind_bit",spBehind K)] } sc_nleft rfl c_p_number_left m_nleft (sp:=spNumLeft K) (by walk_at "o") (hfs_of (mC ⟨⟨_,_,_,(O6).mono (by omega),m6,F6.kp,b6⟩,mN⟩)) (mC ⟨n7,(mC ⟨n4,(mC ⟨n9,mN⟩)⟩)⟩) ⟨n1,n2,n3⟩ (show tld b_p_number_left=false by decide +kernel) (show hat b_p_number_left=false by decide +kernel) rfl rfl (body_number_left (C:={ N:=n_p_number_left,B:=b_p_number_left,K:=K,fs:=fsOf [("behind_bit",spBehind K)] }) rfl (show fsOf _ "behind_bit"=some (spBehind K) from lookup_here) )
 have O13:=code_ok0 (P:=l.prog) (w:=w) (mg:=mg) (base:=base) (k:=3) F13 { N:=n_p_number_of,B:=b_p_number_of,K:=K,fs:=fsOf [("walk",spWalk),("ways",spWays K),("number_left",spNumLeft K)] } sc_nof rfl c_p_number_of m_nof (sp:=spNumOf) (by walk_at "o") (hfs_of (mC ⟨⟨_,_,_,(O1).mono (by omega),m1,F1.kp,b1⟩,(mC ⟨⟨_,_,_,(O8).mono (by omega),m8,F8.kp,b8⟩,(mC ⟨⟨_,_,_,(O12).mono (by omega),m12,F12.kp,b12⟩,mN⟩)⟩)⟩)) (mC ⟨n9,mN⟩) ⟨n1,n2,n3⟩ (show tld b_p_number_of=false by decide +kernel) (show hat b_p_number_of=false by decide +kernel) rfl rfl (body_number_of rfl (show fsOf _ "walk"=some (spWalk) from lookup_here) (show fsOf _ "ways"=some (spWays K) from((lookup_skip (by decide +kernel)).trans lookup_here)) (show fsOf _ "number_left"=some (spNumLeft K) from((lookup_skip (by decide +kernel)).trans ((lookup_skip (by decide +kernel)).trans lookup_here))) )
 have O14:=code_ok0 (P:=l.prog) (w:=w) (mg:=mg) (base:=base) (k:=0) F14 { N:=n_p_rooms_in_bounds,B:=b_p_rooms_in_bounds,K:=K,fs:=fsOf [] } sc_rin rfl c_p_rooms_in_bounds m_rin (sp:=spRIn) (by walk_at "o") (hfs_of mN) (mC ⟨n10,(mC ⟨n11,mN⟩)⟩) ⟨n1,n2,n3⟩ (show tld b_p_rooms_in_bounds=false by decide +kernel) (show hat b_p_rooms_in_bounds=false by decide +kernel) rfl rfl (body_rin rfl  )
 have O15:=code_ok0 (P:=l.prog) (w:=w) (mg:=mg) (base:=base) (k:=0) F15 { N:=n_p_room_behind,B:=b_p_room_behind,K:=K,fs:=fsOf [] } sc_rb rfl c_p_room_behind m_rb (sp:=spRBx) (by walk_at "o") (hfs_of mN) mN ⟨n1,n2,n3⟩ (show tld b_p_room_behind=false by decide +kernel) (show hat b_p_room_behind=false by decide +kernel) rfl rfl (body_rbx rfl  )
 have O16:=code_ok0 (P:=l.prog) (w:=w) (mg:=mg) (base:=base) (k:=1) F16 { N:=n_p_machine_in_bounds,B:=b_p_machine_in_bounds,K:=K,fs:=fsOf [("room_behind",spRBx)] } sc_min rfl c_p_machine_in_bounds m_min (sp:=spMInx) (by walk_at "o") (hfs_of (mC ⟨⟨_,_,_,(O15).mono (by omega),m15,F15.kp,b15⟩,mN⟩)) (mC ⟨n7,(mC ⟨n8,mN⟩)⟩) ⟨n1,n2,n3⟩ (show tld b_p_machine_in_bounds=false by decide +kernel) (show hat b_p_machine_in_bounds=false by decide +kernel) rfl rfl (body_minx rfl (show fsOf _ "room_behind"=some (spRBx) from lookup_here) )
 have O17:=code_ok0 (P:=l.prog) (w:=w) (mg:=mg) (base:=base) (k:=2) F17 { N:=n_p_machine_of,B:=b_p_machine_of,K:=K,fs:=fsOf [("trimmed",spTrimX),("machine_in_bounds",spMInx),("rooms_in_bounds",spRIn)] } sc_mof rfl c_p_machine_of m_mof (sp:=spMOfO) (by walk_at "o") (hfs_of (mC ⟨⟨_,_,_,(O5).mono (by omega),m5,F5.kp,b5⟩,(mC ⟨⟨_,_,_,(O16).mono (by omega),m16,F16.kp,b16⟩,(mC ⟨⟨_,_,_,(O14).mono (by omega),m14,F14.kp,b14⟩,mN⟩)⟩)⟩)) mN ⟨n1,n2,n3⟩ (show tld b_p_machine_of=false by decide +kernel) (show hat b_p_machine_of=false by decide +kernel) rfl rfl (body_mofO rfl (show fsOf _ "trimmed"=some (spTrimX) from lookup_here) (show fsOf _ "machine_in_bounds"=some (spMInx) from((lookup_skip (by decide +kernel)).trans lookup_here)) (show fsOf _ "rooms_in_bounds"=some (spRIn) from((lookup_skip (by decide +kernel)).trans ((lookup_skip (by decide +kernel)).trans lookup_here))) )
 have O18:=code_ok0 (P:=l.prog) (w:=w) (mg:=mg) (base:=base) (k:=3) F18 { N:=n_p_fault_at,B:=b_p_fault_at,K:=K,fs:=fsOf [("machine_of",spMOfO),("rooms_behind",K04.spRBh)] } sc_fault rfl K04.c_p_fault_at m_fault (sp:=spFaultO) (by walk_at "o") (hfs_of (mC ⟨⟨_,_,_,(O17).mono (by omega),m17,F17.kp,b17⟩,(mC ⟨⟨_,_,_,(O2).mono (by omega),m2,F2.kp,b2⟩,mN⟩)⟩)) (mC ⟨n7,(mC ⟨n9,(mC ⟨n10,(mC ⟨n11,mN⟩)⟩)⟩)⟩) ⟨n1,n2,n3⟩ (show tld b_p_fault_at=false by decide +kernel) (show hat b_p_fault_at=false by decide +kernel) rfl rfl (body_faultO rfl (show fsOf _ "machine_of"=some (spMOfO) from lookup_here) (show fsOf _ "rooms_behind"=some (K04.spRBh) from((lookup_skip (by decide +kernel)).trans lookup_here)) )
 have O19:=code_ok0 (P:=l.prog) (w:=w) (mg:=mg) (base:=base) (k:=4) F19 { N:=n_p_keeps,B:=b_p_keeps,K:=K,fs:=fsOf [("fault_at",spFaultO)] } sc_keeps rfl K04.c_p_keeps m_keeps (sp:=spKeepsO) (by walk_at "o") (hfs_of (mC ⟨⟨_,_,_,(O18).mono (by omega),m18,F18.kp,b18⟩,mN⟩)) mN ⟨n1,n2,n3⟩ (show tld b_p_keeps=false by decide +kernel) (show hat b_p_keeps=false by decide +kernel) rfl rfl (body_keepsO rfl (show fsOf _ "fault_at"=some (spFaultO) from lookup_here) )
 have O20:=code_ok0 (P:=l.prog) (w:=w) (mg:=mg) (base:=base) (k:=0) F20 { N:=n_cell_at,B:=b_cell_at,K:=K,fs:=fsOf [] } sc_cell rfl c_cell_at m_cell (sp:=spCell K) (by walk_at "o") (hfs_of mN) (mC ⟨n9,mN⟩) ⟨n1,n2,n3⟩ (show tld b_cell_at=false by decide +kernel) (show hat b_cell_at=false by decide +kernel) rfl rfl (body_cell (C:={ N:=n_cell_at,B:=b_cell_at,K:=K,fs:=fsOf [] }) rfl  )
 have O21:=box_fn (code_ok0 (P:=l.prog) (w:=w) (mg:=mg) (base:=base) (k:=1) F21 { N:=n_box,B:=b_box,K:=K,fs:=fsOf [("_law_cell_at",spCell K)] } sc_box rfl c_box m_box (sp:=spBox0 K) (by walk_at "o") (hfs_of (mC ⟨⟨_,_,_,(O20).mono (by omega),m20,F20.kp,b20⟩,mN⟩)) (mC ⟨n14,(mC ⟨n4,mN⟩)⟩) ⟨n1,n2,n3⟩ (show tld b_box=false by decide +kernel) (show hat b_box=false by decide +kernel) rfl rfl (body_box (C:={ N:=n_box,B:=b_box,K:=K,fs:=fsOf [("_law_cell_at",spCell K)] }) rfl (show fsOf _ "_law_cell_at"=some (spCell K) from lookup_here) ))
 have O22:=take_fn rfl (code_ok0 (P:=l.prog) (w:=w) (mg:=mg) (base:=base) (k:=0) F22 { N:=n_take,B:=b_take,K:=K,fs:=fsOf [] } sc_take rfl c_take m_take (sp:=spTake0) (by walk_at "o") (hfs_of mN) mN ⟨n1,n2,n3⟩ (show tld b_take=false by decide +kernel) (show hat b_take=false by decide +kernel) rfl rfl (body_take rfl  ))
 have O23:=code_ok0 (P:=l.prog) (w:=w) (mg:=mg) (base:=base) (k:=1) F23 { N:=n_bits,B:=b_bits,K:=K,fs:=fsOf [("_law_take",spTake)] } sc_bits rfl c_bits m_bits (sp:=spBits) (by walk_at "o") (hfs_of (mC ⟨⟨_,_,_,(O22).mono (by omega),m22,F22.kp,b22⟩,mN⟩)) (mC ⟨n11,mN⟩) ⟨n1,n2,n3⟩ (show tld b_bits=false by decide +kernel) (show hat b_bits=false by decide +kernel) rfl rfl (body_bits rfl (show fsOf _ "_law_take"=some (spTake) from lookup_here) )
 have O24:=code_ok0 (P:=l.prog) (w:=w) (mg:=mg) (base:=base) (k:=1) F24 { N:=n_bounds,B:=b_bounds,K:=K,fs:=fsOf [("_law_take",spTake)] } sc_bounds rfl K04.c_bounds m_bounds (sp:=K04.spBoundsX) (by walk_at "o") (hfs_of (mC ⟨⟨_,_,_,(O22).mono (by omega),m22,F22.kp,b22⟩,mN⟩)) mN ⟨n1,n2,n3⟩ (show tld b_bounds=false by decide +kernel) (show hat b_bounds=false by decide +kernel) rfl rfl (K04.body_boundsX rfl (show fsOf _ "_law_take"=some (spTake) from lookup_here) )
 have O25:=code_ok0 (P:=l.prog) (w:=w) (mg:=mg) (base:=base) (k:=4) F25 { N:=n_enough,B:=b_enough,K:=K,fs:=fsOf [("counts",spCounts)] } sc_enough rfl c_enough m_enough (sp:=spEnough) (by walk_at "o") (hfs_of (mC ⟨⟨_,_,_,(O9).mono (by omega),m9,F9.kp,b9⟩,mN⟩)) (mC ⟨n15,(mC ⟨n11,mN⟩)⟩) ⟨n1,n2,n3⟩ (show tld b_enough=false by decide +kernel) (show hat b_enough=false by decide +kernel) rfl rfl (body_enough rfl (show fsOf _ "counts"=some (spCounts) from lookup_here) )
 have O26:=code_ok (P:=l.prog) (w:=w) (mg:=mg) (base:=base) (k:=4) F26 { N:=n_put,B:=b_put,K:=K,fs:=fsOf [("row_at",spRowAtX),("walk",spWalk)],cl:=clOf [("NoNumber",C1),("NoRow",C2),("RunError",C3)] } sc_put rfl c_put m_put (sp:=spPut) (by walk_at "o") ⟨(hfsX_of (mC ⟨⟨_,_,_,.inr ⟨(O11).mono (by omega),(show bang "row_at"∈b_put by decide +kernel)⟩,m11,F11.kp,b11⟩,(mC ⟨⟨_,_,_,.inl ((O1).mono (by omega)),m1,F1.kp,b1⟩,mN⟩)⟩)),(mC ⟨n16,(mC ⟨n4,(mC ⟨n9,(mC ⟨n11,mN⟩)⟩)⟩)⟩),⟨n1,n2,n3⟩,cl_of (mC ⟨⟨mc1,ca1⟩,(mC ⟨⟨mc2,ca2⟩,(mC ⟨⟨mc3,ca3⟩,mN⟩)⟩)⟩),(show tld b_put=false by decide +kernel),(show hat b_put=false by decide +kernel)⟩ rfl (body_put (C:={ N:=n_put,B:=b_put,K:=K,fs:=fsOf [("row_at",spRowAtX),("walk",spWalk)],cl:=clOf [("NoNumber",C1),("NoRow",C2),("RunError",C3)] }) rfl (show fsOf _ "row_at"=some (spRowAtX) from lookup_here) (show fsOf _ "walk"=some (spWalk) from((lookup_skip (by decide +kernel)).trans lookup_here))  )
 have O27:=code_ok0 (P:=l.prog) (w:=w) (mg:=mg) (base:=base) (k:=0) F27 { N:=n_binary,B:=b_binary,K:=K,fs:=fsOf [] } sc_binary rfl c_binary m_binary (sp:=spBinary) (by walk_at "o") (hfs_of mN) (mC ⟨n11,mN⟩) ⟨n1,n2,n3⟩ (show tld b_binary=false by decide +kernel) (show hat b_binary=false by decide +kernel) rfl rfl (body_binary rfl  )
 have O28:=code_ok0 (P:=l.prog) (w:=w) (mg:=mg) (base:=base) (k:=4) F28 { N:=n_got,B:=b_got,K:=K,fs:=fsOf [("number_of",spNumOf),("_law_binary",spBinary),("walk",spWalk)] } sc_got rfl c_got m_got (sp:=spGot) (by walk_at "o") (hfs_of (mC ⟨⟨_,_,_,(O13).mono (by omega),m13,F13.kp,b13⟩,(mC ⟨⟨_,_,_,(O27).mono (by omega),m27,F27.kp,b27⟩,(mC ⟨⟨_,_,_,(O1).mono (by omega),m1,F1.kp,b1⟩,mN⟩)⟩)⟩)) (mC ⟨n9,(mC ⟨n11,mN⟩)⟩) ⟨n1,n2,n3⟩ (show tld b_got=false by decide +kernel) (show hat b_got=false by decide +kernel) rfl rfl (body_got rfl (show fsOf _ "number_of"=some (spNumOf) from lookup_here) (show fsOf _ "_law_binary"=some (spBinary) from((lookup_skip (by decide +kernel)).trans lookup_here)) (show fsOf _ "walk"=some (spWalk) from((lookup_skip (by decide +kernel)).trans ((lookup_skip (by decide +kernel)).trans lookup_here))) )
 have O29:=code_ok (P:=l.prog) (w:=w) (mg:=mg) (base:=base) (k:=4) F29 { N:=n_too_few,B:=b_too_few,K:=K,fs:=fsOf [("row_at",spRowAtX)],cl:=clOf [("NoNumber",C1),("NoRow",C2),("RunError",C3)] } sc_few rfl c_too_few m_few (sp:=spTooFew) (by walk_at "o") ⟨(hfsX_of (mC ⟨⟨_,_,_,.inr ⟨(O11).mono (by omega),(show bang "row_at"∈b_too_few by decide +kernel)⟩,m11,F11.kp,b11⟩,mN⟩)),(mC ⟨n16,(mC ⟨n9,(mC ⟨n11,mN⟩)⟩)⟩),⟨n1,n2,n3⟩,cl_of (mC ⟨⟨mc1,ca1⟩,(mC ⟨⟨mc2,ca2⟩,(mC ⟨⟨mc3,ca3⟩,mN⟩)⟩)⟩),(show tld b_too_few=false by decide +kernel),(show hat b_too_few=false by decide +kernel)⟩ rfl (body_few (C:={ N:=n_too_few,B:=b_too_few,K:=K,fs:=fsOf [("row_at",spRowAtX)],cl:=clOf [("NoNumber",C1),("NoRow",C2),("RunError",C3)] }) rfl (show fsOf _ "row_at"=some (spRowAtX) from lookup_here) (show ClsG ({ N:=n_too_few,B:=b_too_few,K:=K,fs:=fsOf [("row_at",spRowAtX)],cl:=clOf [("NoNumber",C1),("NoRow",C2),("RunError",C3)] }:Rc) "NoNumber" C1 ["NoNumber","NoRow"] from⟨(show clOf [("NoNumber",C1),("NoRow",C2),("RunError",C3)] "NoNumber"=some C1 from cl_here),⟨C3,(show clOf [("NoNumber",C1),("NoRow",C2),("RunError",C3)] "RunError"=some C3 from((cl_skip (by decide +kernel)).trans ((cl_skip (by decide +kernel)).trans cl_here))),xm1⟩,ex1,xcls_of xa1 xb1 xc1 xd1 xe1 xf1,xv1,(mC ⟨⟨C1,(show clOf [("NoNumber",C1),("NoRow",C2),("RunError",C3)] "NoNumber"=some C1 from cl_here),(show decide (("NoNumber":Str)="NoNumber")=true by decide +kernel) ▸ xk1_1⟩,(mC ⟨⟨C2,(show clOf [("NoNumber",C1),("NoRow",C2),("RunError",C3)] "NoRow"=some C2 from((cl_skip (by decide +kernel)).trans cl_here)),(show decide (("NoRow":Str)="NoNumber")=false by decide +kernel) ▸ xk1_2⟩,mN⟩)⟩)⟩) xs1)
 exact code_ok0 (P:=l.prog) (w:=w) (mg:=mg) (base:=base) (k:=59) F30 { N:=n_law,B:=b_law,K:=K,fs:=fsOf [("_law_box",spBox K),("_law_bounds",K04.spBoundsX),("machine_of",spMOfO),("keeps",spKeepsO),("trimmed",spTrimX),("_law_take",spTake),("_law_enough",spEnough),("_law_too_few",spTooFew),("_law_bits",spBits),("_law_put",spPut),("_law_got",spGot)] } sc_law rfl c_law m_law (sp:=spLaw K) (by walk_at "o") (hfs_of (mC ⟨⟨_,_,_,(O21).mono (by omega),m21,F21.kp,b21⟩,(mC ⟨⟨_,_,_,(O24).mono (by omega),m24,F24.kp,b24⟩,(mC ⟨⟨_,_,_,(O17).mono (by omega),m17,F17.kp,b17⟩,(mC ⟨⟨_,_,_,(O19).mono (by omega),m19,F19.kp,b19⟩,(mC ⟨⟨_,_,_,(O5).mono (by omega),m5,F5.kp,b5⟩,(mC ⟨⟨_,_,_,(O22).mono (by omega),m22,F22.kp,b22⟩,(mC ⟨⟨_,_,_,(O25).mono (by omega),m25,F25.kp,b25⟩,(mC ⟨⟨_,_,_,(O29).mono (by omega),m29,F29.kp,b29⟩,(mC ⟨⟨_,_,_,(O23).mono (by omega),m23,F23.kp,b23⟩,(mC ⟨⟨_,_,_,(O26).mono (by omega),m26,F26.kp,b26⟩,(mC ⟨⟨_,_,_,(O28).mono (by omega),m28,F28.kp,b28⟩,mN⟩)⟩)⟩)⟩)⟩)⟩)⟩)⟩)⟩)⟩)⟩)) (mC ⟨n4,(mC ⟨n9,(mC ⟨n10,(mC ⟨n15,(mC ⟨n11,mN⟩)⟩)⟩)⟩)⟩) ⟨n1,n2,n3⟩ (show tld b_law=false by decide +kernel) (show hat b_law=false by decide +kernel) rfl rfl (body_law (C:={ N:=n_law,B:=b_law,K:=K,fs:=fsOf [("_law_box",spBox K),("_law_bounds",K04.spBoundsX),("machine_of",spMOfO),("keeps",spKeepsO),("trimmed",spTrimX),("_law_take",spTake),("_law_enough",spEnough),("_law_too_few",spTooFew),("_law_bits",spBits),("_law_put",spPut),("_law_got",spGot)] }) rfl ⟨(show fsOf _ "_law_box"=some (spBox K) from lookup_here),(show fsOf _ "_law_bounds"=some (K04.spBoundsX) from((lookup_skip (by decide +kernel)).trans lookup_here)),(show fsOf _ "machine_of"=some (spMOfO) from((lookup_skip (by decide +kernel)).trans ((lookup_skip (by decide +kernel)).trans lookup_here))),(show fsOf _ "keeps"=some (spKeepsO) from((lookup_skip (by decide +kernel)).trans ((lookup_skip (by decide +kernel)).trans ((lookup_skip (by decide +kernel)).trans lookup_here)))),(show fsOf _ "trimmed"=some (spTrimX) from((lookup_skip (by decide +kernel)).trans ((lookup_skip (by decide +kernel)).trans ((lookup_skip (by decide +kernel)).trans ((lookup_skip (by decide +kernel)).trans lookup_here))))),(show fsOf _ "_law_take"=some (spTake) from((lookup_skip (by decide +kernel)).trans ((lookup_skip (by decide +kernel)).trans ((lookup_skip (by decide +kernel)).trans ((lookup_skip (by decide +kernel)).trans ((lookup_skip (by decide +kernel)).trans lookup_here)))))),(show fsOf _ "_law_enough"=some (spEnough) from((lookup_skip (by decide +kernel)).trans ((lookup_skip (by decide +kernel)).trans ((lookup_skip (by decide +kernel)).trans ((lookup_skip (by decide +kernel)).trans ((lookup_skip (by decide +kernel)).trans ((lookup_skip (by decide +kernel)).trans lookup_here))))))),(show fsOf _ "_law_too_few"=some (spTooFew) from((lookup_skip (by decide +kernel)).trans ((lookup_skip (by decide +kernel)).trans ((lookup_skip (by decide +kernel)).trans ((lookup_skip (by decide +kernel)).trans ((lookup_skip (by decide +kernel)).trans ((lookup_skip (by decide +kernel)).trans ((lookup_skip (by decide +kernel)).trans lookup_here)))))))),(show fsOf _ "_law_bits"=some (spBits) from((lookup_skip (by decide +kernel)).trans ((lookup_skip (by decide +kernel)).trans ((lookup_skip (by decide +kernel)).trans ((lookup_skip (by decide +kernel)).trans ((lookup_skip (by decide +kernel)).trans ((lookup_skip (by decide +kernel)).trans ((lookup_skip (by decide +kernel)).trans ((lookup_skip (by decide +kernel)).trans lookup_here))))))))),(show fsOf _ "_law_put"=some (spPut) from((lookup_skip (by decide +kernel)).trans ((lookup_skip (by decide +kernel)).trans ((lookup_skip (by decide +kernel)).trans ((lookup_skip (by decide +kernel)).trans ((lookup_skip (by decide +kernel)).trans ((lookup_skip (by decide +kernel)).trans ((lookup_skip (by decide +kernel)).trans ((lookup_skip (by decide +kernel)).trans ((lookup_skip (by decide +kernel)).trans lookup_here)))))))))),(show fsOf _ "_law_got"=some (spGot) from((lookup_skip (by decide +kernel)).trans ((lookup_skip (by decide +kernel)).trans ((lookup_skip (by decide +kernel)).trans ((lookup_skip (by decide +kernel)).trans ((lookup_skip (by decide +kernel)).trans ((lookup_skip (by decide +kernel)).trans ((lookup_skip (by decide +kernel)).trans ((lookup_skip (by decide +kernel)).trans ((lookup_skip (by decide +kernel)).trans ((lookup_skip (by decide +kernel)).trans lookup_here)))))))))))⟩ )
theorem walk {l:W.OpenLaw} {q:Program} {loose:List Str} {XP:(Str->Option Value)->Heap->Prop} {d:DefRec} {K:Params->W.Frag} {bs:List Addr} {m t:Nat} (hn:l.most=some 63) (hdf:d.params.defaults=[]) (e:∀P,bs=(K P).map (·.1))
  (F:∀(w:World) (mg:Str->Option Value) (fa:Addr) (h:Heap),(K w.params).In h->h.Ns mainGlobals mg->mg d.name=some (.ref fa)->
   ∃fd:FuncData,(∀(s:Shared) (u:Value),BindsTo s fd ⟨[u],[]⟩ [("_law_script",u)])/\∀base:Heap,(K w.params).In base->base.Ns mainGlobals mg->FnOk l.prog w (K w.params) mg base CX0 60 fa fd ["_law_script"] (spLaw (K w.params))):
  W.WalkX q loose XP (W.X.obsZ bs) (W.X.valZ K m t) l.row.toRowW d [] (fun f vs=>PySem.call f vs):=
 fun w s₀ s₁ mg mb G y a o pm cd doc dV kV h1 h2 h3 h4 h5 h6 args vals cs La=>L2.walk_of (YP:=fun w h=>(K w.params).In h) (n:=63) (k:=60) (x:="_law_script") (CX:=fun _=>CX0) (sp:=fun w=>spLaw (K w.params)) hn (by decide) hdf ⟨rfl,by decide,by decide,rfl⟩ (fun _ _ Y=>Y) F (fun _ _ a ns hl _ hS=>⟨a,ns,rfl,hS,hl,fun _=>rfl⟩) (fun _ _ _ _ _ z=>z) w s₀ s₁ mg mb G (W.InK.keeps w _ _ (W.X.z_facts e y).2.1 La.keeps) a o pm cd doc dV kV h1 h2 h3 h4 h5 h6 args vals cs
end K65
end
open PySem PySem.W PyProof.Rows
noncomputable def PySem.W.Fast.tw17368830359282728783 : PySem.Program := PySem.Challenge.pw_runbound_k65_whole_bits_by_numbers
theorem PySem.W.Fast.te17368830359282728783 : PySem.Challenge.pw_runbound_k65_whole_bits_by_numbers = PySem.W.Fast.tw17368830359282728783 := rfl
set_option maxRecDepth 100000 in
set_option maxHeartbeats 0 in
theorem PySem.Challenge.cw_runbound_k65_whole_bits_by_numbers_holds : PySem.Challenge.rw_runbound_k65_whole_bits_by_numbers.Holds := by
 w_on; o_law; z_head; (case hw => w_witness2)
 k_fill
 refine K65.walk (l := PySem.Challenge.rw_runbound_k65_whole_bits_by_numbers) rfl rfl (fun _ => rfl) ?F
 case F =>
  intro w mg fa h KX G hmg
  refine' K65.all_mk KX G hmg (K65.fnd_mk ?a1 ?l1 ?c1 ?k1) (K65.fnd_mk ?a2 ?l2 ?c2 ?k2) (K65.fnd_mk ?a3 ?l3 ?c3 ?k3) (K65.fnd_mk ?a4 ?l4 ?c4 ?k4) (K65.fnd_mk ?a5 ?l5 ?c5 ?k5) (K65.fnd_mk ?a6 ?l6 ?c6 ?k6) (K65.fnd_mk ?a7 ?l7 ?c7 ?k7) (K65.fnd_mk ?a8 ?l8 ?c8 ?k8) (K65.fnd_mk ?a9 ?l9 ?c9 ?k9) (K65.fnd_mk ?a10 ?l10 ?c10 ?k10) (K65.fnd_mk ?a11 ?l11 ?c11 ?k11) (K65.fnd_mk ?a12 ?l12 ?c12 ?k12) (K65.fnd_mk ?a13 ?l13 ?c13 ?k13) (K65.fnd_mk ?a14 ?l14 ?c14 ?k14) (K65.fnd_mk ?a15 ?l15 ?c15 ?k15) (K65.fnd_mk ?a16 ?l16 ?c16 ?k16) (K65.fnd_mk ?a17 ?l17 ?c17 ?k17) (K65.fnd_mk ?a18 ?l18 ?c18 ?k18) (K65.fnd_mk ?a19 ?l19 ?c19 ?k19) (K65.fnd_mk ?a20 ?l20 ?c20 ?k20) (K65.fnd_mk ?a21 ?l21 ?c21 ?k21) (K65.fnd_mk ?a22 ?l22 ?c22 ?k22) (K65.fnd_mk ?a23 ?l23 ?c23 ?k23) (K65.fnd_mk ?a24 ?l24 ?c24 ?k24) (K65.fnd_mk ?a25 ?l25 ?c25 ?k25) (K65.fnd_mk ?a26 ?l26 ?c26 ?k26) (K65.fnd_mk ?a27 ?l27 ?c27 ?k27) (K65.fnd_mk ?a28 ?l28 ?c28 ?k28) (K65.fnd_mk ?a29 ?l29 ?c29 ?k29) (K65.fnd_mk ?a30 ?l30 ?c30 ?k30) ?z1 ?z2 ?z3 ?z4 ?z5 ?z6 ?z7 ?z8 ?z9 ?z10 ?z11 ?z12 ?z13 ?z14 ?z15 ?z16 ?ca1 ?ca2 ?ca3 ?ex1 ?xa1 ?xb1 ?xc1 ?xd1 ?xe1 ?xf1 ?xm1 ?xv1 ?xk1_1 ?xk1_2 ?xs1
  (case a1 => k_is); (case l1 => k_is); (case c1 => k_is); (case k1 => k_is)
  (case a2 => k_is); (case l2 => k_is); (case c2 => k_is); (case k2 => k_is)
  (case a3 => k_is); (case l3 => k_is); (case c3 => k_is); (case k3 => k_is)
  (case a4 => k_is); (case l4 => k_is); (case c4 => k_is); (case k4 => k_is)
  (case a5 => k_is); (case l5 => k_is); (case c5 => k_is); (case k5 => k_is)
  (case a6 => k_is); (case l6 => k_is); (case c6 => k_is); (case k6 => k_is)
  (case a7 => k_is); (case l7 => k_is); (case c7 => k_is); (case k7 => k_is)
  (case a8 => k_is); (case l8 => k_is); (case c8 => k_is); (case k8 => k_is)
  (case a9 => k_is); (case l9 => k_is); (case c9 => k_is); (case k9 => k_is)
  (case a10 => k_is); (case l10 => k_is); (case c10 => k_is); (case k10 => k_is)
  (case a11 => k_is); (case l11 => k_is); (case c11 => k_is); (case k11 => k_is)
  (case a12 => k_is); (case l12 => k_is); (case c12 => k_is); (case k12 => k_is)
  (case a13 => k_is); (case l13 => k_is); (case c13 => k_is); (case k13 => k_is)
  (case a14 => k_is); (case l14 => k_is); (case c14 => k_is); (case k14 => k_is)
  (case a15 => k_is); (case l15 => k_is); (case c15 => k_is); (case k15 => k_is)
  (case a16 => k_is); (case l16 => k_is); (case c16 => k_is); (case k16 => k_is)
  (case a17 => k_is); (case l17 => k_is); (case c17 => k_is); (case k17 => k_is)
  (case a18 => k_is); (case l18 => k_is); (case c18 => k_is); (case k18 => k_is)
  (case a19 => k_is); (case l19 => k_is); (case c19 => k_is); (case k19 => k_is)
  (case a20 => k_is); (case l20 => k_is); (case c20 => k_is); (case k20 => k_is)
  (case a21 => k_is); (case l21 => k_is); (case c21 => k_is); (case k21 => k_is)
  (case a22 => k_is); (case l22 => k_is); (case c22 => k_is); (case k22 => k_is)
  (case a23 => k_is); (case l23 => k_is); (case c23 => k_is); (case k23 => k_is)
  (case a24 => k_is); (case l24 => k_is); (case c24 => k_is); (case k24 => k_is)
  (case a25 => k_is); (case l25 => k_is); (case c25 => k_is); (case k25 => k_is)
  (case a26 => k_is); (case l26 => k_is); (case c26 => k_is); (case k26 => k_is)
  (case a27 => k_is); (case l27 => k_is); (case c27 => k_is); (case k27 => k_is)
  (case a28 => k_is); (case l28 => k_is); (case c28 => k_is); (case k28 => k_is)
  (case a29 => k_is); (case l29 => k_is); (case c29 => k_is); (case k29 => k_is)
  (case a30 => k_is); (case l30 => k_is); (case c30 => k_is); (case k30 => k_is)
  (case z1 => k_is)
  (case z2 => k_is)
  (case z3 => k_is)
  (case z4 => k_is)
  (case z5 => k_is)
  (case z6 => k_is)
  (case z7 => k_is)
  (case z8 => k_is)
  (case z9 => k_is)
  (case z10 => k_is)
  (case z11 => k_is)
  (case z12 => k_is)
  (case z13 => k_is)
  (case z14 => k_is)
  (case z15 => k_is)
  (case z16 => k_is)
  (case ca1 => k_is)
  (case ca2 => k_is)
  (case ca3 => k_is)
  (case ex1 => k_exc)
  (case xa1 => k_is)
  (case xb1 => k_is)
  (case xc1 => k_is)
  (case xd1 => k_is)
  (case xe1 => k_is)
  (case xf1 => k_is)
  (case xm1 => kts_exm)
  (case xv1 => kit_is)
  (case xk1_1 => kit_is)
  (case xk1_2 => kit_is)
  (case xs1 => kts_exm)