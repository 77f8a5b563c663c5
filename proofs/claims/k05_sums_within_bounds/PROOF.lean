import PyProof.Rows.All
import Wide.All
import OpenK.AllK
import Wide.FinOn
import Lean
import PyProof.EqAt
import PyProof.EqKinds
import PyProof.TupleCall
import PyProof.SetRoads
import PyProof.Rows.SetFrom
import PyProof.TupleKey
import PyProof.IsRules
import KE.KSetDisp
import PyProof.Rows.TupAdd
import PyProof.Rows.SortStr
import PyProof.Rows.SortWalk
import PyProof.CollectIter
import PyProof.Rows.Tup
import PyProof.TupleOfSeq
import PyProof.DictFindH
import PyProof.Rows.SortShell
import PyProof.ReprRoads
import PyProof.CallStr
import PyProof.SeqRoads2
import KE.KSortTup
import KE.KDictList
import PyProof.IsiH_list
import PyProof.FactsAll.dict_1
import KE.KUnpack
import KE.KDictSum
import PyProof.Rows.CallKwBuiltin
import KE.KEqDict
import PySem.Challenge.RW_runbound_k05_sums_within_bounds
local macro_rules | `(⋯) => `(by first | decide +kernel | omega | (dsimp only; decide +kernel) | walk_at "b" | walk_at "o")
open PySem renaming wpAny_bind → aa,wpAny_pure → ab,wpAny_holding → aC,wpAny_newObj_type → aI,wpAny_call_entry → aP,wpAny_callSpecial?_slot → aS,wpAny_rule → bq,wpAny_field → bu,wpAny_askSetting → bC,wpAny_setField → bK,wpAny_truthy_bool → bL,wpAny_dictEntries → bP,wpAny_seqItems → bQ,wpAny_isInstance → bT,wpAny_setState_of → bW,wpAny_pyIter_tuple → ce,wpAny_standAt → ck,wpAny_attempt → cm,wpAny_setField_rec → cq,wpAny_typeNameOfWhole_keyiter → cv,wpAny_dictEpoch → cB,wpAny_passesOwn → cK,wpAny_pyIter_list → cL,wpAny_typeNameOf_keyiter → cO,wpAny_of_eq → cQ,wpAny_mono → cY,wpAny_notOrdered_dict → dh,wpAny_typeOf → dw,wpAny_handled → dy
open PySem.Heap renaming get?_push_of_some → ac,get?_push_size → ai,lt_size → ak,get?_update_self → aM,size_push → aW,SameBut → bB,get?_push_ne → cj,size_update → cr,get?_update_other → cZ
open List renaming getElem?_eq_getElem → ae,length_map → af,getElem?_map → aj,mem_cons → ao,mem_append_right → ap,mem_of_getElem? → ar,size_toArray → au,not_mem_nil → av,mem_cons_of_mem → ay,mem_cons_self → az,length_append → aA,mem_map → aB,range → aE,map_append → aG,length_take → aH,getElem?_eq_some_iff → aK,replicate → aL,mem_singleton → aO,append_assoc → aQ,mem_append → aU,map_cons → aX,take_length → aZ,mem_range → ba,getElem?_eq_none_iff → bf,getElem?_eq_none → bg,take_succ → bj,map_map → bn,mem_filter → bo,take_of_length_le → br,length_range → bx,length_cons → bD,any_eq_true → bE,pairwise_iff_getElem → bF,mem_append_left → bH,getElem?_of_mem → bI,length_filter_le → bJ,pairwise_map → bM,ext_getElem? → bO,getElem_mem → bR,length_singleton → bU,take_append_drop → bY,zip → bZ,mem_filterMap → cc,all_eq_true → cf,replicate_succ → cg,map_congr_left → ci,eq_nil_of_length_eq_zero → cu,nodup_cons → cz,getElem?_range → cA,idxOf_lt_length_of_mem → cC,filter_cons → cF,nodup_nil → cG,getElem?_set_ne → cH,mem_iff_getElem → cI,length_nil → cN,length_filterMap_le → cP,length_eq_zero_iff → cR,mem_map_of_mem → cU,filter_sublist → cV,length_drop → cW,pairwise_lt_range → da,append_nil → de,nil_append → df,find?_cons → dg,contains_iff_mem → di,any_cons → dj,flatten_cons → dl,pairwise_append → dq,forIn_nil → dr,mem_flatMap → dv
open Nat renaming le_refl → ag,lt_of_lt_of_le → aq,ne_of_lt → ax,le_trans → aF,zero_le → aN,lt_irrefl → bi,le_add_right → bm,ne_of_gt → bp,lt_succ_of_lt → bv,le_of_lt → bG,lt_of_le_of_lt → cn,add_sub_cancel_left → cw,add_sub_cancel → db,le_succ_of_le → dm
open Bool renaming and_eq_true → ah,false_ne_true → al,or_eq_true → aR,false_eq_true → aV,not_eq_true' → bA,eq_iff_iff → dc
open Array renaming length_toList → am,getElem?_eq_getElem → aD,toList_append → bc,getElem?_toList → bX,size_map → cx,toList_push → cy,getElem?_eq_none_iff → cE,toList_reverse → cJ,toList_inj → cX,toList_map → du
open Option renaming map → aJ,map_eq_some_iff → aY
open Int renaming eq_ofNat_of_zero_le → aT,toNat_natCast → bb
open Option renaming some → A0,none → A5
open PySem renaming Value → A1,Shared → A3,Addr → A4,sizeLine → A7,wpAny → A8,Expr → A9,Program → AA,Builtin → AB,model → AD,SetTable → AH,Heap → AJ,World → AK,Around → AL,Str → AM,mainGlobals → AN,sysModules → AO,Obj.data_mapFields → AR,Obj → AS,NameKind → AT,compareOp → AU,DictEntry → AV,SeqAt.EqAt → AW,rawInt → AX,Scope → AY,starEach → AZ,cellsFrom → Ab,eval → Ac,placesWithHash → Ad,codeAny_builtin → Ae,tupleKind → Af,codeAny_mono → Ag,binaryOp → Ah,Paired.length → Aj,comprehension → Ak,assignEach → Al,firstArgMember → Am,Paired → An,cLine → Ao,Stmt → Ap,FuncData → Aq
open Bool renaming true → A2,false → A6
open PyProof.Rows renaming wpS_bind → AC,wpS_pure → AE,SortSt → AF,Keyed → AG,pendingOf → AI,arrOf → AQ,failedOf → Aa,seqObj → Ai
set_option genSizeOf false
set_option Elab.async false
set_option compiler.extract_closed false
set_option linter.all false
set_option maxRecDepth 100000
set_option tactic.hygienic false
noncomputable section
namespace L2
open PySem PySem.Spec PyProof.Rows
section
variable{prog:AA}{w:AK}{A:AL}{E:A1->A3->Prop}{s:A3}
theorem Fc(s:A3):s.TypeIs .none "NoneType":=rfl
theorem Eb{Q:Int->A3->Prop}(h:Q 0xFCA86420 {s with toks:=s.toks+1}):A8 (AD prog w) A (pyHash .none) Q E s:=by
 unfold pyHash;have a:[A1.none].any A1.onHeap=A6:=rfl;refine aa ?_;rw[cRoomFor,if_neg (by rw[a];exact al)];refine ab ?_;refine aa (wpAny_specialOf (Fc s) F.slot_NoneType_hash.lookup ?_);show A8 _ _ (if(A0 (A1.builtin "NoneType.__hash__")==A0 A1.none)=A2 then _ else _) Q E s;rw[if_neg (by rw[beq_builtin_none];exact al)];refine aa (wpAny_specialOf (Fc s) F.slot_NoneType_hash.lookup ?_);show A8 _ _ (callSpecialIfBoundUnlessNone? (.none) "__hash__" _>>=_) Q E s;refine aa (wpAny_callSpecialIfBoundUnlessNone?_slot (Fc s) F.slot_NoneType_hash
  (aP F.slot_NoneType_hash (Fc s) F.entry_NoneType_hash
   (show A8 _ _ (do ret (<-mkInt 0xFCA86420)) _ _ s from wpAny_ret_mkInt ?_) (F.args_NoneType_hash_1 _)));exact ab h
end
inductive Key where
 |inl(i:Int)|inr(x:AM)|non
 deriving DecidableEq
def Db:Key->A1->Bool
 | .inl k,v=>A1.isInt k v
 | .inr x,v=>A1.isStrOf x v
 | .non,.none=>A2
 | .non,_=>A6
def Qq(w:AK):Key->Int
 | .inl k=>hashInt k
 | .inr x=>hashStr w x
 | .non=>0xFCA86420
theorem Cr:∀{k:Key}{v:A1},Db k v=A2->(∃i t,k=Key.inl i/\v=A1.int i t)\/(∃x t,k=Key.inr x/\v=A1.str x t)\/(k=Key.non/\v=A1.none)
 | .inl i,v,h=>by obtain⟨t,e⟩:=A1.isInt_shape (k:=i) (v:=v) h;exact .inl ⟨i,t,rfl,e⟩
 | .inr x,v,h=>by obtain⟨t,e⟩:=A1.isStrOf_shape (x:=x) (v:=v) h;exact .inr (.inl ⟨x,t,rfl,e⟩)
 | .non,v,h=>by cases v<;>first|exact .inr (.inr ⟨rfl,rfl⟩)|cases h
theorem Qr(i:Int)(t:Tok):Db (.inl i) (.int i t)=A2:=by simp[Db,A1.isInt]
theorem Qt(x:AM)(t:Tok):Db (.inr x) (.str x t)=A2:=by simp[Db,A1.isStrOf]
theorem Qu(a b:Int):decide ((Key.inl a:Key)=Key.inl b)=(a==b):=by
 by_cases e:a=b;.rw[e,decide_eq_true rfl,beq_self_eq_true]
 .rw[decide_eq_false (λq=>e (Key.inl.inj q)),beq_eq_false_iff_ne.mpr e]
theorem Qv(a b:AM):decide ((Key.inr a:Key)=Key.inr b)=decide (a=b):=by
 by_cases e:a=b;.rw[e,decide_eq_true rfl,decide_eq_true rfl]
 .rw[decide_eq_false (λq=>e (Key.inr.inj q)),decide_eq_false e]
theorem Dy{a b:Key}(h:a≠b):decide (a=b)=A6:=decide_eq_false h
def B8(prog:AA)(w:AK):PySem.KeyKind prog w Key where
 is:=Db
 hash:=Qq w
 inj:=λv a b l g=>by
  rcases Cr l with⟨i,t,rfl,rfl⟩|⟨x,t,rfl,rfl⟩|⟨rfl,rfl⟩<;>rcases Cr g with⟨j,u,rfl,e⟩|⟨y,u,rfl,e⟩|⟨rfl,e⟩<;>
   first|rfl|(injection e with f _;rw[f])|exact nomatch e
 byValue:=λk v h=>by rcases Cr h with⟨i,t,rfl,rfl⟩|⟨x,t,rfl,rfl⟩|⟨rfl,rfl⟩<;>rfl
 pyHash:=λd h=>by
  rcases Cr d with⟨i,t,rfl,rfl⟩|⟨x,t,rfl,rfl⟩|⟨rfl,rfl⟩;.exact wpAny_pyHash_int h
  .exact wpAny_pyHash_str h
  .exact Eb h
 eqBool:=λ{A E s a b u v Q}hu d h=>by
  rcases Cr hu with⟨i,t,rfl,rfl⟩|⟨x,t,rfl,rfl⟩|⟨rfl,rfl⟩
  .rcases Cr d with⟨j,u,rfl,rfl⟩|⟨y,u,rfl,rfl⟩|⟨rfl,rfl⟩;.rw[Qu]at h;exact wpAny_eqBool_int h
   .rw[Dy (a:=Key.inl i) (b:=Key.inr y) (λq=>nomatch q)]at h;exact AW.int_str i t y u _ _ _ _ h
   .rw[Dy (a:=Key.inl i) (b:=Key.non) (λq=>nomatch q)]at h;exact AW.int_none i t _ _ _ _ h
  .rcases Cr d with⟨j,u,rfl,rfl⟩|⟨y,u,rfl,rfl⟩|⟨rfl,rfl⟩;.rw[Dy (a:=Key.inr x) (b:=Key.inl j) (λq=>nomatch q)]at h;exact AW.str_int x t j u _ _ _ _ h
   .rw[Qv]at h;exact wpAny_eqBool_str h
   .rw[Dy (a:=Key.inr x) (b:=Key.non) (λq=>nomatch q)]at h;exact AW.str_none x t _ _ _ _ h
  .rcases Cr d with⟨j,u,rfl,rfl⟩|⟨y,u,rfl,rfl⟩|⟨rfl,rfl⟩;.rw[Dy (a:=Key.non) (b:=Key.inl j) (λq=>nomatch q)]at h;exact AW.none_int j u _ _ _ _ h
   .rw[Dy (a:=Key.non) (b:=Key.inr y) (λq=>nomatch q)]at h;exact AW.none_str y u _ _ _ _ h
   .rw[decide_eq_true rfl]at h;exact AW.same .none _ _ _ _ h
 «strs»:=λk x t v h=>by
  rcases Cr h with⟨i,u,rfl,e⟩|⟨y,u,rfl,e⟩|⟨rfl,e⟩;.exact nomatch e
  .injection e with f _;subst f;cases v<;>rfl
  .exact nomatch e
theorem Qw(prog:AA)(w:AK)(i:Int)(t:Tok):(B8 prog w).is (.inl i) (.int i t)=A2:=Qr i t
theorem Qx(prog:AA)(w:AK)(x:AM)(t:Tok):(B8 prog w).is (.inr x) (.str x t)=A2:=Qt x t
inductive V where
 |non|bl(b:Bool)|int(i:Int)|str(x:AM)|byt(b:Array UInt8)|flt(b:UInt64)|ref(a:A4)|ty(n:String)
 deriving DecidableEq
def At:V->A1->Prop
 | .non,u=>u=A1.none
 | .bl b,u=>u=A1.bool b
 | .int i,u=>∃t,u=A1.int i t
 | .str x,u=>∃t,u=A1.str x t
 | .byt b,u=>∃t,u=A1.bytes b t
 | .flt b,u=>∃t,u=A1.float b t
 | .ref a,u=>u=A1.ref a
 | .ty n,u=>u=A1.type n
abbrev Av:List V->List A1->Prop:=An At
theorem Av.length{xs:List V}{a:List A1}(r:Av xs a):xs.length=a.length:=Aj r
theorem Av.get:∀{b:List V}{a:List A1}{i:Nat}{x:V},Av b a->b[i]?=A0 x->∃u,a[i]?=A0 u/\At x u
 |_,_,_,_,.nil,e=>by simp at e
 |_,_,0,_,.cons r _,e=>by simp at e;subst e;exact⟨_,rfl,r⟩
 |_,_,i+1,x,.cons _ t,e=>by obtain⟨u,d,f⟩:=Av.get (i:=i) (x:=x) t (by simpa using e);exact⟨u,by simpa using d,f⟩
theorem Av.set{x:V}{u:A1}(r:At x u):∀{b:List V}{a:List A1}(i:Nat),Av b a->Av (b.set i x) (a.set i u)
 |_,_,_,.nil=>.nil
 |_,_,0,.cons _ t=>.cons r t
 |_,_,i+1,.cons q t=>.cons q (Av.set r i t)
theorem Av.append:∀{d e:List V}{b a:List A1},Av d b->Av e a->Av (d++e) (b++a)
 |_,_,_,_,.nil,s=>s
 |_,_,_,_,.cons r t,s=>.cons r (Av.append t s)
theorem Av.take:∀{b:List V}{a:List A1}(n:Nat),Av b a->Av (b.take n) (a.take n)
 |_,_,0,_=>.nil
 |_,_,_+1,.nil=>.nil
 |_,_,n+1,.cons r t=>.cons r (Av.take n t)
theorem Av.drop:∀{b:List V}{a:List A1}(n:Nat),Av b a->Av (b.drop n) (a.drop n)
 |_,_,0,r=>r
 |_,_,_+1,.nil=>.nil
 |_,_,n+1,.cons _ t=>Av.drop n t
def D6:Option V->Option A1->Prop
 |A0 v,A0 u=>At v u
 |A5,A5=>True
 |_,_=>False
def KV{a:Type}:List (a×V)->List (a×A1)->Prop:=An λ(p:a×V)(q:a×A1)=>p.1=q.1/\At p.2 q.2
def kV:Key->V
 | .inl i=>.int i
 | .inr x=>.str x
 | .non=>.non
inductive HO where
 |lst(xs:List V)
 |tup(xs:List V)
 |dK(kvs:List (Key×V))|dT(kvs:List (List Key×V))
 |set(S:Int->Bool)(n:Nat)
 |ins(C dx:A4)(fs:List (AM×V))
 |own(x:A4)
 |xd(fs:List (AM×V))
 |met(f x:A4)
 |rng(lo hi:Int)
 |frz(o:AS)(u:HO)
 |tbl(ps:Array A1)
 |ext(φ:AJ->Prop)
abbrev Hp:=A4->Option HO
def upd(H:Hp)(a:A4)(o:HO):Hp:=λb=>if b=a then A0 o else H b
theorem Aw{H:Hp}{a:A4}{o:HO}:upd H a o a=A0 o:=by unfold upd;rw[if_pos rfl]
theorem Au{H:Hp}{a b:A4}{o:HO}(h:b≠a):upd H a o b=H b:=by unfold upd;rw[if_neg h]
theorem Fd{H:Hp}{a:A4}{o u:HO}:upd (upd H a o) a u=upd H a u:=by funext b;unfold upd;split<;>rfl
theorem Qy{H:Hp}{a b:A4}{o u:HO}(h:H a=A0 o)(h':H b=A0 u)(d:o≠u):a≠b:=by intro e;subst e;rw[h]at h';exact d (Option.some.inj h')
theorem Bb{H:Hp}{a b:A4}{o:HO}(h:H a=A0 o)(h':H b=A5):a≠b:=by intro e;subst e;rw[h]at h';cases h'
def DJ(h:AJ)(a:A4)(items:Array A1):Prop:=∃o,h.get? a=A0 o/\o.cls=.type "tuple"/\(∃n,o.data=.seq items n)/\o.dict=A5
theorem DJ.tup{h:AJ}{a:A4}{items:Array A1}(x:DJ h a items):IsTup h a items:=let⟨o,e,c,⟨n,d⟩,_⟩:=x;⟨o,e,c,n,d⟩
theorem DJ.new(h:AJ)(items:Array A1):DJ (h.push {cls:=.type "tuple",data:=.seq items}) h.objs.size items:=⟨_,ai _ rfl,rfl,⟨_,rfl⟩,rfl⟩
section
variable(P:AA)(w:AK)
def B0(H:Hp)(h:AJ)(a:A4):HO->Prop
 | .lst e=>e.length<=A7/\∃(d:List A1)(n:Nat),Av e d/\h.get? a=A0 {cls:=.type "list",data:=.seq d.toArray n}
 | .tup e=>e.length<=A7/\∃d:List A1,Av e d/\DJ h a d.toArray
 | .dK b=>b.length<=A7/\(a==AO)=A6/\∃s,KV b s/\h.DictOf (B8 P w) a s
 | .dT b=>b.length<=A7/\(a==AO)=A6/\∃e:List (List Key×A4×A1),
   An (λ(p:List Key×V)(q:List Key×A4×A1)=>p.1=q.1/\H q.2.1=A0 (.tup (p.1.map kV))/\At p.2 q.2.2) b e/\
   ∃o l D,h.get? a=A0 o/\o.ExactDict/\o.data=.dict l D/\l.toList=e.map (entryOfKey (Af (B8 P w)))/\(e.map (·.1)).Nodup
 | .set S n=>h.SetOf (intKind P w) a S n
 | .ins C i g=>H i=A0 (.own a)/\g.length<=1000/\i≠a/\h.get? a=A0 (W.instObj C i)/\
   ∃mA,h.Ns1 i mA/\(∀f,D6 (g.lookup f) (mA f))/\PySem.Within mA (g.map (·.1))
 | .own _=>∃o,h.get? a=A0 o
 | .xd g=>∃mA,h.Ns1 a mA/\∀f,D6 (g.lookup f) (mA f)
 | .rng A B=>∃t u v,h.get? a=A0 {cls:=.type "range",data:=.fields #[.int A t,.int B u,.int 1 v]}
 | .frz o u=>h.get? a=A0 o/\B0 H h a u
 | .tbl y=>h.get? a=A0 {cls:=.none,data:=.fields y}
 | .met f x=>h.get? a=A0 (W.methodObj (.ref f) (.ref x))
 | .ext j=>j h/\(∃o,h.get? a=A0 o)/\∀m r:AJ,j m->(∀o,m.get? a=A0 o->r.get? a=A0 o)->j r
def HOk(H:Hp)(h:AJ):Prop:=∀a o,H a=A0 o->B0 P w H h a o
end
section
variable{P:AA}{w:AK}{H H':Hp}{h h':AJ}{a:A4}{o:HO}
theorem B0.lt(x:B0 P w H h a o):a<h.objs.size:=by
 cases o with
 |lst g=>obtain⟨_,_,_,_,e⟩:=x;exact ak e
 |tup g=>obtain⟨_,_,_,p⟩:=x;exact p.tup.lt
 |dK b=>obtain⟨_,_,_,_,o,_,_,e,_⟩:=x;exact ak e
 |dT b=>obtain⟨_,_,_,_,o,_,_,e,_⟩:=x;exact ak e
 |set S n=>obtain⟨o,_,_,_,e,_⟩:=x;exact ak e
 |ins C l d=>obtain⟨_,_,_,e,_⟩:=x;exact ak e
 |own y=>obtain⟨_,e⟩:=x;exact ak e
 |xd d=>obtain⟨_,⟨_,_,_,e,_⟩,_⟩:=x;exact ak e
 |rng m q=>obtain⟨_,_,_,e⟩:=x;exact ak e
 |frz i u=>obtain⟨e,_⟩:=x;exact ak e
 |tbl j=>exact ak (show h.get? a=A0 _ from x)
 |met f y=>exact ak (show h.get? a=A0 _ from x)
 |ext r=>obtain⟨_,⟨_,e⟩,_⟩:=x;exact ak e
theorem Paired.mapP{i g:Type}{F G:i->g->Prop}:∀{e:List i}{d:List g},An F e d->(∀a b,F a b->G a b)->An G e d
 |_,_,.nil,_=>.nil
 |_,_,.cons r t,f=>.cons (f _ _ r) (Paired.mapP t f)
theorem B0.stay(x:B0 P w H h a o)(k:∀b u,(b=a\/H b=A0 (.own a))->h.get? b=A0 u->h'.get? b=A0 u)
  (E:∀b,H b=A0 (.own a)->H' b=A0 (.own a))(K:∀b m,H b=A0 (.tup m)->H' b=A0 (.tup m)):B0 P w H' h' a o:=by
 induction o with
 |lst m=>obtain⟨z,l,n,r,e⟩:=x;exact⟨z,l,n,r,k _ _ (.inl rfl) e⟩
 |tup m=>obtain⟨z,l,r,g,e,c⟩:=x;exact⟨z,l,r,g,k _ _ (.inl rfl) e,c⟩
 |dK A=>obtain⟨z,y,M,r,g,i,j,e,c⟩:=x;exact⟨z,y,M,r,g,i,j,k _ _ (.inl rfl) e,c⟩
 |dT A=>obtain⟨z,y,m,r,g,i,j,e,c⟩:=x;exact⟨z,y,m,Paired.mapP r λp q z=>⟨z.1,K _ _ z.2.1,z.2.2⟩,g,i,j,k _ _ (.inl rfl) e,c⟩
 |set S n=>obtain⟨g,i,j,t,e,c⟩:=x;exact⟨g,i,j,t,k _ _ (.inl rfl) e,c⟩
 |ins C O I=>obtain⟨d,z,G,e,mA,⟨s,i,j,J,c⟩,r⟩:=x;exact⟨E _ d,z,G,k _ _ (.inl rfl) e,mA,⟨s,i,j,k _ _ (.inr d) J,c⟩,r⟩
 |own y=>obtain⟨g,e⟩:=x;exact⟨g,k _ _ (.inl rfl) e⟩
 |xd I=>obtain⟨mA,⟨s,i,j,e,c⟩,r⟩:=x;exact⟨mA,⟨s,i,j,k _ _ (.inl rfl) e,c⟩,r⟩
 |rng Q R=>obtain⟨t,u,v,e⟩:=x;exact⟨t,u,v,k _ _ (.inl rfl) e⟩
 |frz g u L=>obtain⟨e,q⟩:=x;exact⟨k _ _ (.inl rfl) e,L q⟩
 |tbl B=>have e:h.get? a=A0 {cls:=.none,data:=.fields B}:=x;show h'.get? a=A0 {cls:=.none,data:=.fields B};exact k a _ (.inl rfl) e
 |met f y=>have e:h.get? a=A0 (W.methodObj (.ref f) (.ref y)):=x;show h'.get? a=A0 (W.methodObj (.ref f) (.ref y));exact k a _ (.inl rfl) e
 |ext N=>obtain⟨p,⟨o,e⟩,D⟩:=x;exact⟨D _ _ p λo q=>k _ _ (.inl rfl) q,⟨o,k _ _ (.inl rfl) e⟩,D⟩
theorem HOk.lt(x:HOk P w H h)(e:H a=A0 o):a<h.objs.size:=(x a o e).lt
theorem HOk.fresh(x:HOk P w H h)(e:h.objs.size<=a):H a=A5:=by
 cases q:H a with
 |none=>rfl
 |some u=>exact absurd (aq (x.lt q) e) (bi _)
theorem HOk.kept(x:HOk P w H h)(k:∀b u,h.get? b=A0 u->h'.get? b=A0 u):HOk P w H h':=λa o e=>
 (x a o e).stay (λb u _ q=>k b u q) (λ_ q=>q) λ_ _ q=>q
theorem HOk.laid(x:HOk P w H h)(k:∀b u,h.get? b=A0 u->h'.get? b=A0 u)(i:h.objs.size<=a)(d:B0 P w (upd H a o) h' a o):HOk P w (upd H a o) h':=λb u e=>by
 have g:=x.fresh i;by_cases f:b=a;.subst f;rw[Aw]at e;cases e;exact d
 .rw[Au f]at e;exact(x b u e).stay (λc v _ q=>k c v q) (λc q=>by rw[Au (Bb q g)];exact q) λc j q=>by rw[Au (Bb q g)];exact q
end
def Rd(H:Hp)(a:A4)(u:HO):Prop:=H a=A0 u\/∃o,H a=A0 (.frz o u)
theorem Rd.ok{P:AA}{w:AK}{H:Hp}{h:AJ}{a:A4}{u:HO}(r:Rd H a u)(x:HOk P w H h):B0 P w H h a u:=by
 rcases r with r|⟨o,r⟩;.exact x a u r
 .obtain⟨_,q⟩:=x a _ r;exact q
def Mut:Option HO->Prop
 |A0 (.lst _)=>True
 |A0 (.dK _)=>True
 |A0 (.dT _)=>True
 |A0 (.set _ _)=>True
 |A0 (.ins _ _ _)=>True
 |A0 (.ext _)=>True
 |_=>False
section
variable{P:AA}{w:AK}{H:Hp}{h h':AJ}{x e:A4}{o':HO}
theorem HOk.write(ok:HOk P w H h)(i:Mut (H x))(p:e=x\/H e=A0 (.own x))(k:∀b u,b≠e->h.get? b=A0 u->h'.get? b=A0 u)(m:∃u,h'.get? e=A0 u)
  (n:B0 P w (upd H x o') h' x o'):HOk P w (upd H x o') h':=λb u q=>by
 have d:∀c y,H c=A0 (.own y)->c≠x:=λc y r z=>by subst z;rw[r]at i;exact i
 have f:∀c l,H c=A0 (.tup l)->c≠x:=λc l r z=>by subst z;rw[r]at i;exact i
 by_cases g:b=x;.subst g;rw[Aw]at q;cases q;exact n
 .rw[Au g]at q;by_cases a:b=e
  .have o:H b=A0 (.own x):=by
    rcases p with z|z;.exact absurd (a.trans z) g
    .rw[a];exact z
   rw[q]at o;cases o;obtain⟨v,s⟩:=m;exact⟨v,by rw[a];exact s⟩
  .refine(ok b u q).stay (λc v j r=>k c v ?_ r) (λc r=>by rw[Au (d c b r)];exact r) λc l r=>by rw[Au (f c l r)];exact r
   rcases j with rfl|j;.exact a
   .rintro rfl;rcases p with z|z;.exact d c b j z
    .rw[j]at z;cases z;exact g rfl
end
structure Un(fs ex:List A4)(H H':Hp)(h h':AJ):Prop where
 keep:∀b o,h.get? b=A0 o->H b=A5->b∉fs->b∉ex->h'.get? b=A0 o
 slot:∀b o,h.get? b=A0 o->H b=A5->b∈fs->b∉ex->∃sl,h'.get? b=A0 {o with slots:=sl}
 free:∀b o,h.get? b=A0 o->H b=A5->b∉ex->H' b=A5
 there:∀b o,h.get? b=A0 o->b∉ex->∃o',h'.get? b=A0 o'
 tups:∀b xs,H b=A0 (.tup xs)->H' b=A0 (.tup xs)
 frzs:∀b o u,H b=A0 (.frz o u)->H' b=A0 (.frz o u)
 tbls:∀b ps,H b=A0 (.tbl ps)->∃more,H' b=A0 (.tbl (ps++more))
section
variable{fs fs' ex ex':List A4}{H H1 H2:Hp}{h h1 h2 h':AJ}{a x e:A4}{o:HO}
theorem Un.any(u:Un fs ex H H1 h h1){b:A4}{ob:AS}(q:h.get? b=A0 ob)(n:H b=A5)(f:b∉ex):∃g,h1.get? b=A0 {ob with slots:=g}:=by
 by_cases d:b∈fs;.exact u.slot b ob q n d f
 .exact⟨ob.slots,u.keep b ob q n d f⟩
theorem Un.kept(k:∀b u,h.get? b=A0 u->h'.get? b=A0 u):Un fs ex H H h h':=
 ⟨λb d q _ _ _=>k b d q,λb d q _ _ _=>⟨d.slots,k b d q⟩,λ_ _ _ n _=>n,λb d q _=>⟨d,k b d q⟩,λ_ _ q=>q,λ_ _ _ q=>q,λ_ f q=>⟨#[],by rw[q];simp⟩⟩
theorem Un.refl:Un fs ex H H h h:=Un.kept λ_ _ q=>q
theorem Un.laid(k:∀b u,h.get? b=A0 u->h'.get? b=A0 u)(g:h.objs.size<=a)(d:H a=A5):Un fs ex H (upd H a o) h h' where
 keep:=λb u q _ _ _=>k b u q
 slot:=λb u q _ _ _=>⟨u.slots,k b u q⟩
 free:=λb u q n _=>by rw[Au (ax (aq (ak q) g))];exact n
 there:=λb u q _=>⟨u,k b u q⟩
 tups:=λb f q=>by rw[Au (Bb q d)];exact q
 frzs:=λb u f q=>by rw[Au (Bb q d)];exact q
 tbls:=λb i q=>⟨#[],by rw[Au (Bb q d),q];simp⟩
theorem Un.write(f:Mut (H x))(m:e=x\/H e=A0 (.own x))(k:∀b u,b≠e->h.get? b=A0 u->h'.get? b=A0 u)(g:∃u,h'.get? e=A0 u):Un fs ex H (upd H x o) h h':=by
 have l:∀b,H b=A5->b≠x:=λb n z=>by subst z;rw[n]at f;exact f
 have j:∀b,H b=A5->b≠e:=λb n z=>by
  subst z;rcases m with r|r;.exact l b n r
  .rw[n]at r;cases r
 have i:∀b u,H b=A0 u->¬Mut (A0 u)->b≠x:=λb u q s z=>by subst z;rw[q]at f;exact s f
 refine⟨λb u q n _ _=>k b u (j b n) q,λb u q n _ _=>⟨u.slots,k b u (j b n) q⟩,λb u q n _=>by rw[Au (l b n)];exact n,λb u q _=>?_,
  λb p q=>by rw[Au (i b _ q λz=>z)];exact q,λb u p q=>by rw[Au (i b _ q λz=>z)];exact q,λb t q=>⟨#[],by rw[Au (i b _ q λz=>z),q];simp⟩⟩;by_cases d:b=e;.subst d;exact g
 .exact⟨u,k b u d q⟩
end
def trk(h:AJ)(H:Hp):List A4:=(aE h.objs.size).filter λa=>(H a).isSome
def D7(h:AJ)(H:Hp):AJ:=W.hideAll h (trk h H)
theorem Qz(h:AJ)(H:Hp):(D7 h H).objs.size=h.objs.size:=W.hideAll_size _ _
theorem Q_{h:AJ}{H:Hp}{b:A4}{o:AS}(e:h.get? b=A0 o)(n:H b=A5):(D7 h H).get? b=A0 o:=
 W.hideAll_get _ e λa=>by have q:(H b).isSome=A2:=(bo.mp a).2;rw[n]at q;simp at q
theorem R0{h:AJ}{H:Hp}{b:A4}{o:AS}(e:(D7 h H).get? b=A0 o):h.get? b=A0 o/\H b=A5:=by
 have a:h.get? b=A0 o:=W.of_hideAll (trk h H) e;refine⟨a,?_⟩;cases q:H b with
 |none=>rfl
 |some x=>have d:b∈trk h H:=bo.mpr ⟨ba.mpr (ak a),by simp[q]⟩;have z:(D7 h H).get? b=A5:=W.hideAll_none (trk h H) d;rw[z]at e;cases e
def R1(g h:AJ)(L:A4):List (A4×AS):=(aE h.objs.size).filterMap λa=>if a=L\/(g.get? a).isSome=A2 then A5 else(h.get? a).map λo=>(a,o)
def Ar(g h:AJ)(L d:A4):List (A4×AS):=(R1 g h L).filter λp=>decide (p.1≠d)
structure Mod(K:W.Frag)(mg:AM->Option A1)(base:AJ):Prop where
 kin:K.In base
 glob:base.Ns AN mg
 blt:∃mb,base.Ns builtinsNs mb/\∀x:AM,x≠"__name__"->mb x=bootBuiltins x
 nolimit:base.NoLimit
set_option genInjectivity false
structure Cx where
 prog:AA
 w:AK
 K:W.Frag
 mg:AM->Option A1
 base:AJ
 A:AL
 N:List AM
 s₀:A3
 H₀:Hp
 env:Env
 outer:List Env
 stack:List Env
 ex:List A4
 fn:AM->Bool
 calm:Bool
 pn:List (A4×AS)
 xe:A1->A3->Prop
set_option genInjectivity true
def frs(l:List Env):List A4:=l.filterMap (·.frame)
abbrev Cx.fs(X:Cx):List A4:=frs X.outer
def Vis(sc:AY)(x:AM):Prop:=sc.names.lookup x=A0 .local\/sc.names.lookup x=A0 .cell\/sc.names.lookup x=A0 .free
def Loc(sc:AY)(x:AM):Prop:=sc.names.lookup x=A0 .local\/sc.names.lookup x=A0 .cell
def R4(env:Env)(h:AJ)(m:AM->Option A1)(x:AM)(u:A1):Prop:=
 (env.kindOf x=A0 .local/\m x=A0 u)\/((env.kindOf x=A0 .cell\/env.kindOf x=A0 .free)/\∃c,env.cells.lookup x=A0 c/\h.IsCell c (A0 u))
structure Cx.Ok(X:Cx):Prop where
 mod:Mod X.K X.mg X.base
 kind:X.env.scope.kind=.function
 glob:X.env.globals=AN
 blt:X.env.builtins=builtinsNs
 above:X.s₀.heap.objs.size<=X.env.locals
 inj:∀x y c,X.env.cells.lookup x=A0 c->X.env.cells.lookup y=A0 c->x=y
 has:∀x,(X.env.kindOf x=A0 .cell\/X.env.kindOf x=A0 .free)->∃c,X.env.cells.lookup x=A0 c
 cab:∀x c,X.fn x=A2->X.env.cells.lookup x=A0 c->X.s₀.heap.objs.size<=c
 hd:X.calm=A2->X.A.handled=A5
 frames:X.A.frames=A0 X.stack
 stk:X.stack=X.outer\/(X.stack=X.env::X.outer/\X.env.frame=A0 X.env.locals)
 exf:∀b∈X.ex,b≠X.env.locals/\∀x c,X.env.cells.lookup x=A0 c->c≠b
 bs:∀b o,X.base.get? b=A0 o->X.s₀.heap.get? b=A0 o/\X.H₀ b=A5
 bsz:X.base.objs.size<=X.s₀.heap.objs.size
 noex:∀b o,X.base.get? b=A0 o->b∉X.ex
 exfs:∀b∈X.ex,b∉X.fs
 funs:X.s₀.heap.FunFrames X.base X.outer
 frf:∀b∈X.fs,X.H₀ b=A5
structure Inv(X:Cx)(p_:List (A4×AS))(σ:List (Option V))(H:Hp)(s:A3):Prop where
 ok:X.Ok
 os:s.os=X.s₀.os
 bare:AllBare s.gens
 base:Un X.fs X.ex X.H₀ H X.s₀.heap s.heap
 loc:∃m,s.heap.Ns X.env.locals m/\∀(i:Nat)(x:AM)(v:V),X.N[i]?=A0 x->σ[i]?=A0 (A0 v)->Vis X.env.scope x->∃u,At v u/\R4 X.env s.heap m x u
 cell:∀x c,X.env.cells.lookup x=A0 c->∃v,s.heap.IsCell c v
 free:H X.env.locals=A5
 freeC:∀x c,X.env.cells.lookup x=A0 c->H c=A5
 pin:∀p∈X.pn++p_,s.heap.get? p.1=A0 p.2/\H p.1=A5/\p.1≠X.env.locals/\p.1∉X.fs/\∀v,p.2.data≠.cell v
 hok:HOk X.prog X.w H s.heap
 len:σ.length=X.N.length
section
variable{X:Cx}{p_:List (A4×AS)}{σ:List (Option V)}{H H':Hp}{s:A3}{h':AJ}
theorem Cx.Ok.nofr(ok:X.Ok){b:A4}{o:AS}(e:X.base.get? b=A0 o):b∉X.fs:=λa=>by have:=(ok.funs.mem a).1;rw[e]at this;cases this
theorem Inv.bs(I:Inv X p_ σ H s):∀b o,X.base.get? b=A0 o->s.heap.get? b=A0 o/\H b=A5:=λb o e=>
 ⟨I.base.keep b o (I.ok.bs b o e).1 (I.ok.bs b o e).2 (I.ok.nofr e) (I.ok.noex b o e),I.base.free b o (I.ok.bs b o e).1 (I.ok.bs b o e).2 (I.ok.noex b o e)⟩
theorem Inv.bk(I:Inv X p_ σ H s):∀b o,X.base.get? b=A0 o->s.heap.get? b=A0 o:=λb o e=>(I.bs b o e).1
theorem Inv.mod(I:Inv X p_ σ H s):Mod X.K X.mg X.base:=I.ok.mod
theorem Inv.kIn(I:Inv X p_ σ H s):X.K.In s.heap:=I.ok.mod.kin.keeps I.bk
theorem Inv.fr(I:Inv X p_ σ H s):∃m,Fr X.base X.env.locals s.heap m:=
 let⟨m,a,_⟩:=I.loc
 ⟨m,a,I.bk,aF I.ok.bsz I.ok.above⟩
theorem Inv.lt(I:Inv X p_ σ H s):X.env.locals<s.heap.objs.size:=let⟨_,a,_⟩:=I.loc;a.lt
theorem Inv.sz(I:Inv X p_ σ H s):X.s₀.heap.objs.size<=s.heap.objs.size:=aF I.ok.above (bG I.lt)
theorem Inv.nofs(I:Inv X p_ σ H s){a:A4}(h:s.heap.objs.size<=a):a∉X.fs:=λb=>by obtain⟨_,o,d,_⟩:=I.ok.funs.mem b;exact absurd (aq (ak d) (aF I.sz h)) (bi _)
theorem Inv.cne(I:Inv X p_ σ H s):∀x c,X.env.cells.lookup x=A0 c->c≠X.env.locals:=λx c e z=>by obtain⟨v,o,f,d⟩:=I.cell x c e;obtain⟨m,⟨g,h,i,a,b,_⟩,_⟩:=I.loc;rw[z,a]at f;cases f;rw[b]at d;cases d
theorem Inv.funs(I:Inv X p_ σ H s):s.heap.FunFrames X.base X.outer:=by
 have all:∀(l:List Env),(∀b∈frs l,b∈X.fs)->X.s₀.heap.FunFrames X.base l->s.heap.FunFrames X.base l:=by
  intro l;induction l with
  |nil=>intro _ _;trivial
  |cons n r q=>intro g m;obtain⟨i,⟨L,o,f,t,j,h⟩,p⟩:=m;have d:L∈X.fs:=g L (by unfold frs;rw[List.filterMap_cons,f];exact az);obtain⟨u,e⟩:=I.base.slot L o j (I.ok.frf L d) d λz=>I.ok.exfs L z d;exact⟨i,⟨L,_,f,t,e,h⟩,q (λb a=>g b (by unfold frs;rw[List.filterMap_cons,f];exact ay _ a)) p⟩
 exact all X.outer (λ_ a=>a) I.ok.funs
theorem Inv.stack(I:Inv X p_ σ H s):s.heap.FunFrames X.base X.stack:=by
 rcases I.ok.stk with e|⟨e,b⟩;.rw[e];exact I.funs
 .rw[e];obtain⟨m,a,_⟩:=I.loc;refine .cons (by rw[I.ok.kind];decide) b a ?_ I.funs;exact AJ.get?_none_of_le (aF I.ok.bsz I.ok.above)
theorem Inv.stkSub(I:Inv X p_ σ H s):∀b∈frs X.stack,b∈X.env.locals::X.fs:=λb a=>by
 rcases I.ok.stk with e|⟨e,d⟩;.rw[e]at a;exact ay _ a
 .rw[e]at a;unfold frs at a;rw[List.filterMap_cons,d]at a;exact a
theorem Inv.stkFree(I:Inv X p_ σ H s):∀b∈frs X.stack,H b=A5:=λb a=>by
 rcases ao.mp (I.stkSub b a)with e|a;.rw[e];exact I.free
 .obtain⟨_,o,d,_⟩:=I.ok.funs.mem a;exact I.base.free b o d (I.ok.frf b a) λz=>I.ok.exfs b z a
theorem Inv.step{g':Array GenState}{t':Nat}{d':Drawn}{ch:List A4}(I:Inv X p_ σ H s)
  (h:∀b∈ch,(b∈X.ex\/X.s₀.heap.objs.size<=b)/\b≠X.env.locals/\(∀x c,X.env.cells.lookup x=A0 c->c≠b)/\∀p∈X.pn++p_,p.1≠b)
  (keep:∀b o,b≠X.env.locals->b∉X.fs->b∉ch->s.heap.get? b=A0 o->H b=A5->h'.get? b=A0 o)
  (slot:∀b o,b≠X.env.locals->b∈X.fs->b∉ch->s.heap.get? b=A0 o->H b=A5->∃K,h'.get? b=A0 {o with slots:=K})(free:∀b o,b∉ch->s.heap.get? b=A0 o->H b=A5->H' b=A5)
  (there:∀b o,b∉ch->s.heap.get? b=A0 o->∃C,h'.get? b=A0 C)
  (tups:∀b y,H b=A0 (.tup y)->H' b=A0 (.tup y))(frzs:∀b o u,H b=A0 (.frz o u)->H' b=A0 (.frz o u))(tbls:∀b G,H b=A0 (.tbl G)->∃more,H' b=A0 (.tbl (G++more)))
  (ns:∀m,s.heap.Ns X.env.locals m->h'.Ns X.env.locals m)(M:HOk X.prog X.w H' h')(R:AllBare g'):
  Inv X p_ σ H' {s with heap:=h',gens:=g',drawn:=d',toks:=t'}:=by
 have D:∀b o,X.s₀.heap.get? b=A0 o->b≠X.env.locals:=λb o e=>ax (aq (ak e) I.ok.above);have t:∀b o,X.s₀.heap.get? b=A0 o->b∉X.ex->b∉ch:=λb o e a A=>by
  rcases(h b A).1 with z|z;.exact a z
  .exact absurd (aq (ak e) z) (bi _)
 have g:∀x c,X.env.cells.lookup x=A0 c->∀v,s.heap.IsCell c v->h'.IsCell c v:=λx c e v⟨o,B,J⟩=>by
  have f:c∉ch:=λz=>(h c z).2.2.1 x c e rfl;by_cases O:c∈X.fs;.obtain⟨K,q⟩:=slot c o (I.cne x c e) O f B (I.freeC x c e);exact⟨_,q,J⟩
  .exact⟨o,keep c o (I.cne x c e) O f B (I.freeC x c e),J⟩
 refine⟨I.ok,I.os,R,⟨λb o e n A a=>?_,λb o e n A a=>?_,λb o e n a=>?_,λb o e a=>?_,λb y e=>tups b y (I.base.tups b y e),λb o y e=>frzs b o y (I.base.frzs b o y e),λb G e=>?_⟩,?_,λx c e=>?_,?_,λx c e=>?_,λp P=>?_,M,I.len⟩;.exact keep b o (D b o e) A (t b o e a) (I.base.keep b o e n A a) (I.base.free b o e n a)
 .obtain⟨K,j⟩:=I.base.slot b o e n A a;obtain⟨L,E⟩:=slot b _ (D b o e) A (t b o e a) j (I.base.free b o e n a);exact⟨L,E⟩
 .obtain⟨C,j⟩:=I.base.there b o e a;exact free b C (t b o e a) j (I.base.free b o e n a)
 .obtain⟨C,j⟩:=I.base.there b o e a;exact there b C (t b o e a) j
 .obtain⟨Y,j⟩:=I.base.tbls b G e;obtain⟨U,E⟩:=tbls b _ j;exact⟨Y++U,by rw[E,Array.append_assoc]⟩
 .obtain⟨m,Z,S⟩:=I.loc;refine⟨m,ns m Z,λi x v j E T=>?_⟩;obtain⟨u,r,l⟩:=S i x v j E T;refine⟨u,r,?_⟩;rcases l with l|⟨k,c,e,z⟩;.exact .inl l
  .exact .inr ⟨k,c,e,g x c e _ z⟩
 .obtain⟨v,z⟩:=I.cell x c e;exact⟨v,g x c e v z⟩
 .obtain⟨m,⟨o,_,_,B,_⟩,_⟩:=I.loc;exact free _ o (λz=>(h _ z).2.1 rfl) B I.free
 .obtain⟨v,o,B,J⟩:=I.cell x c e;exact free c o (λz=>(h c z).2.2.1 x c e rfl) B (I.freeC x c e)
 .obtain⟨e,n,N,Q,d⟩:=I.pin p P;have f:p.1∉ch:=λz=>(h p.1 z).2.2.2 p P rfl;exact⟨keep p.1 p.2 N Q f e n,free p.1 p.2 f e n,N,Q,d⟩
theorem Inv.un{t':Nat}(I:Inv X p_ σ H s)(u:Un X.fs [] H H' s.heap h')(h:HOk X.prog X.w H' h'):Inv X p_ σ H' {s with heap:=h',toks:=t'}:=by obtain⟨m,⟨o,q,y,i,r⟩,_⟩:=id I.loc;obtain⟨t,j⟩:=u.any i I.free (by simp);exact I.step (g':=s.gens) (d':=s.drawn) (ch:=[]) (λ_ z=>nomatch z) (λb o _ d _ e n=>u.keep b o e n d (by simp)) (λb o _ d _ e n=>u.slot b o e n d (by simp)) (λb o _ e n=>u.free b o e n (by simp)) (λb o _ e=>u.there b o e (by simp)) u.tups u.frzs u.tbls (λx l=>by obtain⟨v,f,g,a,p⟩:=l;rw[i]at a;cases a;exact⟨_,f,g,j,p⟩) h I.bare
theorem Inv.call{g':Array GenState}{t':Nat}{d':Drawn}{ch:List A4}(I:Inv X p_ σ H s)(u:Un (frs X.stack) ch H H' s.heap h')(j:HOk X.prog X.w H' h')(q:AllBare g')
  (f:∀b∈ch,(b∈X.ex\/X.s₀.heap.objs.size<=b)/\b≠X.env.locals/\(∀x c,X.env.cells.lookup x=A0 c->c≠b)/\∀p∈X.pn++p_,p.1≠b):
  Inv X p_ σ H' {s with heap:=h',gens:=g',drawn:=d',toks:=t'}:=by obtain⟨m,⟨o,A,E,l,r⟩,_⟩:=id I.loc;obtain⟨B,g⟩:=u.any l I.free λz=>(f _ z).2.1 rfl;exact I.step (ch:=ch) f (λb o g t a e n=>u.keep b o e n (λz=>(ao.mp (I.stkSub b z)).elim g t) a) (λb o _ _ a e n=>u.any e n a) (λb o a e n=>u.free b o e n a) (λb o a e=>u.there b o e a) u.tups u.frzs u.tbls (λD v=>by obtain⟨C,h,i,d,y⟩:=v;rw[l]at d;cases d;exact⟨_,h,i,g,y⟩) j q
theorem Inv.turned{t':Nat}{it:A4}(I:Inv X p_ σ H s)(k:∀b o,b≠it->s.heap.get? b=A0 o->h'.get? b=A0 o)(t:H it=A5)(f:it≠X.env.locals)
  (h1:it∈X.ex\/X.s₀.heap.objs.size<=it)(w:∀x c,X.env.cells.lookup x=A0 c->c≠it)(l:∀p∈X.pn++p_,p.1≠it):Inv X p_ σ H {s with heap:=h',toks:=t'}:=by
 have d:∀b u,H b=A0 u->b≠it:=λb u e z=>by rw[z,t]at e;cases e
 refine I.step (g':=s.gens) (d':=s.drawn) (ch:=[it]) (λb g=>?_) (λb o _ _ a e _=>k b o (λz=>a (by simp[z])) e) (λb o _ _ a e _=>⟨o.slots,k b o (λz=>a (by simp[z])) e⟩) (λ_ _ _ _ n=>n)
  (λb o a e=>⟨o,k b o (λz=>a (by simp[z])) e⟩) (λ_ _ e=>e) (λ_ _ _ e=>e) (λb A e=>⟨#[],by rw[e];simp⟩) (λm h=>?_) (λb u e=>?_) I.bare
 .have e:b=it:=by simpa using g
  subst e;exact⟨h1,f,w,l⟩
 .obtain⟨o,i,y,j,r⟩:=h;exact⟨o,i,y,k _ o (Ne.symm f) j,r⟩
 .refine(I.hok b u e).stay (λc v a q=>k c v ?_ q) (λ_ q=>q) λ_ _ q=>q;rcases a with z|z;.rw[z];exact d b u e
  .exact d c _ z
theorem Inv.tok(I:Inv X p_ σ H s)(t:Nat):Inv X p_ σ H {s with toks:=t}:=I.un (h':=s.heap) (t':=t) Un.refl I.hok
theorem Inv.kept{t':Nat}(I:Inv X p_ σ H s)(k:∀b u,s.heap.get? b=A0 u->h'.get? b=A0 u):Inv X p_ σ H {s with heap:=h',toks:=t'}:=I.un (Un.kept k) (I.hok.kept k)
theorem Inv.laid{a:A4}{o:HO}{t':Nat}(I:Inv X p_ σ H s)(k:∀b u,s.heap.get? b=A0 u->h'.get? b=A0 u)(d:s.heap.objs.size<=a)(e:B0 X.prog X.w (upd H a o) h' a o):
  Inv X p_ σ (upd H a o) {s with heap:=h',toks:=t'}:=I.un (Un.laid k d (I.hok.fresh d)) (I.hok.laid k d e)
theorem Inv.write{x e:A4}{o:HO}{t':Nat}(I:Inv X p_ σ H s)(g:Mut (H x))(f:e=x\/H e=A0 (.own x))(k:∀b u,b≠e->s.heap.get? b=A0 u->h'.get? b=A0 u)(a:∃u,h'.get? e=A0 u)
  (d:B0 X.prog X.w (upd H x o) h' x o):Inv X p_ σ (upd H x o) {s with heap:=h',toks:=t'}:=I.un (Un.write g f k a) (I.hok.write g f k a d)
theorem Inv.weak{a:List (Option V)}(I:Inv X p_ σ H s)(h:a.length=σ.length)(w:∀(i:Nat)v,a[i]?=A0 (A0 v)->σ[i]?=A0 (A0 v)):Inv X p_ a H s:=
 ⟨I.ok,I.os,I.bare,I.base,let⟨m,g,b⟩:=I.loc;⟨m,g,λi x v e f d=>b i x v e (w i v f) d⟩,I.cell,I.free,I.freeC,I.pin,I.hok,h.trans I.len⟩
theorem Inv.pins_of{a:List (A4×AS)}(I:Inv X p_ σ H s)(h:∀p∈a,s.heap.get? p.1=A0 p.2/\H p.1=A5/\p.1≠X.env.locals/\p.1∉X.fs/\∀v,p.2.data≠.cell v):Inv X a σ H s:=
 ⟨I.ok,I.os,I.bare,I.base,I.loc,I.cell,I.free,I.freeC,λp b=>(aU.mp b).elim (λz=>I.pin p (bH _ z)) (h p),I.hok,I.len⟩
theorem Kt{N:List AM}(d:N.Nodup){i j:Nat}{x:AM}(a:N[i]?=A0 x)(b:N[j]?=A0 x):i=j:=by obtain⟨h,e⟩:=aK.mp a;obtain⟨g,f⟩:=aK.mp b;exact(List.getElem_inj d).mp (e.trans f.symm)
theorem Hd{M:Model}{A:AL}{E:A1->A3->Prop}{i:Nat}{x:AM}{v:V}{u:A1}{Q:Unit->A3->Prop}(I:Inv X p_ σ H s)(hN:X.N.Nodup)(hi:X.N[i]?=A0 x)(B:Loc X.env.scope x)(r:At v u)
  (h:∀s',Inv X p_ (σ.set i (A0 v)) H s'->(∃a,bB a s.heap s'.heap/\(a=X.env.locals\/X.env.cells.lookup x=A0 a))->Q () s')(hf:X.fn x=A2\/X.env.scope.names.lookup x=A0 .local:=by first|exact .inl rfl|exact .inr rfl|assumption):A8 M A (storeName X.env x u) Q E s:=by
 obtain⟨m,hn,hl⟩:=id I.loc;have P:(X.env.scope.kind== .class||(X.env.scope.kind== .module&&X.env.locals !=X.env.globals))=A6:=by rw[I.ok.kind];rfl
 have J:i<σ.length:=by rw[I.len];exact(aK.mp hi).1
 have cne:=I.cne;have l:∀{a:A4}{h':AJ},(∃o,s.heap.get? a=A0 o/\H a=A5)->bB a s.heap h'->HOk X.prog X.w H h':=λ{a h'}ha f b ob e=>by
  obtain⟨_,_,C⟩:=ha;refine(I.hok b ob e).stay (λc w' t q=>(f.2 c ?_).trans q) (λ_ q=>q) λ_ _ q=>q;rintro rfl;rcases t with rfl|t;.rw[C]at e;cases e
  .rw[C]at t;cases t
 rcases B with G|G
 .refine wpAny_storeName_local G hn (λh' a0 f=>?_) P;obtain⟨oL,_,_,a1,_⟩:=id hn;refine h _ ⟨I.ok,I.os,I.bare,⟨λb o e n K B=>?_,λb o e n K B=>?_,I.base.free,λb o e B=>?_,I.base.tups,I.base.frzs,I.base.tbls⟩,⟨_,a0,λj y v' g D e3=>?_⟩,λy c e=>?_,I.free,I.freeC,λp hp=>?_,l ⟨oL,a1,I.free⟩ f,by simpa using I.len⟩ ⟨_,f,.inl rfl⟩;.exact(f.2 b (ax (aq (ak e) I.ok.above))).trans (I.base.keep b o e n K B)
  .obtain⟨sl,g⟩:=I.base.slot b o e n K B;exact⟨sl,(f.2 b (ax (aq (ak e) I.ok.above))).trans g⟩
  .obtain⟨o',g⟩:=I.base.there b o e B;exact⟨o',(f.2 b (ax (aq (ak e) I.ok.above))).trans g⟩
  .by_cases L:j=i;.subst L;rw[hi]at g;cases g;rw[List.getElem?_set_self J]at D;cases D;exact⟨u,r,.inl ⟨G,by simp⟩⟩
   .rw[cH (Ne.symm L)]at D;obtain⟨u',r',q⟩:=hl j y v' g D e3;refine⟨u',r',?_⟩;rcases q with⟨k,e⟩|⟨k,c,e,z⟩;.refine .inl ⟨k,?_⟩;have:y≠x:=λe=>L (Kt hN g (e▸hi));simp[this,e]
    .exact .inr ⟨k,c,e,z.sameBut f (cne y c e)⟩
  .obtain⟨w',z⟩:=I.cell y c e;exact⟨w',z.sameBut f (cne y c e)⟩
  .obtain⟨e,n,Z,nf,d⟩:=I.pin p hp;exact⟨(f.2 p.1 Z).trans e,n,Z,nf,d⟩
 .have O:X.fn x=A2:=by
   rcases hf with z|z;.exact z
   .rw[z]at G;cases G
  obtain⟨c,t⟩:=I.ok.has x (.inl G);obtain⟨w',z⟩:=I.cell x c t;refine wpAny_storeName_cell I.ok.kind G t z (λh' R f=>?_);obtain⟨oc,T,S⟩:=id z;refine h {s with heap:=h'} ⟨I.ok,I.os,I.bare,⟨λb o e n K B=>?_,λb o e n K B=>?_,I.base.free,λb o e B=>?_,I.base.tups,I.base.frzs,I.base.tbls⟩,⟨m,hn.sameBut f (Ne.symm (cne x c t)),λj y v' g D e3=>?_⟩,λy Y e=>?_,I.free,I.freeC,λp hp=>?_,l ⟨oc,T,I.freeC x c t⟩ f,by simpa using I.len⟩ ⟨c,f,.inr t⟩;.exact(f.2 b (ax (aq (ak e) (I.ok.cab x c O t)))).trans (I.base.keep b o e n K B)
  .obtain⟨sl,g⟩:=I.base.slot b o e n K B;exact⟨sl,(f.2 b (ax (aq (ak e) (I.ok.cab x c O t)))).trans g⟩
  .obtain⟨o',g⟩:=I.base.there b o e B;exact⟨o',(f.2 b (ax (aq (ak e) (I.ok.cab x c O t)))).trans g⟩
  .by_cases L:j=i;.subst L;rw[hi]at g;cases g;rw[List.getElem?_set_self J]at D;cases D;exact⟨u,r,.inr ⟨.inl G,c,t,R⟩⟩
   .rw[cH (Ne.symm L)]at D;obtain⟨u',r',q⟩:=hl j y v' g D e3;refine⟨u',r',?_⟩;rcases q with q|⟨k,Y,e,z'⟩;.exact .inl q
    .refine .inr ⟨k,Y,e,z'.sameBut f ?_⟩;rintro rfl;exact L (Kt hN g (I.ok.inj _ _ _ e t▸hi))
  .by_cases U:Y=c;.subst U;exact⟨_,R⟩
   .obtain⟨w2,z2⟩:=I.cell y Y e;exact⟨w2,z2.sameBut f U⟩
  .obtain⟨e,n,Z,nf,d⟩:=I.pin p hp;refine⟨(f.2 p.1 ?_).trans e,n,Z,nf,d⟩;intro q;rw[q,T]at e;have q':oc=p.2:=Option.some.inj e;exact d w' (by rw[<-q'];exact S)
theorem Ku{M:Model}{A:AL}{E:A1->A3->Prop}{i:Nat}{x:AM}{v:V}{u:A1}{Q:Unit->A3->Prop}(I:Inv X p_ σ H s)(b:X.N.Nodup)(hi:X.N[i]?=A0 x)(e:Loc X.env.scope x)(r:At v u)
  (h:∀a,Inv X p_ (σ.set i (A0 v)) H a->Q () a)(f:X.fn x=A2\/X.env.scope.names.lookup x=A0 .local:=by first|exact .inl rfl|exact .inr rfl|assumption):A8 M A (storeName X.env x u) Q E s:=
 Hd I b hi e r (λa d _=>h a d) f
theorem Inv.call'{s':A3}{ch:List A4}(I:Inv X p_ σ H s)(h:s'.os=s.os)(u:Un (frs X.stack) ch H H' s.heap s'.heap)(d:HOk X.prog X.w H' s'.heap)(g:AllBare s'.gens)
  (a:∀b∈ch,(b∈X.ex\/X.s₀.heap.objs.size<=b)/\b≠X.env.locals/\(∀x c,X.env.cells.lookup x=A0 c->c≠b)/\∀p∈X.pn++p_,p.1≠b):Inv X p_ σ H' s':=by obtain⟨h',g',d',t',f⟩:=s';have e:f=s.os:=h;subst e;exact I.call (g':=g') (t':=t') (d':=d') u d g a
end
abbrev XK:=A1->Option A4->Hp->Prop
abbrev St:=List (Option V)
abbrev VK:=V->Hp->Prop
abbrev TE:=St->Hp->VK->Prop
abbrev TT:=St->Hp->(Bool->Hp->Prop)->Prop
abbrev TA:=St->Hp->(List V->Hp->Prop)->Prop
structure Ends where
 nx:St->Hp->Prop
 rt:VK
 bk:St->Hp->Prop:=λ_ _=>False
 ct:St->Hp->Prop:=λ_ _=>False
abbrev TS:=Ends->St->Hp->Prop
def EP(X:Cx)(b:List (A4×AS))(σ:St)(Q:VK)(u:A1)(s':A3):Prop:=∃v a,Inv X b σ a s'/\At v u/\Q v a
def TP(X:Cx)(d:List (A4×AS))(σ:St)(Q:Bool->Hp->Prop)(b:Bool)(s':A3):Prop:=∃a,Inv X d σ a s'/\Q b a
def AP(X:Cx)(e:List (A4×AS))(σ:St)(Q:List V->Hp->Prop)(d:List A1)(s':A3):Prop:=∃a b,Inv X e σ b s'/\Av a d/\Q a b
def SP(X:Cx)(d:List (A4×AS))(D:Ends)(f:Flow)(s':A3):Prop:=
 match f with
 | .next=>∃a b,Inv X d a b s'/\D.nx a b
 | .brk=>∃a b,Inv X d a b s'/\D.bk a b
 | .cont=>∃a b,Inv X d a b s'/\D.ct a b
 | .ret u=>∃v a b,Inv X d a b s'/\At v u/\D.rt v b
def PE(X:Cx)(e:A9)(t:TE):Prop:=
 ∀(b:List (A4×AS))(s:A3)(a:St)(H:Hp)(Q:VK),Inv X b a H s->t a H Q->A8 (AD X.prog X.w) X.A (Ac e X.env) (EP X b a Q) X.xe s
def PT(X:Cx)(e:A9)(t:TT):Prop:=
 ∀(b:List (A4×AS))(s:A3)(a:St)(H:Hp)(Q:Bool->Hp->Prop),Inv X b a H s->t a H Q->A8 (AD X.prog X.w) X.A (isTrue e X.env (Ac e X.env)) (TP X b a Q) X.xe s
def PW(X:Cx)(e:A9)(t:TT):Prop:=
 ∀(a:Sem A1)(d:List (A4×AS))(s:A3)(b:St)(H:Hp)(Q:Bool->Hp->Prop),Inv X d b H s->t b H Q->A8 (AD X.prog X.w) X.A (isTrue e X.env a) (TP X d b Q) X.xe s
theorem PW.pt{X:Cx}{e:A9}{t:TT}(h:PW X e t):PT X e t:=h _
def PA(X:Cx)(es:List A9)(t:TA):Prop:=
 ∀(pos:Pos)(b:List (A4×AS))(s:A3)(a:St)(H:Hp)(Q:List V->Hp->Prop),Inv X b a H s->t a H Q->A8 (AD X.prog X.w) X.A (spliced (backTo pos (AZ es X.env))) (AP X b a Q) X.xe s
def PS(X:Cx)(st:Ap)(t:TS):Prop:=
 ∀(a:List (A4×AS))(s:A3)(b:St)(H:Hp)(D:Ends),Inv X a b H s->t D b H->A8 (AD X.prog X.w) X.A (exec st X.env) (SP X a D) X.xe s
def PSs(X:Cx)(st:List Ap)(t:TS):Prop:=
 ∀(a:List (A4×AS))(s:A3)(b:St)(H:Hp)(D:Ends),Inv X a b H s->t D b H->A8 (AD X.prog X.w) X.A (execs st X.env) (SP X a D) X.xe s
theorem thn{b:Type}{t:Sem b}{Q d:b->A3->Prop}{M:Model}{A:AL}{E:A1->A3->Prop}{s:A3}(h:A8 M A t Q E s)(e:∀a s,Q a s->d a s):A8 M A t d E s:=cY h e λ_ _ x=>x
section
variable{X:Cx}
theorem bin{a b:A9}{m o:TE}(r:PE X a m)(p:PE X b o){i:List (A4×AS)}{s:A3}{σ:St}{H:Hp}{R:V->V->Hp->Prop}(I:Inv X i σ H s)(h:m σ H λx l=>o σ l λy d=>R x y d)
  {n:Type}{Q:n->A3->Prop}{f:A1->A1->Sem n}
  (t:∀v u j x y d,Inv X i σ d j->At x v->At y u->R x y d->A8 (AD X.prog X.w) X.A (f v u) Q X.xe j):
  A8 (AD X.prog X.w) X.A (Ac a X.env) (λv g=>A8 (AD X.prog X.w) X.A (Ac b X.env) (λu e=>A8 (AD X.prog X.w) X.A (f v u) Q X.xe e) X.xe g) X.xe s:=by refine thn (r i s σ H _ I h) λv B⟨x,l,C,r1,E⟩=>?_;refine thn (p i B σ l _ C E) λu j⟨y,d,q,r2,D⟩=>?_;exact t v u j x y d q r1 r2 D
def He(i:Nat):TE:=λa H Q=>∃v,a[i]?=A0 (A0 v)/\Q v H
def tC(v:V):TE:=λ_ H Q=>Q v H
theorem R5{i:Nat}{x:AM}{pos:Pos}(q:X.N[i]?=A0 x)(t:Vis X.env.scope x)(f:(x==("__debug__":AM))=A6:=by decide)(g:(x==("__classdict__":AM))=A6:=by decide):PE X (.Name x pos) (He i):=by
 intro w s o H Q I h;obtain⟨v,e,h⟩:=h;obtain⟨m,y,p⟩:=I.loc;obtain⟨u,r,l⟩:=p i x v q e t;have d:EP X w o Q u s:=⟨v,H,I,r,h⟩;rcases l with⟨b,n⟩|⟨b,c,j,a⟩;.exact wpAny_Name (wpAny_loadName_local I.ok.kind b y n d) f
 .rcases b with b|b;.exact wpAny_Name (wpAny_loadName_cell I.ok.kind b j a d) f
  .exact wpAny_Name (wpAny_loadName_free I.ok.kind b j a d g) f
theorem R6{i j pos}:PE X (.Constant (.int i) j pos) (tC (.int i)):=λ_ _ _ H _ I h=>wpAny_Constant_int ⟨.int i,H,I.tok _,⟨_,rfl⟩,h⟩
theorem R7{b j pos}:PE X (.Constant (.bool b) j pos) (tC (.bl b)):=λ_ _ _ H _ I h=>Constant_bool ⟨.bl b,H,I,rfl,h⟩
theorem R8{j pos}:PE X (.Constant .none j pos) (tC .non):=λ_ _ _ H _ I h=>Constant_none ⟨.non,H,I,rfl,h⟩
theorem R9{x j pos}:PE X (.Constant (.str x) j pos) (tC (.str x)):=λ_ _ _ H _ I h=>Calls.Constant_str ⟨.str x,H,I.tok _,⟨_,rfl⟩,h⟩
def Gl(X:Cx)(x:AM):Prop:=X.env.kindOf x=A0 .globalImplicit
theorem RA{E:A1->A3->Prop}{d:List (A4×AS)}{s:A3}{σ:St}{H:Hp}{x:AM}{u:A1}{pos:Pos}{Q:A1->A3->Prop}(I:Inv X d σ H s)(a:Gl X x)(e:X.mg x=A0 u)(h:Q u s)
  (b:(x==("__debug__":AM))=A6:=by decide):A8 (AD X.prog X.w) X.A (Ac (.Name x pos) X.env) Q E s:=
 Calls.Name_function_global I.ok.kind a (Calls.loadGlobal_global (by rw[I.ok.glob];exact I.mod.glob.keeps I.bk) e h) b
theorem DK{E:A1->A3->Prop}{g:List (A4×AS)}{s:A3}{σ:St}{H:Hp}{x:AM}{u:A1}{pos:Pos}{Q:A1->A3->Prop}(I:Inv X g σ H s)(a:Gl X x)(d:X.mg x=A5)(f:bootBuiltins x=A0 u)(h:Q u s)
  (i:x≠"__name__":=by decide)(b:(x==("__debug__":AM))=A6:=by decide):A8 (AD X.prog X.w) X.A (Ac (.Name x pos) X.env) Q E s:=by obtain⟨l,e,j⟩:=I.mod.blt;exact Calls.Name_function_global I.ok.kind a (Calls.loadGlobal_builtin (by rw[I.ok.glob];exact I.mod.glob.keeps I.bk) d (by rw[I.ok.blt];exact e.keeps I.bk) ((j x i).trans f) h) b
theorem RB{x:AM}{v:V}{u:A1}{pos:Pos}(a:Gl X x)(e:X.mg x=A5)(d:bootBuiltins x=A0 u)(r:At v u)(f:x≠"__name__":=by decide)(b:(x==("__debug__":AM))=A6:=by decide):PE X (.Name x pos) (tC v):=
 λ_ _ _ H _ I h=>DK I a e d ⟨v,H,I,r,h⟩ f b
variable{a b:A9}{ta tb:TE}{pos:Pos}
def PC(X:Cx)(op:CmpOp)(a b:A9)(t:TE):Prop:=
 ∀(g:List (A4×AS))(s:A3)(f:St)(H:Hp)(Q:VK),Inv X g f H s->t f H Q->
  A8 (AD X.prog X.w) X.A (Ac a X.env) (λv d=>A8 (AD X.prog X.w) X.A (Ac b X.env) (λu e=>A8 (AD X.prog X.w) X.A (AU op v u) (EP X g f Q) X.xe e) X.xe d) X.xe s
def tB(t:TE):TT:=λe H Q=>t e H λx d=>∃c,x=.bl c/\Q c d
theorem Kv{op:CmpOp}{t:TE}(h:PC X op a b t)(h1:behindInMarks op b=A6:=by rfl):PE X (.Compare a [op] [b] pos) t:=λe s d H Q I hw=>wpAny_Compare1 (h e s d H Q I hw) h1
theorem Kw{op:CmpOp}{t:TE}(h:PC X op a b t)(h1:behindInMarks op b=A6:=by rfl):PT X (.Compare a [op] [b] pos) (tB t):=by intro j s e H Q I hw;refine wpAny_isTrue_Compare1 (thn (h j s e H _ I hw) λv n h1=>thn h1 λu o l=>thn l λc m⟨x,f,g,r1,i⟩=>?_) h1;obtain⟨d,rfl,q⟩:=i;cases r1;exact bL ⟨f,g,q⟩
variable{tA tB':TT}{Ar:List A9}
def Ec(t u:TT):TT:=λe H Q=>t e H λc d=>if c=A2 then u e d Q else Q A6 d
def tOr(t u:TT):TT:=λe H Q=>t e H λc d=>if c=A2 then Q A2 d else u e d Q
def Hf(t:TT):TT:=λe H Q=>t e H λc d=>Q (!c) d
theorem RC(d:PT X a tA):PW X (.BoolOp .And [a] pos) tA:=by
 intro j f s g H Q I h;refine isTrue_and (thn (d f s g H Q I h) λc i e=>?_);cases c with
 |true=>exact isTrue_and_nil e
 |false=>exact e
theorem RD(d:PT X a tA):PW X (.BoolOp .Or [a] pos) tA:=by
 intro j f s g H Q I h;refine isTrue_or (thn (d f s g H Q I h) λc i e=>?_);cases c with
 |false=>exact isTrue_or_nil e
 |true=>exact e
theorem Kx(l:PT X a tA)(m:PW X (.BoolOp .And (b::Ar) pos) tB'):PW X (.BoolOp .And (a::b::Ar) pos) (Ec tA tB'):=by
 intro n g s i H Q I h;refine isTrue_and (thn (l g s i H _ I h) λc j⟨d,e,f⟩=>?_);cases c with
 |true=>exact m n g j i d Q e f
 |false=>exact⟨d,e,f⟩
theorem Ky(l:PT X a tA)(m:PW X (.BoolOp .Or (b::Ar) pos) tB'):PW X (.BoolOp .Or (a::b::Ar) pos) (tOr tA tB'):=by
 intro n g s i H Q I h;refine isTrue_or (thn (l g s i H _ I h) λc j⟨d,e,f⟩=>?_);cases c with
 |true=>exact⟨d,e,f⟩
 |false=>exact m n g j i d Q e f
theorem RE(e:PT X a tA):PT X (.UnaryOp .Not a pos) (Hf tA):=by intro f s g H Q I h;exact isTrue_not (e f s g H (λc d=>Q (!c) d) I h)
def Fe(ta tb:TE):TE:=λe H Q=>ta e H λx d=>∃c,x=.bl c/\if c=A2 then tb e d Q else Q (.bl A6) d
def Ff(ta tb:TE):TE:=λe H Q=>ta e H λx d=>∃c,x=.bl c/\if c=A2 then Q (.bl A2) d else tb e d Q
def Hg(ta:TE):TE:=λe H Q=>ta e H λx d=>∃c,x=.bl c/\Q (.bl (!c)) d
theorem Hh{op}{t:TE}(h:PE X a t):PE X (.BoolOp op [a] pos) t:=λe s d H Q I hw=>BoolOp_one (h e s d H Q I hw)
theorem Kz(l:PE X a ta)(m:PE X (.BoolOp .And (b::Ar) pos) tb):PE X (.BoolOp .And (a::b::Ar) pos) (Fe ta tb):=by
 intro g s i H Q I h;refine BoolOp_and (thn (l g s i H _ I h) λv j⟨x,e,f,r1,d⟩=>?_);obtain⟨c,rfl,d⟩:=d;cases r1;refine bL ?_;cases c with
 |true=>exact m g j i e Q f d
 |false=>exact⟨.bl A6,e,f,rfl,d⟩
theorem K_(l:PE X a ta)(m:PE X (.BoolOp .Or (b::Ar) pos) tb):PE X (.BoolOp .Or (a::b::Ar) pos) (Ff ta tb):=by
 intro g s i H Q I h;refine BoolOp_or (thn (l g s i H _ I h) λv j⟨x,e,f,r1,d⟩=>?_);obtain⟨c,rfl,d⟩:=d;cases r1;refine bL ?_;cases c with
 |false=>exact m g j i e Q f d
 |true=>exact⟨.bl A2,e,f,rfl,d⟩
theorem RF(f:PE X a ta):PE X (.UnaryOp .Not a pos) (Hg ta):=by intro i s j H Q I h;refine UnaryOp_ (thn (f i s j H _ I h) λv l⟨x,e,g,r1,d⟩=>?_);obtain⟨c,rfl,d⟩:=d;cases r1;exact not_of (bL ⟨.bl (!c),e,g,rfl,d⟩)
def tIf(t:TT)(ta tb:TE):TE:=λd H Q=>t d H λc e=>if c=A2 then ta d e Q else tb d e Q
theorem RG{c:A9}(n:PT X c tA)(m:PE X a ta)(o:PE X b tb):PE X (.IfExp c a b pos) (tIf tA ta tb):=by
 intro e s f H Q I h;refine wpAny_IfExp (thn (n e s f H _ I h) λd g⟨i,j,l⟩=>?_);cases d with
 |true=>exact m e g f i Q j l
 |false=>exact o e g f i Q j l
end
def SqL(K:W.Frag)(H:Hp)(a:A4)(xs:List V):Prop:=
 Rd H a (.lst xs)\/
  ∃(o:AS)(b:Array A1)(n:Nat),K.lookup a=A0 o/\o.cls=.type "list"/\o.dict=A5/\o.data=.seq b n/\b.size<=A7/\Av xs b.toList
def SqT(K:W.Frag)(H:Hp)(a:A4)(xs:List V):Prop:=
 Rd H a (.tup xs)\/
  ∃(o:AS)(b:Array A1)(n:Nat),K.lookup a=A0 o/\o.cls=.type "tuple"/\o.data=.seq b n/\b.size<=A7/\Av xs b.toList
def RH:A1->Option V
 | .none=>A0 .non
 | .bool b=>A0 (.bl b)
 | .int i _=>A0 (.int i)
 | .str x _=>A0 (.str x)
 | .bytes b _=>A0 (.byt b)
 | .float b _=>A0 (.flt b)
 | .ref a=>A0 (.ref a)
 | .type n=>A0 (.ty n)
 |_=>A5
theorem At.abs{x:V}{u:A1}(r:At x u):RH u=A0 x:=by
 cases x with
 |non=>cases r;rfl
 |bl _=>cases r;rfl
 |int _=>obtain⟨t,rfl⟩:=r;rfl
 |str _=>obtain⟨t,rfl⟩:=r;rfl
 |byt _=>obtain⟨t,rfl⟩:=r;rfl
 |flt _=>obtain⟨t,rfl⟩:=r;rfl
 |ref _=>cases r;rfl
 |ty _=>cases r;rfl
theorem At.inj{x y:V}{u:A1}(r:At x u)(q:At y u):x=y:=Option.some.inj (r.abs.symm.trans q.abs)
theorem Av.inj:∀{b d:List V}{a:List A1},Av b a->Av d a->b=d
 |_,_,_,.nil,.nil=>rfl
 |_,_,_,.cons r t,.cons e f=>by rw[r.inj e,Av.inj t f]
section
variable{X:Cx}{p_:List (A4×AS)}{σ:St}{H:Hp}{s:A3}{a:A4}{xs ys:List V}
theorem SqL.of{K:W.Frag}(h:H a=A0 (.lst xs)):SqL K H a xs:=.inl (.inl h)
theorem SqT.of{K:W.Frag}(h:H a=A0 (.tup xs)):SqT K H a xs:=.inl (.inl h)
theorem Inv.list(I:Inv X p_ σ H s)(h:SqL X.K H a xs):∃b:List A1,Av xs b/\PlainL s.heap a b.toArray/\xs.length<=A7:=by
 rcases h with h|⟨o,b,n,g,d,f,i,j,r⟩;.obtain⟨z,b,n,r,e⟩:=h.ok I.hok;exact⟨b,r,⟨_,n,e,rfl,rfl,rfl⟩,z⟩
 .refine⟨b.toList,r,⟨o,n,I.kIn a o g,d,f,by simpa using i⟩,?_⟩;have e:=r.length;simp only[am]at e;omega
theorem Inv.tuple(I:Inv X p_ σ H s)(h:SqT X.K H a xs):∃b:List A1,Av xs b/\IsTup s.heap a b.toArray/\xs.length<=A7:=by
 rcases h with h|⟨o,b,n,f,d,g,i,r⟩;.obtain⟨z,b,r,p⟩:=h.ok I.hok;exact⟨b,r,p.tup,z⟩
 .refine⟨b.toList,r,⟨o,I.kIn a o f,d,n,by simpa using g⟩,?_⟩;have e:=r.length;simp only[am]at e;omega
theorem Inv.list_inj(I:Inv X p_ σ H s)(h:SqL X.K H a xs)(h':SqL X.K H a ys):xs=ys:=by
 obtain⟨f,r,⟨o,n,e,_,_,d⟩,_⟩:=I.list h;obtain⟨b,j,⟨p,m,g,_,_,i⟩,_⟩:=I.list h';rw[e]at g;cases g;rw[d]at i;injection i with l _;have:f=b:=by simpa using congrArg Array.toList l
 subst this;exact r.inj j
theorem Inv.tuple_inj(I:Inv X p_ σ H s)(h:SqT X.K H a xs)(h':SqT X.K H a ys):xs=ys:=by
 obtain⟨f,r,⟨o,e,_,n,d⟩,_⟩:=I.tuple h;obtain⟨b,j,⟨p,g,_,m,i⟩,_⟩:=I.tuple h';rw[e]at g;cases g;rw[d]at i;injection i with l _;have:f=b:=by simpa using congrArg Array.toList l
 subst this;exact r.inj j
end
abbrev Cx.wish(X:Cx)(E:A1->A3->Prop):Cx:={X with xe:=E}
abbrev Cx.nox(X:Cx):Cx:=X.wish λ_ _=>False
theorem Cx.Ok.wish{X:Cx}(ok:X.Ok)(E:A1->A3->Prop):(X.wish E).Ok:=
 ⟨ok.mod,ok.kind,ok.glob,ok.blt,ok.above,ok.inj,ok.has,ok.cab,ok.hd,ok.frames,ok.stk,ok.exf,ok.bs,ok.bsz,ok.noex,ok.exfs,ok.funs,ok.frf⟩
theorem Cx.Ok.unwish{X:Cx}{E:A1->A3->Prop}(ok:(X.wish E).Ok):X.Ok:=
 ⟨ok.mod,ok.kind,ok.glob,ok.blt,ok.above,ok.inj,ok.has,ok.cab,ok.hd,ok.frames,ok.stk,ok.exf,ok.bs,ok.bsz,ok.noex,ok.exfs,ok.funs,ok.frf⟩
section
variable{X:Cx}{p_:List (A4×AS)}{σ:St}{H:Hp}{s:A3}{E:A1->A3->Prop}
theorem Inv.wish(I:Inv X p_ σ H s)(E:A1->A3->Prop):Inv (X.wish E) p_ σ H s:=⟨I.ok.wish E,I.os,I.bare,I.base,I.loc,I.cell,I.free,I.freeC,I.pin,I.hok,I.len⟩
theorem Inv.unwish(I:Inv (X.wish E) p_ σ H s):Inv X p_ σ H s:=⟨I.ok.unwish,I.os,I.bare,I.base,I.loc,I.cell,I.free,I.freeC,I.pin,I.hok,I.len⟩
theorem SP.unwish{D:Ends}{f:Flow}{s':A3}(h:SP (X.wish E) p_ D f s'):SP X p_ D f s':=by
 cases f with
 |next=>obtain⟨a,b,I,q⟩:=h;exact⟨a,b,I.unwish,q⟩
 |brk=>obtain⟨a,b,I,q⟩:=h;exact⟨a,b,I.unwish,q⟩
 |cont=>obtain⟨a,b,I,q⟩:=h;exact⟨a,b,I.unwish,q⟩
 |ret u=>obtain⟨v,a,b,I,r,q⟩:=h;exact⟨v,a,b,I.unwish,r,q⟩
theorem PSs.nox{st:List Ap}{t:TS}(h:PSs X.nox st t):PSs X st t:=λp_ s σ H D I hw=>
 cY (h p_ s σ H D (I.wish _) hw) (λ_ _ q=>q.unwish) λ_ _ z=>False.elim z
end
section
variable{X:Cx}{st:Ap}{Ar:List Ap}{t u:TS}{e:A9}{te:TE}{pos:Pos}
def Hi:TS:=λD a H=>D.nx a H
def Hj(t u:TS):TS:=λD a H=>t {D with nx:=u D} a H
theorem RI:PSs X [] Hi:=λ_ _ a H _ I h=>wpAny_execs_nil ⟨a,H,I,h⟩
theorem RJ(h1:PS X st t)(i:PSs X Ar u):PSs X (st::Ar) (Hj t u):=by
 intro b s j H D I h;refine wpAny_execs_cons (thn (h1 b s j H {D with nx:=u D} I h) λf d q=>?_);cases f with
 |next=>obtain⟨a,l,g,q⟩:=q;exact i b d a l D g q
 |ret v=>exact q
 |brk=>exact q
 |cont=>exact q
theorem Inv.quiet{a:List (A4×AS)}{σ:St}{H:Hp}{s:A3}(I:Inv X a σ H s):interactive X.env=A6:=by simp[interactive,I.ok.kind]
def Hk(te:TE):TS:=λD a H=>te a H λ_ b=>D.nx a b
theorem RK(d:PE X e te)(j:swapsWith e A5 pos.line X.env=pure A6:=by rfl):PS X (.Expr e pos) (Hk te):=by intro i s a H D I h;exact wpAny_Expr_any (thn (d i s a H _ I h) λv l⟨x,b,f,r1,g⟩=>⟨a,b,f,g⟩) I.quiet j
def Hl(te:TE):TS:=λD a H=>te a H D.rt
theorem RL(d:PE X e te):PS X (.Return (A0 e) pos) (Hl te):=by intro i s a H D I h;exact wpAny_Return_some (thn (d i s a H _ I h) λv j⟨x,b,f,r1,g⟩=>⟨x,a,b,f,r1,g⟩)
def Hm(c:TT)(t u:TS):TS:=λD a H=>c a H λb d=>if b=A2 then t D a d else u D a d
theorem RM{c:A9}{a b:List Ap}{i:TT}(q:PT X c i)(p:PSs X a t)(o:PSs X b u):PS X (.If c a b pos) (Hm i t u):=by
 intro g s f H D I h;refine wpAny_If (thn (q g s f H _ I h) λd j⟨l,m,n⟩=>?_);cases d with
 |true=>exact p g j f l D m n
 |false=>exact o g j f l D m n
end
abbrev TG:=V->St->Hp->(St->Hp->Prop)->Prop
abbrev TGs:=List V->St->Hp->(St->Hp->Prop)->Prop
def PG(X:Cx)(a:A9)(t:TG):Prop:=
 ∀(d:List (A4×AS))(s:A3)(e:St)(H:Hp)(v:V)(u:A1)(Q:St->Hp->Prop),Inv X d e H s->At v u->t v e H Q->
  A8 (AD X.prog X.w) X.A (assign a X.env u) (λ_ g=>∃b f,Inv X d b f g/\Q b f) X.xe s
def PGs(X:Cx)(i:List A9)(t:TGs):Prop:=
 ∀(d:List (A4×AS))(s:A3)(e:St)(H:Hp)(f:List V)(b:List A1)(Q:St->Hp->Prop),Inv X d e H s->Av f b->t f e H Q->
  A8 (AD X.prog X.w) X.A (assignInOrder ((Al i X.env).map (·.2)) b) (λ_ h=>∃a g,Inv X d a g h/\Q a g) X.xe s
abbrev Hn:=V->V->V->Hp->(Hp->Prop)->Prop
def L0(X:Cx)(t:Hn):Prop:=
 ∀(d:List (A4×AS))(s:A3)(e:St)(H:Hp)(o i v:V)(b a u:A1)(Q:Hp->Prop),Inv X d e H s->At o b->At i a->At v u->t o i v H Q->
  A8 (AD X.prog X.w) X.A (setItem b a u) (λ_ g=>∃f,Inv X d e f g/\Q f) X.xe s
abbrev TIp:=V->V->Hp->VK->Prop
def PIp(X:Cx)(op:Operator)(t:TIp):Prop:=
 ∀(b:List (A4×AS))(s:A3)(a:St)(H:Hp)(x y:V)(v u:A1)(Q:VK),Inv X b a H s->At x v->At y u->t x y H Q->
  A8 (AD X.prog X.w) X.A (inplaceOp op v u) (EP X b a Q) X.xe s
section
variable{X:Cx}{pos:Pos}
def CC(i:Nat):TG:=λv a H Q=>Q (a.set i (A0 v)) H
theorem RN{i:Nat}{x:AM}(a:X.N.Nodup)(hi:X.N[i]?=A0 x)(d:Loc X.env.scope x)(e:X.fn x=A2\/X.env.scope.names.lookup x=A0 .local:=by first|exact .inl rfl|exact .inr rfl|assumption):PG X (.Name x pos) (CC i):=by intro g s j H v u Q I r h;exact wpAny_assign_Name (Ku I a hi d r (λf b=>⟨_,H,b,h⟩) e)
def Ho:TGs:=λb a H Q=>b=[]/\Q a H
def Hq(t:TG)(u:TGs):TGs:=λd b H Q=>∃v r,d=v::r/\t v b H λa e=>u r a e Q
theorem RO:PGs X [] Ho:=by intro d s a H f b Q I r h;obtain⟨e,h⟩:=h;subst e;cases r;exact assignInOrder_nil ⟨a,H,I,h⟩
theorem RP{e:A9}{es:List A9}{t:TG}{u:TGs}(h1:PG X e t)(g:PGs X es u)
  (o:(Al (e::es) X.env).map (·.2)=assign e X.env::(Al es X.env).map (·.2):=by rfl):PGs X (e::es) (Hq t u):=by
 intro b s f H w p Q I r h;obtain⟨v,q,i,h⟩:=h;subst i;cases r with
 |cons r d=>rw[o];refine assignInOrder_cons (thn (h1 b s f H _ _ _ I r h) λ_ j⟨a,l,m,n⟩=>?_);exact g b j a l _ _ Q m d n
def RQ(K:W.Frag)(n:Nat)(t:TGs):TG:=λv d H Q=>∃a b,v=.ref a/\SqT K H a b/\b.length=n/\t b d H Q
theorem RR{es:List A9}{k:Nat}{t:TGs}{n:Nat}(q:X.calm=A2)(h:PGs X es t)
  (C:(Al es X.env).length=n:=by rfl)(d:(Al es X.env).findIdx? (·.1)=A5:=by rfl):PG X (.Tuple es k pos) (RQ X.K n t):=by intro g s f H v u Q I r hw;obtain⟨a,x,l,p,m,hw⟩:=hw;subst l;cases r;obtain⟨B,i,A,D⟩:=I.tuple p;refine assign_Tuple_tuple (I.ok.hd q) A (by simp[C,<-m,i.length]) d λw j=>?_;have y:Inv X g f H {s with heap:=w}:=I.kept (t':=s.toks) λb o e=>j b o (ax (ak e)) e;exact h g _ f H x _ Q y (by simpa using i) hw
def Hr(b f:TE)(t:Hn):TG:=λv a H Q=>b a H λo d=>f a d λi g=>t o i v g λe=>Q a e
theorem RS{o i:A9}{g f:TE}{t:Hn}(j:PE X o g)(hi:PE X i f)(G:L0 X t)
  (n:∀v,assign (.Subscript o i pos) X.env v=(do
   let a<-holding [v] (Ac o X.env)
   let b<-holding [v,a] (Ac i X.env)
   standAt pos
   holding [v,a,b] (setItem a b v)
   release [v,a,b] []):=by intro _;rfl):PG X (.Subscript o i pos) (Hr g f t):=by intro e s d H v u Q I r h;rw[n];refine aa (aC (thn (j e s d H _ I h) λa w⟨x,A,B,r1,E⟩=>?_));refine aa (aC (thn (hi e w d A _ B E) λb J⟨y,q,l,r2,C⟩=>?_));refine aa (ck (aa (aC (thn (G e J d q x y v a b u _ l r1 r2 r C) λ_ K⟨m,p,D⟩=>?_))));exact wpAny_release ⟨d,m,p,D⟩
def CT(d:TE)(g:TG):TS:=λD a H=>d a H λx b=>g x a b D.nx
theorem Fg{a e:A9}{d:TE}{g:TG}(j:PE X e d)(i:PG X a g)(p:swapsWithSole [a] e pos.line X.env=pure A6:=by rfl)(hw:swappedStores [a] e X.env=pure A5:=by rfl)
  (h1:(Al [a] X.env).map (·.2)=[assign a X.env]:=by rfl):PS X (.Assign [a] e pos) (CT d g):=by intro f s b H D I h;refine wpAny_Assign_stores (thn (j f s b H _ I h) λv l⟨x,m,n,r1,o⟩=>?_) p hw;rw[h1];exact thn (i f l b m x v _ n r1 o) λ_ r q=>q
def Hs(i:Nat)(e:TE)(f:TIp):TS:=λD a H=>∃x,a[i]?=A0 (A0 x)/\e a H λy b=>f x y b λz d=>D.nx (a.set i (A0 z)) d
theorem L1{i:Nat}{x:AM}{e:A9}{q:TE}{op:Operator}{p:TIp}{g:Pos}(L:X.N.Nodup)(hi:X.N[i]?=A0 x)(j:Loc X.env.scope x)(C:PE X e q)(B:PIp X op p)(O:X.fn x=A2\/X.env.scope.names.lookup x=A0 .local:=by first|exact .inl rfl|exact .inr rfl|assumption):
  PS X (.AugAssign (.Name x g) op e pos) (Hs i q p):=by
 intro n s o H D I h;obtain⟨v,E,h⟩:=h;obtain⟨m,Y,J⟩:=I.loc;have vis:Vis X.env.scope x:=by rcases j with k|k;exact .inl k;exact .inr (.inl k)
 obtain⟨u,r,l⟩:=J i x v hi E vis;refine wpAny_AugAssign_Name ?_;have go:A8 (AD X.prog X.w) X.A (Ac e X.env) (λw d=>A8 (AD X.prog X.w) X.A (inplaceOp op u w) (λr f=>A8 (AD X.prog X.w) X.A (storeName X.env x r) (λ_=>SP X n D .next) X.xe f) X.xe d) X.xe s:=by refine thn (C n s o H _ I h) λw Q⟨y,R,S,r1,U⟩=>?_;refine thn (B n Q o R v y u w _ S r r1 U) λz s2⟨Z,P,G,r2,T⟩=>?_;exact Ku G L hi j r2 (λs3 M=>⟨_,P,M,T⟩) O
 rcases l with⟨a,t⟩|⟨a,c,K,b⟩;.exact wpAny_loadName_local I.ok.kind a Y t go
 .rcases a with a|a;.exact wpAny_loadName_cell I.ok.kind a K b go
  .rcases j with k|k;.have:X.env.scope.names.lookup x=A0 .free:=a;rw[k]at this;cases this
   .have:X.env.scope.names.lookup x=A0 .free:=a;rw[k]at this;cases this
def ipI(f:Int->Int->Int):TIp:=λx y H Q=>∃i j,x=.int i/\y=.int j/\Q (.int (f i j)) H
theorem RT:PIp X .Add (ipI λi j=>i+j):=by intro f s d H x y v u Q I r1 r2 h;obtain⟨i,j,a,b,q⟩:=h;subst a;subst b;obtain⟨t,rfl⟩:=r1;obtain⟨e,rfl⟩:=r2;exact iadd_int ⟨.int _,H,I.tok _,⟨_,rfl⟩,q⟩
theorem RU:PIp X .Sub (ipI λi j=>i-j):=by intro f s d H x y v u Q I r1 r2 h;obtain⟨i,j,a,b,q⟩:=h;subst a;subst b;obtain⟨t,rfl⟩:=r1;obtain⟨e,rfl⟩:=r2;exact isub_int ⟨.int _,H,I.tok _,⟨_,rfl⟩,q⟩
end
section
variable{X:Cx}{pos:Pos}
def Ht(c:TT)(h:TS):TS:=λD a H=>∃W:Nat->St->Hp->Prop,(∃m,W m a H)/\∀m a H,W m a H->
 c a H λb e=>if b=A2 then∃N:St->Hp->Prop,(∀d g,N d g->∃f,f<m/\W f d g)/\h {D with nx:=N,ct:=N,bk:=D.nx} a e else D.nx a e
theorem RV{c:A9}{e:List Ap}{B:TT}{K:TS}(E:PassesOwn (AD X.prog X.w) X.A X.env X.xe)(P:PT X c B)(M:PSs X e K):PS X (.While c e [] pos) (Ht B K):=by
 intro u s O H D I h;obtain⟨W,⟨S,L⟩,i⟩:=h;refine wpAny_While (codeAny_whileLoop (λn Q=>∃j x,Inv X u j x Q/\W n j x) ?_ S ⟨O,H,I,L⟩);rintro n R⟨d,J,T,U⟩;refine cK E (thn (P u R d J _ T (i n d J U)) λb Y⟨G,y,l⟩=>?_);cases b with
 |true=>
  obtain⟨N,C,l⟩:=l;rw[if_pos rfl];refine cK E (thn (M u Y d G _ y l) λf Z m=>?_);cases f with
  |next=>obtain⟨a,g,t,p⟩:=m;obtain⟨q,o,r⟩:=C a g p;exact⟨q,o,a,g,t,r⟩
  |cont=>obtain⟨a,g,t,p⟩:=m;obtain⟨q,o,r⟩:=C a g p;exact⟨q,o,a,g,t,r⟩
  |brk=>exact m
  |ret v=>exact m
 |false=>rw[if_neg al];exact wpAny_execs_nil ⟨d,G,y,l⟩
end
structure It where
 go:Nat->Hp->Prop
 yld:Nat->Hp->V->Hp->Prop
 stop:Nat->Hp->Prop
def BL(X:Cx)(a:List (A4×AS))(H:Hp)(b:A4):Prop:=
 H b=A5/\b≠X.env.locals/\b∉X.fs/\(b∈X.ex\/X.s₀.heap.objs.size<=b)/\(∀x c,X.env.cells.lookup x=A0 c->c≠b)/\∀p∈X.pn++a,p.1≠b
theorem Inv.fpOk{X:Cx}{d:List (A4×AS)}{σ:St}{H H':Hp}{s:A3}{b:A4}(I:Inv X d σ H s)(a:s.heap.objs.size<=b)(g:H' b=A5):BL X d H' b:=by
 refine⟨g,bp (aq I.lt a),I.nofs a,.inr (aF I.sz a),λx c e z=>?_,λp f z=>?_⟩;.obtain⟨v,q⟩:=I.cell x c e;exact absurd (aq q.lt (by rw[z];exact a)) (bi _)
 .exact absurd (aq (ak (I.pin p f).1) (by rw[z];exact a)) (bi _)
structure Turn(P:AA)(w:AK)(K:W.Frag)(tg:A9)(J:It)(fp:List A4)(it:A4)(tn:Nat->AJ->Prop):Prop where
 mem:it∈fp
 obj:∀i h,tn i h->∀b∈fp,∃o,h.get? b=A0 o/\∀v,o.data≠.cell v
 keep:∀i h h',tn i h->(∀b∈fp,∀o,h.get? b=A0 o->h'.get? b=A0 o)->tn i h'
 item:∀(X:Cx),X.prog=P->X.w=w->X.K=K->X.calm=A2->∀(i:Nat)(p_:List (A4×AS))(s:A3)(σ:St)(H:Hp)(E:A1->A3->Prop),Inv X p_ σ H s->(∀b∈fp,BL X p_ H b)->tn i s.heap->J.go i H->
  A8 (AD P w) X.A (pyNext (.ref it)) (λr s1=>∃u,r=A0 u/\
   A8 (AD P w) X.A (letOwnedTupleGo tg (.ref it) u) (λ_ s2=>∃x H',Inv X p_ σ H' s2/\At x u/\J.yld i H x H'/\tn (i+1) s2.heap/\∀b∈fp,H' b=A5) E s1) E s
 done:∀(X:Cx),X.prog=P->X.w=w->X.K=K->X.calm=A2->∀(i:Nat)(p_:List (A4×AS))(s:A3)(σ:St)(H:Hp)(E:A1->A3->Prop),Inv X p_ σ H s->(∀b∈fp,BL X p_ H b)->tn i s.heap->J.stop i H->
  A8 (AD P w) X.A (pyNext (.ref it)) (λr s1=>r=A5/\Inv X p_ σ H s1) E s
 self:∀(A:AL)(i:Nat)(s:A3)(Q:A1->A3->Prop)(E:A1->A3->Prop),tn i s.heap->Q (.ref it) s->A8 (AD P w) A (pyIter (.ref it)) Q E s
abbrev TI:=St->Hp->(It->Hp->Prop)->Prop
def PIE(X:Cx)(f:List (A4×AS))(σ:St)(j:A9)(R:It->Hp->Prop)(a:A1)(h:A3):Prop:=
 ∃(i:A4)(e:List A4)(g:Nat->AJ->Prop)(J:It)(d:Hp),a=.ref i/\Inv X f σ d h/\Turn X.prog X.w X.K j J e i g/\g 0 h.heap/\(∀b∈e,BL X f d b)/\R J d
def PI(X:Cx)(f a:A9)(g:TI):Prop:=
 ∀(d:List (A4×AS))(s:A3)(b:St)(H:Hp)(R:It->Hp->Prop),Inv X d b H s->g b H R->
  A8 (AD X.prog X.w) X.A (Ac a X.env) (λv e=>A8 (AD X.prog X.w) X.A (pyIter v) (PIE X d b f R) X.xe e) X.xe s
theorem Dz{M:Model}{A:AL}{E:A1->A3->Prop}{s:A3}{b:A9}{it:A4}{u:A1}{o:AS}{n:String}{vs:Array A1}{Q:Unit->A3->Prop}(g:s.heap.get? it=A0 o)(d:o.cls=.type n)(e:o.data=.fields vs)
  (f:["enumerate","zip","dict_itemiterator","dict_reverseitemiterator","odict_iterator","itertools.zip_longest","itertools.pairwise"].contains n=A6)(a:Q () s):A8 M A (letOwnedTupleGo b (.ref it) u) Q E s:=by
 unfold letOwnedTupleGo;cases b<;>first
  |exact ab a
  |(cases u<;>first
    |exact ab a
    |(refine aa (wpAny_load g ?_);rw[d,e];show A8 M A (if(["enumerate","zip","dict_itemiterator","dict_reverseitemiterator","odict_iterator","itertools.zip_longest","itertools.pairwise"].contains n&&vs[0]?==A0 (AX _))=A2 then _ else _) Q E s;rw[if_neg (by intro h;rw[f,Bool.false_and]at h;cases h)];exact ab a))
def Itl(K:W.Frag)(a:A4):It:=
 ⟨λi H=>∃b x,SqL K H a b/\b[i]?=A0 x,λi H x d=>d=H/\∀b,SqL K H a b->b[i]?=A0 x,λi H=>∃b,SqL K H a b/\b.length<=i⟩
def Itt(K:W.Frag)(a:A4):It:=
 ⟨λi H=>∃b x,SqT K H a b/\b[i]?=A0 x,λi H x d=>d=H/\∀b,SqT K H a b->b[i]?=A0 x,λi H=>∃b,SqT K H a b/\b.length<=i⟩
def Itr(a:Int)(n:Nat):It:=⟨λi _=>i<n,λi H x b=>b=H/\x=.int (a+i),λi _=>n<=i⟩
theorem RW{P:AA}{w:AK}{K:W.Frag}{R:A9}(a it:A4):Turn P w K R (Itl K a) [it] it (λi h=>h.IsListIter it a i)where
 mem:=by simp
 obj:=λi h f b g=>by
  have e:b=it:=by simpa using g
  subst e;obtain⟨o,e,c,d⟩:=f;exact⟨o,e,λv z=>by rw[d]at z;cases z⟩
 keep:=λi h m f k=>f.at λo e=>k it (by simp) o e
 item:=by intro X A hw r N i O s M H E I n f q;subst A hw r;obtain⟨Z,x,l,t⟩:=q;obtain⟨J,L,p,U⟩:=I.list l;obtain⟨u,hu,S⟩:=L.get t;obtain⟨B,C,T,D,y,G⟩:=n it (by simp);refine wpAny_pyNext_list_item f p.isList (x:=u) (by simpa using hu) λm j sb=>?_;have I1:Inv X O M H {s with heap:=m}:=I.turned (t':=s.toks) (λb o g e=>(sb.2 b g).trans e) B C D y G;obtain⟨o,e,c,d⟩:=id j;exact⟨u,rfl,Dz (s:={s with heap:=m}) e c d (by decide) ⟨x,H,I1,S,⟨rfl,λys Q=>by rw[I.list_inj Q l];exact t⟩,j,λb g=>(n b g).1⟩⟩
 done:=by intro X A hw r N i O s M H E I n f q;subst A hw r;obtain⟨Z,l,t⟩:=q;obtain⟨J,L,p,U⟩:=I.list l;obtain⟨B,C,T,D,y,G⟩:=n it (by simp);have hl:=L.length;exact wpAny_pyNext_list_end (I.ok.hd N) f p.isList (by simp;omega) λm Y=>⟨rfl,I.turned (t':=s.toks) (λb o g e=>Y b o g e) B C D y G⟩
 self:=λ_ _ _ _ _ f h=>wpAny_pyIter_listiter f h
theorem RX{P:AA}{w:AK}{K:W.Frag}{R:A9}(a it:A4):Turn P w K R (Itt K a) [it] it (λi h=>h.IsTupleIter it a i)where
 mem:=by simp
 obj:=λi h f b g=>by
  have e:b=it:=by simpa using g
  subst e;obtain⟨o,e,c,d⟩:=f;exact⟨o,e,λv z=>by rw[d]at z;cases z⟩
 keep:=λi h n f k=>f.at λo e=>k it (by simp) o e
 item:=by intro X B hw t N i O s M H E I q f r;subst B hw t;obtain⟨Z,x,m,y⟩:=r;obtain⟨j,L,p,U⟩:=I.tuple m;obtain⟨u,hu,S⟩:=L.get y;obtain⟨C,D,T,G,A,J⟩:=q it (by simp);refine wpAny_pyNext_tuple_item f (show s.heap.IsTuple a j.toArray from p) (x:=u) (by simpa using hu) λn l sb=>?_;have I1:Inv X O M H {s with heap:=n}:=I.turned (t':=s.toks) (λb o g e=>(sb.2 b g).trans e) C D G A J;obtain⟨o,e,c,d⟩:=id l;exact⟨u,rfl,Dz (s:={s with heap:=n}) e c d (by decide) ⟨x,H,I1,S,⟨rfl,λys Q=>by rw[I.tuple_inj Q m];exact y⟩,l,λb g=>(q b g).1⟩⟩
 done:=by intro X B hw t N i O s M H E I q f r;subst B hw t;obtain⟨Z,m,y⟩:=r;obtain⟨j,L,p,U⟩:=I.tuple m;obtain⟨C,D,T,G,A,J⟩:=q it (by simp);have hl:=L.length;exact wpAny_pyNext_tuple_end (I.ok.hd N) f (show s.heap.IsTuple a j.toArray from p) (by simp;omega) λn Y=>⟨rfl,I.turned (t':=s.toks) (λb o g e=>Y b o g e) C D G A J⟩
 self:=λ_ _ _ _ _ f h=>wpAny_pyIter_tupleiter f h
theorem RY{P:AA}{w:AK}{K:W.Frag}{J:A9}(it:A4)(l:Int)(n:Nat):Turn P w K J (Itr l n) [it] it (λi h=>IsRangeIter h it (l+(i:Nat)*1) ((n:Int)-(i:Nat)) 1)where
 mem:=by simp
 obj:=λi h a b d=>by
  have e:b=it:=by simpa using d
  subst e;exact⟨_,a,λv z=>by have M:Data.fields _=Data.cell v:=z;cases M⟩
 keep:=λi h g a k=>k it (by simp) _ a
 item:=by intro X r hw p y i G s C H E I j a m;subst r hw p;obtain⟨u,x,L,A,q,B⟩:=j it (by simp);have W:=Walks.range (prog:=X.prog) (w:=X.w) (I.ok.hd y) it l 1 n;refine W.item i s _ _ m a λv g D O f N=>?_;obtain⟨t,rfl⟩:=O;have R:Inv X G C H {s with heap:=g,toks:=D}:=I.turned (λb o d e=>N b o (by simpa using d) e) u x A q B;refine⟨_,rfl,Dz (s:={s with heap:=g,toks:=D}) (n:="range_iterator") f rfl rfl (by decide) ⟨.int (l+i),H,R,⟨t,?_⟩,⟨rfl,rfl⟩,f,λb d=>(j b d).1⟩⟩;rw[Int.mul_one]
 done:=by intro X r hw p y i G s C H E I j a m;subst r hw p;obtain⟨u,x,L,A,q,B⟩:=j it (by simp);exact wpAny_pyNext_range_end (I.ok.hd y) a (by have:n<=i:=m;omega) λg Q=>⟨rfl,I.turned (t':=s.toks) (λb o d e=>Q b o d e) u x A q B⟩
 self:=λ_ _ _ _ _ a h=>wpAny_pyIter_rangeiter a h
section
variable{X:Cx}{tg:A9}
theorem L3{g:List (A4×AS)}{σ:St}{H:Hp}{s:A3}{R:It->Hp->Prop}{E:A1->A3->Prop}{a hi:Int}{t u v:Tok}{d:Nat}(I:Inv X g σ H s)(h1:-(2^62)<=a)(n:a<2^62)(l:-(2^62)<=hi)(m:hi<2^62)
  (q:R (Itr a (hi-a).toNat) H):A8 (AD X.prog X.w) X.A (pyIter (.ref s.heap.objs.size)) (PIE X g σ tg R) E {s with heap:=s.heap.push {cls:=.type "range",data:=.fields #[.int a t,.int hi u,.int 1 v]},toks:=d}:=by
 refine wpAny_pyIter_range (IsRange.new ..) (small_one h1 n l m) ?_;have f:Inv X g σ H {s with heap:=s.heap.push {cls:=.type "range",data:=.fields #[.int a t,.int hi u,.int 1 v]},toks:=d}:=I.kept λb o e=>ac _ e;refine⟨(s.heap.push {cls:=.type "range",data:=.fields #[.int a t,.int hi u,.int 1 v]}).objs.size,[(s.heap.push {cls:=.type "range",data:=.fields #[.int a t,.int hi u,.int 1 v]}).objs.size],_,_,H,rfl,
  f.kept (t':=d) λb o e=>ac _ e,RY _ a (hi-a).toNat,?_,λb h=>?_,q⟩
 .have i:a+((0:Nat):Int)*1=a:=by simp
  have j:(((hi-a).toNat:Nat):Int)-((0:Nat):Int)=AB.Range.rangeSize a hi 1:=by rw[rangeSize_one];split<;>omega
  show IsRangeIter _ _ (a+((0:Nat):Int)*1) ((((hi-a).toNat:Nat):Int)-((0:Nat):Int)) 1;rw[i,j];exact ai _ rfl
 .have e:b=(s.heap.push {cls:=.type "range",data:=.fields #[.int a t,.int hi u,.int 1 v]}).objs.size:=by simpa using h
  subst e;exact f.fpOk (ag _) (f.hok.fresh (ag _))
def Hu(b:TA):TI:=λd H R=>b d H λe a=>∃j:Int,e=[.int j]/\-(2^62)<=j/\j<2^62/\R (Itr 0 j.toNat) a
def Hv(b:TA):TI:=λd H R=>b d H λe a=>∃i j:Int,e=[.int i,.int j]/\(-(2^62)<=i/\i<2^62/\-(2^62)<=j/\j<2^62)/\R (Itr i (j-i).toNat) a
theorem RZ{a:A9}{d:TA}{p pos:Pos}(f:Gl X "range")(i:X.mg "range"=A5)(m:PA X [a] d)(v:AZ [a] X.env=[(A6,Ac a X.env)]:=by rfl):PI X tg (.Call (.Name "range" p) [a] [] pos) (Hu d):=by
 intro u s l H R I h;refine Call_ (DK I f i boot_range (PyProof.Rows.callWith_type1 (thn (m pos u s l H _ I h) λw x⟨A,y,n,r1,b⟩=>?_) v rfl));obtain⟨j,e,b,o,q⟩:=b;subst e;cases r1 with
 |cons r g=>cases g;obtain⟨t,rfl⟩:=r;exact call_range_1 (L3 n ⋯ ⋯ b o (by simpa using q))
theorem Ra{a b:A9}{l:TA}{p pos:Pos}(m:Gl X "range")(n:X.mg "range"=A5)(w:PA X [a,b] l)(C:AZ [a,b] X.env=[(A6,Ac a X.env),(A6,Ac b X.env)]:=by rfl)(d:AZ [b] X.env=[(A6,Ac b X.env)]:=by rfl):
  PI X tg (.Call (.Name "range" p) [a,b] [] pos) (Hv l):=by
 intro B s o H R I h;refine Call_ (DK I m n boot_range (PyProof.Rows.callWith_type1 (thn (w pos B s o H _ I h) λD G⟨K,J,x,r1,g⟩=>?_) (by rw[C,d]) (by rw[d];rfl)));obtain⟨i,j,e,⟨g,y,A,v⟩,q⟩:=g;subst e;cases r1 with
 |cons r f=>
  cases f with
  |cons u f=>cases f;obtain⟨t,rfl⟩:=r;obtain⟨E,rfl⟩:=u;exact call_range_2 (L3 x g y A v q)
def Hw(l:TI)(g:TG)(n:TS):TS:=λD a H=>l a H λJ h=>∃W:Nat->Nat->St->Hp->Prop,(∃m,W 0 m a h)/\∀i m a H,W i m a H->
 (J.stop i H/\D.nx a H)\/(J.go i H/\∃N:St->Hp->Prop,(∀b d,N b d->∃f,f<m/\W (i+1) f b d)/\∀x d,J.yld i H x d->g x a d λe j=>n {D with nx:=N,ct:=N,bk:=D.nx} e j)
def C5(fp:List A4)(h:AJ):List (A4×AS):=fp.filterMap λb=>(h.get? b).map λo=>(b,o)
theorem CU{fp:List A4}{h:AJ}{b:A4}{o:AS}(a:b∈fp)(e:h.get? b=A0 o):(b,o)∈C5 fp h:=cc.mpr ⟨b,a,by rw[e];rfl⟩
theorem Hy{fp:List A4}{h:AJ}{p:A4×AS}(d:p∈C5 fp h):p.1∈fp/\h.get? p.1=A0 p.2:=by
 obtain⟨b,f,e⟩:=cc.mp d;cases q:h.get? b with
 |none=>rw[q]at e;cases e
 |some o=>rw[q]at e;have a:(b,o)=p:=Option.some.inj e;subst a;exact⟨f,q⟩
theorem Inv.pinned{a:List (A4×AS)}{σ:St}{H:Hp}{s:A3}{fp:List A4}(I:Inv X a σ H s)(m:∀b∈fp,BL X a H b)(i:∀b∈fp,∃o,s.heap.get? b=A0 o/\∀v,o.data≠.cell v):Inv X (a++C5 fp s.heap) σ H s:=
 I.pins_of λp n=>(aU.mp n).elim (λz=>I.pin p (ap _ z)) λz=>by obtain⟨f,e⟩:=Hy z;obtain⟨j,l,h,_⟩:=m p.1 f;obtain⟨o,g,d⟩:=i p.1 f;rw[e]at g;cases g;exact⟨e,j,l,h,d⟩
theorem Inv.unpinned{a pl:List (A4×AS)}{σ:St}{H:Hp}{s:A3}(I:Inv X (a++pl) σ H s):Inv X a σ H s:=I.pins_of λp b=>I.pin p (ap _ (bH _ b))
theorem Rb{t:A9}{E:List Ap}{wi:TI}{g:TG}{tb:TS}{pos:Pos}(Y:PassesOwn (AD X.prog X.w) X.A X.env X.xe)(hc:X.calm=A2)(hi:PI X tg t wi)(hg:PG X tg g)(q:PSs X E tb)
  (hs:∀x,foldedSetIterable t X.env x=pure x:=by intro _;rfl):PS X (.For tg t E [] pos) (Hw wi g tb):=by
 intro L s σ H D I h;refine wpAny_For (thn (hi L s σ H _ I h) λv s1 h1=>thn h1 λa3 s2 h2=>?_) hs;obtain⟨it,Q,tn,J,H2,e,I2,T,st2,f2,W,⟨m0,w0⟩,O⟩:=h2;subst e;have y:∀{C:Hp},(∀b∈Q,C b=A5)->∀b∈Q,BL X L C b:=λhn b q=>⟨hn b q,(f2 b q).2⟩;refine codeAny_forLoop_any (λn s'=>∃i B C,Inv X L B C s'/\tn i s'.heap/\(∀b∈Q,C b=A5)/\W i n B C) ?_ m0 ⟨0,σ,H2,I2,st2,λb q=>(f2 b q).1,w0⟩;rintro n s3⟨i,l,Z,I3,M,R,w3⟩;rcases O i n l Z w3 with⟨U,qn⟩|⟨go,N,hN,P⟩;.refine cK Y (thn (T.done X rfl rfl rfl hc i L s3 l Z X.xe I3 (y R) M U) λr s4⟨hr,I4⟩=>?_);subst hr;exact wpAny_execs_nil ⟨l,Z,I4,qn⟩
 .refine cK Y (thn (T.item X rfl rfl rfl hc i L s3 l Z X.xe I3 (y R) M go) λr s4⟨u,hr,h4⟩=>?_);subst hr;refine cK Y (thn h4 λ_ s5⟨x,H5,I5,r5,y5,K,a1⟩=>?_);have a2:=I5.pinned (y a1) (T.obj _ _ K);refine cK Y (thn (hg _ s5 l H5 x u _ a2 r5 (P x H5 y5)) λ_ s6⟨a0,H6,I6,q6⟩=>?_);refine cK Y (thn (q _ s6 a0 H6 _ I6 q6) λf s7 G=>?_);have again:∀{a:St}{j:Hp},Inv X (L++C5 Q s5.heap) a j s7->N a j->∃m,m<n/\∃i B C,Inv X L B C s7/\tn i s7.heap/\(∀b∈Q,C b=A5)/\W i m B C:=λ{a j}p S=>by obtain⟨m',hm,w7⟩:=hN a j S;refine⟨m',hm,i+1,a,j,p.unpinned,T.keep _ _ _ K λb q o e=>(p.pin (b,o) (ap _ (ap _ (CU q e)))).1,λb q=>?_,w7⟩;obtain⟨o,e,d⟩:=T.obj _ _ K b q;exact(p.pin (b,o) (ap _ (ap _ (CU q e)))).2.1
  cases f with
  |next=>obtain⟨a,j,p,S⟩:=G;exact again p S
  |cont=>obtain⟨a,j,p,S⟩:=G;exact again p S
  |brk=>obtain⟨a,j,p,G⟩:=G;exact⟨a,j,p.unpinned,G⟩
  |ret v=>obtain⟨x7,a,j,p,r7,G⟩:=G;exact⟨x7,a,j,p.unpinned,r7,G⟩
end
theorem Re{K:W.Frag}{a:A4}{xs:List V}{g:TG}{o:TS}{D:Ends}{σ:St}{H:Hp}(b:Nat->St->Hp->Prop)(h0:b 0 σ H)(s:∀i σ H,i<=xs.length->b i σ H->SqL K H a xs)
  (v:∀i x σ H,xs[i]?=A0 x->b i σ H->g x σ H λf l=>o {D with nx:=b (i+1),ct:=b (i+1),bk:=D.nx} f l)(r:∀σ H,b xs.length σ H->D.nx σ H):
  ∃W:Nat->Nat->St->Hp->Prop,(∃m,W 0 m σ H)/\∀i m σ H,W i m σ H->
   ((Itl K a).stop i H/\D.nx σ H)\/((Itl K a).go i H/\∃N:St->Hp->Prop,(∀h d,N h d->∃n,n<m/\W (i+1) n h d)/\∀x d,(Itl K a).yld i H x d->g x σ d λf l=>o {D with nx:=N,ct:=N,bk:=D.nx} f l):=by
 refine⟨λi m σ H=>m=xs.length-i/\i<=xs.length/\b i σ H,⟨xs.length,by simp,aN _,h0⟩,?_⟩;rintro i m σ H⟨rfl,u,p⟩;have q:=s i σ H u p;by_cases j:i<xs.length;.refine .inr ⟨⟨xs,xs[i],q,by simp[j]⟩,b (i+1),λh d t=>⟨xs.length-(i+1),⋯,rfl,j,t⟩,λx d y=>?_⟩;obtain⟨e,y⟩:=y;subst e;exact v i x σ _ (y xs q) p
 .have e:i=xs.length:=by omega
  subst e;exact .inl ⟨⟨xs,q,ag _⟩,r σ H p⟩
theorem Rf{K:W.Frag}{a:A4}{xs:List V}{g:TG}{o:TS}{D:Ends}{σ:St}{H:Hp}(b:Nat->St->Hp->Prop)(h0:b 0 σ H)(s:∀i σ H,i<=xs.length->b i σ H->SqT K H a xs)
  (v:∀i x σ H,xs[i]?=A0 x->b i σ H->g x σ H λf l=>o {D with nx:=b (i+1),ct:=b (i+1),bk:=D.nx} f l)(r:∀σ H,b xs.length σ H->D.nx σ H):
  ∃W:Nat->Nat->St->Hp->Prop,(∃m,W 0 m σ H)/\∀i m σ H,W i m σ H->
   ((Itt K a).stop i H/\D.nx σ H)\/((Itt K a).go i H/\∃N:St->Hp->Prop,(∀h d,N h d->∃n,n<m/\W (i+1) n h d)/\∀x d,(Itt K a).yld i H x d->g x σ d λf l=>o {D with nx:=N,ct:=N,bk:=D.nx} f l):=by
 refine⟨λi m σ H=>m=xs.length-i/\i<=xs.length/\b i σ H,⟨xs.length,by simp,aN _,h0⟩,?_⟩;rintro i m σ H⟨rfl,u,p⟩;have q:=s i σ H u p;by_cases j:i<xs.length;.refine .inr ⟨⟨xs,xs[i],q,by simp[j]⟩,b (i+1),λh d t=>⟨xs.length-(i+1),⋯,rfl,j,t⟩,λx d y=>?_⟩;obtain⟨e,y⟩:=y;subst e;exact v i x σ _ (y xs q) p
 .have e:i=xs.length:=by omega
  subst e;exact .inl ⟨⟨xs,q,ag _⟩,r σ H p⟩
theorem Rg{j:Int}{n:Nat}{g:TG}{q:TS}{D:Ends}{σ:St}{H:Hp}(b:Nat->St->Hp->Prop)(h0:b 0 σ H)
  (t:∀i σ H,i<n->b i σ H->g (.int (j+i)) σ H λf l=>q {D with nx:=b (i+1),ct:=b (i+1),bk:=D.nx} f l)(r:∀σ H,b n σ H->D.nx σ H):
  ∃W:Nat->Nat->St->Hp->Prop,(∃m,W 0 m σ H)/\∀i m σ H,W i m σ H->
   ((Itr j n).stop i H/\D.nx σ H)\/((Itr j n).go i H/\∃N:St->Hp->Prop,(∀h d,N h d->∃o,o<m/\W (i+1) o h d)/\∀x d,(Itr j n).yld i H x d->g x σ d λf l=>q {D with nx:=N,ct:=N,bk:=D.nx} f l):=by
 refine⟨λi m σ H=>m=n-i/\i<=n/\b i σ H,⟨n,by simp,aN _,h0⟩,?_⟩;rintro i m σ H⟨rfl,u,p⟩;by_cases a:i<n;.refine .inr ⟨a,b (i+1),λh d s=>⟨n-(i+1),⋯,rfl,a,s⟩,λx d y=>?_⟩;obtain⟨e,y⟩:=y;subst e y;exact t i σ _ a p
 .have e:i=n:=by omega
  subst e;exact .inl ⟨ag _,r σ H p⟩
abbrev R2:=V->V->Hp->VK->Prop
def OpR(X:Cx)(f:A1->A1->Sem A1)(r:R2):Prop:=
 ∀(a:List (A4×AS))(s:A3)(b:St)(H:Hp)(x y:V)(v u:A1)(Q:VK),Inv X a b H s->At x v->At y u->r x y H Q->
  A8 (AD X.prog X.w) X.A (f v u) (EP X a b Q) X.xe s
def UnR(X:Cx)(f:A1->Sem A1)(r:V->Hp->VK->Prop):Prop:=
 ∀(a:List (A4×AS))(s:A3)(b:St)(H:Hp)(x:V)(v:A1)(Q:VK),Inv X a b H s->At x v->r x H Q->
  A8 (AD X.prog X.w) X.A (f v) (EP X a b Q) X.xe s
def B7(X:Cx)(f:A1)(r:List V->Hp->VK->Prop):Prop:=
 ∀(d:List (A4×AS))(s:A3)(e:St)(H:Hp)(a:List V)(b:List A1)(Q:VK),Inv X d e H s->Av a b->r a H Q->
  A8 (AD X.prog X.w) X.A (call f b) (EP X d e Q) X.xe s
def Rh(X:Cx)(r:V->Hp->(Bool->Hp->Prop)->Prop):Prop:=
 ∀(a:List (A4×AS))(s:A3)(b:St)(H:Hp)(x:V)(v:A1)(Q:Bool->Hp->Prop),Inv X a b H s->At x v->r x H Q->
  A8 (AD X.prog X.w) X.A (truthy v) (TP X a b Q) X.xe s
def tOp(r:R2)(d f:TE):TE:=λa H Q=>d a H λx b=>f a b λy e=>r x y e Q
def tUn(r:V->Hp->VK->Prop)(b:TE):TE:=λd H Q=>b d H λx a=>r x a Q
def rI(C:Int->Int->Prop)(g:Int->Int->V):R2:=λx y H Q=>∃i j,x=.int i/\y=.int j/\C i j/\Q (g i j) H
def rI0(g:Int->Int->V):R2:=λx y H Q=>∃i j,x=.int i/\y=.int j/\Q (g i j) H
def rU(g:Int->V):V->Hp->VK->Prop:=λx H Q=>∃i,x=.int i/\Q (g i) H
section
variable{X:Cx}{a b c:A9}{ta tb tc:TE}{pos:Pos}
theorem Hz(o:PE X a ta)(m:PE X b tb){i:List (A4×AS)}{s:A3}{σ:St}{H:Hp}{R:V->V->Hp->Prop}(I:Inv X i σ H s)
  (h:ta σ H λx l=>tb σ l λy d=>R x y d){Q:A1->A3->Prop}{f:A1->A1->Sem A1}
  (p:∀v u j x y d,Inv X i σ d j->At x v->At y u->R x y d->A8 (AD X.prog X.w) X.A (f v u) Q X.xe j):
  A8 (AD X.prog X.w) X.A (Ac a X.env) (λv g=>A8 (AD X.prog X.w) X.A (Ac b X.env) (λu e=>A8 (AD X.prog X.w) X.A (f v u) Q X.xe e) X.xe g) X.xe s:=by refine thn (o i s σ H _ I h) λv q⟨x,l,r,r1,B⟩=>?_;refine thn (m i q σ l _ r B) λu j⟨y,d,n,r2,t⟩=>?_;exact p v u j x y d n r1 r2 t
theorem Ri{op:Operator}{r:R2}(g:OpR X (Ah op) r)(j:PE X a ta)(d:PE X b tb):PE X (.BinOp a op b pos) (tOp r ta tb):=by intro n s e H Q I h;exact wpAny_BinOp (Hz j d I h λv u o x y l i f m q=>g n o e l x y v u Q i f m q)
theorem Rj{op:UnaryOp}{r:V->Hp->VK->Prop}(m:UnR X (unaryOp op) r)(i:PE X a ta):PE X (.UnaryOp op a pos) (tUn r ta):=by intro e s d H Q I h;exact UnaryOp_ (thn (i e s d H _ I h) λv f⟨x,g,j,r1,l⟩=>m e f d g x v Q j r1 l)
theorem opI{f:A1->A1->Sem A1}{C:Int->Int->Prop}{g:Int->Int->Int}
  (rule:∀(i j:Int)(t u:Tok)(s:A3)(Q:A1->A3->Prop)(E:A1->A3->Prop),C i j->Q (.int (g i j) s.toks) {s with toks:=s.toks+1}->A8 (AD X.prog X.w) X.A (f (.int i t) (.int j u)) Q E s):
  OpR X f (rI C λi j=>.int (g i j)):=by intro o s n H x y v u Q I d m h;obtain⟨i,j,rfl,rfl,e,q⟩:=h;obtain⟨t,rfl⟩:=d;obtain⟨l,rfl⟩:=m;exact rule i j t l s _ _ e ⟨.int (g i j),H,I.tok _,⟨_,rfl⟩,q⟩
theorem H_{f:A1->A1->Sem A1}{g:Int->Int->Int}
  (rule:∀(i j:Int)(t u:Tok)(s:A3)(Q:A1->A3->Prop)(E:A1->A3->Prop),Q (.int (g i j) s.toks) {s with toks:=s.toks+1}->A8 (AD X.prog X.w) X.A (f (.int i t) (.int j u)) Q E s):
  OpR X f (rI0 λi j=>.int (g i j)):=by intro n s m H x y v u Q I d l h;obtain⟨i,j,rfl,rfl,q⟩:=h;obtain⟨t,rfl⟩:=d;obtain⟨e,rfl⟩:=l;exact rule i j t e s _ _ ⟨.int (g i j),H,I.tok _,⟨_,rfl⟩,q⟩
theorem Fh{f:A1->A1->Sem A1}{g:Int->Int->Bool}
  (rule:∀(i j:Int)(t u:Tok)(s:A3)(Q:A1->A3->Prop)(E:A1->A3->Prop),Q (.bool (g i j)) s->A8 (AD X.prog X.w) X.A (f (.int i t) (.int j u)) Q E s):
  OpR X f (rI0 λi j=>.bl (g i j)):=by intro n s m H x y v u Q I d l h;obtain⟨i,j,rfl,rfl,q⟩:=h;obtain⟨t,rfl⟩:=d;obtain⟨e,rfl⟩:=l;exact rule i j t e s _ _ ⟨.bl (g i j),H,I,rfl,q⟩
def Rk(i j:Int):Prop:=0<j/\j<1073741824
def I0(i j:Int):Prop:=0<=j/\j<=1000000/\i.natAbs<2^64
def Fi(i j:Int):Prop:=(-(2^64)<i/\i<2^64)\/(-(2^64)<j/\j<2^64)
theorem Fi.ok{i j:Int}(h:Fi i j):IntMulOk i j:=by
 rcases h with⟨d,e⟩|⟨d,e⟩;.exact .of_left (intBits_le_64 d e)
 .exact .of_right (intBits_le_64 d e)
theorem Rl(k:Nat):(0:Int)<=2^k:=by rw[two_pow_cast];exact Int.natCast_nonneg _
theorem Rn:OpR X (Ah .Add) (rI0 λi j=>.int (i+j)):=H_ λ_ _ _ _ _ _ _ q=>add_int q
theorem Ro:OpR X (Ah .Sub) (rI0 λi j=>.int (i-j)):=H_ λ_ _ _ _ _ _ _ q=>sub_int q
theorem Rp:OpR X (Ah .FloorDiv) (rI Rk λi j=>.int (i/j)):=opI λi j _ _ _ _ _ d q=>by have f:(0:Int)<j:=d.1;have e:j<1073741824:=d.2;exact floordiv_int ⋯ (by rw[Int.fdiv_eq_ediv_of_nonneg i ⋯];exact q) (.inl (PyProof.noPylong_small ⋯))
theorem Rr:OpR X (Ah .Mod) (rI (λ_ j=>0<j) λi j=>.int (i%j)):=opI λi j _ _ _ _ _ d q=>by have e:(0:Int)<j:=d;exact mod_int' ⋯ (by rw[Int.fmod_eq_emod_of_nonneg i ⋯];exact q)
theorem Rt:OpR X (Ah .Pow) (rI I0 λi j=>.int (i^j.toNat)):=opI λ_ _ _ _ _ _ _ d q=>pow_int_small d.1 d.2.1 d.2.2 q
theorem Ru:OpR X (Ah .RShift) (rI (λ_ j=>0<=j) λi j=>.int (i/2^j.toNat)):=opI λi j _ _ _ _ _ d q=>
 rshift_int d (by rw[Int.fdiv_eq_ediv_of_nonneg i (Rl _)];exact q)
theorem Rv:OpR X (Ah .BitAnd) (rI0 λi j=>.int (AB.bitAnd i j)):=H_ λ_ _ _ _ _ _ _ q=>and_int q
theorem unI{f:A1->Sem A1}{g:Int->Int}
  (rule:∀(i:Int)(t:Tok)(s:A3)(Q:A1->A3->Prop)(E:A1->A3->Prop),Q (.int (g i) s.toks) {s with toks:=s.toks+1}->A8 (AD X.prog X.w) X.A (f (.int i t)) Q E s):
  UnR X f (rU λi=>.int (g i)):=by intro e s j H x v Q I d h;obtain⟨i,rfl,q⟩:=h;obtain⟨t,rfl⟩:=d;exact rule i t s _ _ ⟨.int (g i),H,I.tok _,⟨_,rfl⟩,q⟩
theorem Rw:UnR X (unaryOp .USub) (rU λi=>.int (-i)):=unI λ_ _ _ _ _ q=>neg_int q
end
def D_:V->V->Bool
 | .non,.non=>A2| .non,.int _=>A2| .int _,.non=>A2| .non,.bl _=>A2| .bl _,.non=>A2| .non,.str _=>A2| .str _,.non=>A2
 | .int _,.int _=>A2| .bl _,.bl _=>A2| .str _,.str _=>A2| .byt _,.byt _=>A2
 | .int _,.str _=>A2| .str _,.int _=>A2| .bl _,.str _=>A2| .str _,.bl _=>A2
 |_,_=>A6
def rEq:R2:=λx y H Q=>D_ x y=A2/\Q (.bl (decide (x=y))) H
def rNe:R2:=λx y H Q=>D_ x y=A2/\Q (.bl (!decide (x=y))) H
theorem I9{i j:Int}:decide (V.int i=V.int j)=(i==j):=by rw[dc];simp
theorem L4{i j:Bool}:decide (V.bl i=V.bl j)=(i==j):=by rw[dc];simp
theorem L5{i j:AM}:decide (V.str i=V.str j)=(i==j):=by rw[dc];simp
theorem L6{i j:Array UInt8}:decide (V.byt i=V.byt j)=(i.toList==j.toList):=by rw[dc];cases i;cases j;simp
section
variable{X:Cx}{a b c:A9}{ta tb tc:TE}{pos:Pos}
theorem BK{d:List (A4×AS)}{σ:St}{H:Hp}{s:A3}{Q:VK}{k f:Bool}(I:Inv X d σ H s)(q:Q (.bl k) H)(e:k=f):EP X d σ Q (.bool f) s:=by subst e;exact⟨.bl k,H,I,rfl,q⟩
theorem Rx:OpR X (AU .Eq) rEq:=by
 intro m s l H x y v u Q I g d h;obtain⟨f,q⟩:=h;cases x with
 |non=>
  cases g;cases y with
  |non=>cases d;exact PySem.EqNone.eq_none_none (BK I q (by simp))
  |bl j=>cases d;exact PySem.EqNone.eq_none_bool (BK I q (by simp))
  |int j=>obtain⟨e,rfl⟩:=d;exact PySem.EqNone.eq_none_int (BK I q (by simp))
  |str j=>obtain⟨e,rfl⟩:=d;exact PySem.EqNone.eq_none_str (BK I q (by simp))
  |_=>exact absurd (show A6=A2 from f) al
 |bl i=>
  cases g;cases y with
  |non=>cases d;exact PySem.EqNone.eq_bool_none (BK I q (by simp))
  |bl j=>cases d;exact eq_bool (BK I q L4)
  |str j=>obtain⟨e,rfl⟩:=d;exact PySem.EqMixed.eq_bool_str (BK I q (by simp))
  |_=>exact absurd (show A6=A2 from f) al
 |int i=>
  obtain⟨t,rfl⟩:=g;cases y with
  |non=>cases d;exact PySem.EqNone.eq_int_none (BK I q (by simp))
  |int j=>obtain⟨e,rfl⟩:=d;exact eq_int (BK I q I9)
  |str j=>obtain⟨e,rfl⟩:=d;exact PySem.EqMixed.eq_int_str (BK I q (by simp))
  |_=>exact absurd (show A6=A2 from f) al
 |str i=>
  obtain⟨t,rfl⟩:=g;cases y with
  |non=>cases d;exact PySem.EqNone.eq_str_none (BK I q (by simp))
  |bl j=>cases d;exact PySem.EqMixed.eq_str_bool (BK I q (by simp))
  |int j=>obtain⟨e,rfl⟩:=d;exact PySem.EqMixed.eq_str_int (BK I q (by simp))
  |str j=>obtain⟨e,rfl⟩:=d;exact eq_str (BK I q L5)
  |_=>exact absurd (show A6=A2 from f) al
 |byt i=>
  obtain⟨t,rfl⟩:=g;cases y with
  |byt j=>obtain⟨e,rfl⟩:=d;exact W.eq_bytes (BK I q L6)
  |_=>exact absurd (show A6=A2 from f) al
 |_=>cases y<;>exact absurd (show A6=A2 from f) al
theorem Ry:OpR X (AU .NotEq) rNe:=by
 intro m s l H x y v u Q I g d h;obtain⟨f,q⟩:=h;cases x with
 |non=>
  cases g;cases y with
  |non=>cases d;exact PySem.EqNone.ne_none_none (BK I q (by simp))
  |bl j=>cases d;exact PySem.EqNone.ne_none_bool (BK I q (by simp))
  |int j=>obtain⟨e,rfl⟩:=d;exact PySem.EqNone.ne_none_int (BK I q (by simp))
  |str j=>obtain⟨e,rfl⟩:=d;exact PySem.EqNone.ne_none_str (BK I q (by simp))
  |_=>exact absurd (show A6=A2 from f) al
 |bl i=>
  cases g;cases y with
  |non=>cases d;exact PySem.EqNone.ne_bool_none (BK I q (by simp))
  |bl j=>cases d;exact ne_bool (BK I q (congrArg not L4))
  |str j=>obtain⟨e,rfl⟩:=d;exact PySem.EqMixed.ne_bool_str (BK I q (by simp))
  |_=>exact absurd (show A6=A2 from f) al
 |int i=>
  obtain⟨t,rfl⟩:=g;cases y with
  |non=>cases d;exact PySem.EqNone.ne_int_none (BK I q (by simp))
  |int j=>obtain⟨e,rfl⟩:=d;exact ne_int (BK I q (congrArg not I9))
  |str j=>obtain⟨e,rfl⟩:=d;exact PySem.EqMixed.ne_int_str (BK I q (by simp))
  |_=>exact absurd (show A6=A2 from f) al
 |str i=>
  obtain⟨t,rfl⟩:=g;cases y with
  |non=>cases d;exact PySem.EqNone.ne_str_none (BK I q (by simp))
  |bl j=>cases d;exact PySem.EqMixed.ne_str_bool (BK I q (by simp))
  |int j=>obtain⟨e,rfl⟩:=d;exact PySem.EqMixed.ne_str_int (BK I q (by simp))
  |str j=>obtain⟨e,rfl⟩:=d;exact ne_str (BK I q (congrArg not L5))
  |_=>exact absurd (show A6=A2 from f) al
 |byt i=>
  obtain⟨t,rfl⟩:=g;cases y with
  |byt j=>obtain⟨e,rfl⟩:=d;exact W.ne_bytes (BK I q (congrArg not L6))
  |_=>exact absurd (show A6=A2 from f) al
 |_=>cases y<;>exact absurd (show A6=A2 from f) al
theorem Rz:OpR X (AU .Lt) (rI0 λi j=>.bl (decide (i<j))):=Fh λ_ _ _ _ _ _ _ q=>lt_int q
theorem R_:OpR X (AU .LtE) (rI0 λi j=>.bl (decide (i<=j))):=Fh λ_ _ _ _ _ _ _ q=>le_int q
theorem S0:OpR X (AU .Gt) (rI0 λi j=>.bl (decide (j<i))):=Fh λ_ _ _ _ _ _ _ q=>gt_int q
theorem S1:OpR X (AU .GtE) (rI0 λi j=>.bl (decide (j<=i))):=Fh λ_ _ _ _ _ _ _ q=>ge_int q
theorem S2:OpR X (AU .Is) (λx y H Q=>y=.non/\Q (.bl (decide (x=.non))) H):=by
 intro f s g H x y v u Q I d e h;obtain⟨rfl,q⟩:=h;cases e;refine is_none_gen (BK I q ?_);cases x<;>first
  |(cases d;rfl)
  |(obtain⟨t,rfl⟩:=d;rfl)
theorem S3:OpR X (AU .IsNot) (λx y H Q=>y=.non/\Q (.bl (!decide (x=.non))) H):=by
 intro f s g H x y v u Q I d e h;obtain⟨rfl,q⟩:=h;cases e;refine isnot_none_gen (BK I q ?_);cases x<;>first
  |(cases d;rfl)
  |(obtain⟨t,rfl⟩:=d;rfl)
theorem OpR.or{f:A1->A1->Sem A1}{r d:R2}(h:OpR X f r)(h':OpR X f d):OpR X f (λx y H Q=>r x y H Q\/d x y H Q):=by
 intro i s g H x y v u Q I j e q;rcases q with q|q;.exact h i s g H x y v u Q I j e q
 .exact h' i s g H x y v u Q I j e q
theorem S4{op:CmpOp}{r:R2}(i:OpR X (AU op) r)(l:PE X a ta)(d:PE X b tb)(e:behindInMarks op b=A6):PE X (.Compare a [op] [b] pos) (tOp r ta tb):=by intro o s f H Q I h;exact wpAny_Compare1 (Hz l d I h λv u p x y m j g n q=>i o p f m x y v u Q j g n q) e
def Dc(t:TE):TT:=λd H Q=>t d H λx e=>∃k,x=.bl k/\Q k e
theorem L7{op:CmpOp}{r:R2}(l:OpR X (AU op) r)(o:PE X a ta)(g:PE X b tb)(j:behindInMarks op b=A6):PT X (.Compare a [op] [b] pos) (Dc (tOp r ta tb)):=by
 intro f s d H Q I h;refine wpAny_isTrue_Compare1 (thn (o f s d H _ I h) λv t⟨x,w,A,r1,D⟩=>thn (g f t d w _ A D) λu E⟨y,q,m,r2,B⟩=>
  thn (l f E d q x y v u _ m r1 r2 B) λc G⟨z,n,p,i,k,e,C⟩=>?_) j;subst e;cases i;exact bL ⟨n,p,C⟩
def Ed(K:W.Frag)(x:V)(H:Hp)(k:Bool):Prop:=
 match x with
 | .non=>k=A6
 | .bl b=>k=b
 | .int i=>k=(i !=0)
 | .str y=>y.length<=A7/\k=((y.length:Int)!=0)
 | .byt y=>y.size<=A7/\k=((y.size:Int)!=0)
 | .ref p=>(∃d,SqL K H p d/\k=!d.isEmpty)\/(∃d,SqT K H p d/\k=!d.isEmpty)\/∃e,H p=A0 (.dK e)/\k=!e.isEmpty
 |_=>False
theorem S5{e:Type}{d:List (e×V)}{vs:List (e×A1)}(r:KV d vs):(!vs.isEmpty)=!d.isEmpty:=by cases r<;>rfl
theorem L8{xs:List V}{d:List A1}(r:Av xs d):(!d.toArray.isEmpty)=!xs.isEmpty:=by cases r<;>simp
theorem E1:(A7:Nat)<2^63:=by rw[sizeLine_eq];decide
theorem S6:Rh X (λx H Q=>∃k,Ed X.K x H k/\Q k H):=by
 intro J s E H x v Q I l h;obtain⟨k,e,q⟩:=h;have G:=E1;have L:A7=16777216:=sizeLine_eq;cases x with
 |non=>cases l;have d:k=A6:=e;subst d;exact truthy_none ⟨H,I,q⟩
 |bl b=>cases l;have d:k=b:=e;subst d;exact bL ⟨H,I,q⟩
 |int i=>obtain⟨t,rfl⟩:=l;have d:k=(i !=0):=e;subst d;exact PySem.P.truthy_int ⟨H,I,q⟩
 |str y=>obtain⟨t,rfl⟩:=l;obtain⟨C,d⟩:y.length<=A7/\k=((y.length:Int)!=0):=e;subst d;exact PySem.P.truthy_str ⋯ ⟨H,I.tok _,q⟩
 |byt y=>obtain⟨t,rfl⟩:=l;obtain⟨C,d⟩:y.size<=A7/\k=((y.size:Int)!=0):=e;subst d;exact W.truthy_bytes ⋯ ⟨H,I.tok _,q⟩
 |ref p=>
  cases l;have d:(∃j,SqL X.K H p j/\k=!j.isEmpty)\/(∃j,SqT X.K H p j/\k=!j.isEmpty)\/∃f,H p=A0 (.dK f)/\k=!f.isEmpty:=e;rcases d with⟨j,n,d⟩|⟨j,n,d⟩|⟨f,n,d⟩;.subst d;obtain⟨A,r,u,B⟩:=I.list n;have g:=r.length;exact wpAny_truthy_list u.isList (by simp only[au];omega) ⟨H,I.tok _,by rw[L8 r];exact q⟩
  .subst d;obtain⟨A,r,u,B⟩:=I.tuple n;have g:=r.length;exact truthy_tuple u (by simp only[au];omega) ⟨H,I.tok _,by rw[L8 r];exact q⟩
  .subst d;obtain⟨B,D,o,r,m⟩:f.length<=A7/\(p==AO)=A6/\∃o,KV f o/\s.heap.DictOf (B8 X.prog X.w) p o:=I.hok p _ n;have g:f.length=o.length:=Aj r;exact wpAny_truthy_dict D m ⋯ ⟨H,I.tok _,by rw[S5 r];exact q⟩
 |_=>exact(show False from e).elim
theorem S7(j:PE X a ta)(i:∀d,isTrue a X.env d=(do let v<-d;standAt a.pos;holding [v] (truthy v))):
  PT X a (λe H Q=>ta e H λx f=>∃k,Ed X.K x f k/\Q k f):=by intro g s e H Q I h;exact isTrue_plain (thn (j g s e H _ I h) λv l⟨x,m,n,r1,o⟩=>S6 g l e m x v Q n r1 o) (i _)
theorem S8:OpR X (Ah .Add) (λx y H Q=>∃i j,x=.str i/\y=.str j/\i.length+j.length<=A7/\Q (.str (i++j)) H):=by intro n s l H x y v u Q I d f h;obtain⟨i,j,rfl,rfl,g,q⟩:=h;obtain⟨t,rfl⟩:=d;obtain⟨e,rfl⟩:=f;exact add_str (λe m=>⟨.str (i++j),H,I.tok _,⟨_,rfl⟩,q⟩) g
theorem C6{x:V}{d:List A1}(r:Av [x] d):∃u,d=[u]/\At x u:=by
 cases r with
 |cons r1 r2=>cases r2;exact⟨_,rfl,r1⟩
theorem Ee{x y:V}{d:List A1}(r:Av [x,y] d):∃u e,d=[u,e]/\At x u/\At y e:=by
 cases r with
 |cons r1 r2=>
  cases r2 with
  |cons f g=>cases g;exact⟨_,_,rfl,r1,f⟩
theorem S9:B7 X (.builtin "abs") (λd H Q=>∃i,d=[.int i]/\Q (.int (if i<0 then -i else i)) H):=by intro g s j H d f Q I r h;obtain⟨i,rfl,q⟩:=h;obtain⟨u,rfl,t,rfl⟩:=C6 r;exact call_abs_int λu e=>⟨.int (if i<0 then -i else i),H,I.tok _,⟨_,rfl⟩,q⟩
theorem SA(f:X.calm=A2):B7 X (.builtin "max") (λe H Q=>∃i j,e=[.int i,.int j]/\Q (.int (if j>i then j else i)) H):=by
 intro v s l H e g Q I r h;obtain⟨i,j,rfl,q⟩:=h;obtain⟨u,m,rfl,⟨t,rfl⟩,⟨n,rfl⟩⟩:=Ee r;refine max_two_ints (I.ok.hd f) λo p k=>⟨_,H,I.kept k,?_,q⟩;by_cases d:j>i;.rw[if_pos d,if_pos d];exact⟨_,rfl⟩
 .rw[if_neg d,if_neg d];exact⟨_,rfl⟩
theorem SC(f:X.calm=A2):B7 X (.builtin "min") (λe H Q=>∃i j,e=[.int i,.int j]/\Q (.int (if j<i then j else i)) H):=by
 intro v s l H e g Q I r h;obtain⟨i,j,rfl,q⟩:=h;obtain⟨u,m,rfl,⟨t,rfl⟩,⟨n,rfl⟩⟩:=Ee r;refine min_two_ints (I.ok.hd f) λo p k=>⟨_,H,I.kept k,?_,q⟩;by_cases d:j<i;.rw[if_pos d,if_pos d];exact⟨_,rfl⟩
 .rw[if_neg d,if_neg d];exact⟨_,rfl⟩
theorem SD:B7 X (.type "int") (λd H Q=>(∃i,d=[.int i]/\Q (.int i) H)\/∃k,d=[.bl k]/\Q (.int (if k then 1 else 0)) H):=by
 intro f s g H d e Q I r h;rcases h with⟨i,rfl,q⟩|⟨k,rfl,q⟩;.obtain⟨u,rfl,t,rfl⟩:=C6 r;exact call_int_int ⟨.int i,H,I,⟨_,rfl⟩,q⟩
 .obtain⟨u,rfl,r1⟩:=C6 r;cases r1;exact call_int_bool ⟨.int (if k then 1 else 0),H,I.tok _,⟨_,rfl⟩,q⟩
def L9(K:W.Frag)(x:V)(H:Hp)(n:Nat):Prop:=
 match x with
 | .str y=>y.length<=A7/\n=y.length
 | .byt y=>y.size<=A7/\n=y.size
 | .ref p=>(∃d,SqL K H p d/\n=d.length)\/∃d,SqT K H p d/\n=d.length
 |_=>False
theorem SE:B7 X (.builtin "len") (λd H Q=>∃x n,d=[x]/\L9 X.K x H n/\Q (.int n) H):=by
 intro D s B H d A Q I r h;obtain⟨x,n,rfl,e,q⟩:=h;obtain⟨u,rfl,l⟩:=C6 r;have C:=E1;have E:A7=16777216:=sizeLine_eq;cases x with
 |str y=>obtain⟨t,rfl⟩:=l;obtain⟨v,g⟩:y.length<=A7/\n=y.length:=e;subst g;exact len_str ⋯ ⟨.int _,H,I.tok _,⟨_,rfl⟩,q⟩
 |byt y=>obtain⟨t,rfl⟩:=l;obtain⟨v,g⟩:y.size<=A7/\n=y.size:=e;subst g;exact W.len_bytes ⋯ ⟨.int _,H,I.tok _,⟨_,rfl⟩,q⟩
 |ref p=>
  cases l;have g:(∃d,SqL X.K H p d/\n=d.length)\/∃d,SqT X.K H p d/\n=d.length:=e;rcases g with⟨d,j,g⟩|⟨d,j,g⟩;.subst g;obtain⟨o,m,i,w⟩:=I.list j;have f:=m.length;exact Calls.call_len_list i.isList (by simp only[au];omega) ⟨.int d.length,H,I.tok _,⟨_,by simp only[au];rw[f]⟩,q⟩
  .subst g;obtain⟨o,m,i,w⟩:=I.tuple j;have f:=m.length;exact len_tuple i (by simp only[au];omega) ⟨.int d.length,H,I.tok _,⟨_,by simp only[au];rw[f]⟩,q⟩
 |_=>exact(show False from e).elim
end
structure ObjM(h:AJ)(x dx C:A4)(mA:AM->Option A1):Prop where
 obj:h.get? x=A0 (W.instObj C dx)
 ns:h.Ns1 dx mA
 ne:dx≠x
set_option tactic.hygienic true in
theorem SF{h:AJ}{dx:A4}{mA:AM->Option A1}(n:h.Ns1 dx mA):∃od,h.get? dx=A0 od/\∀name,W.lookIn name od=A0 (mA name):=by
 obtain⟨o,es,ep,ho,hd,hk,_,hm⟩:=n;refine⟨o,ho,λname=>?_⟩;have e:=hm name;unfold nsFind findBy at e;rw[<-Array.find?_toList]at e;unfold W.lookIn;rw[hd];dsimp only;split;.rename_i y q;rw[q]at e;exact congrArg A0 e
 .rename_i q;rw[q]at e;have a:es.toList.any (·.refKey)=A6:=by rw[List.any_eq_false];intro y hy;obtain⟨z,t,hkey⟩:=hk y (Array.mem_toList_iff.mp hy);simp[AV.refKey,hkey]
  have a':¬es.toList.any (·.refKey)=A2:=by rw[a];exact al
  rw[if_neg a'];exact congrArg A0 e
theorem ObjM.look{h:AJ}{x b C:A4}{mA:AM->Option A1}(I:ObjM h x b C mA):∃a,W.InstAt h x (W.instObj C b) C (A0 a)/\∀name,W.lookIn name a=A0 (mA name):=
 let⟨a,e,d⟩:=SF I.ns
 ⟨a,⟨I.obj,rfl,rfl,e⟩,d⟩
section
variable{P:AA}{w:AK}{H H':Hp}{h h':AJ}{a C dx:A4}{fs fs':List (AM×V)}
theorem SH(b:HOk P w H h)(e:H a=A0 (.ins C dx fs)):∃mA,ObjM h a dx C mA/\(∀f,D6 (fs.lookup f) (mA f))/\PySem.Within mA (fs.map (·.1))/\fs.length<=1000/\H dx=A0 (.own a):=by obtain⟨d,z,g,i,mA,n,r,q⟩:=(show B0 P w H h a (.ins C dx fs)from b a _ e);exact⟨mA,⟨i,n,g⟩,r,q,z,d⟩
end
structure Cls(K:W.Frag)(C:A4):Prop where
 pg:W.plainGet K C AM.empty=A2
 hd:W.hasDictIn K C=A2
 po:W.plainOver K C=A2
 sa:W.findIn K (.ref C) "__setattr__"=A0 (A0 (.builtin "object.__setattr__"))
theorem Cls.get{K:W.Frag}{C:A4}(c:Cls K C)(f:AM):W.plainGet K C f=A2:=c.pg
section
variable{X:Cx}{p_:List (A4×AS)}{σ:St}{H:Hp}{s:A3}{A:AL}{E:A1->A3->Prop}{Q:A1->A3->Prop}{c:A1}{b:Bool}
inductive TyOf(K:W.Frag)(H:Hp):V->A1->Prop where
 |non:TyOf K H .non (.type "NoneType")
 |bl(x:Bool):TyOf K H (.bl x) (.type "bool")
 |int(i:Int):TyOf K H (.int i) (.type "int")
 |str(x:AM):TyOf K H (.str x) (.type "str")
 |flt(x:UInt64):TyOf K H (.flt x) (.type "float")
 |lst{a:A4}{xs:List V}(e:H a=A0 (.lst xs)):TyOf K H (.ref a) (.type "list")
 |frz{a:A4}{o:AS}{xs:List V}(e:H a=A0 (.frz o (.lst xs))):TyOf K H (.ref a) (.type "list")
 |tup{a:A4}{xs:List V}(e:H a=A0 (.tup xs)):TyOf K H (.ref a) (.type "tuple")
 |dK{a:A4}{kvs:List (Key×V)}(e:H a=A0 (.dK kvs)):TyOf K H (.ref a) (.type "dict")
 |dT{a:A4}{kvs:List (List Key×V)}(e:H a=A0 (.dT kvs)):TyOf K H (.ref a) (.type "dict")
 |ins{a C dx:A4}{fs:List (AM×V)}(e:H a=A0 (.ins C dx fs))(cl:Cls K C)(ha:W.findIn K (.ref C) "__class__"=A0 (A0 (.builtin "object.__class__")))
   (hn:W.specialIn K (.builtin "object.__class__") "__get__"=A0 (A0 (.builtin "getset_descriptor.__get__")))(htk:W.takesIn K (.builtin "object.__class__")=A0 A2)
   (hm:W.mroIn K C (.type "object")=A0 A2):TyOf K H (.ref a) (.ref C)
theorem SJ{x:V}{u t:A1}(I:Inv X p_ σ H s)(d:At x u)(ty:TyOf X.K H x t)(e:W.kitOne X.K t c=A0 b)(h:∀M,Q (.bool b) {s with toks:=M}):
  A8 (AD X.prog X.w) A (call (.builtin "isinstance") [u,c]) Q E s:=by
 cases ty with
 |non=>cases(show u=A1.none from d);exact W.kia_one W.kitx_none I.kIn True.intro e (λz=>nomatch z) h
 |bl y=>cases(show u=A1.bool y from d);exact W.kia_one W.kitx_bool I.kIn True.intro e (λz=>nomatch z) h
 |int i=>obtain⟨t,q⟩:=(show∃t,u=A1.int i t from d);cases q;exact W.kia_one W.kitx_int I.kIn True.intro e (λz=>nomatch z) h
 |str y=>obtain⟨t,q⟩:=(show∃t,u=A1.str y t from d);cases q;exact W.kia_one W.kitx_str I.kIn True.intro e (λz=>nomatch z) h
 |flt y=>obtain⟨t,q⟩:=(show∃t,u=A1.float y t from d);cases q;exact W.kia_one W.kitx_float I.kIn True.intro e (λz=>nomatch z) h
 | @lst a l f=>cases(show u=A1.ref a from d);obtain⟨_,_,n,_,g⟩:=(show B0 X.prog X.w H s.heap a (.lst l)from I.hok a _ f);exact W.kia_one W.kitx_list I.kIn ⟨_,g,rfl⟩ e (λz=>nomatch z) h
 | @frz a B l f=>cases(show u=A1.ref a from d);obtain⟨_,_,_,n,_,g⟩:=(show B0 X.prog X.w H s.heap a (.frz B (.lst l))from I.hok a _ f);exact W.kia_one W.kitx_list I.kIn ⟨_,g,rfl⟩ e (λz=>nomatch z) h
 | @tup a l f=>cases(show u=A1.ref a from d);obtain⟨_,_,_,p⟩:=(show B0 X.prog X.w H s.heap a (.tup l)from I.hok a _ f);obtain⟨o,g,m,_⟩:=p;exact W.kia_one W.kitx_tuple I.kIn ⟨o,g,m⟩ e (λz=>nomatch z) h
 | @dK a j f=>cases(show u=A1.ref a from d);obtain⟨_,_,U,_,p⟩:=(show B0 X.prog X.w H s.heap a (.dK j)from I.hok a _ f);obtain⟨o,G,P,g,m,_⟩:=p;exact W.kia_one W.kitx_dict I.kIn ⟨o,g,m.1⟩ e (λz=>nomatch z) h
 | @dT a j f=>cases(show u=A1.ref a from d);obtain⟨_,_,l,_,o,G,P,g,m,_⟩:=(show B0 X.prog X.w H s.heap a (.dT j)from I.hok a _ f);exact W.kia_one W.kitx_dict I.kIn ⟨o,g,m.1⟩ e (λz=>nomatch z) h
 | @ins a C T S f v L N r D=>cases(show u=A1.ref a from d);obtain⟨mA,O,_⟩:=SH I.hok f;obtain⟨R,J,_⟩:=O.look;exact W.kia_one (W.kitx_own (v.get _) v.hd L N r D) I.kIn J e (λz=>nomatch z) h
end
structure Room(k:Nat)(A:AL):Prop where
 hd:A.handled=A5
 dp:A.depth+3*k+5<recursionLimit
 un:A.units+16*k+200<Ao
 gd:A.guards=A0 []
theorem Room.mono{j k:Nat}{A:AL}(r:Room k A)(h:j<=k):Room j A:=⟨r.hd,by have:=r.dp;omega,by have:=r.un;omega,r.gd⟩
theorem Room.deeper{k:Nat}{A:AL}(r:Room (k+1) A)(env:Env):Room k (A.deeper env):=
 ⟨r.hd,by have:=r.dp;show A.depth+1+3*k+5<_;omega,by have:=r.un;show A.units+3+16*k+200<_;omega,r.gd⟩
theorem Room.depth{k:Nat}{A:AL}(r:Room k A):A.depth<recursionLimit:=by have:=r.dp;omega
theorem Room.units{k:Nat}{A:AL}(r:Room k A):A.units+64<Ao:=by have:=r.un;omega
def CD:TA:=λ_ H Q=>Q [] H
def Bq(f:TE)(d:TA):TA:=λa H Q=>f a H λx b=>d a b λe g=>Q (x::e) g
section
variable{X:Cx}{e:A9}{es:List A9}{te:TE}{t:TA}{pos:Pos}
theorem Dd:PA X [] CD:=λ_ _ _ _ H Q I h=>Calls.spliced_nil ⟨[],H,I,.nil,h⟩
theorem D8(f:PE X e te)(i:PA X es t)(q:AZ (e::es) X.env=(A6,Ac e X.env)::AZ es X.env:=by rfl):PA X (e::es) (Bq te t):=by intro pos b s a H Q I h;rw[q];show A8 _ _ (spliced ((A6,Ac e X.env)::backTo pos (AZ es X.env))) _ _ s;refine Calls.spliced_cons (thn (f b s a H _ I h) λu j⟨x,l,m,r1,p⟩=>?_);exact thn (i pos b j a l _ m p) λr v⟨n,g,d,r2,o⟩=>⟨x::n,g,d,.cons r1 r2,o⟩
def IA(t:TA):TE:=λd H Q=>t d H λb a=>b.length<=A7/\∀p,a p=A5->Q (.ref p) (upd a p (.tup b))
def IB(t:TA):TE:=λd H Q=>t d H λb a=>b.length<=A7/\∀p,a p=A5->Q (.ref p) (upd a p (.lst b))
theorem SK{l}(h:PA X es t):PE X (.Tuple es l pos) (IA t):=by intro o s i H Q I j;refine wpAny_Tuple_spliced (thn (h pos o s i H _ I j) λg a⟨n,d,f,r,z,q⟩=>⟨by rw[<-r.length];exact z,?_⟩);have m:d a.heap.objs.size=A5:=f.hok.fresh (ag _);refine⟨.ref a.heap.objs.size,upd d a.heap.objs.size (.tup n),f.laid (t':=a.toks) (λb u e=>ac _ e) (ag _) ?_,rfl,q _ m⟩;exact⟨z,g,r,⟨_,ai _ rfl,rfl,⟨_,rfl⟩,rfl⟩⟩
theorem SL(h:PA X es t):PE X (.List es pos) (IB t):=by intro n s i H Q I j;refine wpAny_List_spliced (thn (h pos n s i H _ I j) λg a⟨m,d,f,r,z,q⟩=>⟨by rw[<-r.length];exact z,?_⟩);have l:d a.heap.objs.size=A5:=f.hok.fresh (ag _);refine⟨.ref a.heap.objs.size,upd d a.heap.objs.size (.lst m),f.laid (t':=a.toks) (λb u e=>ac _ e) (ag _) ?_,rfl,q _ l⟩;exact⟨z,g,0,r,ai _ rfl⟩
end
abbrev Sp:=List V->Hp->VK->XK->Prop
abbrev CXT:=List Env->Hp->A3->XK->A1->A3->Prop
structure Env0(P:AA)(w:AK)(K:W.Frag)(mg:AM->Option A1)(base:AJ)(A:AL)(outer:List Env)(s:A3)(H:Hp):Prop where
 frames:A.frames=A0 outer
 mod:Mod K mg base
 bs:∀b o,base.get? b=A0 o->s.heap.get? b=A0 o/\H b=A5
 bsz:base.objs.size<=s.heap.objs.size
 funs:s.heap.FunFrames base outer
 frf:∀b∈frs outer,H b=A5
 hok:HOk P w H s.heap
 bare:AllBare s.gens
def CE(a:List Env)(P:AA)(w:AK)(H:Hp)(s:A3)(Q:VK)(u:A1)(s':A3):Prop:=
 ∃v b,s'.os=s.os/\AllBare s'.gens/\Un (frs a) [] H b s.heap s'.heap/\HOk P w b s'.heap/\At v u/\Q v b
def CR(CX:CXT)(a:List Env)(P:AA)(w:AK)(H:Hp)(s:A3)(Q:VK)(E:XK)(r:Result)(s':A3):Prop:=
 match r with
 | .ok (.ret u)=>CE a P w H s Q u s'
 | .ok _=>False
 | .error e=>CX a H s E e s'
structure FnOk(P:AA)(w:AK)(K:W.Frag)(mg:AM->Option A1)(base:AJ)(CX:CXT)(k:Nat)(f:A4)(fd:Aq)(ps:List AM)(sp:Sp):Prop where
 len:∀vs H Q E,sp vs H Q E->vs.length=ps.length
 run:∀(A:AL)(outer:List Env)(s:A3)(H:Hp)(args:Args)(us:List A1)(vs:List V)(Q:VK)(E:XK),Room k A->Env0 P w K mg base A outer s H->BindsTo s fd args (ps.zip us)->Av vs us->sp vs H Q E->
  codeAny (AD P w) A (.call (.ref f) args) (CR CX outer P w H s Q E) s
theorem FnOk.mono{P:AA}{w:AK}{K:W.Frag}{mg:AM->Option A1}{base:AJ}{CX:CXT}{j k:Nat}{f:A4}{d:Aq}{ps:List AM}{sp:Sp}(F:FnOk P w K mg base CX j f d ps sp)(h:j<=k):
  FnOk P w K mg base CX k f d ps sp:=⟨F.len,λA a s H b e i Q E g=>F.run A a s H b e i Q E (g.mono h)⟩
section
variable{X:Cx}{p_:List (A4×AS)}{σ:St}{H:Hp}{s s':A3}
theorem Inv.env0(I:Inv X p_ σ H s):Env0 X.prog X.w X.K X.mg X.base X.A X.stack s H:=
 ⟨I.ok.frames,I.ok.mod,I.bs,aF I.ok.bsz I.sz,I.stack,I.stkFree,I.hok,I.bare⟩
theorem Inv.after{Q:VK}{u:A1}(I:Inv X p_ σ H s)(h:CE X.stack X.prog X.w H s Q u s'):EP X p_ σ Q u s':=by obtain⟨v,i,os,a,l,f,r,q⟩:=h;obtain⟨j,g,d,t,e⟩:=s';obtain rfl:e=s.os:=os;exact⟨v,i,I.call (h':=j) (g':=g) (d':=d) (t':=t) (ch:=[]) l f a (λb z=>absurd z (by simp)),r,q⟩
end
def Fj(sp:Sp)(a:List V)(E:XK)(t:TA):TE:=λd H Q=>t d H λe b=>sp (e++a) b Q E
def Cu(K:W.Frag)(d:Aq)(ps:List AM)(b:List A1):Prop:=
 ∀(s:A3)(a:List A1),K.In s.heap->(a++b).length=ps.length->BindsTo s d ⟨a,[]⟩ (ps.zip (a++b))
theorem Cu.all{K:W.Frag}{b:Aq}{ps:List AM}(h:∀a:List A1,a.length=ps.length->bindArgs b ⟨a,[]⟩=pure (ps.zip a)):Cu K b ps []:=λs a _ d=>by rw[de]at d⊢;exact .of_eq (h a d)
structure FnScope(N P:List AM)(sc:AY):Prop where
 kind:sc.kind=.function
 co:sc.isCoroutine=A6
 gen:sc.isGenerator=A6
 nd:N.Nodup
 pre:N.take P.length=P
 par:∀x∈P,sc.names.lookup x=A0 .local\/sc.names.lookup x=A0 .cell
 nofree:∀y∈sc.names,y.2≠.free
theorem LA{kindOf:AM->Option AT}{x:AM}:∀{a:List (AM×A1)}{m:AM->Option A1},(∀v,(x,v)∉a)->bindL kindOf a m x=m x
 | [],_,_=>rfl
 |(n,v)::r,m,h=>by
  unfold bindL;rw[LA λw hw=>h w (ay _ hw)];split
  .have:x≠n:=by rintro rfl;exact h v az
   simp[this]
  .rfl
theorem LB{kindOf:AM->Option AT}{x:AM}:∀{a:List (AM×A1)}{m:AM->Option A1},(∀v,(x,v)∉a)->bindC kindOf a m x=m x
 | [],_,_=>rfl
 |(n,v)::r,m,h=>by
  unfold bindC;rw[LB λw hw=>h w (ay _ hw)];split;.rfl
  .have:x≠n:=by rintro rfl;exact h v az
   simp[this]
theorem LC{kindOf:AM->Option AT}{x:AM}{v:A1}:∀{P:List AM}{a:List A1}{i:Nat}{m:AM->Option A1},P.Nodup->P[i]?=A0 x->a[i]?=A0 v->kindOf x=A0 .local->
  bindL kindOf (P.zip a) m x=A0 v
 | [],_,_,_,_,h,_,_=>by simp at h
 |_::_,[],_,_,_,_,h,_=>by simp at h
 |p::P,w::a,0,m,f,b,d,e=>by simp at b d;subst b;subst d;show bindL kindOf ((p,w)::P.zip a) m p=_;unfold bindL;rw[LA λv g=>(cz.mp f).1 (List.of_mem_zip g).1,if_pos e];simp
 |p::P,w::a,i+1,m,f,b,d,e=>by show bindL kindOf ((p,w)::P.zip a) m x=_;unfold bindL;exact LC (i:=i) (cz.mp f).2 (by simpa using b) (by simpa using d) e
theorem LD{kindOf:AM->Option AT}{x:AM}{v:A1}:∀{P:List AM}{a:List A1}{i:Nat}{m:AM->Option A1},P.Nodup->P[i]?=A0 x->a[i]?=A0 v->kindOf x≠A0 .local->
  bindC kindOf (P.zip a) m x=A0 v
 | [],_,_,_,_,h,_,_=>by simp at h
 |_::_,[],_,_,_,_,h,_=>by simp at h
 |p::P,w::a,0,m,f,b,d,e=>by simp at b d;subst b;subst d;show bindC kindOf ((p,w)::P.zip a) m p=_;unfold bindC;rw[LB λv g=>(cz.mp f).1 (List.of_mem_zip g).1,if_neg e];simp
 |p::P,w::a,i+1,m,f,b,d,e=>by show bindC kindOf ((p,w)::P.zip a) m x=_;unfold bindC;exact LD (i:=i) (cz.mp f).2 (by simpa using b) (by simpa using d) e
def BA(N:List AM)(vs:List V):St:=vs.map A0++aL (N.length-vs.length) A5
def E2(CX:CXT)(P:AA)(w:AK)(K:W.Frag)(mg:AM->Option A1)(base:AJ)(N:List AM)(b:AM)(a:AY)(f:A4)(g:A1)(A:AL)(outer:List Env)(s:A3)(H:Hp)(E:XK):Cx where
 prog:=P
 w:=w
 K:=K
 mg:=mg
 base:=base
 A:=A.deeper (envOfC b a s.heap.objs.size f g)
 N:=N
 s₀:=s
 H₀:=H
 env:=envOfC b a s.heap.objs.size f g
 outer:=outer
 stack:=envOfC b a s.heap.objs.size f g::outer
 ex:=[]
 calm:=A2
 fn:=λ_=>A2
 pn:=[]
 xe:=λe i=>A8 (AD P w) (A.deeper (envOfC b a s.heap.objs.size f g)) (leaving (envOfC b a s.heap.objs.size f g) e) (λ_ d=>CX outer H s E e d) (λh d=>CX outer H s E h d) i
theorem IC{sc:AY}{n:Nat}{x:AM}(h:sc.names.lookup x=A0 .cell):∃c,(Ab n sc.names []).lookup x=A0 c:=by have q:=W.cellsFrom_some sc.names n [] (.inl h);exact Option.isSome_iff_exists.mp q
theorem SM{CX:CXT}{P:AA}{w:AK}{K:W.Frag}{mg:AM->Option A1}{base:AJ}{N ps:List AM}{j:AM}{d:AY}{f:A4}{G:A1}{A:AL}{g:List Env}{s M:A3}{H:Hp}{E:XK}{J:List A1}{vs:List V}
  (S:FnScope N ps d)(O:A.handled=A5)(m:Env0 P w K mg base A g s H)(U:vs.length=ps.length)(r:Av vs J)
  (x:InCallC s s.heap.objs.size (bindL (envOfC j d s.heap.objs.size f G).kindOf (ps.zip J) λ_=>A5) (Ab (s.heap.objs.size+1) d.names []) (bindC (envOfC j d s.heap.objs.size f G).kindOf (ps.zip J) λ_=>A5) M):
  Inv (E2 CX P w K mg base N j d f G A g s H E) [] (BA N vs) H M:=by
 have Q:ps.length<=N.length:=by have:=congrArg List.length S.pre;rw[aH]at this;omega
 obtain⟨D,Y,rfl,L⟩:=x.done;have t:∀b:A4,b∉(E2 CX P w K mg base N j d f G A g s H E).ex:=λb z=>absurd (show b∈([]:List A4)from z) (by simp);refine⟨⟨m.mod,S.kind,rfl,rfl,ag _,λy z c D l=>?_,λy o=>?_,λy c _ h=>?_,λ_=>O,AL.frames_deeper m.frames,.inr ⟨rfl,rfl⟩,λb z=>absurd z (t b),m.bs,m.bsz,λb _ _=>t b,λb z=>absurd z (t b),m.funs,m.frf⟩,
  rfl,m.bare,Un.kept L,⟨_,x.toInCall.ns,λi y v D l X=>?_⟩,λy c h=>⟨_,x.cell y c h⟩,m.hok.fresh (ag _),λy c h=>?_,λp C=>absurd (show p∈([]:List (A4×AS))from C) (by simp),m.hok.kept L,?_⟩;.exact name_of_addr x.apart (PySem.mem_of_lookup D) (PySem.mem_of_lookup l)
 .have o:d.names.lookup y=A0 .cell\/d.names.lookup y=A0 .free:=o;rcases o with o|o;.exact IC o
  .exact absurd rfl (S.nofree _ (PySem.mem_of_lookup o))
 .exact bG (x.above y c (PySem.mem_of_lookup h))
 .have I:i<vs.length:=by
   unfold BA at l;by_cases I:i<vs.length;.exact I
   .rw[List.getElem?_append_right (by simpa using I)]at l;rw[List.getElem?_replicate]at l;split at l<;>cases l
  have R:vs[i]?=A0 v:=by
   unfold BA at l;rw[List.getElem?_append_left (by simpa using I),aj]at l;cases e:vs[i]? with
   |none=>rw[e]at l;cases l
   |some a=>rw[e]at l;cases l;rfl
  obtain⟨u,hu,T⟩:=r.get R;have C:ps[i]?=A0 y:=by rw[<-S.pre,List.getElem?_take_of_lt ⋯];exact D
  have B:ps.Nodup:=by rw[<-S.pre];exact S.nd.sublist (List.take_sublist _ _)
  refine⟨u,T,?_⟩;rcases S.par y (ar C)with k|k;.exact .inl ⟨k,LC B C hu k⟩
  .obtain⟨c,e⟩:=IC (n:=s.heap.objs.size+1) k;refine .inr ⟨.inl k,c,e,?_⟩;have q:=x.cell y c e;rw[LD B C hu (by show d.names.lookup y≠_;rw[k];decide)]at q;exact q
 .exact m.hok.fresh (bG (x.above y c (PySem.mem_of_lookup h)))
 .unfold BA;show _=N.length;rw[aA,af,List.length_replicate];omega
theorem SN{CX:CXT}{P:AA}{w:AK}{K:W.Frag}{mg:AM->Option A1}{base:AJ}{k:Nat}{f:A4}{name g:AM}{i:Arguments}{j:List Ap}{a:AY}{dV kV D Z h ct oc:A1}{an od:Option A4}
  {O:Array (Option A1)}{N ps:List AM}{sp:Sp}(lk:K.lookup f=A0 ⟨oc,od,.func (W.fnOf name g i j a dV kV D Z an h ct),O⟩)(R:W.codeIn K h g=A2)(S:FnScope N ps a)
  (len:∀vs H Q E,sp vs H Q E->vs.length=ps.length)
  (p:∀(A:AL)(d:List Env)(s:A3)(H:Hp)(vs:List V)(Q:VK)(E:XK),Room k (A.deeper (envOfC g a s.heap.objs.size f h))->sp vs H Q E->
   ∃t,PSs (E2 CX P w K mg base N g a f h A d s H E) j t/\t {nx:=λ_ m=>Q .non m,rt:=Q} (BA N vs) H):
  FnOk P w K mg base CX (k+1) f (W.fnOf name g i j a dV kV D Z an h ct) ps sp:=by
 refine⟨len,λA d s H a0 us vs Q E T M hb r L=>?_⟩;have hl:=len _ _ _ _ L;have KX:K.In s.heap:=M.mod.kin.keeps λb o e=>(M.bs b o e).1;have X:s.heap.NoLimit:=M.mod.nolimit.keeps λb o e=>(M.bs b o e).1;have B:∀y∈ps.zip us,a.names.lookup y.1=A0 .local\/(a.names.lookup y.1=A0 .cell/\((Ab (s.heap.objs.size+1) a.names []).lookup y.1).isSome=A2):=λ⟨n,v⟩hy=>by
  rcases S.par n (List.of_mem_zip hy).1 with q|q;.exact .inl q
  .exact .inr ⟨q,W.cellsFrom_some _ _ _ (.inl q)⟩
 refine codeAny_call_function T.depth (KX _ _ lk) rfl S.co S.gen rfl (W.codeRec_of KX R) (hb _ _ _ _ ?_);refine wpAny_newFunctionEnv_cells S.kind B λa1 he s1 x=>?_;subst he;refine⟨X.keeps x.toInCall.keep,codeAny_func ?_⟩;obtain⟨t,ht,hq⟩:=p A d s H vs Q E (T.deeper _) L;have I:Inv (E2 CX P w K mg base N g a f h A d s H E) [] (BA N vs) H s1:=SM S T.hd M hl r x;refine cY (ht [] s1 (BA N vs) H _ I hq) (λfl U C=>?_) λe U C=>C;have G:∀{l:St}{m:Hp}{v:V}{u:A1},Inv (E2 CX P w K mg base N g a f h A d s H E) [] l m U->At v u->Q v m->CE d P w H s Q u U:=
  λ{l m v u}J Y q=>⟨v,m,J.os,J.bare,J.base,J.hok,Y,q⟩;cases fl with
 |ret u=>obtain⟨v,l,m,J,Y,q⟩:=C;exact G J Y q
 |next=>obtain⟨l,m,J,q⟩:=C;exact G (v:=V.non) (u:=A1.none) J rfl q
 |brk=>obtain⟨_,_,_,q⟩:=C;exact False.elim q
 |cont=>obtain⟨_,_,_,q⟩:=C;exact False.elim q
section
variable{X:Cx}{x:AM}{p pos:Pos}{e:A9}{es:List A9}{t:TA}{id T:String}{r:List V->Hp->VK->Prop}
def tCB(r:List V->Hp->VK->Prop)(t:TA):TE:=λb H Q=>t b H λd a=>r d a Q
theorem SQ(n:B7 X (.builtin id) r)(g:Gl X x)(j:X.mg x=A5)(o:bootBuiltins x=A0 (.builtin id))(m:PA X (e::es) t)(y:x≠"__name__":=by decide)(b:(x==("__debug__":AM))=A6:=by decide)
  (l:AZ (e::es) X.env=(A6,Ac e X.env)::AZ es X.env:=by rfl)(a:(backTo pos (AZ es X.env)).any (·.1)=A6:=by rfl):PE X (.Call (.Name x p) (e::es) [] pos) (tCB r t):=by intro f s d H Q I h;refine wpAny_Call_Name_kw (DK I g j o ?_ y b);exact PyProof.Rows.callWith_builtin1 (thn (m pos f s d H _ I h) λi q⟨A,u,v,r1,w⟩=>n f q d u A i Q v r1 w) l a
theorem ID(n:B7 X (.type T) r)(g:Gl X x)(j:X.mg x=A5)(o:bootBuiltins x=A0 (.type T))(m:PA X (e::es) t)(y:x≠"__name__":=by decide)(b:(x==("__debug__":AM))=A6:=by decide)
  (l:AZ (e::es) X.env=(A6,Ac e X.env)::AZ es X.env:=by rfl)(a:(backTo pos (AZ es X.env)).any (·.1)=A6:=by rfl):PE X (.Call (.Name x p) (e::es) [] pos) (tCB r t):=by intro f s d H Q I h;refine wpAny_Call_Name_kw (DK I g j o ?_ y b);exact PyProof.Rows.callWith_type1 (thn (m pos f s d H _ I h) λi q⟨A,u,v,r1,w⟩=>n f q d u A i Q v r1 w) l a
end
end L2
namespace HT
open PySem PyProof.Rows
section
open PySem.SeqAt
open PySem.AutoSeq1 (wpAny_loadPart')
open PySem.MeetsSeq PySem.MeetsSeq2 PySem.MeetsSeq3
end
section
variable{prog:AA}{w:AK}{A:AL}{E:A1->A3->Prop}{s:A3}
theorem SS{t b:A4}{vs a:List A1}{Q:A1->A3->Prop}(y:IsTup s.heap t vs.toArray)(x:IsTup s.heap b a.toArray)(u:vs≠[])
  (h1:a=[]->Q (.ref t) s)(B:a≠[]->Q (.ref s.heap.objs.size) {s with heap:=s.heap.push {cls:=.type "tuple",data:=.seq (vs++a).toArray}})
  (hsz:vs.length+a.length<=A7):A8 (AD prog w) A (Ah .Add (.ref t) (.ref b)) Q E s:=by
 obtain⟨⟨cls,q,data,p⟩,j,r,n,o⟩:=id y;obtain⟨⟨v,f,l,g⟩,d,i,m,h⟩:=id x;simp only at r o i h;subst r o i h;have e:vs.toArray++a.toArray=(vs++a).toArray:=by simp
 by_cases hw:a=[]
 .exact concat_meets ⟨_,j,rfl⟩ ⟨_,d,rfl⟩ noFill_tuple_add seq_tuple_add PySem.F.slot_tuple_add PySem.F.entry_tuple_add (PySem.F.args_tuple_add_2 _ _)
   (tuple_addW1 t b vs.toArray a.toArray n m q f p g (by simpa using u) (by simp[hw])) ⟨j,d,h1 hw⟩
 .refine concat_meets ⟨_,j,rfl⟩ ⟨_,d,rfl⟩ noFill_tuple_add seq_tuple_add PySem.F.slot_tuple_add PySem.F.entry_tuple_add (PySem.F.args_tuple_add_2 _ _)
   (tuple_addW2 t b vs.toArray a.toArray n m q f p g (by simpa using u) (by simpa using hw) (by rw[au,au];exact hsz)) ⟨j,d,?_⟩;rw[e];exact B hw
def sIx(n d:Nat):Option Int->Nat
 |A5=>d
 |A0 v=>if v<0 then(v+(n:Int)).toNat else min v.toNat n
theorem SU(n d:Nat)(b:d<=n)(o:Option Int):sIx n d o<=n:=by
 cases o with
 |none=>exact b
 |some v=>
  show(if v<0 then(v+(n:Int)).toNat else min v.toNat n)<=n;by_cases a:v<0;.rw[if_pos a];omega
  .rw[if_neg a];exact Nat.min_le_right _ _
theorem LF(v:Int)(n d:Nat):(if v<0 then max (v+(n:Int)) 0 else min v (n:Int))=((sIx n d (A0 v):Nat):Int):=by
 show(if v<0 then max (v+(n:Int)) 0 else min v (n:Int))=(((if v<0 then(v+(n:Int)).toNat else min v.toNat n):Nat):Int);by_cases a:v<0;.simp only[if_pos a];omega
 .simp only[if_neg a];omega
theorem SV(a hi:Option Int)(n:Nat):AB.Slice.sliceAdjust a hi 1 (n:Int)=(((sIx n 0 a:Nat):Int),((sIx n n hi:Nat):Int)):=by
 have b:¬((1:Int)<0):=by omega
 unfold AB.Slice.sliceAdjust;simp only[b,if_false];refine Prod.ext ?_ ?_
 .cases a with
  |none=>rfl
  |some v=>exact LF v n 0
 .cases hi with
  |none=>rfl
  |some v=>exact LF v n n
theorem SW(i j:Nat):AB.Slice.slicePlaces (i:Int) (j:Int) 1=j-i:=by
 unfold AB.Slice.slicePlaces;have a:(1:Int)>0:=by omega
 simp only[a,if_true,Int.ediv_one];split<;>omega
theorem LG{v:A1}{o:Option Int}{Q:Option Int->A3->Prop}(p:IsPart v o)(h:Q o s):A8 (AD prog w) A (AB.Slice.slicePartIndex v) Q E s:=by
 cases p with
 |none=>exact slicePart_none h
 |int i t=>exact slicePart_int h
theorem LH{g:A4}{f e:A1}{a hi:Option Int}{n:Nat}{Q:Int×Int×Nat->A3->Prop}(j:s.heap.IsSliceOf g f e .none)(pl:IsPart f a)(l:IsPart e hi)
  (h:Q (((sIx n 0 a:Nat):Int),1,sIx n n hi-sIx n 0 a) s):A8 (AD prog w) A (AB.Slice.sliceApplied (.ref g) (pure (n:Int))) Q E s:=by obtain⟨m,d,i,b⟩:=id j;unfold AB.Slice.sliceApplied AB.Slice.sliceFields;refine aa (aa (bu d b (x:=f) rfl (aa (bu d b (x:=e) rfl (aa (bu d b (x:=.none) rfl (ab ?_)))))));refine aa (slicePart_none ?_);show A8 _ _ (if((1:Int)==0)=A2 then _ else _) _ _ s;rw[if_neg (by decide)];refine aa (LG pl (aa (LG l (aa (ab ?_)))));show A8 _ _ (match AB.Slice.sliceAdjust a hi 1 (n:Int)with|(a,hi)=>pure (a,(1:Int),AB.Slice.slicePlaces a hi 1)) _ _ s;rw[SV a hi n];show A8 _ _ (pure (((sIx n 0 a:Nat):Int),(1:Int),AB.Slice.slicePlaces ((sIx n 0 a:Nat):Int) ((sIx n n hi:Nat):Int) 1)) _ _ s;rw[SW];exact ab h
theorem SX(xs:Array A1)(i k:Nat):((aE k).filterMap λ(m:Nat)=>xs[((i:Int)+(m:Int)*1).toNat]?).toArray=((xs.toList.drop i).take k).toArray:=by
 have e:(λ(m:Nat)=>xs[((i:Int)+(m:Int)*1).toNat]?)=λm=>xs[i+m]?:=by
  funext m;have:((i:Int)+(m:Int)*1).toNat=i+m:=by omega
  rw[this]
 rw[e];have:=pick_run xs i k;rw[List.filterMap_map]at this;have a:((λx=>xs[x]?)∘λx=>i+x)=λm=>xs[i+m]?:=rfl;rw[a]at this;rw[this]
theorem SY{t e:A4}{items:Array A1}{n l:A1}{b hi:Option Int}{Q:A1->A3->Prop}(d:IsTup s.heap t items)(o:s.heap.IsSliceOf e n l .none)(pl:IsPart n b)(u:IsPart l hi)
  (hw:¬(sIx items.size 0 b=0/\sIx items.size items.size hi=items.size))
  (h:Q (.ref s.heap.objs.size) {s with heap:=s.heap.push {cls:=.type "tuple",data:=.seq ((items.toList.drop (sIx items.size 0 b)).take (sIx items.size items.size hi-sIx items.size 0 b)).toArray}})
  (hsz:items.size<=A7):A8 (AD prog w) A (getItem (.ref t) (.ref e)) Q E s:=by
 have a:sizeOk (.seq ((items.toList.drop (sIx items.size 0 b)).take (sIx items.size items.size hi-sIx items.size 0 b)).toArray):=by show((items.toList.drop (sIx items.size 0 b)).take (sIx items.size items.size hi-sIx items.size 0 b)).toArray.size<=A7;rw[au,aH,cW,am];omega
 have v:sIx items.size items.size hi<=items.size:=SU _ _ (ag _) hi;obtain⟨r,g,f,p⟩:=id o;have i:s.TypeIs (.ref e) "slice":=⟨r,g,f⟩;unfold getItem;try with_reducible refine aC ?_
 first|refine aa (ab ?_)|skip
 refine aa (wpAny_sequenceKey d.typeIs (by decide) ?_);refine aa (aS (name:=AM.ofString "__getitem__") d.typeIs PyProof.Rows.slot_tuple_getitem
  (aP PyProof.Rows.slot_tuple_getitem d.typeIs entry_tuple_getitem ?_ (args_tuple_getitem _ _)));show A8 _ _ (AB.Tuple.tupleItemsOf (.ref t)>>=_) _ _ s;refine aa (tupleItemsOf_ d ?_);refine aa (dw i ?_);rw[if_pos (by decide)];refine aa (LH o pl u ?_);have j:¬((((sIx items.size 0 b:Nat):Int)==0&&(1:Int)==1&&(sIx items.size items.size hi-sIx items.size 0 b)==items.size)=A2):=by intro q;rw[ah,ah]at q;have y:((sIx items.size 0 b:Nat):Int)=0:=eq_of_beq q.1.1;have x:sIx items.size items.size hi-sIx items.size 0 b=items.size:=eq_of_beq q.2;exact hw ⟨⋯,⋯⟩
 show A8 _ _ (if(((sIx items.size 0 b:Nat):Int)==0&&(1:Int)==1&&(sIx items.size items.size hi-sIx items.size 0 b)==items.size)=A2 then _ else _) _ _ s;rw[if_neg j,SX];first
  |exact aa (m:=AB.Tuple.tupleExact _) (aI (ab ⟨_,rfl,ab h⟩) a)
  |exact aa (m:=AB.Tuple.tupleExact _) (aI (aa (ab (ab ⟨_,rfl,ab h⟩))) a)
  |exact aa (aa (m:=AB.Tuple.tupleExact _) (aI (ab (ab ⟨_,rfl,ab h⟩)) a))
  |exact aa (aa (m:=AB.Tuple.tupleExact _) (aI (ab ⟨_,rfl,ab h⟩) a))
end
end HT
namespace L2
open PySem PySem.Spec PyProof.Rows
abbrev TO:=St->Hp->(Option Int->Hp->Prop)->Prop
def PO(X:Cx)(e:Option A9)(t:TO):Prop:=
 ∀(b:List (A4×AS))(s:A3)(a:St)(H:Hp)(Q:Option Int->Hp->Prop),Inv X b a H s->t a H Q->
  A8 (AD X.prog X.w) X.A (evalPart e X.env) (λu f=>∃o d,Inv X b a d f/\IsPart u o/\Q o d) X.xe s
def IE:TO:=λ_ H Q=>Q A5 H
def IF(t:TE):TO:=λb H Q=>t b H λx a=>∃i,x=.int i/\Q (A0 i) a
theorem IG{ns:List Int}:∀{a:List A1},Av (ns.map V.int) a->IntsAre a ns:=by
 induction ns with
 |nil=>intro a r;rw[List.map_nil]at r;cases r;exact .nil
 |cons n ns b=>
  intro a r;rw[aX]at r;cases r with
  |cons r1 r2=>obtain⟨t,e⟩:=r1;subst e;exact .cons n t (b r2)
section
variable{X:Cx}{e:A9}{te:TE}{lo hi:Option A9}{tl th:TO}{pos p2:Pos}
theorem SZ:PO X A5 IE:=by intro a s b H Q I h;rw[evalPart_none];exact ab ⟨A5,H,I,.none,h⟩
theorem Sa(h:PE X e te):PO X (A0 e) (IF te):=by intro g s a H Q I hw;rw[evalPart_some];refine thn (h g s a H _ I hw) λu j⟨x,b,d,r1,f⟩=>?_;obtain⟨i,rfl,q⟩:=f;obtain⟨t,rfl⟩:=r1;exact⟨A0 i,b,d,.int i t,q⟩
def SlR(X:Cx)(r:V->Option Int->Option Int->Hp->VK->Prop):Prop:=
 ∀(b:List (A4×AS))(s:A3)(f:St)(H:Hp)(x:V)(v d a:A1)(lo hi:Option Int)(g:A4)(Q:VK),Inv X b f H s->At x v->s.heap.IsSliceOf g d a .none->IsPart d lo->IsPart a hi->r x lo hi H Q->
  ∃T id,typeLookup (.type T) "__getitem__"=pure (A0 (.builtin id))/\s.TypeIs v T/\A8 (AD X.prog X.w) X.A (getItem v (.ref g)) (EP X b f Q) X.xe s
theorem SlR.or{r g:V->Option Int->Option Int->Hp->VK->Prop}(h:SlR X r)(h':SlR X g):SlR X (λx lo hi H Q=>r x lo hi H Q\/g x lo hi H Q):=by
 intro l s b H x v m i lo hi d Q I f n a j q;rcases q with q|q;.exact h l s b H x v m i lo hi d Q I f n a j q
 .exact h' l s b H x v m i lo hi d Q I f n a j q
def tSl(r:V->Option Int->Option Int->Hp->VK->Prop)(te:TE)(tl th:TO):TE:=λa H Q=>te a H λx b=>tl a b λl d=>th a d λu f=>r x l u f Q
theorem Sb{r:V->Option Int->Option Int->Hp->VK->Prop}(E:SlR X r)(p:PE X e te)(y:PO X lo tl)(hu:PO X hi th):PE X (.Subscript e (.Slice lo hi A5 p2) pos) (tSl r te tl th):=by intro f s d H Q I h;refine Subscript_ (thn (p f s d H _ I h) λv G⟨x,J,K,r1,O⟩=>?_);refine wpAny_Slice (thn (y f G d J _ K O) λi P⟨l,D,t,m,L⟩=>thn (hu f P d D _ t L) λg a⟨u,j,B,C,N⟩=>?_);rw[evalPart_none];refine ab ?_;have o:Inv X f d j {a with heap:=a.heap.push {cls:=.type "slice",data:=.fields #[i,g,.none]}}:=B.kept (t':=a.toks) λb R q=>ac _ q;obtain⟨T,id,hT,M,n⟩:=E f {a with heap:=a.heap.push {cls:=.type "slice",data:=.fields #[i,g,.none]}} d j x v i g l u a.heap.objs.size Q o r1 (AJ.IsSliceOf.new ..) m C N;show A8 (AD X.prog X.w) X.A (subscriptTail e (.Slice lo hi A5 p2) v (.ref a.heap.objs.size)) (EP X f d Q) X.xe {a with heap:=a.heap.push {cls:=.type "slice",data:=.fields #[i,g,.none]}};exact tail_any (ops:=[.ref a.heap.objs.size,v]) M hT n (by with_unfolding_all rfl)
def DL(xs:List V)(lo hi:Option Int):List V:=(xs.drop (HT.sIx xs.length 0 lo)).take (HT.sIx xs.length xs.length hi-HT.sIx xs.length 0 lo)
theorem LI(xs:List V)(lo hi:Option Int):(DL xs lo hi).length<=xs.length:=by unfold DL;rw[aH,cW];omega
def Fk(K:W.Frag):V->Option Int->Option Int->Hp->VK->Prop:=λx lo hi H Q=>∃a b,x=.ref a/\SqT K H a b/\
 ¬(HT.sIx b.length 0 lo=0/\HT.sIx b.length b.length hi=b.length)/\∀p,H p=A5->Q (.ref p) (upd H p (.tup (DL b lo hi)))
theorem Se:SlR X (Fk X.K):=by
 intro B s w H x v C A lo hi y Q I n t l p h;obtain⟨a,f,rfl,m,hw,q⟩:=h;cases n;obtain⟨g,r,i,j⟩:=I.tuple m;have d:g.toArray.size=f.length:=by rw[au];exact r.length.symm
 refine⟨"tuple",_,PyProof.Rows.slot_tuple_getitem.lookup,i.typeIs,?_⟩;refine HT.SY i t l p (by rw[d];exact hw) ?_ (by rw[d];exact j);rw[d];refine⟨.ref s.heap.objs.size,_,I.laid (t':=s.toks) (o:=.tup (DL f lo hi)) (λb u q=>ac _ q) (ag _) ?_,rfl,q _ (I.hok.fresh (ag _))⟩;exact⟨aF (LI f lo hi) j,_,(r.drop (HT.sIx f.length 0 lo)).take (HT.sIx f.length f.length hi-HT.sIx f.length 0 lo),DJ.new _ _⟩
def LJ(K:W.Frag):R2:=λx y H Q=>∃a b f d,x=.ref a/\y=.ref b/\SqT K H a f/\SqT K H b d/\f≠[]/\f.length+d.length<=A7/\
 (d=[]->Q (.ref a) H)/\(d≠[]->∀p,H p=A5->Q (.ref p) (upd H p (.tup (f++d))))
theorem Av.nil_iff{xs:List V}{a:List A1}(r:Av xs a):a=[]↔xs=[]:=by
 cases r with
 |nil=>simp
 |cons _ _=>simp
theorem Sf:OpR X (Ah .Add) (LJ X.K):=by intro E s D H x y v u Q I j t h;obtain⟨a,b,p,l,rfl,rfl,n,g,i,f,B,r⟩:=h;cases j;cases t;obtain⟨A,r1,m,_⟩:=I.tuple n;obtain⟨d,r2,p2,_⟩:=I.tuple g;refine HT.SS m p2 (λz=>i (r1.nil_iff.mp z)) (λz=>⟨.ref a,H,I,rfl,B (r2.nil_iff.mp z)⟩) (λz=>?_) (by rw[<-r1.length,<-r2.length];exact f);refine⟨.ref s.heap.objs.size,_,I.laid (t':=s.toks) (o:=.tup (p++l)) (λb C q=>ac _ q) (ag _) ?_,rfl,r (λw=>z (r2.nil_iff.mpr w)) _ (I.hok.fresh (ag _))⟩;exact⟨by rw[aA];exact f,_,r1.append r2,DJ.new _ _⟩
end
def ixN(n:Nat)(i:Int):Option Nat:=if 0<=i then(if i<n then A0 i.toNat else A5)else if -(n:Int)<=i then A0 (i+n).toNat else A5
def atI{a:Type}(xs:List a)(i:Int):Option a:=(ixN xs.length i).bind λj=>xs[j]?
theorem LK{n:Nat}{i:Int}{j:Nat}(h:ixN n i=A0 j):seqIndex? i n=A0 j/\j<n/\-(n:Int)<=i/\i<n:=by
 unfold ixN at h;by_cases b:0<=i
 .rw[if_pos b]at h;by_cases a:i<n;.rw[if_pos a]at h;have e:i.toNat=j:=Option.some.inj h;exact⟨by rw[seqIndex_of b a,e],⋯,⋯,a⟩
  .rw[if_neg a]at h;cases h
 .rw[if_neg b]at h;by_cases a:-(n:Int)<=i;.rw[if_pos a]at h;have e:(i+n).toNat=j:=Option.some.inj h;exact⟨by rw[seqIndex_neg ⋯ a,e],⋯,a,⋯⟩
  .rw[if_neg a]at h;cases h
theorem IH{a:Type}{xs:List a}{i:Int}{v:a}(h:atI xs i=A0 v):∃j,seqIndex? i xs.length=A0 j/\xs[j]?=A0 v/\j<xs.length/\-(xs.length:Int)<=i/\i<xs.length:=by
 unfold atI at h;cases e:ixN xs.length i with
 |none=>rw[e]at h;cases h
 |some j=>rw[e]at h;obtain⟨g,f,b,d⟩:=LK e;exact⟨j,g,h,f,b,d⟩
theorem Ef{a:Type}{xs:List a}{j:Nat}{v:a}(h:xs[j]?=A0 v):atI xs (j:Int)=A0 v:=by
 have b:j<xs.length:=(aK.mp h).1;have e:ixN xs.length (j:Int)=A0 j:=by unfold ixN;rw[if_pos ⋯,if_pos ⋯];simp
 unfold atI;rw[e];exact h
theorem II{a:Type}(xs:List a)(v:a):atI (xs++[v]) (-1)=A0 v:=by
 have b:(xs++[v]).length=xs.length+1:=by simp
 have e:ixN (xs++[v]).length (-1)=A0 xs.length:=by unfold ixN;rw[b,if_neg (by decide),if_pos ⋯];congr 1;omega
 unfold atI;rw[e];show(xs++[v])[xs.length]?=A0 v;simp
def LL(b:A9):Prop:=∀o i,subscripted b A6 o i=operate [o,i] (getItem o i)
def IxR(X:Cx)(r:R2):Prop:=
 ∀(b a:A9)(d:List (A4×AS))(s:A3)(e:St)(H:Hp)(x y:V)(v u:A1)(Q:VK),Inv X d e H s->At x v->At y u->r x y H Q->
  subscripted a A6 v u=operate [v,u] (getItem v u)->A8 (AD X.prog X.w) X.A (subscriptTail b a v u) (EP X d e Q) X.xe s
def MtR(X:Cx)(id:String)(r:V->List V->Hp->VK->Prop):Prop:=
 ∀(d:List (A4×AS))(s:A3)(e:St)(H:Hp)(x:V)(b:List V)(v:A1)(a:List A1)(Q:VK),Inv X d e H s->At x v->Av b a->r x b H Q->
  A8 (AD X.prog X.w) X.A (call (.builtin id) (v::a)) (EP X d e Q) X.xe s
section
variable{X:Cx}{a b:A9}{ta tb:TE}{pos:Pos}
theorem IxR.or{r i:R2}(h:IxR X r)(h':IxR X i):IxR X (λx y H Q=>r x y H Q\/i x y H Q):=by
 intro d e l s f H x y v u Q I g j q m;rcases q with q|q;.exact h d e l s f H x y v u Q I g j q m
 .exact h' d e l s f H x y v u Q I g j q m
theorem Sg{r:R2}(l:IxR X r)(i:PE X a ta)(d:PE X b tb)(o:LL b):PE X (.Subscript a b pos) (tOp r ta tb):=by intro n s e H Q I h;exact Subscript_ (Hz i d I h λv u p x y j g f m q=>l a b n p e j x y v u Q g f m q (o _ _))
def CI(K:W.Frag):R2:=λx y H Q=>∃p d i v,x=.ref p/\y=.int i/\SqL K H p d/\atI d i=A0 v/\Q v H
def CJ(K:W.Frag):R2:=λx y H Q=>∃p d i v,x=.ref p/\y=.int i/\SqT K H p d/\atI d i=A0 v/\Q v H
def LM:R2:=λx y H Q=>∃z i c,x=.str z/\y=.int i/\z.length<=A7/\atI z.cps.toList i=A0 c/\Q (.str ⟨#[c]⟩) H
theorem Sh:IxR X (CI X.K):=by
 intro g l D s B H x y v u Q I J S h E;obtain⟨p,U,i,z,rfl,rfl,O,L,q⟩:=h;cases J;obtain⟨t,rfl⟩:=S;obtain⟨n,r,f,Z⟩:=I.list O;obtain⟨j,e,M,T,P,G⟩:=IH L;obtain⟨w,A,o⟩:=r.get M;have N:=r.length;have Y:=E1;have d:EP X D B Q w s:=⟨z,H,I,o,q⟩;by_cases C:0<=i
 .have m:i.toNat=j:=by rw[seqIndex_of C G]at e;exact Option.some.inj e
  exact item_listR f.isList C ⋯ (by rw[m];simpa using A) d E
 .have m:(i+(n.toArray.size:Int)).toNat=j:=by rw[seqIndex_neg ⋯ P]at e;rw[au,<-N];exact Option.some.inj e
  exact subscriptTail_builtinR (x:=w) f.isList.typeIs slot_list_getitem.lookup
   (wpAny_getItem_list_neg (Q:=λr R=>r=w/\EP X D B Q r R) f.isList ⋯ (by rw[au]<;>omega) ⋯ (by rw[m];simpa using A) ⟨rfl,d⟩) E
theorem Si:IxR X (CJ X.K):=by
 intro d e n s m H x y v u Q I A L h N;obtain⟨p,S,i,z,rfl,rfl,G,B,q⟩:=h;cases A;obtain⟨t,rfl⟩:=L;obtain⟨M,r,l,U⟩:=I.tuple G;obtain⟨j,D,C,P,R,O⟩:=IH B;obtain⟨w,o,g⟩:=r.get C;have E:=r.length;have T:=E1;have f:EP X n m Q w s:=⟨z,H,I,g,q⟩;exact subscriptTail_builtinR (x:=w) l.typeIs slot_tuple_getitem.lookup
  (getItem_tuple (j:=j) (Q:=λr J=>r=w/\EP X n m Q r J) l ⋯ ⋯ (by rw[au,<-E];exact D) (by simpa using o) ⟨rfl,f⟩) N
theorem Sj:IxR X LM:=by
 intro d e G s C H x y v u Q I l A h B;obtain⟨z,i,c,rfl,rfl,K,m,q⟩:=h;obtain⟨t,rfl⟩:=l;obtain⟨E,rfl⟩:=A;obtain⟨j,f,n,D,w,g⟩:=IH m;have r:z.cps.toList.length=z.length:=by simp[AM.length]
 rw[r]at f w g;have J:=E1;exact tail_any (typeIs_str s z t) slot_str_getitem.lookup (getItem_str (c:=c) (by have o:decide (i< -(2^63:Int))=A6:=decide_eq_false ⋯;have p:decide (i≥2^63)=A6:=decide_eq_false ⋯;rw[o,p,Bool.or_false]) (by rw[f];simpa using n) ⟨.str ⟨#[c]⟩,H,I.tok _,⟨_,rfl⟩,q⟩) B
def rIx(K:W.Frag):R2:=λx y H Q=>CI K x y H Q\/CJ K x y H Q\/LM x y H Q
theorem Sk:IxR X (rIx X.K):=Sh.or (Si.or Sj)
theorem Sl(d:List A1)(n j:Nat)(u:A1):AS.mapSeq (·.setIfInBounds j u) {cls:=.type "list",data:=.seq d.toArray n}={cls:=.type "list",data:=.seq (d.set j u).toArray n}:=by simp[AS.mapSeq]
theorem Inv.lst{f:List (A4×AS)}{σ:St}{H:Hp}{s:A3}{p:A4}{xs:List V}(I:Inv X f σ H s)(h:H p=A0 (.lst xs)):
  ∃(d:List A1)(n:Nat),Av xs d/\s.heap.get? p=A0 {cls:=.type "list",data:=.seq d.toArray n}/\xs.length<=A7:=by obtain⟨z,d,n,r,e⟩:=I.hok p _ h;exact⟨d,n,r,e,z⟩
theorem Inv.lstUpd{l:List (A4×AS)}{σ:St}{H:Hp}{s:A3}{p:A4}{xs g:List V}{d its':List A1}{n i:Nat}{f:AS->AS}(I:Inv X l σ H s)(h:H p=A0 (.lst xs))
  (o:s.heap.get? p=A0 {cls:=.type "list",data:=.seq d.toArray n})(j:f {cls:=.type "list",data:=.seq d.toArray n}={cls:=.type "list",data:=.seq its'.toArray i})(r:Av g its')(hz:g.length<=A7)(t:Nat):
  Inv X l σ (upd H p (.lst g)) {s with heap:=s.heap.update p f,toks:=t}:=by
 have e:(s.heap.update p f).get? p=A0 {cls:=.type "list",data:=.seq its'.toArray i}:=by rw[aM f o (by rw[j]<;>rfl),j]
 refine I.write (x:=p) (e:=p) (by rw[h];trivial) (.inl rfl) (λb u m q=>(cZ _ _ (Ne.symm m)).trans q) ⟨_,e⟩ ?_;exact⟨hz,its',i,r,e⟩
def D9:V->V->V->Hp->(Hp->Prop)->Prop:=λo i v H Q=>∃p d k j,o=.ref p/\i=.int k/\H p=A0 (.lst d)/\ixN d.length k=A0 j/\Q (upd H p (.lst (d.set j v)))
theorem Sm:L0 X D9:=by
 intro K s B H o i v N M u Q I D C L h;obtain⟨p,J,k,j,rfl,rfl,y,G,q⟩:=h;cases D;obtain⟨t,rfl⟩:=C;obtain⟨d,n,r,g,E⟩:=I.lst y;obtain⟨e,P,w,x⟩:=LK G;have l:=r.length;have O:=E1;have m:Inv X K B (upd H p (.lst (J.set j v))) {s with heap:=s.heap.update p (AS.mapSeq (·.setIfInBounds j u))}:=
  I.lstUpd y g (Sl d n j u) (r.set L j) (by rw[List.length_set];exact E) s.toks;by_cases A:0<=k
 .have f:k.toNat=j:=by rw[seqIndex_of A x]at e;exact Option.some.inj e
  exact W.ki_setAt g A ⋯ (by rw[au,<-l];exact x) (by rw[f];exact⟨_,m,q⟩)
 .have f:(k+(d.toArray.size:Int)).toNat=j:=by rw[seqIndex_neg ⋯ w]at e;rw[au,<-l];exact Option.some.inj e
  exact W.ki_setBack g ⋯ (by rw[au,<-l];exact w) ⋯ (by rw[f];exact⟨_,m,q⟩)
theorem Sn(d hi:Option Int)(n:Nat):(sliceBounds d hi A5 n).1=((HT.sIx n 0 d:Nat):Int)/\(sliceBounds d hi A5 n).2.1=((HT.sIx n n hi:Nat):Int)/\(sliceBounds d hi A5 n).2.2=1:=by
 refine⟨?_,?_,rfl⟩
 .cases d with
  |none=>simp[sliceBounds,HT.sIx]
  |some i=>
   simp only[sliceBounds,HT.sIx,Option.getD_none,show(1:Int)>0 by decide,if_true];by_cases h:i<0;.simp only[h,if_true]<;>omega
   .simp only[h,if_false]<;>omega
 .cases hi with
  |none=>simp[sliceBounds,HT.sIx]
  |some i=>
   simp only[sliceBounds,HT.sIx,Option.getD_none,show(1:Int)>0 by decide,if_true];by_cases h:i<0;.simp only[h,if_true]<;>omega
   .simp only[h,if_false]<;>omega
theorem Sr(d:List A1)(e hi:Option Int):slicePick d.toArray e hi A5=((d.drop (HT.sIx d.length 0 e)).take (HT.sIx d.length d.length hi-HT.sIx d.length 0 e)).toArray:=by obtain⟨g,h,f⟩:=Sn e hi d.toArray.size;unfold slicePick;rw[g,h,f];simp only[sliceRange_one,pick_run,au]<;>rfl
def Fl(K:W.Frag):V->Option Int->Option Int->Hp->VK->Prop:=λx e f H Q=>∃a d,x=.ref a/\SqL K H a d/\∀p,H p=A5->Q (.ref p) (upd H p (.lst (DL d e f)))
theorem Ss:SlR X (Fl X.K):=by intro C s y H x v D B f g A Q I m t j n h;obtain⟨a,d,rfl,l,q⟩:=h;cases m;obtain⟨p,r,i,u⟩:=I.list l;have e:=r.length;refine⟨"list",_,slot_list_getitem.lookup,i.isList.typeIs,?_⟩;refine wpAny_getItem_list_slice i.isList t j n .none (by simp) ?_ (by rw[au]<;>omega);rw[Sr,<-e];refine⟨.ref s.heap.objs.size,_,I.laid (t':=s.toks) (o:=.lst (DL d f g)) (λb w q=>ac _ q) (ag _) ?_,rfl,q _ (I.hok.fresh (ag _))⟩;exact⟨aF (LI d f g) u,_,0,(r.drop (HT.sIx d.length 0 f)).take (HT.sIx d.length d.length g-HT.sIx d.length 0 f),ai _ rfl⟩
def DM:V->Bool
 | .non=>A2
 | .bl _=>A2
 | .int _=>A2
 | .str _=>A2
 |_=>A6
def eqV:V->V->Bool
 | .non,.non=>A2
 | .bl a,.bl b=>a==b
 | .bl a,.int b=>(if a then 1 else 0)==b
 | .int a,.bl b=>a==(if b then 1 else 0)
 | .int a,.int b=>a==b
 | .str a,.str b=>a==b
 |_,_=>A6
theorem Su{A:AL}{s:A3}{y x:V}{u v:A1}(f:At y u)(d:At x v)(h:DM y=A2)(g:DM x=A2):AW A s u v (eqV y x):=by
 cases y with
 |non=>
  cases f;cases x with
  |non=>cases d;exact AW.same _
  |bl b=>cases d;exact AW.none_bool b
  |int b=>obtain⟨t,rfl⟩:=d;exact AW.none_int b t
  |str b=>obtain⟨t,rfl⟩:=d;exact AW.none_str b t
  |_=>exact absurd (show A6=A2 from g) al
 |bl a=>
  cases f;cases x with
  |non=>cases d;exact AW.bool_none a
  |bl b=>cases d;exact AW.bool_bool a b
  |int b=>obtain⟨t,rfl⟩:=d;exact AW.bool_int a b t
  |str b=>obtain⟨t,rfl⟩:=d;exact AW.bool_str a b t
  |_=>exact absurd (show A6=A2 from g) al
 |int a=>
  obtain⟨e,rfl⟩:=f;cases x with
  |non=>cases d;exact AW.int_none a e
  |bl b=>cases d;exact AW.int_bool a e b
  |int b=>obtain⟨t,rfl⟩:=d;exact AW.int_int a e b t
  |str b=>obtain⟨t,rfl⟩:=d;exact AW.int_str a e b t
  |_=>exact absurd (show A6=A2 from g) al
 |str a=>
  obtain⟨e,rfl⟩:=f;cases x with
  |non=>cases d;exact AW.str_none a e
  |bl b=>cases d;exact AW.str_bool a e b
  |int b=>obtain⟨t,rfl⟩:=d;exact AW.str_int a e b t
  |str b=>obtain⟨t,rfl⟩:=d;exact AW.str_str a e b t
  |_=>exact absurd (show A6=A2 from g) al
 |_=>exact absurd (show A6=A2 from h) al
def eqU(x:V)(u:A1):Bool:=match u with
 | .none=>eqV .non x
 | .bool b=>eqV (.bl b) x
 | .int i _=>eqV (.int i) x
 | .str z _=>eqV (.str z) x
 |_=>A6
theorem LN{x y:V}{u:A1}(r:At y u)(f:DM y=A2):eqU x u=eqV y x:=by
 cases y with
 |non=>cases r;rfl
 |bl b=>cases r;rfl
 |int i=>obtain⟨t,rfl⟩:=r;rfl
 |str z=>obtain⟨t,rfl⟩:=r;rfl
 |_=>exact absurd (show A6=A2 from f) al
theorem Eg{x:V}:∀{d:List V}{e:List A1},Av d e->d.all DM=A2->e.any (eqU x)=d.any λy=>eqV y x
 |_,_,.nil,_=>rfl
 |y::d,u::e,.cons r t,f=>by rw[List.all_cons,ah]at f;rw[dj,dj,LN r f.1,Eg t f.2]
theorem Eh{A:AL}{s:A3}{x:V}{v:A1}(h:At x v)(g:DM x=A2):∀{e:List V}{d:List A1},Av e d->e.all DM=A2->∀u∈d,AW A s u v (eqU x u)
 |_,_,.nil,_=>λu hu=>by cases hu
 |y::e,u::d,.cons r t,f=>λi hu=>by
  rw[List.all_cons,ah]at f;rcases ao.mp hu with rfl|hu;.rw[LN r f.1];exact Su r h f.1 g
  .exact Eh h g t f.2 i hu
def inV(x:V)(xs:List V):Bool:=xs.any λy=>eqV y x
def rIn(K:W.Frag)(neg:Bool):R2:=λx y H Q=>∃p d,y=.ref p/\(SqL K H p d\/SqT K H p d)/\DM x=A2/\d.all DM=A2/\Q (.bl (if neg then !inV x d else inV x d)) H
theorem Sw:OpR X (AU .In) (rIn X.K A6):=by
 intro t s n H x y v u Q I j l h;obtain⟨p,o,rfl,e,i,f,q⟩:=h;cases l;rcases e with e|e;.obtain⟨d,r,g,m⟩:=I.list e;refine SeqAt.in_listAt (eqU x) g.isList (λw hw=>Eh j i r f w (by simpa using hw)) ⟨.bl _,H,I,rfl,?_⟩;rw[show d.toArray.any (eqU x)=d.any (eqU x)by simp,Eg r f];exact q
 .obtain⟨d,r,g,m⟩:=I.tuple e;refine SeqAt.in_tupleAt (eqU x) g (λw hw=>Eh j i r f w (by simpa using hw)) ⟨.bl _,H,I,rfl,?_⟩;rw[show d.toArray.any (eqU x)=d.any (eqU x)by simp,Eg r f];exact q
theorem Sy:OpR X (AU .NotIn) (rIn X.K A2):=by
 intro t s n H x y v u Q I j l h;obtain⟨p,o,rfl,e,i,f,q⟩:=h;cases l;rcases e with e|e;.obtain⟨d,r,g,m⟩:=I.list e;refine SeqAt.notIn_listAt (eqU x) g.isList (λw hw=>Eh j i r f w (by simpa using hw)) ⟨.bl _,H,I,rfl,?_⟩;rw[show d.toArray.any (eqU x)=d.any (eqU x)by simp,Eg r f];exact q
 .obtain⟨d,r,g,m⟩:=I.tuple e;refine SeqAt.notIn_tupleAt (eqU x) g (λw hw=>Eh j i r f w (by simpa using hw)) ⟨.bl _,H,I,rfl,?_⟩;rw[show d.toArray.any (eqU x)=d.any (eqU x)by simp,Eg r f];exact q
theorem B7.or{f:A1}{r e:List V->Hp->VK->Prop}(h:B7 X f r)(h':B7 X f e):B7 X f (λd H Q=>r d H Q\/e d H Q):=by
 intro l s i H d g Q I j q;rcases q with q|q;.exact h l s i H d g Q I j q
 .exact h' l s i H d g Q I j q
theorem Sz:B7 X (.type "list") (λE H Q=>∃p j,E=[.ref p]/\(SqL X.K H p j\/SqT X.K H p j)/\∀l,H l=A5->Q (.ref l) (upd H l (.lst j))):=by
 intro L s G H E M Q I r h;obtain⟨p,j,rfl,v,q⟩:=h;obtain⟨u,rfl,J⟩:=C6 r;cases J;have t:∀(d:List A1),Av j d->j.length<=A7->∀(f:AJ)(g:Nat),(∀b D,s.heap.get? b=A0 D->f.get? b=A0 D)->
   f.get? s.heap.objs.size=A0 {cls:=.type "list",dict:=A5,data:=.seq d.toArray g,slots:=#[]}->EP X L G Q (.ref s.heap.objs.size) {s with heap:=f}:=λd i x f g kp e=>
  ⟨.ref s.heap.objs.size,_,I.laid (t':=s.toks) kp (ag _) (show B0 X.prog X.w _ f _ (.lst j)from⟨x,d,g,i,e⟩),rfl,q _ (I.hok.fresh (ag _))⟩;rcases v with v|v;.obtain⟨d,i,y,x⟩:=I.list v;have m:=i.length;obtain⟨o,B,C,n,A⟩:=y.isList;exact call_list_seq p (.inl rfl) B C A (λf g kp e=>t d i x f g kp e) (by simp only[au]<;>omega)
 .obtain⟨d,i,y,x⟩:=I.tuple v;have m:=i.length;obtain⟨o,B,C,n,A⟩:=y;exact call_list_seq p (.inr rfl) B C A (λf g kp e=>t d i x f g kp e) (by simp only[au]<;>omega)
theorem S_:B7 X (.type "tuple") (λv H Q=>∃p f,v=[.ref p]/\((SqL X.K H p f/\∀l,H l=A5->Q (.ref l) (upd H l (.tup f)))\/(SqT X.K H p f/\Q (.ref p) H))):=by
 intro y s n H v D Q I r h;obtain⟨p,f,rfl,h⟩:=h;obtain⟨u,rfl,B⟩:=C6 r;cases B;rcases h with⟨m,q⟩|⟨m,q⟩
 .obtain⟨d,j,i,A⟩:=I.list m;have t:=j.length;refine call_tuple_list i.isList (λg kp=>?_) (by simp only[au]<;>omega);have x:Inv X y n H {s with heap:=g}:=I.kept (t':=s.toks) kp;have C:Inv X y n (upd H g.objs.size (.tup f)) {s with heap:=g.push {cls:=.type "tuple",data:=.seq d.toArray}}:=
   x.laid (t':=s.toks) (λb o e=>ac _ e) (ag _) (show B0 X.prog X.w _ _ _ (.tup f)from⟨A,d,j,DJ.new _ _⟩);exact⟨.ref g.objs.size,_,C,rfl,q _ (x.hok.fresh (ag _))⟩
 .obtain⟨d,j,i,A⟩:=I.tuple m;exact call_tuple_same i ⟨.ref p,H,I,rfl,q⟩
def tyV(K:W.Frag)(T:String)(x:V)(H:Hp):Prop:=match x with
 | .str _=>T="str"
 | .int _=>T="int"
 | .ref p=>(T="list"/\∃e,SqL K H p e)\/(T="tuple"/\((∃o,K.lookup p=A0 o/\o.cls=.type "tuple"/\o.dict=A5)\/∃e,H p=A0 (.tup e)))\/
   (T="dict"/\((∃d,H p=A0 (.dK d))\/∃d,H p=A0 (.dT d)))\/(T="set"/\∃S n,H p=A0 (.set S n))
 |_=>False
theorem LO{A:List (A4×AS)}{σ:St}{H:Hp}{s:A3}{T:String}{x:V}{v:A1}(I:Inv X A σ H s)(r:At x v)(ty:tyV X.K T x H):
  s.TypeIs v T/\∀a,v=.ref a->∃m,s.heap.get? a=A0 m/\m.dict=A5:=by
 cases x with
 |str z=>obtain⟨t,rfl⟩:=r;cases(show T="str"from ty);exact⟨typeIs_str s z t,λ_ e=>nomatch e⟩
 |int i=>obtain⟨t,rfl⟩:=r;cases(show T="int"from ty);exact⟨typeIs_int s i t,λ_ e=>nomatch e⟩
 |ref p=>
  cases r;rcases ty with⟨rfl,w,q⟩|⟨rfl,⟨o,d,u,g⟩|⟨w,d⟩⟩|⟨rfl,d⟩|⟨rfl,S,n,d⟩;.obtain⟨y,_,l,_⟩:=I.list q;refine⟨l.isList.typeIs,λa e=>?_⟩;cases e;obtain⟨o,n,e,c,g,_⟩:=l;exact⟨o,e,g⟩
  .refine⟨⟨o,I.kIn p o d,u⟩,λa e=>?_⟩;cases e;exact⟨o,I.kIn _ o d,g⟩
  .obtain⟨_,_,_,o,e,c,_,g⟩:=I.hok p _ d;refine⟨⟨o,e,c⟩,λa h=>?_⟩;cases h;exact⟨o,e,g⟩
  .have z:∃o,s.heap.get? p=A0 o/\o.ExactDict:=by
    rcases d with⟨j,d⟩|⟨j,d⟩;.obtain⟨_,_,_,_,o,_,_,e,f,_⟩:=I.hok p _ d;exact⟨o,e,f⟩
    .obtain⟨_,_,_,_,o,_,_,e,f,_⟩:=I.hok p _ d;exact⟨o,e,f⟩
   obtain⟨o,e,f⟩:=z;refine⟨⟨o,e,f.1⟩,λa h=>?_⟩;cases h;exact⟨o,e,f.2.1⟩
  .obtain⟨o,_,_,_,e,f,_⟩:=I.hok p _ d;refine⟨⟨o,e,f.1⟩,λa h=>?_⟩;cases h;exact⟨o,e,f.2.1⟩
 |_=>exact False.elim ty
def T0(K:W.Frag)(T:String)(r:V->List V->Hp->VK->Prop)(e:TE):TE:=λf H Q=>e f H λx d=>tyV K T x d/\r x [] d Q
def tBM(K:W.Frag)(T:String)(r:V->List V->Hp->VK->Prop)(f:TE)(t:TA):TE:=λe H Q=>f e H λx d=>tyV K T x d/\t e d λg h=>r x g h Q
variable{o e:A9}{es:List A9}{to:TE}{t:TA}{name:AM}{apos cpos:Pos}{T id:String}{r:V->List V->Hp->VK->Prop}
theorem T1(u:PlainAttrs T)(g:Slot T name id)(i:typeOf (.builtin id)=pure (.type "method_descriptor"))(n:MtR X id r)(p:PE X o to)
  (f:attributeBase o name X.env (Ac o X.env)=Ac o X.env:=by rfl)(d:(apos.endLine==cpos.line)=A2:=by rfl):PE X (.Call (.Attribute o name apos) [] [] cpos) (T0 X.K T r to):=by intro m s j H Q I h;refine wpAny_Call_method0_late f d (thn (p m s j H _ I h) λv w⟨x,y,l,r1,ty,A⟩=>?_);obtain⟨q,B⟩:=LO l r1 ty;exact⟨T,id,u,g,i,q,B,Calls.callWith_builtin rfl (PySem.evalArgs_none (n m w j y x [] v [] Q l r1 .nil A))⟩
theorem T2(G:PlainAttrs T)(i:Slot T name id)(m:typeOf (.builtin id)=pure (.type "method_descriptor"))(w:MtR X id r)(y:PE X o to)(D:PA X (e::es) t)
  (g:attributeBase o name X.env (Ac o X.env)=Ac o X.env:=by rfl)
  (j:((backTo cpos (AZ (e::es) X.env)).all (λx=>!x.1)&&(backToKw cpos (keywordEach [] X.env)).all (λx=>x.1.isSome)
   &&decide ((e::es).length+([]:List Keyword).length+(if([]:List Keyword).isEmpty then 0 else 1)<30))=A2:=by rfl)
  (f:(apos.endLine==cpos.line)=A2:=by rfl)(P:AZ (e::es) X.env=(A6,Ac e X.env)::AZ es X.env:=by rfl)(d:(backTo cpos (AZ es X.env)).any (·.1)=A6:=by rfl):
  PE X (.Call (.Attribute o name apos) (e::es) [] cpos) (tBM X.K T r to t):=by intro n s l H Q I h;refine wpAny_Call_method_late g j f rfl (thn (y n s l H _ I h) λv L⟨x,M,q,r1,ty,O⟩=>?_);obtain⟨C,A⟩:=LO q r1 ty;refine⟨T,id,G,i,m,C,A,?_⟩;have p:=D cpos n L l M _ q O;rw[P]at p⊢;refine Calls.callWith_builtin (by show(A6||(backTo cpos (AZ es X.env)).any (·.1))=A6;rw[d]<;>rfl) (Calls.evalArgs_plain ?_);exact thn p λu R⟨E,J,B,r2,N⟩=>w n R l J x E v u Q B r1 r2 N
end
def MtM(X:Cx)(id:String)(r:V->List V->Hp->VK->Prop):Prop:=
 ∀(d:List (A4×AS))(s:A3)(e:St)(H:Hp)(x:V)(b:List V)(v:A1)(a:List A1)(Q:VK),Inv X d e H s->At x v->Av b a->r x b H Q->
  A8 (AD X.prog X.w) X.A (call (.builtin id) (v::a)) (EP X d e Q) X.xe s
theorem Av.one:∀{x:V}{a:List A1},Av [x] a->∃u,a=[u]/\At x u
 |_,_,.cons r .nil=>⟨_,rfl,r⟩
theorem Av.zero:∀{a:List A1},Av [] a->a=[]
 |_,.nil=>rfl
theorem Av.rep{xs:List V}{a:List A1}(h:Av xs a):∀k:Nat,Av (aL k xs).flatten (aL k a).flatten
 |0=>.nil
 |k+1=>by rw[cg,cg,dl,dl];exact Av.append h (Av.rep h k)
theorem LP(b:List A1):∀(k:Nat)(a:List A1),
  List.foldl (λd f=>d++f) a.toArray (aL k b.toArray)=(a++(aL k b).flatten).toArray
 |0,a=>by simp
 |k+1,a=>by
  have e:a.toArray++b.toArray=(a++b).toArray:=by simp
  have g:(a++b)++(aL k b).flatten=a++(aL (k+1) b).flatten:=by rw[cg,dl,aQ]
  rw[<-g,<-LP b k (a++b),<-e,cg,List.foldl_cons]
section
variable{X:Cx}{p_:List (A4×AS)}{σ:St}{H:Hp}{s:A3}{l b:A4}{xs ys zs:List V}
theorem Inv.lset{a its':List A1}{n:Nat}{f:Array A1->Array A1}{t':Nat}(I:Inv X p_ σ H s)(h:H l=A0 (.lst xs))
  (e:s.heap.get? l=A0 {cls:=.type "list",data:=.seq a.toArray n})(i:f a.toArray=its'.toArray)(g:Av ys its')(hz:ys.length<=A7):
  Inv X p_ σ (upd H l (.lst ys)) {s with heap:=s.heap.update l (AS.mapSeq f),toks:=t'}:=by have q:=PySem.IsL.update e f;rw[i]at q;refine I.write (x:=l) (e:=l) (by rw[h];exact trivial) (.inl rfl) (λj u d hu=>(cZ s.heap (AS.mapSeq f) (Ne.symm d)).trans hu) ⟨_,q⟩ ?_;exact⟨hz,its',_,g,q⟩
theorem Inv.lnew{a:List A1}{t':Nat}(I:Inv X p_ σ H s)(d:Av ys a)(hz:ys.length<=A7):
  Inv X p_ σ (upd H s.heap.objs.size (.lst ys)) {s with heap:=s.heap.push {cls:=.type "list",data:=.seq a.toArray},toks:=t'}:=
 I.laid (λ_ _ q=>ac _ q) (ag _) ⟨hz,a,0,d,ai _ rfl⟩
theorem Inv.fresh(I:Inv X p_ σ H s):H s.heap.objs.size=A5:=I.hok.fresh (ag _)
theorem Inv.lstM(I:Inv X p_ σ H s)(d:H l=A0 (.lst xs)):xs.length<=A7/\∃(a:List A1)(n:Nat),Av xs a/\xs.length=a.length/\s.heap.get? l=A0 {cls:=.type "list",data:=.seq a.toArray n}:=by obtain⟨z,a,n,r,e⟩:=I.hok l _ d;exact⟨z,a,n,r,r.length,e⟩
theorem T3{n:Nat}(h:n<=A7):AB.List.listTooLong n=A6:=by unfold AB.List.listTooLong;exact decide_eq_false ⋯
end
section
variable{X:Cx}
def LQ:V->List V->Hp->VK->Prop:=λx b H Q=>∃l a y,x=.ref l/\b=[y]/\H l=A0 (.lst a)/\a.length<A7/\Q .non (upd H l (.lst (a++[y])))
theorem T4:MtM X "list.append" LQ:=by intro p s j H x t v i Q I f g h;obtain⟨l,o,y,rfl,rfl,b,w,q⟩:=h;cases f;obtain⟨u,rfl,d⟩:=g.one;obtain⟨z,a,n,r,m,e⟩:=I.lstM b;refine call_meets F.slot_list_append ⟨_,e,rfl⟩ F.entry_list_append (F.args_list_append_2 _ _) (PySem.list_append l a.toArray n u (by rw[au];omega)) ⟨e,?_⟩;refine⟨.non,_,I.lset (its':=a++[u]) b e (by simp) (r.append (.cons d .nil)) ?_,rfl,q⟩;rw[aA,bU];omega
def LR:R2:=λx y H Q=>∃l b a d,x=.ref l/\y=.ref b/\H l=A0 (.lst a)/\H b=A0 (.lst d)/\a.length+d.length<=A7/\∀p,H p=A5->Q (.ref p) (upd H p (.lst (a++d)))
theorem T5:OpR X (Ah .Add) LR:=by
 intro C s w H x y v u Q I f o h;obtain⟨l,b,B,D,rfl,rfl,j,i,G,q⟩:=h;cases f;cases o;obtain⟨z,d,n,r,A,e⟩:=I.lstM j;obtain⟨E,a,t,r2,m,g⟩:=I.lstM i;refine PySem.P.add_list e g ?_ (by rw[au,au];omega);have p:d.toArray++a.toArray=(d++a).toArray:=by simp
 rw[p];exact⟨.ref _,_,I.lnew (t':=s.toks) (r.append r2) (by rw[aA];omega),rfl,q _ I.fresh⟩
def LS:R2:=λx y H Q=>∃l k a,x=.ref l/\y=.int k/\H l=A0 (.lst a)/\-(2^63)<=k/\k<2^63/\a.length*k.toNat<=A7/\
 ∀p,H p=A5->Q (.ref p) (upd H p (.lst (aL k.toNat a).flatten))
theorem T6{b:Type}(xs:List b)(k:Nat):(aL k xs).flatten.length=k*xs.length:=by
 induction k with
 |zero=>simp
 |succ k a=>rw[cg,dl,aA,a,Nat.succ_mul,Nat.add_comm]
theorem T7:OpR X (Ah .Mult) LS:=by
 intro O s L H x y v u Q I A J h;obtain⟨l,k,N,rfl,rfl,E,C,K,w,q⟩:=h;cases A;obtain⟨t,rfl⟩:=J;obtain⟨z,b,n,r,D,e⟩:=I.lstM E;have f:b.toArray.size*k.toNat<=A7:=by rw[au,<-D];exact w
 have g:¬b.toArray.size*k.toNat>(2^63-1)/8:=by
  have:(A7:Nat)<=(2^63-1)/8:=by decide
  omega
 have i:¬(!AB.List.listFitsIndex k)=A2:=by rw[fitsIndex_both C K];exact al
 have d:¬AB.List.listTooLong (b.toArray.size*k.toNat)=A2:=by rw[T3 f];exact al
 have j:List.foldl (λo p=>o++p) #[] (aL (if b.toArray.isEmpty=A2 then 0 else k.toNat) b.toArray)=(aL k.toNat b).flatten.toArray:=by
  have B:∀m:Nat,List.foldl (λo p=>o++p) #[] (aL m b.toArray)=(aL m b).flatten.toArray:=λm=>by have:=LP b m [];rw[df]at this;exact this
  rw[B];cases b with
  |nil=>simp
  |cons a M=>rw[if_neg (by simp)]
 refine wpAny_binaryOp_repeat_ref (T:="list") (U:="int") (by decide) ⟨_,e,rfl⟩ (λG=>typeIs_int G k t) noFill_list_mul F.fills_int_mul F.slot_int_rmul repeat_list F.slot_int_index.lookup
  (call_meets F.slot_int_rmul (typeIs_int s k t) F.entry_int_rmul (F.args_int_rmul_2 _ _) (int___rmul___int_list k t l b.toArray n)
   ⟨e,rfl,⟨_,e,rfl⟩,call_meets F.slot_list_mul ⟨_,e,rfl⟩ F.entry_list_mul (F.args_list_mul_2 _ _) (AutoListH.list___mul___list_int_3 l b.toArray n k t i g d) ⟨e,?_⟩⟩);rw[j];exact⟨.ref _,_,I.lnew (t':=s.toks) (r.rep k.toNat) (by rw[T6,Nat.mul_comm];exact w),rfl,q _ I.fresh⟩
end
end L2
namespace Att
open PySem PySem.W PySem.Calls PyProof.Rows
theorem T8{P:Params}{h:AJ}:∀(d:List Int)(e:List A1),WellAll P h e (d.map WData.int)->IntsAre e d:=by
 intro d;induction d with
 |nil=>intro e w;rw[List.map_nil]at w;cases w;exact .nil
 |cons n d f=>
  intro e w;rw[aX]at w;cases w with
  |cons a b=>cases a;exact .cons _ _ (f _ b)
theorem T9{l:OpenLaw}{n:Nat}(A:l.most=A0 n){P:Params}{h:AJ}{args:List WData}{e:List A1}
  (f:l.row.toRowW.claim.pre args=A2)(p:WellAll P h e args):
  ∃a t b,e=[A1.ref a]/\args=[WData.list (b.map WData.int)]/\h.get? a=A0 {cls:=.type "list",data:=.seq t.toArray}/\IntsAre t b/\b.length<=n:=by
 have o:WShape.hasAll [] args [.list .int]=A2:=(pre_splitW f).1;have s:l.pre.holds [] {args:=args}=A2:=(pre_splitW f).2;obtain⟨d,r,rfl,w,B⟩:=hasAllW_cons o;obtain rfl:=hasAllW_nil B;obtain⟨D,rfl,x⟩:=hasW_list w;obtain⟨b,rfl⟩:=items_int x;have g:b.length<=n:=by
  unfold OpenLaw.pre at s;have m:(WTm.not (.lt (.lit (.int (n:Int))) (.len (.arg 0)))).holds [] {args:=[.list (b.map .int)]}=A2:=by have m:=(holds_andW s).1;rw[A]at m;exact m
  have j:=condW_of m (w_not (w_lt w_lit (w_len_list (w_arg rfl))));rw[af]at j;refine Nat.le_of_not_lt λq=>?_;have u:(n:Int)<((b.length:Nat):Int):=by omega
  first
   |(rw[decide_eq_true u]at j;exact absurd j (by decide))
   |(simp at j;omega)
 cases p with
 |cons y C=>
  cases C;cases y with
  |list v i=>exact⟨_,_,b,rfl,rfl,v,T8 b _ i,g⟩
theorem TB(l:OpenLaw)(args:List WData):l.row.toRowW.claim.post args (.bool A2) args=A2:=
 postW_of (r:=l.row.toRowW) (X:=(A2==A2))
  (show WShape.has [] (.bool A2) .bool=A2 by first|rfl|decide|simp[WShape.has,WShape.arms,WShape.armsAll])
  (show(WTm.eq .res (.lit (.bool A2))).value [] {args:=args,res:=A0 (.bool A2),after:=args}=A0 (.bool (A2==A2))from w_eq_bool (w_res rfl) w_lit) rfl
theorem TC{l:OpenLaw}{n:Nat}{q:AA}{e:List AM}{E:(AM->Option A1)->AJ->Prop}{YP:AK->AJ->Prop}{d:DefRec}
  (X:l.most=A0 n)(A:d.params.defaults=[])
  (call:∀(w:AK)(g b:A3)(mg y:AM->Option A1)(t:A4)(o:AS)(B u h:A1)(a:A4)(vs:List A1)(ns:List Int),
   Ground q e [] E w g mg y b.heap->YP w b.heap->
   b.heap.get? t=A0 o->o.data=.func (docDef d.name d.params d.body d.scope B u h)->b.heap.CodeRec u d.name->mg d.name=A0 (.ref t)->
   b.heap.get? a=A0 {cls:=.type "list",data:=.seq vs.toArray}->IntsAre vs ns->ns.length<=n->b.gens=#[]->
   codeAny (AD l.prog w) callerA (.call (.ref t) ⟨[.ref a],[]⟩) (λr v=>r=.ok (.ret (.bool A2))/\OldK b.heap v.heap/\v.os=b.os/\AllBare v.gens) b):
  WalkO q e E YP l.row.toRowW d [] (λf vs=>PySem.call f vs):=by intro w g b mg y G Y t o B u h U kV O M C H x L I J as m K T D P;obtain rfl:U=.none:=Dflts.none H A;obtain rfl:kV=.none:=Dflts.noKw H;obtain⟨a,vs,ns,rfl,rfl,p,i,j⟩:=T9 X m D;refine enter_call (Ag (call w g b mg y t o B u h a vs ns G Y O (fd_plain M) C x p i j L) λr v R=>?_);obtain⟨rfl,Z,Q,S⟩:=R;exact⟨.inl ⟨.bool A2,.bool A2,[],rfl,λ_=>rfl,.bool A2,TB l _,λ_=>⟨List.Pairwise.nil,λ_ N=>(nomatch N)⟩⟩,Z,Q,S⟩
end Att
namespace L2
open PySem PySem.Spec PyProof.Rows
theorem LU:∀{b:List A1}{a:List Int},IntsAre b a->Av (a.map V.int) b
 |_,_,.nil=>.nil
 |_,_,.cons n t h=>.cons ⟨t,rfl⟩ (LU h)
def IJ(H:Hp):Prop:=∀b,H b=A5\/∃o a,H b=A0 (.frz o (.lst a))
theorem TD{P:AA}{w:AK}{K:W.Frag}{mg Q:AM->Option A1}{CX:CXT}{k:Nat}{U a:A4}{fd:Aq}{x:AM}{sp:Sp}{f:A3}{vs:List A1}{ns:List Int}
  (Z:K.In f.heap)(I:f.heap.Ns AN mg)(i:f.heap.Ns builtinsNs Q)(O:∀x:AM,x≠"__name__"->Q x=bootBuiltins x)(C:f.heap.NoLimit)(hg:f.gens=#[])
  (N:f.heap.get? a=A0 {cls:=.type "list",data:=.seq vs.toArray})(hi:IntsAre vs ns)(hl:ns.length<=A7)(hr:Room k callerA)
  (F:∀l:AJ,K.In l->l.Ns AN mg->FnOk P w K mg l CX k U fd [x] sp)(y:∀(s:A3)(u:A1),BindsTo s fd ⟨[u],[]⟩ [(x,u)])
  (T:∀H:Hp,IJ H->SqL K H a (ns.map V.int)->sp [.ref a] H (λv _=>v=.bl A2) λ_ _ _=>False)
  (R:∀H e j,CX [] H f (λ_ _ _=>False) e j->False):
  codeAny (AD P w) callerA (.call (.ref U) ⟨[.ref a],[]⟩) (λr j=>r=.ok (.ret (.bool A2))/\OldK f.heap j.heap/\j.os=f.os/\AllBare j.gens) f:=by
 have rv:=LU hi;have D:=hi.length;have t:∀H:Hp,IJ H->SqL K H a (ns.map V.int)->HOk P w H f.heap->(∀b,H b≠A5->b=a)->(H a≠A5->K.lookup a=A5)->
   codeAny (AD P w) callerA (.call (.ref U) ⟨[.ref a],[]⟩) (λr j=>r=.ok (.ret (.bool A2))/\OldK f.heap j.heap/\j.os=f.os/\AllBare j.gens) f:=by
  intro H hO hS A hA hK;have g:∀{b:A4}{o:AS},f.heap.get? b=A0 o->H b=A5->(D7 f.heap H).get? b=A0 o:=λe n=>Q_ e n;have S:∀{b:A4}{o:AS}{J:Array AV}{B:Nat},f.heap.get? b=A0 o->o.data=.dict J B->H b=A5:=λ{b o J B}e d=>by
   cases q:H b with
   |none=>rfl
   |some u=>have Y:b=a:=hA b (by rw[q];simp);subst Y;rw[N]at e;cases e;have d':Data.seq vs.toArray _=Data.dict J B:=d;cases d'
  have p:∀{b:A4}{m:AM->Option A1},f.heap.Ns b m->(D7 f.heap H).Ns b m:=λ{b m}⟨o,J,B,e,d,r⟩=>⟨o,J,B,g e (S e d),d,r⟩;have M:K.In (D7 f.heap H):=λb o e=>g (Z b o e) (by
   cases q:H b with
   |none=>rfl
   |some u=>have Y:b=a:=hA b (by rw[q];simp);subst Y;rw[hK (by rw[q];simp)]at e;cases e);have hM:Mod K mg (D7 f.heap H):=⟨M,p I,⟨Q,p i,O⟩,let⟨mc,h1,h2⟩:=C;⟨mc,p h1,h2⟩⟩;have e0:Env0 P w K mg (D7 f.heap H) callerA [] f H:=⟨rfl,hM,λb o e=>R0 e,Nat.le_of_eq (Qz _ _),trivial,λb i=>absurd (show b∈([]:List A4)from i) (by simp),A,.of_eq hg⟩;refine Ag ((F _ M (p I)).run callerA [] f H ⟨[.ref a],[]⟩ [.ref a] [.ref a] _ _ hr e0 (y f (.ref a)) (.cons rfl .nil) (T H hO hS)) λr j h=>?_;cases r with
  |error e=>exact(R H e j h).elim
  |ok fl=>
   cases fl with
   |next=>exact False.elim h
   |brk=>exact False.elim h
   |cont=>exact False.elim h
   |ret u=>
    obtain⟨v,H',os,L,un,E,r',q⟩:=h;have q':v=.bl A2:=q;subst q';obtain rfl:u=A1.bool A2:=r';refine⟨rfl,OldK.of_keep λb o e=>?_,os,L⟩;cases q:H b with
    |none=>exact un.keep b o e q (by intro z;exact absurd (show b∈([]:List A4)from z) (by simp)) (by simp)
    |some u=>
     rcases hO b with z|⟨ob,xs,z⟩;.rw[q]at z;cases z
     .have z2:=un.frzs b ob _ z;obtain⟨e1,_⟩:=A b _ z;obtain⟨e2,_⟩:=E b _ z2;rw[e]at e1;cases e1;exact e2
 cases X:K.lookup a with
 |some o=>have e:=Z a o X;rw[N]at e;cases e;refine t (λ_=>A5) (λ_=>.inl rfl) (.inr ⟨_,vs.toArray,_,X,rfl,rfl,rfl,by rw[au,D];exact hl,by simpa using rv⟩) (λb u z=>by have G:(A5:Option HO)=A0 u:=z;cases G) (λb z=>absurd rfl z) λz=>absurd rfl z
 |none=>
  refine t (λb=>if b=a then A0 (.frz {cls:=.type "list",data:=.seq vs.toArray} (.lst (ns.map V.int)))else A5) (λb=>?_) (.inl (.inr ⟨{cls:=.type "list",data:=.seq vs.toArray},if_pos rfl⟩)) (λb u z=>?_) (λb z=>?_) λ_=>X
  .by_cases i:b=a;.exact .inr ⟨_,_,if_pos i⟩
   .exact .inl (if_neg i)
  .by_cases i:b=a;.have G:=(if_pos i).symm.trans z;cases G;subst i;exact⟨N,by rw[af];exact hl,vs,_,rv,N⟩
   .have G:=(if_neg i).symm.trans z;cases G
  .by_cases i:b=a;.exact i
   .exact absurd (if_neg i) z
theorem TF{l:W.OpenLaw}{n k:Nat}{q:AA}{m:List AM}{Q:(AM->Option A1)->AJ->Prop}{YP:AK->AJ->Prop}{d:DefRec}{K:Params->W.Frag}{CX:AK->CXT}{sp:AK->Sp}{x:AM}
  (Z:l.most=A0 n)(B:n<=A7)(C:d.params.defaults=[])(X:Room k callerA)
  (S:∀(w:AK)(h:AJ),YP w h->(K w.params).In h)
  (F:∀(w:AK)(mg:AM->Option A1)(y:A4)(h:AJ),(K w.params).In h->h.Ns AN mg->mg d.name=A0 (.ref y)->
   ∃I:Aq,(∀(s:A3)(u:A1),BindsTo s I ⟨[u],[]⟩ [(x,u)])/\
    ∀i:AJ,(K w.params).In i->i.Ns AN mg->FnOk l.prog w (K w.params) mg i (CX w) k y I [x] (sp w))
  (D:∀(w:AK)(H:Hp)(a:A4)(ns:List Int),ns.length<=n->IJ H->SqL (K w.params) H a (ns.map V.int)->sp w [.ref a] H (λv _=>v=.bl A2) λ_ _ _=>False)
  (E:∀(w:AK)(H:Hp)(s:A3)(e:A1)(s':A3),CX w [] H s (λ_ _ _=>False) e s'->False):
  W.WalkO q m Q YP l.row.toRowW d [] (λf M=>PySem.call f M):=by refine Att.TC Z C λw J r mg mb y o pm cd R a M ns G Y ho hd U A t p j N=>?_;have L:=S w _ Y;obtain⟨I,O,hF⟩:=F w mg y _ L G.T.g A;exact TD L G.T.g G.T.b G.T.builtins G.T.nolimit N t p (aF j B) X hF O (λH P hS=>D w H a ns j P hS) λH e s'=>E w H r e s'
def De(s:Ap):Arguments:=match s with
 | .FunctionDef _ a _ _ _ _ _ _ _ _=>a
 |_=>{posonlyargs:=[],args:=[],vararg:=A5,kwonlyargs:=[],kw_defaults:=[],kwarg:=A5,defaults:=[]}
def BB(s:Ap):List Ap:=match s with
 | .FunctionDef _ _ b _ _ _ _ _ _ _=>b
 |_=>[]
def A_(s:Ap):AY:=match s with
 | .FunctionDef _ _ _ _ _ _ a _ _ _=>a
 |_=>{kind:=.function,names:=[],isGenerator:=A6,isCoroutine:=A6}
abbrev CX0:CXT:=λ_ _ _ _ _ _=>False
abbrev E0:XK:=λ_ _ _=>False
structure Fun(K:W.Frag)(x qual:AM)(st:Ap)(f:A4)(fd:Aq):Prop where
 ex:∃(oc:A1)(od:Option A4)(kV doc pm:A1)(an:Option A4)(cdv ct:A1)(osl:Array (Option A1)),
  fd=W.fnOf x qual (De st) (BB st) (A_ st) .none kV doc pm an cdv ct/\K.lookup f=A0 ⟨oc,od,.func fd,osl⟩/\W.codeIn K cdv qual=A2
 kp:W.keepIn K (.ref f)=A2
section
variable{P:AA}{w:AK}{K:W.Frag}{mg:AM->Option A1}{base:AJ}
theorem Fun.binds{x a:AM}{st:Ap}{f:A4}{l:Aq}{ps:List AM}(F:Fun K x a st f l)
  (h:∀(kV d g:A1)(j:Option A4)(b i:A1)(e:List A1),e.length=ps.length->bindArgs (W.fnOf x a (De st) (BB st) (A_ st) .none kV d g j b i) ⟨e,[]⟩=pure (ps.zip e)):Cu K l ps []:=by obtain⟨p,o,kV,d,g,j,b,i,m,rfl,q,n⟩:=F.ex;exact .all (h kV d g j b i)
theorem TH{x a:AM}{st:Ap}{f:A4}{j:A1}{m g:Option A4}{e:Array (Option A1)}{kV d i b h:A1}(l:K.lookup f=A0 ⟨j,m,.func (W.fnOf x a (De st) (BB st) (A_ st) .none kV d i g b h),e⟩)
  (c:W.codeIn K b a=A2)(k:W.keepIn K (.ref f)=A2):Fun K x a st f (W.fnOf x a (De st) (BB st) (A_ st) .none kV d i g b h):=⟨⟨j,m,kV,d,i,g,b,h,e,rfl,l,c⟩,k⟩
end
theorem BQ{n:Nat}(h:n<=1000):n<A7:=cn h (by decide)
def As(H H':Hp):Prop:=∀b o,H b=A0 o->H' b=A0 o
theorem As.refl(H:Hp):As H H:=λ_ _ h=>h
theorem As.trans{H d e:Hp}(a:As H d)(b:As d e):As H e:=λc o h=>b c o (a c o h)
theorem As.free{H H':Hp}(e:As H H'){l:A4}(h:H' l=Option.none):H l=Option.none:=by
 cases q:H l with
 |none=>rfl
 |some o=>rw[e l o q]at h;cases h
theorem As.seq{K:W.Frag}{H H':Hp}{a:A4}{xs:List V}(e:As H H')(h:SqL K H a xs):SqL K H' a xs:=by
 rcases h with(h|⟨o,h⟩)|h;.exact .inl (.inl (e _ _ h))
 .exact .inl (.inr ⟨o,e _ _ h⟩)
 .exact .inr h
end L2
namespace PySem
def Rsn(xs:Array Nat):Prop:=xs.toList.Pairwise (· < ·)
theorem Fm{xs:Array Nat}(b:Rsn xs){i j:Nat}(a:i<j)(hj:j<xs.size):xs[i]'⋯<xs[j]:=by have:=bF.mp b i j (by rw[am];omega) (by rw[am];omega) a;simpa using this
theorem IK{xs:Array Nat}(m:Rsn xs)(j:Nat):∀(f g d:Nat),g<=d->d<=xs.size->d-g<=f->(∀i(h:i<xs.size),i<g->xs[i]<j)->(∀i(h:i<xs.size),d<=i->j<=xs[i])->
  AH.below.go xs j f g d<=xs.size/\(∀i(h:i<xs.size),i<AH.below.go xs j f g d->xs[i]<j)/\(∀i(h:i<xs.size),AH.below.go xs j f g d<=i->j<=xs[i])
 |0,g,d,r,n,s,a,b=>by
  have e:g=d:=by omega
  subst e;exact⟨n,a,b⟩
 |f+1,g,d,r,n,s,a,b=>by
  unfold AH.below.go;by_cases q:g<d
  .rw[if_pos q];dsimp only;have p:(g+d)/2<xs.size:=by omega
   have t:xs.getD ((g+d)/2) j=xs[(g+d)/2]:=by simp[Array.getD,p]
   rw[t];by_cases l:xs[(g+d)/2]<j
   .rw[if_pos l];refine IK m j f _ _ ⋯ n ⋯ (λi h o=>?_) b;by_cases e:i=(g+d)/2;.subst e;exact l
    .exact Nat.lt_trans (Fm m ⋯ p) l
   .rw[if_neg l];refine IK m j f _ _ ⋯ ⋯ ⋯ a λi h o=>?_;by_cases e:i=(g+d)/2;.subst e;omega
    .have:=Fm m (i:=(g+d)/2) (j:=i) ⋯ h;omega
  .rw[if_neg q];have e:g=d:=by omega
   subst e;exact⟨n,a,b⟩
theorem Fo{xs:Array Nat}(a:Rsn xs)(j:Nat):AH.below xs j<=xs.size/\(∀i(h:i<xs.size),i<AH.below xs j->xs[i]<j)/\(∀i(h:i<xs.size),AH.below xs j<=i->j<=xs[i]):=
 IK a j _ _ _ (aN _) (ag _) (ag _) (λ_ _ z=>absurd z (Nat.not_lt_zero _)) λi h z=>absurd h ⋯
theorem TJ{xs:Array Nat}(b:Rsn xs){j:Nat}(h:xs[AH.below xs j]?≠A0 j):j∉xs.toList:=by
 intro l;obtain⟨i,a,e⟩:=cI.mp l;rw[am]at a;rw[Array.getElem_toList]at e;obtain⟨n,g,d⟩:=Fo b j;have m:AH.below xs j<=i:=Nat.le_of_not_lt λz=>by have:=g i a z;omega
 by_cases f:AH.below xs j=i;.rw[f]at h;exact h (by rw[aD a,e])
 .have:=Fm b (i:=AH.below xs j) (j:=i) ⋯ a;have:=d _ ⋯ (ag (AH.below xs j));omega
theorem TK{xs:Array Nat}(g:Rsn xs){j:Nat}(h:xs[AH.below xs j]?≠A0 j):Rsn (AH.insertAt xs (AH.below xs j) j):=by
 obtain⟨r,q,o⟩:=Fo g j;have p:=TJ g h;unfold Rsn;rw[AH.toList_insertAt];first
 |rw[aQ,List.singleton_append]
 |skip
 rw[dq,List.pairwise_cons];have hT:∀a∈xs.toList.take (AH.below xs j),a<j:=by intro a f;obtain⟨i,l,e⟩:=cI.mp f;rw[aH,am]at l;rw[List.getElem_take,Array.getElem_toList]at e;have:=q i ⋯ ⋯;omega
 have m:∀b∈xs.toList.drop (AH.below xs j),j<b:=by intro b d;obtain⟨i,l,e⟩:=cI.mp d;rw[cW,am]at l;rw[List.getElem_drop,Array.getElem_toList]at e;have:=o (AH.below xs j+i) ⋯ ⋯;have n:b≠j:=λz=>p (z▸List.mem_of_mem_drop d);omega
 refine⟨g.sublist (List.take_sublist _ _),⟨m,g.sublist (List.drop_sublist _ _)⟩,λa f b d=>?_⟩;rcases ao.mp d with rfl|d;.exact hT a f
 .exact Nat.lt_trans (hT a f) (m b d)
theorem IL(t:AH)(hat:Nat->Int)(h:Int):∀(f:Nat)(p:AH.Probe)(j:Nat)(d:Option Nat),(∀x,p.dummy=A0 x->t.place[AH.below t.place x]?≠A0 x)->
  AH.probe.go t hat h f p=A0 (.empty j d)->t.place[AH.below t.place (d.getD j)]?≠A0 (d.getD j)
 |0,p,j,d,m,e=>by unfold AH.probe.go at e;cases e
 |f+1,p,j,d,m,e=>by
  unfold AH.probe.go at e;have b:∀x,t.slot x≠.live (AH.below t.place x)->t.place[AH.below t.place x]?≠A0 x:=by intro x a z;apply a;unfold AH.slot;simp[z]
  have g:∀q:AH.Probe,(t.advance q).dummy=q.dummy:=by intro q;unfold AH.advance;split<;>rfl
  cases l:t.slot p.j with
  |empty=>
   rw[l]at e;injection e with e;injection e with r s;subst r;subst s;cases o:p.dummy with
   |none=>exact b _ (by show t.slot p.j≠_;rw[l];exact λz=>nomatch z)
   |some x=>exact m x o
  |dummy=>rw[l]at e;dsimp only at e;refine IL t hat h f _ j d (λx a=>?_) e;rw[g]at a;injection a with a;subst a;exact b _ (by rw[l];exact λz=>nomatch z)
  |live i=>
   rw[l]at e;dsimp only at e;by_cases n:(hat i==h)=A2;.rw[if_pos n]at e;injection e with e;cases e
   .rw[if_neg n]at e;refine IL t hat h f _ j d (λx a=>?_) e;rw[g]at a;exact m x a
set_option tactic.hygienic true in
theorem TN{t:AH}{h:Int}{slot:Nat}{b:Bool}(e:t.freeSlot h=A0 (slot,b)):t.place[AH.below t.place slot]?≠A0 slot:=by
 unfold AH.freeSlot at e;split at e;.rename_i j d hm;injection e with e;injection e with e1 e2;subst e1;unfold AH.probe at hm;exact IL t _ h _ _ j d (λx hx=>by unfold AH.probeStart at hx;cases hx) hm
 .cases e
theorem IM(t:AH)(n:Nat):Rsn (t.standIn n).place:=by unfold AH.standIn Rsn;simp only[Array.toList_range];exact da
def TOk(a:Bool)(t:AH):Prop:=a=A2\/t.led=A2/\Rsn t.place
theorem TQ{a:Bool}{t:AH}{n:Nat}(h:TOk a t):TOk a (t.orStandIn n):=by
 unfold AH.orStandIn;split;.exact h
 .rcases h with h|⟨b,_⟩;.exact .inl h
  .exact .inr ⟨b,IM t n⟩
set_option tactic.hygienic true in
theorem TR{bt:Bool}{t:AH}(es:Array (Int×A1))(hh:Int)(x:A1)(h:TOk bt t):TOk bt (layNew t es hh x).2.1:=by
 unfold layNew;split
 .rename_i slot wd e;refine TQ ?_;rcases h with h|⟨h1,h2⟩;.exact .inl h
  .exact .inr ⟨h1,TK h2 (TN e)⟩
 .rcases h with h|⟨h1,_⟩;.exact .inl h
  .exact .inr ⟨h1,IM t _⟩
set_option tactic.hygienic true in
theorem TU{bt:Bool}{t:AH}(es:Array (Int×A1))(wd:Nat)(h:TOk bt t):TOk bt (relayAll t es wd).2.1:=by
 have hs:∀n,TOk bt (t.standIn n):=λn=>by
  rcases h with h|⟨h1,_⟩;.exact .inl h
  .exact .inr ⟨h1,IM t n⟩
 unfold relayAll;split
 .rename_i t' order e;dsimp only;split
  .unfold AH.relaid AH.laid at e;cases ho:AH.layClean (AH.sizeAbove wd-1) (es.map λx=>x.1)with
   |none=>rw[ho]at e;cases e
   |some owner=>
    rw[ho]at e;injection e with e;injection e with e1 e2;subst e1;rcases h with h|⟨h1,_⟩;.exact .inl h
    .refine .inr ⟨h1,?_⟩;unfold Rsn;show List.Pairwise _ (List.map _ _);rw[bM];refine List.Pairwise.filterMap (R:=(· < ·)) _ (λa a' haa b hb b' hb'=>?_) da;cases hx:owner.getD a A5 with
     |none=>simp[hx]at hb
     |some u=>
      cases hy:owner.getD a' A5 with
      |none=>simp[hy]at hb'
      |some u'=>simp[hx]at hb;simp[hy]at hb';subst hb;subst hb';exact haa
  .exact hs _
 .exact hs _
section
variable{prog:AA}{w:AK}{K:Type} [DecidableEq K](knd:KeyKind prog w K)
def Dst(es:List (Int×A1)):Prop:=es.Pairwise λa b=>∀k,knd.is k a.2=A2->knd.is k b.2=A2->False
def Obj.SetIt(o:AS)(S:K->Bool)(n:Nat):Prop:=
 ∃a b t,o.ExactSet/\o.data=.set a b t/\ElemsOf knd a.toList/\(∀k,S k=A2↔∃e∈a.toList,knd.is k e.2=A2)/\a.size<scanBound/\t.fits a.size=A2/\a.size=n
  /\Dst knd a.toList/\TOk (w.params.followText "set-order") t
variable{knd}
variable{A:AL}{E:A1->A3->Prop}{s:A3}
theorem TV{es d:List (Int×A1)}{k:K}{j:Int}{x:A1}(l:Dst knd es)(m:knd.is k x=A2)(n:ElemsOf knd es)(g:∀e∈es,knd.is k e.2=A6)(p:List.Perm d (es++[(j,x)])):Dst knd d:=by
 have q:Dst knd (es++[(j,x)]):=by unfold Dst;rw[dq];refine⟨l,List.pairwise_singleton _ _,λa o b i r f h=>?_⟩;rw[aO]at i;subst i;have e:=knd.inj x r k h m;subst e;rw[g a o]at f;cases f
 exact(List.Perm.pairwise_iff (λ{a b}z k f h=>z k h f) p).mpr q
theorem LV{h:AJ}{a:A4}{o:AS}{es:Array (Int×A1)}{g:Nat}{t:AH}(q:h.get? a=A0 o)(j:o.ExactSet)(p:o.data=.set es g t){b:Array (Int×A1)}{d:AH}{m:K->Bool}{n:Nat}
  (u:ElemsOf knd b.toList)(x:∀k,m k=A2↔∃e∈b.toList,knd.is k e.2=A2)(B:b.size<scanBound)(y:d.fits b.size=A2)(C:b.size=n)(v:Dst knd b.toList)(r:TOk (w.params.followText "set-order") d):
  ∃f,(h.update a (AS.putSet b d)).get? a=A0 f/\f.ExactSet/\f.data=.set b (g+1) d/\f.SetIt knd m n:=by have l:=putSet_of b d p;have i:=aM (AS.putSet b d) q (by rw[l];rfl);rw[l]at i;exact⟨_,i,j,rfl,b,g+1,d,j,rfl,u,x,B,y,C,v,r⟩
theorem TW{a:A4}{o:AS}{S:K->Bool}{n:Nat}{k:K}{x:A1}{Q:Bool->A3->Prop}(m:knd.is k x=A2)(T:x.scannable=A2)(ho:s.heap.get? a=A0 o)(hS:o.SetIt knd S n)(f:n+1<scanBound)
  (h:∀H L,bB a s.heap H->H.get? a=A0 L->L.SetIt knd (λj=>S j||decide (j=k)) (if S k then n else n+1)->Q (!S k) {s with heap:=H}):
  A8 (AD prog w) A (setAddHashed a x (knd.hash k)) Q E s:=by
 obtain⟨O,ep,t,a6,hd,C,p,hb,hf,hn,I,a3⟩:=id hS;unfold setAddHashed setAddHashedIn;refine aC (aa (bW ho hd hf ?_));dsimp only;rw[byScan_of T hb C,if_pos rfl];unfold setAddByScan;refine aa (aa (bq (aa (wpAny_setScan_of m ho hd hf C ?_))));cases hr:List.findIdx? (λe=>knd.is k e.2) O.toList with
 |some j=>dsimp only;obtain⟨hj,b0,_⟩:=List.findIdx?_eq_some_iff_getElem.mp hr;have B:S k=A2:=(p k).mpr ⟨_,bR hj,b0⟩;refine ab (ab ?_);have z:=h s.heap o (AJ.SameBut.refl a s.heap) ho ⟨O,ep,t,a6,hd,C,λJ=>by rw[aR,decide_eq_true_eq,<-p J];exact⟨λq=>q.elim id λq=>q▸B,.inl⟩,hb,hf,by rw[B];exact hn,I,a3⟩;rw[B]at z;exact z
 |none=>
  dsimp only;have a2:∀e∈O.toList,knd.is k e.2=A6:=λe M=>by simpa using List.findIdx?_eq_none_iff.mp hr e M
  have B:S k=A6:=by
   cases hk:S k with
   |false=>rfl
   |true=>obtain⟨e,M,D⟩:=(p k).mp hk;rw[a2 e M]at D;cases D
  have D:=layNew_perm t O (knd.hash k) x;have g:=layNew_fits t O (knd.hash k) x;have i:=TR O (knd.hash k) x a3;rw[cy]at D;generalize layNew t O (knd.hash k) x=Y at D g i⊢;obtain⟨d,t1,wd,gv⟩:=Y;dsimp only at D g i⊢;have a5:ElemsOf knd d.toList:=(C.push m T).perm D;have a1:∀J,(S J||decide (J=k))=A2↔∃e∈d.toList,knd.is J e.2=A2:=mem_push_iff m p D;have G:d.size=n+1:=by rw[<-am,D.length_eq,aA,am,hn];rfl
  have d1:Dst knd d.toList:=TV I m C a2 D;have a4:∀H L,bB a s.heap H->H.get? a=A0 L->L.SetIt knd (λj=>S j||decide (j=k)) (n+1)->Q A2 {s with heap:=H}:=by intro H L z1 z2 z3;have z:=h H L z1 z2;rw[B]at z;exact z z3
  have a0:∀u:AH,u.fits d.size=A2->TOk (w.params.followText "set-order") u->A8 (AD prog w) A (do
    storeSet a d u
    if(!wd&&u.tooFull)=A2 then do
      (match(relayAll u d (AH.grown d.size)).2.2 with|A2=>rule "set.scan.the-table-gave-way"|A6=>pure ())
      storeSet a (relayAll u d (AH.grown d.size)).1 (relayAll u d (AH.grown d.size)).2.1
      pure (A0 A2)
     else pure (A0 A2)) (λr s'=>r=A0 A2/\Q A2 s') E s:=by
   intro u f2 k2;refine aa (wpAny_storeSet_of ho hd ?_ (fits_of_scanBound (by rw[G];exact f)));obtain⟨o1,g1,x1,U,i1⟩:=LV (knd:=knd) ho a6 hd a5 a1 (by rw[G];exact f) f2 G d1 k2;have b1:=AJ.SameBut.update s.heap a (AS.putSet d u);split
   .have l:=relayAll_perm u d (AH.grown d.size);have N:=relayAll_fits u d (AH.grown d.size);have R:=TU d (AH.grown d.size) k2;generalize relayAll u d (AH.grown d.size)=Z at l N R⊢;obtain⟨a9,t3,a8⟩:=Z;dsimp only at l N R⊢;have P:a9.size=n+1:=by rw[<-am,l.length_eq,am,G]
    have stp:∀(X:Sem Unit),(∀y:Unit->A3->Prop,∀v,y () v->A8 (AD prog w) A X y E v)->∀v y,y () v->A8 (AD prog w) A X y E v:=λX hX v y q=>hX y v q;refine aa (stp _ (λy v q=>by cases a8<;>first|exact ab q|exact bq q) _ _ ?_);refine aa (wpAny_storeSet_of g1 U ?_ (fits_of_scanBound (by rw[P];exact f)));obtain⟨o2,g2,x2,b2,i2⟩:=LV (knd:=knd) g1 x1 U (a5.perm l) (λJ=>(a1 J).trans ⟨λ⟨e,M,q⟩=>⟨e,l.mem_iff.mpr M,q⟩,λ⟨e,M,q⟩=>⟨e,l.mem_iff.mp M,q⟩⟩) (by rw[P];exact f) N P
     ((List.Perm.pairwise_iff (λ{a b}z k q1 q2=>z k q2 q1) l).mpr d1) R;exact ab ⟨rfl,a4 _ o2 (b1.trans (AJ.SameBut.update _ a _)) g2 i2⟩
   .exact ab ⟨rfl,a4 _ o1 b1 g1 i1⟩
  have a7:∀(b:Bool){v:A3}{y:Unit->A3->Prop},y () v->A8 (AD prog w) A (match b with|A2=>rule "set.scan.the-table-gave-way"|A6=>pure ()) y E v:=
   λb v y q=>by cases b<;>first|exact ab q|exact bq q
  refine aa (a7 gv ?_);split
  .rw[hashByValue_scannable 8 T];refine aa (ab ?_);refine cY (a0 _ ?_ ?_) (λr s' q=>?_) λ_ _ z=>z
   .split;.exact g
    .exact AH.fits_plain_off g
   .split;.exact i
    .rcases i with z|⟨z1,z2⟩;.exact .inl z
     .exact .inr ⟨z1,z2⟩
   .obtain⟨rfl,q⟩:=q;exact ab q
  .refine aa (ab ?_);rw[if_pos rfl];refine cY (a0 _ g i) (λr s' q=>?_) λ_ _ z=>z;obtain⟨rfl,q⟩:=q;exact ab q
theorem TX{a:A4}{o:AS}{S:K->Bool}{n:Nat}(e:s.heap.get? a=A0 o)(b:o.SetIt knd S n):s.TypeIs (.ref a) "set":=let⟨_,_,_,d,_⟩:=b;⟨o,e,d.1⟩
theorem TY{a:A4}{o:AS}{S:K->Bool}{n:Nat}{k:K}{x:A1}{Q:A1->A3->Prop}(b:knd.is k x=A2)(g:x.scannable=A2)(i:s.heap.get? a=A0 o)(l:o.SetIt knd S n)(d:n+1<scanBound)
  (h:∀e f,bB a s.heap e->e.get? a=A0 f->f.SetIt knd (λj=>S j||decide (j=k)) (if S k then n else n+1)->Q .none {s with heap:=e,toks:=s.toks+1}):
  A8 (AD prog w) A (call (.builtin "set.add") [.ref a,x]) Q E s:=by
 refine aP F.slot_set_add (TX i l) F.entry_set_add ?_ (F.args_set_add_2 _ _);unfold AB.«set.add»AB.Frozenset.oneOther;simp only[List.isEmpty_nil,bind_assoc];unfold AB.Frozenset.addrOf setAdd;refine aa (ab ?_);try dsimp only
 refine aa (ab ?_);try dsimp only
 refine aa (aC (aa (knd.pyHash b ?_)));refine TW (s:={s with toks:=s.toks+1}) b g i l d λe f m q p=>?_;exact ab ⟨_,rfl,h e f m q p⟩
end
namespace Ts
open SetTable
section
variable{prog:AA}{w:AK}
def Tup(prog:AA)(w:AK)(h:AJ)(q:List Int×A4):Prop:=IsTupleKey (intKind prog w) h q.1 q.2
variable{A:AL}{E:A1->A3->Prop}{s:A3}
end
end Ts
end PySem
namespace L2
open PySem PySem.Spec PyProof.Rows
def Bj(cells:List (AM×A4)):List (AM×AT)->List (AM×A4)->List (AM×A4)
 | [],a=>a
 |(n,k)::r,a=>if k== .free then Bj cells r ((n,(cells.lookup n).getD 0)::a)else Bj cells r a
def DN(env:Env)(x:AM×AT)(r:List (AM×A4)):Sem (ForInStep (List (AM×A4))):=
 match x with|(name,b)=>if(b== .free)=A2 then(do let a<-cellOf env name;pure (ForInStep.yield ((name,a)::r)))else pure (ForInStep.yield r)
theorem TZ{env:Env}:∀(b:List (AM×AT))(a:List (AM×A4)),(∀n,(n,AT.free)∈b->∃c,env.cells.lookup n=A0 c)->
   forIn b a (DN env)=(pure (Bj env.cells b a):Sem _):=by
  intro b;induction b with
  |nil=>intro a _;rfl
  |cons x r l=>
   intro a j;obtain⟨n,k⟩:=x;rw[List.forIn_cons];have i:=λm o=>j m (ay _ o);by_cases g:k=.free
   .subst g;obtain⟨c,h⟩:=j n az;have p:cellOf env n=(pure c:Sem A4):=by unfold cellOf;rw[h]
    have d:DN env (n,AT.free) a=pure (ForInStep.yield ((n,c)::a)):=by unfold DN;dsimp only;rw[if_pos (by rfl),p];rfl
    rw[d];have q:=l ((n,c)::a) i;have e:Bj env.cells ((n,AT.free)::r) a=Bj env.cells r ((n,c)::a):=by show(if(AT.free==AT.free)=A2 then _ else _)=_;rw[if_pos (by rfl),h];rfl
    rw[e,<-q];rfl
   .have f:(k==AT.free)=A6:=by simpa using g
    have d:DN env (n,k) a=pure (ForInStep.yield a):=by unfold DN;dsimp only;rw[if_neg (by rw[f];exact al)]
    rw[d];have e:Bj env.cells ((n,k)::r) a=Bj env.cells r a:=by show(if(k==AT.free)=A2 then _ else _)=_;rw[if_neg (by rw[f];exact al)]
    rw[e,<-l a i];rfl
theorem LX{env:Env}{a:AY}(h:∀n,(n,AT.free)∈a.names->∃c,env.cells.lookup n=A0 c):closureFor a env=pure (Bj env.cells a.names []):=by
 have e:=TZ (env:=env) a.names [] h;unfold closureFor;have q:∀f:AM×AT->List (AM×A4)->Sem (ForInStep (List (AM×A4))),(∀x r,f x r=DN env x r)->(forIn a.names ([]:List (AM×A4)) f>>=λr=>pure r)=(pure (Bj env.cells a.names []):Sem _):=by intro f b;have:f=DN env:=funext λx=>funext λr=>b x r;rw[this,e];rfl
 refine q _ λx r=>?_;obtain⟨n,k⟩:=x;unfold DN;first|done|(dsimp only;done)|(dsimp only;cases d:k==AT.free<;>simp[d])
set_option tactic.hygienic true in
theorem IN{cells:List (AM×A4)}:∀{names:List (AM×AT)}{acc:List (AM×A4)}{n:AM}{c:A4},(n,c)∈Bj cells names acc->(n,c)∈acc\/((n,AT.free)∈names/\c=(cells.lookup n).getD 0)
 | [],_,_,_,h=>.inl h
 |(m,k)::r,acc,n,c,h=>by
  unfold Bj at h;split at h
  .rename_i hk;have hk':k=.free:=by simpa using hk
   subst hk';rcases IN h with q|⟨q,e⟩
   .rcases ao.mp q with q|q;.cases q;exact .inr ⟨az,rfl⟩
    .exact .inl q
   .exact .inr ⟨ay _ q,e⟩
  .rcases IN h with q|⟨q,e⟩;.exact .inl q
   .exact .inr ⟨ay _ q,e⟩
set_option tactic.hygienic true in
theorem IP{cells:List (AM×A4)}:∀{names:List (AM×AT)}{acc:List (AM×A4)}{n:AM},((n,AT.free)∈names\/∃c,(n,c)∈acc)->∃c,(n,c)∈Bj cells names acc
 | [],_,_,h=>by
  rcases h with h|h;.simp at h
  .exact h
 |(m,k)::r,acc,n,h=>by
  unfold Bj;split
  .rename_i hk;refine IP ?_;rcases h with h|⟨c,h⟩
   .rcases ao.mp h with h|h;.cases h;exact .inr ⟨_,az⟩
    .exact .inl h
   .exact .inr ⟨c,ay _ h⟩
  .rename_i hk;refine IP ?_;rcases h with h|h
   .rcases ao.mp h with h|h;.cases h;exact absurd rfl hk
    .exact .inl h
   .exact .inr h
theorem Df:∀(b:List (AM×AT))(n:Nat)(a:List (AM×A4)),Ab n b a=Ab n b []++a
 | [],_,_=>rfl
 |(x,k)::r,n,a=>by
  unfold Ab;split;.rw[Df r (n+1) ((x,n)::a),Df r (n+1) [(x,n)],aQ];rfl
  .exact Df r n a
theorem LY{a:Type}:∀{l:List (AM×a)}{n:AM}{c:a},(n,c)∈l->∃b,l.lookup n=A0 b
 |(k,v)::r,n,c,h=>by
  rw[List.lookup_cons];cases d:n==k with
  |true=>exact⟨v,rfl⟩
  |false=>
   rcases ao.mp h with e|h;.cases e;simp at d
   .exact LY h
theorem LZ{env:Env}:∀{a:List (AM×AT)}{x:AM}{b:AT},
  (a.map λ(n,k)=>if(k==AT.free&&env.scope.kind== .function&&env.kindOf n==A0 .cell)then(n,AT.cell)else(n,k)).lookup x=A0 b->∃k,a.lookup x=A0 k/\(b=k\/(k=.free/\b=.cell))
 :=by intro x;induction x<;>grind
theorem IQ{env:Env}:∀{a:List (AM×AT)}{x:AM}{k:AT},a.lookup x=A0 k->
  ∃b,(a.map λ(n,k)=>if(k==AT.free&&env.scope.kind== .function&&env.kindOf n==A0 .cell)then(n,AT.cell)else(n,k)).lookup x=A0 b/\(b=k\/(k=.free/\b=.cell))
 :=by intro x;induction x<;>grind
section
variable{M:Model}{A:AL}{E:A1->A3->Prop}{s:A3}
abbrev CV(h:AJ)(a:List (AM×AT)):AJ:=pushCells (h.push {cls:=.type "dict",data:=.dict #[]}) a
theorem La{a:AY}{b:A4}{i:List (AM×A4)}{d:AM}{env:Env}{Q:Env->A3->Prop}
  (h:Q (newEnv a s.heap.objs.size b (Ab (s.heap.objs.size+1) a.names i) d A5 .none (A0 env) builtinsNs) {s with heap:=CV s.heap a.names}):
  A8 M A (newFunctionEnv a b i [] d A5 .none (A0 env)) Q E s:=by simp only[newFunctionEnv,Option.isSome_some,if_true];refine aa (wpAny_alloc ?_);refine aa (wpAny_layCells _ (λname e f=>by cases g:e==AT.cell<;>simp[g]) _ _ _ _ ?_);rw[show({s with heap:=s.heap.push {cls:=.type "dict",data:=.dict #[]}}:A3).heap.objs.size=s.heap.objs.size+1 from aW ..];exact aa (ab (ab h))
end
def Cx.comp(X:Cx)(scope:AY)(s₀:A3)(H₀:Hp)(ex:List A4):Cx:=
 {X with
  s₀:=s₀,H₀:=H₀
  env:={newEnv scope s₀.heap.objs.size X.env.globals (Ab (s₀.heap.objs.size+1) scope.names (Bj X.env.cells scope.names [])) X.env.qual A5 .none (A0 X.env) builtinsNs with scope:=relabel scope X.env}
  outer:=X.stack,ex:=ex,fn:=λx=>((Ab (s₀.heap.objs.size+1) scope.names []).lookup x).isSome,pn:=[],xe:=λ_ _=>False}
structure CompSc(X:Cx)(scope:AY):Prop where
 kind:scope.kind=.function
 names:∀x∈scope.names,x.2=.local->scope.names.lookup x.1=A0 .local
 one:∀n,(n,AT.cell)∈scope.names->scope.names.lookup n=A0 .cell
 free:∀n,(n,AT.free)∈scope.names->X.env.kindOf n=A0 .cell\/X.env.kindOf n=A0 .free
set_option tactic.hygienic true in
theorem IR:∀{names:List (AM×AT)}{n:Nat}{x:AM}{c:A4},(x,c)∈Ab n names []->(x,AT.cell)∈names
 | [],_,_,_,h=>by simp[Ab]at h
 |(y,k)::r,n,x,c,h=>by
  unfold Ab at h;split at h
  .rename_i hk;have hk':k=.cell:=by simpa using hk
   subst hk';rw[Df]at h;rcases aU.mp h with h|h;.exact ay _ (IR h)
   .have h':(x,c)=(y,n):=by simpa using h
    cases h';exact az
  .exact ay _ (IR h)
def clr(own:List Nat)(σ:St):St:=own.foldl (λσ i=>σ.set i A5) σ
theorem Ei:∀(own:List Nat)(a:St),(clr own a).length=a.length
 | [],_=>rfl
 |i::r,a=>by show(clr r (a.set i A5)).length=_;rw[Ei r,List.length_set]
theorem Ej:∀{own:List Nat}{σ:St}{i:Nat}{v:V},(clr own σ)[i]?=A0 (A0 v)->σ[i]?=A0 (A0 v)/\i∉own
 | [],_,_,_,h=>⟨h,by simp⟩
 |j::r,σ,i,v,h=>by
  obtain⟨a,b⟩:=Ej (own:=r) (σ:=σ.set j A5) h;by_cases e:j=i;.subst e;rw[List.getElem?_set]at a;simp at a
  .rw[cH e]at a;exact⟨a,by simp;exact⟨λz=>e z.symm,b⟩⟩
theorem IS:∀{own:List Nat}{a:St}{i:Nat},i∉own->(clr own a)[i]?=a[i]?
 | [],_,_,_=>rfl
 |j::r,a,i,h=>by have d:i≠j:=λz=>h (by simp[z]);have b:i∉r:=λz=>h (by simp[z]);show(clr r (a.set j A5))[i]?=_;rw[IS b,cH (Ne.symm d)]
section
variable{X:Cx}{p_:List (A4×AS)}{σ:St}{H H':Hp}{s s':A3}{scope:AY}{ex:List A4}{own:List Nat}
theorem Ta(I:Inv X p_ σ H s)(S:CompSc X scope):
  (∀x c,(Bj X.env.cells scope.names []).lookup x=A0 c->X.env.cells.lookup x=A0 c)/\
  (∀x,(x,AT.free)∈scope.names->∃c,(Bj X.env.cells scope.names []).lookup x=A0 c)/\
  CellsOk (CV s.heap scope.names) (s.heap.objs.size+1) (Ab (s.heap.objs.size+1) scope.names []):=by
 have b:∀x c,(x,c)∈Bj X.env.cells scope.names []->X.env.cells.lookup x=A0 c:=λx c h=>by
  rcases IN h with z|⟨z,e⟩;.simp at z
  .obtain⟨f,a⟩:=I.ok.has x (S.free x z);rw[a,Option.getD_some]at e;rw[a,e]
 refine⟨λx c h=>b x c (PySem.mem_of_lookup h),λx h=>?_,?_⟩;.obtain⟨c,q⟩:=IP (cells:=X.env.cells) (acc:=[]) (.inl h);exact LY q
 .have q:=cellsFrom_ok scope.names (s.heap.push {cls:=.type "dict",data:=.dict #[]}) (s.heap.objs.size+1) [] ⟨λ_ _ d=>(nomatch d),List.Pairwise.nil⟩ (by rw[aW];exact ag _);rw[aW]at q;exact q
theorem Lb(I:Inv X p_ σ H s)(A:∀b∈ex,BL X p_ H b)(O:∀b∈ex,b<s.heap.objs.size)(S:CompSc X scope)
  (D:∀i x,X.N[i]?=A0 x->(scope.names.lookup x=A0 .local\/scope.names.lookup x=A0 .cell)->i∈own):
  Inv (X.comp scope s H ex) [] (clr own σ) H {s with heap:=CV s.heap scope.names}:=by
 obtain⟨Q,P,ok⟩:=Ta I S;have M:∀x c,(X.comp scope s H ex).env.cells.lookup x=A0 c->(Ab (s.heap.objs.size+1) scope.names []).lookup x=A0 c\/((Ab (s.heap.objs.size+1) scope.names []).lookup x=A5/\X.env.cells.lookup x=A0 c):=λx c h=>by
  have Y:(Ab (s.heap.objs.size+1) scope.names (Bj X.env.cells scope.names [])).lookup x=A0 c:=h;rw[Df,List.lookup_append]at Y;cases q:(Ab (s.heap.objs.size+1) scope.names []).lookup x with
  |some d=>rw[q]at Y;exact .inl Y
  |none=>rw[q]at Y;exact .inr ⟨rfl,Q x c Y⟩
 have a:∀x c,(Ab (s.heap.objs.size+1) scope.names []).lookup x=A0 c->(CV s.heap scope.names).IsCell c A5/\s.heap.objs.size+1<=c:=λx c h=>ok.empty x c (PySem.mem_of_lookup h);have B:∀x c,X.env.cells.lookup x=A0 c->c<s.heap.objs.size:=λx c h=>let⟨_,q⟩:=I.cell x c h;q.lt;have f:∀b o,s.heap.get? b=A0 o->(CV s.heap scope.names).get? b=A0 o:=λb o e=>pushCells_keeps _ _ b o (ac _ e);have fresh:∀b,s.heap.objs.size<=b->H b=A5:=λb j=>I.hok.fresh j;have a3:(X.comp scope s H ex).env.locals=s.heap.objs.size:=rfl;refine⟨⟨I.ok.mod,S.kind,I.ok.glob,?_,ag _,λx y c R h2=>?_,λx hx=>?_,λx c hf h=>?_,I.ok.hd,I.ok.frames,.inl rfl,λb j=>?_,I.bs,aF I.ok.bsz I.sz,λb o e j=>?_,λb j=>?_,I.stack,I.stkFree⟩,
  rfl,I.bare,Un.kept f,⟨λ_=>A5,?_,λi x v R h2 h3=>?_⟩,λx c h=>?_,fresh _ (ag _),λx c h=>?_,λp hp=>absurd (show p∈([]:List (A4×AS))from hp) (by simp),I.hok.kept f,?_⟩;.show X.env.builtins=_;exact I.ok.blt
 .rcases M x c R with C|⟨_,C⟩<;>rcases M y c h2 with Z|⟨_,Z⟩;.exact name_of_addr ok.apart (PySem.mem_of_lookup C) (PySem.mem_of_lookup Z)
  .exact absurd (aq (B y c Z) (aF (Nat.le_succ _) (a x c C).2)) (bi _)
  .exact absurd (aq (B x c C) (aF (Nat.le_succ _) (a y c Z).2)) (bi _)
  .exact I.ok.inj x y c C Z
 .have t:(relabel scope X.env).names.lookup x=A0 .cell\/(relabel scope X.env).names.lookup x=A0 .free:=hx;have w:∀k,scope.names.lookup x=A0 k->(k=.cell\/k=.free)->∃c,(Ab (s.heap.objs.size+1) scope.names (Bj X.env.cells scope.names [])).lookup x=A0 c:=λk g E=>by
   rw[Df,List.lookup_append];rcases E with rfl|rfl;.obtain⟨c,q⟩:=IC (n:=s.heap.objs.size+1) g;exact⟨c,by rw[q];rfl⟩
   .obtain⟨c,q⟩:=P x (PySem.mem_of_lookup g);cases z:(Ab (s.heap.objs.size+1) scope.names []).lookup x with
    |some d=>exact⟨d,rfl⟩
    |none=>exact⟨c,by rw[q];rfl⟩
  rcases t with t|t<;>obtain⟨k,g,e⟩:=LZ t
  .rcases e with e|⟨e,_⟩;.exact w k g (.inl e.symm)
   .exact w k g (.inr e)
  .rcases e with e|⟨e,_⟩;.exact w k g (.inr e.symm)
   .exact w k g (.inr e)
 .rcases M x c h with q|⟨q,_⟩;.have:=(a x c q).2;show s.heap.objs.size<=c;omega
  .have T:((Ab (s.heap.objs.size+1) scope.names []).lookup x).isSome=A2:=hf;rw[q]at T;cases T
 .refine⟨?_,λx c h=>?_⟩;.show b≠s.heap.objs.size;exact ax (O b j)
  .rcases M x c h with q|⟨_,q⟩;.intro e;rw[e]at q;exact absurd (aq (O b j) (aF (Nat.le_succ _) (a x b q).2)) (bi _)
   .exact(A b j).2.2.2.2.1 x c q
 .rcases(A b j).2.2.2.1 with z|z;.exact I.ok.noex b o e z
  .exact absurd (aq (ak e) (aF I.ok.bsz z)) (bi _)
 .intro z;rcases ao.mp (I.stkSub b z)with e|e;.exact(A b j).2.1 e
  .exact(A b j).2.2.1 e
 .show(CV s.heap scope.names).Ns s.heap.objs.size _;exact(AJ.Ns.new s.heap (.type "dict")).keeps (pushCells_keeps _ _)
 .obtain⟨h2,U⟩:=Ej h2;have a1:(relabel scope X.env).names.lookup x=A0 .local\/(relabel scope X.env).names.lookup x=A0 .cell\/(relabel scope X.env).names.lookup x=A0 .free:=h3;have a0:∃k',(relabel scope X.env).names.lookup x=A0 k'/\(k'=.local\/k'=.cell\/k'=.free):=by
   rcases a1 with z|z|z;.exact⟨_,z,.inl rfl⟩
   .exact⟨_,z,.inr (.inl rfl)⟩
   .exact⟨_,z,.inr (.inr rfl)⟩
  obtain⟨k',L,E⟩:=a0;obtain⟨k,g,e⟩:=LZ L;have K:k=.free:=by
   rcases e with e|⟨e,_⟩
   .subst e;rcases E with z|z|z;.subst z;exact absurd (D i x R (.inl g)) U
    .subst z;exact absurd (D i x R (.inr g)) U
    .exact z
   .exact e
  subst K;have hm:=PySem.mem_of_lookup g;have hv:Vis X.env.scope x:=by
   rcases S.free x hm with z|z;.exact .inr (.inl z)
   .exact .inr (.inr z)
  obtain⟨m,hn,hl⟩:=I.loc;obtain⟨u,r,l⟩:=hl i x v R h2 hv;refine⟨u,r,?_⟩;have G:(X.comp scope s H ex).env.kindOf x=A0 .cell\/(X.comp scope s H ex).env.kindOf x=A0 .free:=by
   show(relabel scope X.env).names.lookup x=A0 .cell\/(relabel scope X.env).names.lookup x=A0 .free;rcases e with e|⟨_,e⟩;.subst e;exact .inr L
   .subst e;exact .inl L
  have a2:∃c,X.env.cells.lookup x=A0 c/\s.heap.IsCell c (A0 u):=by
   rcases l with⟨kk,_⟩|⟨_,c,e1,e2⟩
   .rcases S.free x hm with z|z;.rw[z]at kk;cases kk
    .rw[z]at kk;cases kk
   .exact⟨c,e1,e2⟩
  obtain⟨c,e1,e2⟩:=a2;refine .inr ⟨G,c,?_,e2.keeps f⟩;show(Ab (s.heap.objs.size+1) scope.names (Bj X.env.cells scope.names [])).lookup x=A0 c;rw[Df,List.lookup_append];have J:(Ab (s.heap.objs.size+1) scope.names []).lookup x=A5:=by
   cases z:(Ab (s.heap.objs.size+1) scope.names []).lookup x with
   |none=>rfl
   |some d=>exfalso;have C:=S.one x (IR (PySem.mem_of_lookup z));rw[g]at C;cases C
  obtain⟨c',q⟩:=P x hm;have q':=Q x c' q;rw[e1]at q';cases q';rw[J,q];rfl
 .rcases M x c h with q|⟨_,q⟩;.exact⟨_,(a x c q).1⟩
  .obtain⟨v,z⟩:=I.cell x c q;exact⟨v,z.keeps f⟩
 .rcases M x c h with q|⟨_,q⟩;.have:=(a x c q).2;exact fresh c ⋯
  .exact I.freeC x c q
 .rw[Ei];exact I.len
end
section
variable{X:Cx}{p_:List (A4×AS)}{σ:St}{H H':Hp}{s s':A3}{scope:AY}{ex:List A4}{own:List Nat}
theorem Tb{P:AA}{w:AK}{h h':AJ}{a:A4}(x:HOk P w H h)(f:H a=A5)(g:∀b o,b≠a->h.get? b=A0 o->h'.get? b=A0 o):HOk P w H h':=λb i e=>
 (x b i e).stay (λc j d q=>g c j (by
  rintro rfl;rcases d with rfl|d;.rw[f]at e;cases e
  .rw[f]at d;cases d) q) (λ_ q=>q) λ_ _ q=>q
theorem Ek{g:St}{i:List (A4×AS)}{h':AJ}(I:Inv X p_ σ H s)(j:∀b∈ex,BL X p_ H b)(J:Inv (X.comp scope s H ex) i g H' s')(f:bB s.heap.objs.size s'.heap h'):
  Inv X p_ σ H' {s' with heap:=h'}:=by
 have h:∀b o,s.heap.get? b=A0 o->b≠s.heap.objs.size:=λb o e=>ax (ak e);have u:Un (frs X.stack) ex H H' s.heap s'.heap:=J.base;have w:H' s.heap.objs.size=A5:=J.free;refine I.call' (s':={s' with heap:=h'}) (ch:=ex) J.os ⟨λb o e n a d=>?_,λb o e n a d=>?_,u.free,λb o e d=>?_,u.tups,u.frzs,u.tbls⟩ (Tb J.hok w λb o a e=>(f.2 b a).trans e) J.bare λb a=>?_;.exact(f.2 b (h b o e)).trans (u.keep b o e n a d)
 .obtain⟨m,q⟩:=u.slot b o e n a d;exact⟨m,(f.2 b (h b o e)).trans q⟩
 .obtain⟨p,q⟩:=u.there b o e d;exact⟨p,(f.2 b (h b o e)).trans q⟩
 .obtain⟨y,r,x,t,l,v⟩:=j b a;exact⟨t,r,l,v⟩
end
def PTs(X:Cx)(b:List A9)(t:TT):Prop:=∀(d:List (A4×AS))(s:A3)(a:St)(H:Hp)(Q:Bool->Hp->Prop),Inv X d a H s->t a H Q->
 A8 (AD X.prog X.w) X.A (forIn b A2 λc r=>if r=A2 then do let ok<-isTrue c X.env (Ac c X.env);pure (ForInStep.yield ok)else pure (ForInStep.yield r)) (TP X d a Q) X.xe s
theorem Tc{X:Cx}:PTs X [] (λ_ H Q=>Q A2 H):=λa s b H Q I h=>wpAny_tests_nil ⟨H,I,h⟩
theorem Td{X:Cx}{c:A9}{t:TT}(a:PT X c t):PTs X [c] t:=λb s d H Q I h=>wpAny_tests_one (a b s d H Q I h)
def Ext(b:List Nat)(σ a:St):Prop:=a.length=σ.length/\∀j,j∉b->a[j]?=σ[j]?
theorem Ext.refl{a:List Nat}{σ:St}:Ext a σ σ:=⟨rfl,λ_ _=>rfl⟩
theorem Ext.trans{f:List Nat}{σ e d:St}(a:Ext f σ e)(b:Ext f e d):Ext f σ d:=⟨b.1.trans a.1,λj g=>(b.2 j g).trans (a.2 j g)⟩
theorem Ext.mono{e d:List Nat}{σ b:St}(a:Ext e σ b)(h:∀j∈e,j∈d):Ext d σ b:=⟨a.1,λj f=>a.2 j λz=>f (h j z)⟩
theorem Ext.clr{a:List Nat}{σ:St}:Ext a σ (clr a σ):=⟨Ei _ _,λj b=>IS b⟩
theorem Ext.back{d:List Nat}{σ b:St}(a:Ext d (L2.clr d σ) b)(i:Nat)(v:V)(h:(L2.clr d σ)[i]?=A0 (A0 v)):b[i]?=A0 (A0 v):=by obtain⟨_,q⟩:=Ej h;rw[a.2 i q];exact h
def E3(d:List Nat)(g:TG):Prop:=∀(x:V)(b:St)(H:Hp)(Q:St->Hp->Prop),g x b H Q->g x b H λa e=>Q a e/\Ext d b a
theorem Te{i:Nat}{a:List Nat}(h:i∈a):E3 a (CC i):=λx d H Q q=>⟨q,by simp,λj b=>by have:i≠j:=λz=>b (z▸h);rw[cH this]⟩
def CK(e:A9)(d:Nat)(f a:A9)(b:List A9)(nx:Sem Unit)(it acc:A1)(env:Env):Sem Fin:=do
 standAt a.pos
 match<-pyNext it with
 |A5=>pure (.done .next)
 |A0 v=>
  letOwnedTupleGo f it v
  assign f env v
  let mut ok:=A2
  for c in b do
   if ok then ok<-isTrue c env (Ac c env)
  if ok then nx
  again (.compLoop e d it acc env)
abbrev TL(a:Type):=St->a->Hp->(a->Hp->Prop)->Prop
def Cv{e:Type}(X:Cx)(D:A4)(Is:e->AS->Prop)(m:List Nat)(b:Sem Unit)(t:TL e):Prop:=
 ∀(h:List (A4×AS))(s:A3)(f:St)(H:Hp)(a:e)(o:AS)(N:e->Hp->Prop),Inv X h f H s->BL X h H D->s.heap.get? D=A0 o->Is a o->t f a H N->
  A8 (AD X.prog X.w) X.A b (λ_ l=>∃d j i g,Inv X h d g l/\Ext m f d/\l.heap.get? D=A0 i/\Is j i/\g D=A5/\N j g) (λ_ _=>False) s
def C7{f:Type}(l:List Nat)(g:TG)(o:TT)(Ar:TL f)(J:It):TL f:=λn a r N=>
 ∃W:Nat->Nat->f->Hp->Prop,(∃m,W 0 m a r)/\∀i m b H,W i m b H->
  (J.stop i H/\N b H)\/(J.go i H/\∀x h,J.yld i H x h->g x (clr l n) h λd q=>o d q λok j=>
   if ok=A2 then Ar d b j (λc p=>∃e,e<m/\W (i+1) e c p)else∃e,e<m/\W (i+1) e b j)
theorem IT{α:Type}{Is:α->AS->Prop}{X:Cx}{e:A9}{d:Nat}{tg b1:A9}{a1:List A9}{nx:Sem Unit}{it D:A4}{fp:List A4}{tn:Nat->AJ->Prop}{J:It}{g:TG}{tc:TT}{Ar:TL α}{M b3:List Nat}
  (c5:X.xe=λ_ _=>False)(t:X.calm=A2)
  (hq:(Code.compLoop e d (.ref it) (.ref D) X.env).quiet=A2)(hu:X.A.under (Code.compLoop e d (.ref it) (.ref D) X.env)=X.A)
  (hT:(AD X.prog X.w).den (.compLoop e d (.ref it) (.ref D) X.env)=(CK e d tg b1 a1 nx (.ref it) (.ref D) X.env).onRaise (λx=>do noteFrame x X.env;theTreesLotGoes x))
  (T:Turn X.prog X.w X.K tg J fp it tn)(hg:PG X tg g)(b6:E3 M g)(ht:PTs X a1 tc)(hn:Cv X D Is b3 nx Ar)(b9:∀j∈b3,j∈M)(c0:∀a o,Is a o->∀v,o.data≠.cell v)(a9:D∉fp)
  {B:List (A4×AS)}{s:A3}{σ:St}{H:Hp}{a:α}{o:AS}{N:α->Hp->Prop}(I:Inv X B σ H s)(hf:∀b∈fp,BL X B H b)(hD:BL X B H D)(ho:s.heap.get? D=A0 o)(ha:Is a o)(h0:tn 0 s.heap)
  (hw:C7 M g tc Ar J σ a H N):
  codeAny (AD X.prog X.w) X.A (.compLoop e d (.ref it) (.ref D) X.env) (λr s'=>r=.ok .next/\∃a' o' l,Inv X B (clr M σ) l s'/\s'.heap.get? D=A0 o'/\Is a' o'/\l D=A5/\N a' l) s:=by
 obtain⟨W,⟨m0,w0⟩,a5⟩:=hw;have R:∀{l:Hp}{pl:List (A4×AS)},(∀b∈D::fp,l b=A5)->(∀b∈D::fp,BL X B l b):=λ{l pl}hn b f=>by
  rcases ao.mp f with rfl|S;.exact⟨hn _ az,hD.2⟩
  .exact⟨hn b f,(hf b S).2⟩
 refine codeAny_loop hq (λn s'=>∃i b C l,Inv X B (clr M σ) l s'/\tn i s'.heap/\(∀b∈D::fp,l b=A5)/\s'.heap.get? D=A0 C/\Is b C/\W i n b l) ?_ m0
  ⟨0,a,o,H,I.weak (Ei _ _) (λi v q=>(Ej q).1),h0,λb f=>by
   rcases ao.mp f with rfl|S;.exact hD.1
   .exact(hf b S).1,ho,ha,w0⟩;rintro n s3⟨i,b,C,H3,I3,a3,a8,o3,L,w3⟩;rw[hu,hT];refine wpAny_noted ?_;have hE:∀{β:Type}{c:Sem β}{Q:β->A3->Prop}{s:A3}{E:A1->A3->Prop},A8 (AD X.prog X.w) X.A c Q (λ_ _=>False) s->A8 (AD X.prog X.w) X.A c Q E s:=λh=>cY h (λ_ _ q=>q) λ_ _ q=>q.elim;refine hE ?_;unfold CK;refine aa (ck (aa ?_));have P:∀{β:Type}{c:Sem β}{Q:β->A3->Prop}{s:A3},A8 (AD X.prog X.w) X.A c Q X.xe s->A8 (AD X.prog X.w) X.A c Q (λ_ _=>False) s:=λh=>by rw[c5]at h;exact h
 have pD:Inv X (B++C5 [D] s3.heap) (clr M σ) H3 s3:=I3.pinned (λb f=>by
  have e:b=D:=by simpa using f
  subst e;exact R (pl:=[]) a8 b az) (λb f=>by
  have e:b=D:=by simpa using f
  subst e;exact⟨C,o3,c0 _ _ L⟩);have mD:(D,C)∈C5 [D] s3.heap:=CU (by simp) o3;have Z:∀{l:Hp},(∀b∈fp,l b=A5)->∀b∈fp,BL X (B++C5 [D] s3.heap) l b:=λ{l}hn b f=>by
  obtain⟨_,f1,f2,f3,f4,f5⟩:=hf b f;refine⟨hn b f,f1,f2,f3,f4,λp hp=>?_⟩;rcases aU.mp hp with q|q;.exact f5 p (bH _ q)
  .rcases aU.mp q with q|q;.exact f5 p (ap _ q)
   .have e:p.1=D:=by simpa using(Hy q).1
    rw[e];rintro rfl;exact a9 f
 have O:∀b∈fp,H3 b=A5:=λb f=>a8 b (ay _ f);rcases a5 i n b H3 w3 with⟨b2,qn⟩|⟨go,a6⟩;.refine thn (T.done X rfl rfl rfl t i _ s3 _ H3 _ pD (Z O) a3 b2) λr s4⟨hr,I4⟩=>?_;subst hr;have q4:=I4.pin (D,C) (ap _ (ap _ mD));exact ab ⟨rfl,b,C,H3,I4.unpinned,q4.1,L,q4.2.1,qn⟩
 .refine thn (T.item X rfl rfl rfl t i _ s3 _ H3 _ pD (Z O) a3 go) λr s4⟨u,hr,h4⟩=>?_;subst hr;refine aa (thn h4 λ_ s5⟨x,H5,I5,r5,y5,U,c1⟩=>?_);have c2:=I5.pinned (Z c1) (T.obj _ _ U);refine aa (thn (P (hg _ s5 _ H5 x u _ c2 r5 (b6 x _ H5 _ (a6 x H5 y5)))) λ_ s6⟨a0,H6,I6,q6,x6⟩=>?_);refine aa (thn (P (ht _ s6 a0 H6 _ I6 q6)) λok s7⟨Y,I7,q7⟩=>?_);have y:=I7.pin (D,C) (ap _ (bH _ (ap _ mD)));have a7:∀b∈fp,∀o,s5.heap.get? b=A0 o->s7.heap.get? b=A0 o/\Y b=A5:=λb f o e=>
   let q:=I7.pin (b,o) (ap _ (ap _ (CU f e)))
   ⟨q.1,q.2.1⟩;have G:tn (i+1) s7.heap:=T.keep _ _ _ U λb f o e=>(a7 b f o e).1;have b4:∀b∈fp,Y b=A5:=λb f=>by obtain⟨o,e,_⟩:=T.obj _ _ U b f;exact(a7 b f o e).2
  have a2:Inv X B a0 Y s7:=I7.unpinned.unpinned;cases ok with
  |false=>
   have c4:∃m',m'<n/\W (i+1) m' b Y:=q7;obtain⟨m',hm,w7⟩:=c4;refine ab ⟨rfl,m',hm,i+1,b,C,Y,a2.weak ?_ x6.back,G,λc hc=>?_,y.1,L,w7⟩;.rw[x6.1]
   .rcases ao.mp hc with rfl|m;.exact y.2.1
    .exact b4 c m
  |true=>
   have b5:=a2.pinned (λb f=>R (pl:=[]) (λc hc=>by
    rcases ao.mp hc with rfl|m;.exact y.2.1
    .exact b4 c m) b (ay _ f)) (T.obj _ _ G);have fD:BL X (B++C5 fp s7.heap) Y D:=by
    obtain⟨_,f1,f2,f3,f4,f5⟩:=hD;refine⟨y.2.1,f1,f2,f3,f4,λp hp=>?_⟩;rcases aU.mp hp with q|q;.exact f5 p (bH _ q)
    .rcases aU.mp q with q|q;.exact f5 p (ap _ q)
     .intro z;exact a9 (z▸(Hy q).1)
   refine aa (thn (hn _ s7 a0 Y b C _ b5 fD y.1 L q7) λ_ s8⟨b7,b8,o8,H8,I8,x8,e8,c3,n8,m',hm,w8⟩=>?_);have a4:∀b∈fp,∀o,s7.heap.get? b=A0 o->s8.heap.get? b=A0 o/\H8 b=A5:=λb f o e=>
    let q:=I8.pin (b,o) (ap _ (ap _ (CU f e)))
    ⟨q.1,q.2.1⟩;have b0:Ext M (clr M σ) b7:=x6.trans (x8.mono b9);refine ab ⟨rfl,m',hm,i+1,b8,o8,H8,I8.unpinned.weak (by rw[b0.1]) b0.back,T.keep _ _ _ G λb f o e=>(a4 b f o e).1,λc hc=>?_,e8,c3,w8⟩;rcases ao.mp hc with rfl|m;.exact n8
   .obtain⟨o,e,_⟩:=T.obj _ _ G c m;exact(a4 c m o e).2
def IsL(xs:List V)(o:AS):Prop:=xs.length<=A7/\∃(a:List A1)(n:Nat),Av xs a/\o={cls:=.type "list",data:=.seq a.toArray n}
theorem El(xs:List V)(o:AS)(h:IsL xs o)(v:Option A1):o.data≠.cell v:=by obtain⟨_,a,n,_,rfl⟩:=h;intro z;cases z
def Cw(b:TE):TL (List V):=λd a H N=>b d H λv e=>a.length<A7/\N (a++[v]) e
theorem IU{X:Cx}{D:A4}{d:A9}{w:TE}(i:X.xe=λ_ _=>False)(C:PE X d w):Cv X D IsL [] (do let _<-call (.builtin "list.append") [.ref D,<-Ac d X.env]) (Cw w):=by
 intro x s g H R o N I m l y L;have S:Inv X (x++C5 [D] s.heap) g H s:=I.pinned (λb a=>by
  have e:b=D:=by simpa using a
  subst e;exact m) (λb a=>by
  have e:b=D:=by simpa using a
  subst e;exact⟨o,l,El _ _ y⟩);have q:=C _ s g H _ S L;rw[i]at q;refine aa (thn q λu r⟨v,t,p,r1,G,U⟩=>?_);have j:=p.pin (D,o) (ap _ (ap _ (CU (by simp) l)));obtain⟨T,f,n,A,rfl⟩:=y;have E:=A.length;refine aa (wpAny_list_append_plain (items:=f.toArray) ⟨n,j.1⟩ (λQ h Y=>?_) (by rw[au,<-E];exact T));obtain⟨_,J,Z,O,B,P⟩:=m;have K:Inv X x g t {r with heap:=Q}:=p.unpinned.turned (it:=D) (t':=r.toks) (λb o a e=>(Y.2 b a).trans e) j.2.1 J O B P;obtain⟨M,h⟩:=h;refine ab ⟨g,R++[v],_,t,K,Ext.refl,h,⟨?_,f++[u],M,A.append (.cons r1 .nil),?_⟩,j.2.1,U⟩;.rw[aA];exact G
 .simp
def CF(e:A9)(d:Nat)(a:A9)(acc:A1)(env:Env):Sem Unit:=do
 let x<-Ac a env
 standAt a.pos
 let x<-foldedSetIterable a env x
 let _<-runOwn (.compStart e (d+1) (<-holding [x] (pyIter x)) acc env) env
theorem IV{M:Model}{A:AL}{e:A9}{d:Nat}{it acc:A1}{env:Env}{R:Result->A3->Prop}{s:A3}
  (p:(Code.compStart e d it acc env).quiet=A2)(hu:A.under (Code.compStart e d it acc env)=A)(j:∀b,(Code.compLoop e d b acc env).quiet=A2)
  (i:M.den (.compStart e d it acc env)=(compStart e d it acc env).onRaise (λx=>do noteFrame x env;standAt theWindowsPlace))(l:∃g,(clausesOf e)[d]?=A0 g/\g.is_async=0)
  (h0:codeAny M A (.compLoop e d it acc env) R s)(h1:∀E,A8 M A (pyIter it) (λb h=>b=it/\h=s) E s):codeAny M A (.compStart e d it acc env) R s:=by
 refine codeAny_of_tree ?_;rw[hu,i];refine wpAny_notedAt ?_;obtain⟨g,n,o⟩:=l;unfold compStart;rw[n];have m:((A0 g:Option Comprehension).elim A6 (λx=>x.is_async !=0))=A6:=by show(g.is_async !=0)=A6;rw[o];rfl
 rw[m];show A8 _ _ (ask>>=_) _ _ s;refine aa (bC (wpAny_ite ?_));have a:A8 M A (again (.compLoop e d it acc env)) (λa h=>match a with| .done f=>R (.ok f) h| .again c=>c.quiet=A2/\codeAny M A c R h) (notedBy M A env λx h=>R (.error x) h) s:=ab ⟨j it,h0⟩;split
 .first
   |exact a
   |exact aa a
   |exact aa (ab a)
 .refine aa (bq ?_);refine aa (ck ?_);refine aa (cY (h1 _) (λb h q=>?_) λ_ _ q=>q);obtain⟨rfl,rfl⟩:=q;exact a
theorem Lc(own:List Nat)(σ:St):clr own (clr own σ)=clr own σ:=by
 apply bO;intro i;by_cases h:i∈own
 .have z:∀d:St,(clr own d)[i]?=A5\/(clr own d)[i]?=A0 A5:=λd=>by
   cases q:(clr own d)[i]? with
   |none=>exact .inl rfl
   |some o=>
    cases o with
    |none=>exact .inr rfl
    |some v=>exact absurd h (Ej q).2
  have g:(clr own (clr own σ)).length=(clr own σ).length:=Ei _ _;rcases z (clr own σ)with a|a<;>rcases z σ with b|b<;>rw[a,b];.have f:=bf.mp a;have e:=(aK.mp b).1;omega
  .have f:=bf.mp b;have e:=(aK.mp a).1;omega
 .rw[IS h]
def Dg{b:Type}(f:TI)(c:It->TL b):TL b:=λd a H N=>f d H λJ e=>c J d a e N
theorem Fp{α:Type}{Is:α->AS->Prop}{X:Cx}{e:A9}{d:Nat}{P h:A9}{t:List A9}{nx:Sem Unit}{D:A4}{wi:TI}{g:TG}{tc:TT}{Ar:TL α}{u n:List Nat}
  (q:X.xe=λ_ _=>False)(i:X.calm=A2)
  (Z:∀f,(Code.compLoop e (d+1) f (.ref D) X.env).quiet=A2)(hu:∀f,X.A.under (Code.compLoop e (d+1) f (.ref D) X.env)=X.A)
  (Q:∀f,(Code.compStart e (d+1) f (.ref D) X.env).quiet=A2)(G:∀f,X.A.under (Code.compStart e (d+1) f (.ref D) X.env)=X.A)
  (hT:∀f,(AD X.prog X.w).den (.compLoop e (d+1) f (.ref D) X.env)=(CK e (d+1) P h t nx f (.ref D) X.env).onRaise (λx=>do noteFrame x X.env;theTreesLotGoes x))
  (hS:∀f,(AD X.prog X.w).den (.compStart e (d+1) f (.ref D) X.env)=(compStart e (d+1) f (.ref D) X.env).onRaise (λx=>do noteFrame x X.env;standAt theWindowsPlace))
  (R:∃g,(clausesOf e)[d+1]?=A0 g/\g.is_async=0)(S:∀x,foldedSetIterable h X.env x=pure x)
  (hi:PI X P h wi)(hg:PG X P g)(K:E3 u g)(ht:PTs X t tc)(hn:Cv X D Is n nx Ar)(M:∀j∈n,j∈u)(l:∀a o,Is a o->∀v,o.data≠.cell v):
  Cv X D Is u (CF e d h (.ref D) X.env) (Dg wi (C7 u g tc Ar)):=by
 intro p_ s σ H a o N I hD ho ha hw;have I1:Inv X (p_++C5 [D] s.heap) σ H s:=I.pinned (λb m=>by
  have e:b=D:=by simpa using m
  subst e;exact hD) (λb m=>by
  have e:b=D:=by simpa using m
  subst e;exact⟨o,ho,l _ _ ha⟩);have h1:=hi _ s σ H _ I1 hw;rw[q]at h1;unfold CF;refine aa (thn h1 λv s1 h2=>?_);refine aa (ck (aa (cQ (S v) ?_)));refine aa (aC (thn h2 λa0 s2 C=>?_));obtain⟨f,fp,tn,J,H2,rfl,Y,T,st2,y,hc⟩:=C;have mD:(D,o)∈C5 [D] s.heap:=CU (by simp) ho;have q2:=Y.pin (D,o) (ap _ (ap _ mD));have U:D∉fp:=λz=>(y D z).2.2.2.2.2 (D,o) (ap _ (ap _ mD)) rfl;have B:∀b∈fp,BL X p_ H2 b:=λb m=>by
  obtain⟨f0,f1,y,f3,f4,f5⟩:=y b m;exact⟨f0,f1,y,f3,f4,λp hp=>f5 p (by
   rcases aU.mp hp with z|z;.exact bH _ z
   .exact ap _ (bH _ z))⟩
 have L:=IT (Is:=Is) (D:=D) q i (Z _) (hu _) (hT _) T hg K ht hn M l U Y.unpinned B ⟨q2.2.1,hD.2⟩ q2.1 ha st2 hc;have L2:=IV (Q _) (G _) Z (hS _) R L (λE=>T.self X.A 0 s2 _ E st2 ⟨rfl,rfl⟩);refine aa (wpAny_runOwn (Ag L2 λr s3 C=>?_));obtain⟨rfl,a',o',H',J',e',O,n',hN⟩:=C;exact ab ⟨_,a',o',H',J',Ext.clr,e',O,n',hN⟩
def Dh(own:List Nat)(h:TI)(g:TG)(f:TT)(Ar:TL (List V)):TE:=λb H Q=>h b H λJ d=>C7 own g f Ar J b [] d λe a=>∀p,a p=A5->Q (.ref p) (upd a p (.lst e))
structure CompIn(X:Cx)(e:A9)(scope:AY)(tg:A9)(iter:A9)(ifs:List A9)(nx:A4->Env->Sem Unit)(g:TG)(tc:TT)(Ar:TL (List V))(own:List Nat):Prop where
 sc:CompSc X scope
 ow:∀i x,X.N[i]?=A0 x->(scope.names.lookup x=A0 .local\/scope.names.lookup x=A0 .cell)->i∈own
 cl:∃gs,clausesOf e=⟨tg,iter,ifs,0⟩::gs
 fs:∀x,foldedSetIterable iter X.env x=pure x
 calm:X.calm=A2
 q:∀it D env,(Code.compLoop e 0 it (.ref D) env).quiet=A2/\(Code.compStart e 0 it (.ref D) env).quiet=A2
 u:∀A it D env,AL.under A (Code.compLoop e 0 it (.ref D) env)=A/\AL.under A (Code.compStart e 0 it (.ref D) env)=A
 T:∀P w it D env,(AD P w).den (.compLoop e 0 it (.ref D) env)=(CK e 0 tg iter ifs (nx D env) it (.ref D) env).onRaise (λx=>do noteFrame x env;theTreesLotGoes x)
 S:∀P w it D env,(AD P w).den (.compStart e 0 it (.ref D) env)=(compStart e 0 it (.ref D) env).onRaise (λx=>do noteFrame x env;standAt theWindowsPlace)
 ge:E3 own g
 inn:∀s0 H0 ex D,PG (X.comp scope s0 H0 ex) tg g/\PTs (X.comp scope s0 H0 ex) ifs tc/\∃ws',(∀j∈ws',j∈own)/\Cv (X.comp scope s0 H0 ex) D IsL ws' (nx D (X.comp scope s0 H0 ex).env) Ar
section
variable{X:Cx}{e:A9}{scope:AY}{tg iter:A9}{ifs:List A9}{nx:A4->Env->Sem Unit}{g:TG}{tc:TT}{Ar:TL (List V)}{own:List Nat}{wi:TI}
theorem Ld(C:CompIn X e scope tg iter ifs nx g tc Ar own)(hi:PI X tg iter wi){l:List (A4×AS)}{s:A3}{σ:St}{H:Hp}{R:V->Hp->Prop}(I:Inv X l σ H s)(hw:Dh own wi g tc Ar σ H R)
  {M:Option (A1->Sem Unit)}{Q:A1->A3->Prop}{pos:Pos}
  (a0:∀(f s':A3)(Y H':Hp)(ex:List A4)(D:A4)(xs:List V)(o:AS)(a6:St),Inv X l σ Y f->(∀b∈ex,BL X l Y b)->Inv (X.comp scope f Y ex) [] a6 H' s'->s'.heap.get? D=A0 o->D<f.heap.objs.size->X.s₀.heap.objs.size<=D->BL X l Y D->IsL xs o->H' D=A5->R (.ref D) (upd H' D (.lst xs))->
   compPost (AD X.prog X.w) X.A X.xe M Q (.ref D) f.heap.objs.size (.ok .next) s'):
  A8 (AD X.prog X.w) X.A (Ak e scope X.env pos (newList []) A6 (Ac iter X.env) M) Q X.xe s:=by
 obtain⟨gs,P⟩:=C.cl;refine wpAny_comprehension_free P C.fs (LX λn hn=>I.ok.has n (C.sc.free n hn)) C.sc.kind C.sc.names ?_;refine thn (hi l s σ H _ I hw) λv s1 h1=>thn h1 λa7 a h2=>?_;obtain⟨it,j,tn,J,i,rfl,U,T,st2,f2,hc⟩:=h2;refine aI (La ?_);have keep:∀b o,a.heap.get? b=A0 o->(a.heap.push {cls:=.type "list",dict:=A5,data:=.seq ([]:List A1).toArray}).get? b=A0 o:=λb o e=>ac _ e;have I3:Inv X l σ i {a with heap:=a.heap.push {cls:=.type "list",dict:=A5,data:=.seq ([]:List A1).toArray}}:=U.kept (t':=a.toks) keep;have a2:(a.heap.push {cls:=.type "list",dict:=A5,data:=.seq ([]:List A1).toArray}).objs.size=a.heap.objs.size+1:=aW ..;have fD:BL X l i a.heap.objs.size:=U.fpOk (ag _) (U.hok.fresh (ag _));have O:∀b∈j,b<a.heap.objs.size:=λb d=>by obtain⟨o,e,_⟩:=T.obj _ _ st2 b d;exact ak e
 have a4:a.heap.objs.size∉j:=λz=>bi _ (O _ z);have y:∀b∈a.heap.objs.size::j,BL X l i b:=λb d=>by
  rcases ao.mp d with rfl|d;.exact fD
  .exact f2 b d
 generalize x:({a with heap:=a.heap.push {cls:=.type "list",dict:=A5,data:=.seq ([]:List A1).toArray}}:A3)=f at*;have G:f.heap.objs.size=a.heap.objs.size+1:=by rw[<-x];exact a2
 have m:∀b∈a.heap.objs.size::j,b<f.heap.objs.size:=λb d=>by
  rw[G];rcases ao.mp d with rfl|d;.exact Nat.lt_succ_self _
  .exact bv (O b d)
 have Z:=Lb (own:=own) I3 y m C.sc C.ow;obtain⟨c1,c2,a8,c4,c5⟩:=C.inn f i (a.heap.objs.size::j) a.heap.objs.size;have kp:∀b o,a.heap.get? b=A0 o->(CV f.heap scope.names).get? b=A0 o:=λb o e=>pushCells_keeps _ _ b o (ac _ (by rw[<-x];exact keep b o e));have oD:(CV f.heap scope.names).get? a.heap.objs.size=A0 {cls:=.type "list",dict:=A5,data:=.seq ([]:List A1).toArray}:=pushCells_keeps _ _ _ _ (ac _ (by rw[<-x];exact ai _ rfl));have t:∀b∈a.heap.objs.size::j,BL (X.comp scope f i (a.heap.objs.size::j)) [] i b:=λb d=>
  ⟨(y b d).1,(Z.ok.exf b d).1,Z.ok.exfs b d,.inl d,(Z.ok.exf b d).2,λp hp=>absurd (show p∈([]:List (A4×AS))from hp) (by simp)⟩;have T':Turn (X.comp scope f i (a.heap.objs.size::j)).prog (X.comp scope f i (a.heap.objs.size::j)).w (X.comp scope f i (a.heap.objs.size::j)).K tg J j it tn:=T;have a1:C7 own g tc Ar J (clr own σ) [] i (λxs i=>∀p,i p=A5->R (.ref p) (upd i p (.lst xs))):=by obtain⟨W,w0,N⟩:=hc;refine⟨W,w0,?_⟩;rw[Lc];exact N
 have B:tn 0 ({f with heap:=CV f.heap scope.names}:A3).heap:=T.keep _ _ _ st2 λb d o e=>kp b o e;have L:=IT (X:=X.comp scope f i (a.heap.objs.size::j)) (Is:=IsL) (D:=a.heap.objs.size) rfl C.calm (C.q _ _ _).1 (C.u _ _ _ _).1 (C.T _ _ _ _ _) T' c1 C.ge c2 c5 c4 El a4 Z
  (λb d=>t b (ay _ d)) (t _ az) oD ⟨aN _,[],0,.nil,rfl⟩ B a1;have L2:=IV (C.q _ _ _).2 (C.u _ _ _ _).2 (λa5=>(C.q a5 _ _).1) (C.S _ _ _ _ _) ⟨_,by rw[P];rfl,rfl⟩ L (λE=>T.self _ 0 _ _ E B ⟨rfl,rfl⟩);refine Ag L2 λr s' h=>?_;obtain⟨rfl,xs,o',H',J',e',a3,n',hN⟩:=h;exact a0 f s' i H' _ _ xs o' _ I3 y J' e' (m _ az) U.sz fD a3 n' (hN _ n')
end
section
variable{X:Cx}{p_:List (A4×AS)}{σ:St}{H H':Hp}{s s':A3}{D:A4}{o:HO}
theorem Inv.track(I:Inv X p_ σ H s)(f:BL X p_ H D)(h0:X.s₀.heap.objs.size<=D)(g:B0 X.prog X.w (upd H D o) s.heap D o):Inv X p_ σ (upd H D o) s:=by
 obtain⟨A,B,E,G,l,C⟩:=f;have y:∀b d,X.s₀.heap.get? b=A0 d->b≠D:=λb d e=>ax (aq (ak e) h0);have a:∀b u,H b=A0 u->b≠D:=λb u e z=>by rw[z,A]at e;cases e
 refine⟨I.ok,I.os,I.bare,⟨I.base.keep,I.base.slot,λb d e n t=>by rw[Au (y b d e)];exact I.base.free b d e n t,I.base.there,λb j e=>?_,λb d u e=>?_,λb v e=>?_⟩,I.loc,I.cell,?_,λx c e=>?_,λp i=>?_,λb u e=>?_,I.len⟩;.have q:=I.base.tups b j e;rw[Au (a b _ q)];exact q
 .have q:=I.base.frzs b d u e;rw[Au (a b _ q)];exact q
 .obtain⟨m,q⟩:=I.base.tbls b v e;exact⟨m,by rw[Au (a b _ q)];exact q⟩
 .rw[Au (Ne.symm B)];exact I.free
 .rw[Au (l x c e)];exact I.freeC x c e
 .obtain⟨e,n,r⟩:=I.pin p i;refine⟨e,?_,r⟩;rw[Au (C p i)];exact n
 .by_cases h:b=D;.subst h;rw[Aw]at e;cases e;exact g
  .rw[Au h]at e;exact(I.hok b u e).stay (λ_ _ _ q=>q) (λc q=>by rw[Au (a c _ q)];exact q) λc j q=>by rw[Au (a c _ q)];exact q
end
section
variable{X:Cx}{e:A9}{scope:AY}{tg iter:A9}{ifs:List A9}{nx:A4->Env->Sem Unit}{g:TG}{tc:TT}{Ar:TL (List V)}{own:List Nat}{wi:TI}
theorem IW(C:CompIn X e scope tg iter ifs nx g tc Ar own)(hi:PI X tg iter wi){pos:Pos}(q:Ac e X.env=Ak e scope X.env pos (newList []) A6 (Ac iter X.env)):PE X e (Dh own wi g tc Ar):=by intro N s E H Q I hw;rw[q];refine Ld C hi I hw λv L G l M D j o A u d J p a x w h t hR=>?_;obtain⟨m,y,_⟩:=J.loc;refine⟨m,y,λK i=>?_⟩;have r:=Ek u d J i;obtain⟨z,f,n,B,rfl⟩:=h;have b:D≠v.heap.objs.size:=ax a;refine⟨.ref D,upd l D (.lst j),r.track (o:=.lst j) ⟨t,w.2⟩ x ⟨z,f,n,B,(i.2 D b).trans p⟩,rfl,hR⟩
theorem Tf(C:CompIn X e scope tg iter ifs nx g tc Ar own)(hi:PI X tg iter wi){i:Nat}{y:AM}{t pos p:Pos}(hN:X.N.Nodup)(U:X.N[i]?=A0 y)(Z:Loc X.env.scope y)(hf:X.fn y=A2\/X.env.scope.names.lookup y=A0 .local)
  (he:evalThenUse e X.env (assign (.Name y t) X.env)=(do let _<-Ak e scope X.env p (newList []) A6 (Ac iter X.env) (A0 (assign (.Name y t) X.env))))
  (x:swapsWith e (A0 (.Name y t)) pos.line X.env=pure A2):PS X (.Assign [.Name y t] e pos) (CT (Dh own wi g tc Ar) (CC i)):=by
 intro r s A H D I hw;rw[exec_Assign_Name_used _ _ _ _ x];refine aa (ck (aa ?_));rw[he];refine aa (thn (Q:=λ_ f=>SP X r D .next f) (Ld C hi I hw λl f H0 E ex h T o a0 M O J e' u h0 fD R n' hR=>?_) λ_ f q=>ab (ab q));obtain⟨m,hn,_⟩:=J.loc;have J2:Inv X r A E f:=Ek M O J (AJ.SameBut.refl ..);obtain⟨z,P,n,rv,rfl⟩:=R;have L:h≠l.heap.objs.size:=ax u;have J3:Inv X r A (upd E h (.lst T)) f:=J2.track ⟨n',fD.2⟩ h0 ⟨z,P,n,rv,e'⟩;have d:BL X r H0 l.heap.objs.size:=M.fpOk (ag _) (M.hok.fresh (ag _));refine wpAny_assign_Name (Hd J3 hN U Z (v:=.ref h) rfl (λj J4 hs=>?_) hf);obtain⟨a,w,K⟩:=hs;have S:l.heap.objs.size≠a:=by
  rcases K with rfl|K;.exact d.2.1
  .exact λq=>d.2.2.2.2.1 _ _ K q.symm
 have G:f.heap.Ns l.heap.objs.size m:=hn;refine⟨m,G.sameBut w S,λh' B=>?_⟩;have J5:Inv X r (A.set i (A0 (.ref h))) (upd E h (.lst T)) {j with heap:=h'}:=J4.turned (it:=l.heap.objs.size) (t':=j.toks) (λb ob Y q=>(B.2 b Y).trans q) (by rw[Au (Ne.symm L)];exact J.free) d.2.1 d.2.2.2.1 d.2.2.2.2.1 d.2.2.2.2.2;exact⟨_,_,J5,hR⟩
end
def BZ:Bool->AJ->A4->A4->Nat->Prop
 |A2,h,b,a,i=>h.IsTupleIter b a i
 |A6,h,b,a,i=>h.IsListIter b a i
def Bx:Bool->AJ->A4->Array A1->Prop
 |A2,h,a,b=>h.IsTuple a b
 |A6,h,a,b=>h.IsList a b
def Em:Bool->String
 |A2=>"tuple_iterator"
 |A6=>"list_iterator"
theorem BZ.obj{k:Bool}{h:AJ}{it a:A4}{i:Nat}(x:BZ k h it a i):∃o,h.get? it=A0 o/\o.data=.fields #[.ref a,.int i 0]:=by
 cases k;.obtain⟨o,e,_,d⟩:=x;exact⟨o,e,d⟩
 .obtain⟨o,e,_,d⟩:=x;exact⟨o,e,d⟩
theorem BZ.at{k:Bool}{h h':AJ}{it a:A4}{i:Nat}(x:BZ k h it a i)(b:∀o,h.get? it=A0 o->h'.get? it=A0 o):BZ k h' it a i:=by
 cases k;.obtain⟨o,e,r⟩:=x;exact⟨o,b o e,r⟩
 .obtain⟨o,e,r⟩:=x;exact⟨o,b o e,r⟩
theorem Bx.at{k:Bool}{h h':AJ}{a:A4}{xs:Array A1}(x:Bx k h a xs)(b:∀o,h.get? a=A0 o->h'.get? a=A0 o):Bx k h' a xs:=by
 cases k;.obtain⟨o,e,r⟩:=x;exact⟨o,b o e,r⟩
 .obtain⟨o,e,r⟩:=x;exact⟨o,b o e,r⟩
theorem Bx.lt{k:Bool}{h:AJ}{a:A4}{xs:Array A1}(x:Bx k h a xs):a<h.objs.size:=by
 cases k;.obtain⟨o,e,r⟩:=x;exact ak e
 .obtain⟨o,e,r⟩:=x;exact ak e
section
variable{prog:AA}{w:AK}{A:AL}{E:A1->A3->Prop}{s:A3}
theorem Fq{k:Bool}{it l:A4}{i:Nat}{items:Array A1}{x:A1}{Q:A1->A3->Prop}(a:BZ k s.heap it l i)(e:Bx k s.heap l items)(m:items[i]?=A0 x)
  (j:∀h,BZ k h it l (i+1)->bB it s.heap h->Q x {s with heap:=h}):A8 (AD prog w) A (AB.SmallTypes.nextOf (.ref it)) Q E s:=by
 cases k;.exact wpAny_nextOf_list_item a e m j
 .have a:s.heap.IsTupleIter it l i:=a;have e:s.heap.IsTuple l items:=e;obtain⟨o,d,n,b⟩:=id a;obtain⟨q,g,_,p,f⟩:=e;unfold AB.SmallTypes.nextOf;refine aa (aS (name:=AM.ofString "__next__") a.typeIs F.slot_tuple_iterator_next
   (aP F.slot_tuple_iterator_next a.typeIs F.entry_tuple_iterator_next ?_ (F.args_tuple_iterator_next_1 _)));show A8 _ _ (field (.ref it) 0>>=_) _ _ s;refine aa (bu d b (x:=.ref l) rfl ?_);show A8 _ _ (if(A1.ref l==A1.none)=A2 then _ else _) _ _ s;rw[if_neg (show¬((A1.ref l==A1.none)=A2)from al)];show A8 _ _ (field (.ref it) 1>>=_) _ _ s;refine aa (bu d b (x:=.int i 0) rfl ?_);show A8 _ _ (seqItems? (.ref l)>>=_) _ _ s;refine aa (bQ g f ?_);simp only[bb,m];refine aa (bK d b (by simp) (ab ⟨x,rfl,ab (j _ ?_ (AJ.SameBut.update ..))⟩));exact⟨_,aM _ d (AS.isFreed_of_fields (AR b _)),(AS.cls_mapFields ..).trans n,by rw[AR b];simp[AX]⟩
theorem IX{k:Bool}{it l:A4}{i:Nat}{items:Array A1}{Q:A1->A3->Prop}(p:A.handled=A5)(b:BZ k s.heap it l i)(d:Bx k s.heap l items)(q:items[i]?=A5)
  (r:∀n e,AJ.ExtBut it s.heap n->(∃o,n.get? e=A0 o/\o.cls=.type "StopIteration")->E (.ref e) {s with heap:=n}):A8 (AD prog w) A (AB.SmallTypes.nextOf (.ref it)) Q E s:=by
 cases k;.exact wpAny_nextOf_list_end p b d q r
 .have b:s.heap.IsTupleIter it l i:=b;have d:s.heap.IsTuple l items:=d;obtain⟨o,h,u,g⟩:=id b;obtain⟨v,j,_,t,f⟩:=d;unfold AB.SmallTypes.nextOf;refine aa (aS (name:=AM.ofString "__next__") b.typeIs F.slot_tuple_iterator_next
   (aP F.slot_tuple_iterator_next b.typeIs F.entry_tuple_iterator_next ?_ (F.args_tuple_iterator_next_1 _)));show A8 _ _ (field (.ref it) 0>>=_) _ _ s;refine aa (bu h g (x:=.ref l) rfl ?_);show A8 _ _ (if(A1.ref l==A1.none)=A2 then _ else _) _ _ s;rw[if_neg (show¬((A1.ref l==A1.none)=A2)from al)];show A8 _ _ (field (.ref it) 1>>=_) _ _ s;refine aa (bu h g (x:=.int i 0) rfl ?_);show A8 _ _ (seqItems? (.ref l)>>=_) _ _ s;refine aa (bQ j f ?_);simp only[bb,q];refine aa (bq (aa (bK h g (by simp) ?_)));show A8 _ _ (newExc (.type "StopIteration") []>>=_) _ _ _;refine aa ?_;simp only[newExc,newTuple];refine aa (aI ?_ (by size_fits));refine aa (m:=Am _ _) (cQ (a:=A1.none) (by first|rfl|(simp only[Am];rfl)) ?_);refine aI ?_ (by size_fits);simp only[raiseNew];refine aa (dy ?_);first|rw[show A.in1.handled=A5 from p]|rw[p]
  refine aa (ab (wpAny_throw ?_));exact r _ _ (((AJ.SameBut.update ..).extBut.push _).push _) ⟨_,ai _ rfl,rfl⟩
end
abbrev zH1(k:Bool)(h:AJ)(l1:A4):AJ:=h.push {cls:=.type (Em k),data:=.fields #[.ref l1,.int 0 0]}
abbrev zH2(k j:Bool)(h:AJ)(l1 a:A4):AJ:=(zH1 k h l1).push {cls:=.type (Em j),data:=.fields #[.ref a,.int 0 0]}
abbrev zH3(k j:Bool)(h:AJ)(l1 a:A4):AJ:=(zH2 k j h l1 a).push {cls:=.type "tuple",data:=.seq #[.ref h.objs.size,.ref (zH1 k h l1).objs.size]}
abbrev zH4(k j:Bool)(h:AJ)(l1 a:A4):AJ:=(zH3 k j h l1 a).push {cls:=.type "tuple",data:=.seq #[.none,.none]}
abbrev zH5(k j:Bool)(h:AJ)(l1 a:A4):AJ:=(zH4 k j h l1 a).push {cls:=.type "zip",data:=.fields #[.none,.bool A6,.bool A6,.ref (zH2 k j h l1 a).objs.size,.ref (zH3 k j h l1 a).objs.size]}
set_option maxHeartbeats 4000000 in
theorem Tg(k j:Bool)(l1 l2:A4)(xs ys:Array A1):
  Meets (AB.«zip.__new__» ⟨[.type "zip",.ref l1,.ref l2],[]⟩) (λ_ R s=>Bx k s.heap l1 xs/\Bx j s.heap l2 ys/\
   R (.ok (.ret (.ref (zH4 k j s.heap l1 l2).objs.size))) {s with heap:=zH5 k j s.heap l1 l2}):=by
 cases k<;>cases j;.exact meets_zip_new l1 l2 xs ys
 .exact .of_wp λprog w A R s h=>by obtain⟨hp,g,d,tk,os⟩:=s;obtain⟨hl1,hl2,h⟩:=h;have hsub:=sub_zip;have hL1:AJ.IsList (A3.heap ⟨hp,g,d,tk,os⟩) l1 xs:=hl1;have hL2:AJ.IsTuple (A3.heap ⟨hp.push {cls:=.type "list_iterator",data:=.fields #[.ref l1,.int 0 0]},g,d,tk,os⟩) l2 ys:=AJ.IsTuple.push hl2 _;wp_walk using cL hL1,ce hL2;exact⟨_,rfl,h⟩
 .exact .of_wp λprog w A R s h=>by obtain⟨hp,g,d,tk,os⟩:=s;obtain⟨hl1,hl2,h⟩:=h;have hsub:=sub_zip;have hL1:AJ.IsTuple (A3.heap ⟨hp,g,d,tk,os⟩) l1 xs:=hl1;have hL2:AJ.IsList (A3.heap ⟨hp.push {cls:=.type "tuple_iterator",data:=.fields #[.ref l1,.int 0 0]},g,d,tk,os⟩) l2 ys:=AJ.IsList.push hl2 _;wp_walk using ce hL1,cL hL2;exact⟨_,rfl,h⟩
 .exact .of_wp λprog w A R s h=>by obtain⟨hp,g,d,tk,os⟩:=s;obtain⟨hl1,hl2,h⟩:=h;have hsub:=sub_zip;have hL1:AJ.IsTuple (A3.heap ⟨hp,g,d,tk,os⟩) l1 xs:=hl1;have hL2:AJ.IsTuple (A3.heap ⟨hp.push {cls:=.type "tuple_iterator",data:=.fields #[.ref l1,.int 0 0]},g,d,tk,os⟩) l2 ys:=AJ.IsTuple.push hl2 _;wp_walk using ce hL1,ce hL2;exact⟨_,rfl,h⟩
section
variable{prog:AA}{w:AK}{A:AL}{E:A1->A3->Prop}{s:A3}
theorem Th{k j:Bool}{l1 a:A4}{xs u:Array A1}{Q:A1->A3->Prop}(p:Bx k s.heap l1 xs)(n:Bx j s.heap a u)
  (h:∀b,IsZip b (s.heap.objs.size+4) (s.heap.objs.size+2) (s.heap.objs.size+3) .none->IsPair b (s.heap.objs.size+2) (.ref s.heap.objs.size) (.ref (s.heap.objs.size+1))->
   IsPair b (s.heap.objs.size+3) .none .none->BZ k b s.heap.objs.size l1 0->BZ j b (s.heap.objs.size+1) a 0->b.objs.size=s.heap.objs.size+5->
   (∀c o,s.heap.get? c=A0 o->b.get? c=A0 o)->Q (.ref (s.heap.objs.size+4)) {s with heap:=b}):
  A8 (AD prog w) A (call (.type "zip") [.ref l1,.ref a]) Q E s:=by
 refine callType_new F.called_zip (by decide) (F.typeCall_zip_2 _ _) (F.newCall_zip_2 _ _) (λf=>F.args_object_init_3 f _ _) F.entry_zip_new
  (Tg k j l1 a xs u) ⟨p,n,?_⟩;have i:(zH1 k s.heap l1).objs.size=s.heap.objs.size+1:=aW ..;have q:(zH2 k j s.heap l1 a).objs.size=s.heap.objs.size+2:=by rw[aW,i]
 have m:(zH3 k j s.heap l1 a).objs.size=s.heap.objs.size+3:=by rw[aW,q]
 have g:(zH4 k j s.heap l1 a).objs.size=s.heap.objs.size+4:=by rw[aW,m]
 have B:(zH5 k j s.heap l1 a).objs.size=s.heap.objs.size+5:=by rw[aW,g]
 have d:(zH5 k j s.heap l1 a).get? (zH4 k j s.heap l1 a).objs.size=A0 _:=ai _ rfl;have y:(zH5 k j s.heap l1 a).get? (zH3 k j s.heap l1 a).objs.size=A0 _:=ac _ (ai _ rfl);have x:(zH5 k j s.heap l1 a).get? (zH2 k j s.heap l1 a).objs.size=A0 _:=ac _ (ac _ (ai _ rfl));have v:(zH5 k j s.heap l1 a).get? (zH1 k s.heap l1).objs.size=A0 {cls:=.type (Em j),data:=.fields #[.ref a,.int 0 0]}:=ac _ (ac _ (ac _ (ai _ rfl)));have C:(zH5 k j s.heap l1 a).get? s.heap.objs.size=A0 {cls:=.type (Em k),data:=.fields #[.ref l1,.int 0 0]}:=ac _ (ac _ (ac _ (ac _ (ai _ rfl))));have D:∀c o,s.heap.get? c=A0 o->(zH5 k j s.heap l1 a).get? c=A0 o:=λc o e=>ac _ (ac _ (ac _ (ac _ (ac _ e))));have t:∀(c:Bool)(r l:A4),(zH5 k j s.heap l1 a).get? r=A0 {cls:=.type (Em c),data:=.fields #[.ref l,.int 0 0]}->BZ c (zH5 k j s.heap l1 a) r l 0:=λc r l e=>by
  cases c;.exact⟨_,e,rfl,rfl⟩
  .exact⟨_,e,rfl,rfl⟩
 show _/\_;rw[q,m,g]at d;rw[i,q]at x;rw[m]at y;rw[i]at v;rw[g];exact⟨⟨_,d,rfl⟩,h _ d x y (t k _ _ C) (t j _ _ v) B D⟩
theorem Ti{k j:Bool}{z TI TO K L l1 l2:A4}{k1 k2:Nat}{xs ys:Array A1}{x y a b:A1}{Q:Option A1->A3->Prop}(D:ZipApart z TI TO K L l1 l2)
  (hz:IsZip s.heap z TI TO .none)(a4:IsPair s.heap TI (.ref K) (.ref L))(a5:IsPair s.heap TO a b)
  (h1:BZ k s.heap K l1 k1)(h2:BZ j s.heap L l2 k2)(a7:Bx k s.heap l1 xs)(a6:Bx j s.heap l2 ys)(hx:xs[k1]?=A0 x)(hy:ys[k2]?=A0 y)
  (hQ:∀M,IsZip M z TI TO (AX s.heap.objs.size)->IsPair M TO x y->BZ k M K l1 (k1+1)->BZ j M L l2 (k2+1)->IsPair M s.heap.objs.size x y->M.objs.size=s.heap.objs.size+1->
   (∀c o,c≠z->c≠TO->c≠K->c≠L->s.heap.get? c=A0 o->M.get? c=A0 o)->Q (A0 (.ref s.heap.objs.size)) {s with heap:=M}):
  A8 (AD prog w) A (pyNext (.ref z)) Q E s:=by
 have hT:s.TypeIs (.ref z) "zip":=⟨_,hz,rfl⟩;unfold pyNext;refine aa (cm (aS (name:=AM.ofString "__next__") hT F.slot_zip_next
  (aP F.slot_zip_next hT F.entry_zip_next ?_ (F.args_zip_next_1 _))));show A8 _ _ (field (.ref z) 2>>=_) _ _ _;refine aa (bu hz rfl (x:=.bool A6) rfl ?_);show A8 _ _ (field (.ref z) 3>>=_) _ _ _;refine aa (bu hz rfl (x:=.ref TI) rfl ?_);refine aa (bQ a4 rfl ?_);show A8 _ _ (AB.SmallTypes.ownedTupleIsFree (.ref z)>>=_) _ _ _;refine aa ?_;unfold AB.SmallTypes.ownedTupleIsFree;refine aa (bu hz rfl (x:=.none) rfl (ab ?_));simp only[if_true];refine aa (bq ?_);refine aa (bu hz rfl (x:=.ref TO) rfl ?_);refine aa (cq hz (by simp) λZ B f=>?_);replace B:IsZip Z z TI TO .ellipsis:=B;refine aa ?_;simp only[List.zipIdx_cons,List.zipIdx_nil,List.forIn_cons,dr];refine aa (aa (wpAny_onRaise ?_));show A8 _ _ (AB.SmallTypes.nextOf (.ref K)>>=_) _ _ _;refine aa (Fq (h1.at λo e=>f.extBut _ _ D.i1z e) (a7.at λo e=>f.extBut _ _ D.l1z e) hx λa0 P g=>ab ?_);have C:IsPair a0 TO a b:=g.extBut _ _ D.TOi1 (f.extBut _ _ D.TOz a5);refine aa (bQ C rfl ?_);refine aa (wpAny_updateSeq_pair C λX q i=>?_);replace q:IsPair X TO x b:=q;refine aa (wpAny_letGo (ab ?_));refine aa (aa (wpAny_onRaise ?_));show A8 _ _ (AB.SmallTypes.nextOf (.ref L)>>=_) _ _ _;refine aa (Fq (h2.at λo e=>i.extBut _ _ D.TOi2.symm (g.extBut _ _ D.i12.symm (f.extBut _ _ D.i2z e)))
  (a6.at λo e=>i.extBut _ _ D.l2TO (g.extBut _ _ D.l2i1 (f.extBut _ _ D.l2z e))) hy λa2 R m=>ab ?_);have G:IsPair a2 TO x b:=m.extBut _ _ D.TOi2 q;refine aa (bQ G rfl ?_);refine aa (wpAny_updateSeq_pair G λd l n=>?_);replace l:IsPair d TO x y:=l;refine aa (wpAny_letGo (ab (ab ?_)));refine aa (bQ l rfl ?_);refine aa (wpAny_newTuple ?_);have a1:d.objs.size=s.heap.objs.size:=by rw[n.1,m.1,i.1,g.1,f.1]
 have I:IsZip d z TI TO .ellipsis:=n.extBut _ _ D.TOz.symm (m.extBut _ _ D.i2z.symm (i.extBut _ _ D.TOz.symm (g.extBut _ _ D.i1z.symm B)));have N:∀c o,c≠z->c≠TO->c≠K->c≠L->s.heap.get? c=A0 o->d.get? c=A0 o:=λc o S c2 c3 c4 e=>
  n.extBut _ _ c2 (m.extBut _ _ c4 (i.extBut _ _ c2 (g.extBut _ _ c3 (f.extBut _ _ S e))));have O:BZ k d K l1 (k1+1):=P.at λo e=>n.extBut _ _ D.TOi1.symm (m.extBut _ _ D.i12 (i.extBut _ _ D.TOi1.symm e));have T:BZ j d L l2 (k2+1):=R.at λo e=>n.extBut _ _ D.TOi2.symm e;have J:z<d.objs.size:=ak I;show A8 _ _ (AB.SmallTypes.ownedTupleHandOut (.ref z) (.ref d.objs.size)>>=_) _ _ _;refine aa ?_;unfold AB.SmallTypes.ownedTupleHandOut;have U:IsZip (d.push {cls:=.type "tuple",data:=.seq #[x,y]}) z TI TO .ellipsis:=ac _ I;refine aa (cq U (by simp) λa3 t v=>?_);replace t:IsZip a3 z TI TO (AX d.objs.size):=t;refine cq t (by simp) λr p u=>?_;replace p:IsZip r z TI TO (AX d.objs.size):=p;have up:∀c o,c≠z->d.get? c=A0 o->r.get? c=A0 o:=λc o S e=>u.extBut _ _ S (v.extBut _ _ S (ac _ e));have H:IsPair r d.objs.size x y:=u.extBut _ _ (bp J) (v.extBut _ _ (bp J) (ai _ rfl));have Y:r.objs.size=d.objs.size+1:=by rw[u.1,v.1,aW]
 rw[a1]at p H Y;refine ab ⟨_,rfl,ab ?_⟩;show Q (A0 (.ref d.objs.size)) _;rw[a1];exact hQ r p (up _ _ D.TOz l) (O.at λo e=>up _ o D.i1z e) (T.at λo e=>up _ o D.i2z e) H Y λc o S c2 c3 c4 e=>up c o S (N c o S c2 c3 c4 e)
theorem Tj{k j:Bool}{z TI TO C G l1 Y:A4}{N Z:Nat}{xs X:Array A1}{a b:A1}{Q:Option A1->A3->Prop}(hh:A.handled=A5)(D:ZipApart z TI TO C G l1 Y)
  (hz:IsZip s.heap z TI TO .none)(R:IsPair s.heap TI (.ref C) (.ref G))(a0:IsPair s.heap TO a b)
  (h1:BZ k s.heap C l1 N)(h2:BZ j s.heap G Y Z)(a3:Bx k s.heap l1 xs)(a2:Bx j s.heap Y X)(L:xs[N]?=A5\/X[Z]?=A5)
  (hQ:∀h',(∀c o,c≠z->c≠TO->c≠C->c≠G->s.heap.get? c=A0 o->h'.get? c=A0 o)->Q A5 {s with heap:=h'}):A8 (AD prog w) A (pyNext (.ref z)) Q E s:=by
 have hT:s.TypeIs (.ref z) "zip":=⟨_,hz,rfl⟩;unfold pyNext;refine aa (cm (aS (name:=AM.ofString "__next__") hT F.slot_zip_next
  (aP F.slot_zip_next hT F.entry_zip_next ?_ (F.args_zip_next_1 _))));have H:∀(h':AJ)(e:A4),(∀c o,c≠z->c≠TO->c≠C->c≠G->s.heap.get? c=A0 o->h'.get? c=A0 o)->(∃o,h'.get? e=A0 o/\o.cls=.type "StopIteration")->
   A8 (AD prog w) A (do if<-isInstance (.ref e) (.type "StopIteration")then pure A5 else throw (.ref e)) Q E {s with heap:=h'}:=λh' e hk⟨o,ho,hc⟩=>
  aa (bT (T:="StopIteration") (b:=A2) ⟨o,ho,hc⟩ isSubtype_stop (ab (hQ _ hk)));show A8 _ _ (field (.ref z) 2>>=_) _ _ _;refine aa (bu hz rfl (x:=.bool A6) rfl ?_);show A8 _ _ (field (.ref z) 3>>=_) _ _ _;refine aa (bu hz rfl (x:=.ref TI) rfl ?_);refine aa (bQ R rfl ?_);show A8 _ _ (AB.SmallTypes.ownedTupleIsFree (.ref z)>>=_) _ _ _;refine aa ?_;unfold AB.SmallTypes.ownedTupleIsFree;refine aa (bu hz rfl (x:=.none) rfl (ab ?_));simp only[if_true];refine aa (bq ?_);refine aa (bu hz rfl (x:=.ref TO) rfl ?_);refine aa (cq hz (by simp) λq i f=>?_);replace i:IsZip q z TI TO .ellipsis:=i;refine aa ?_;simp only[List.zipIdx_cons,List.zipIdx_nil,List.forIn_cons,dr];refine aa (aa (wpAny_onRaise ?_));show A8 _ _ (AB.SmallTypes.nextOf (.ref C)>>=_) _ _ _;have a1:=h1.at (h':=q) λo e=>f.extBut _ _ D.i1z e;have b1:=a3.at (h':=q) λo e=>f.extBut _ _ D.l1z e;cases O:xs[N]? with
 |none=>
  refine aa (IX (by first|exact hh|rfl) a1 b1 O λr e d S=>?_);obtain⟨oe,l,t⟩:=S;have v:IsZip r z TI TO .ellipsis:=d _ _ D.i1z.symm i;have B:e≠z:=λx=>by subst x;rw[v]at l;cases l;simp at t
  refine cq v (by simp) λy _ g=>H y e (λc o I _ P _ x=>g.extBut _ _ I (d _ _ P (f.extBut _ _ I x))) ⟨oe,g.extBut _ _ B l,t⟩
 |some x=>
  have hy:X[Z]?=A5:=by rcases L with h|h;rw[O]at h;cases h;exact h
  refine aa (Fq a1 b1 O λr U d=>ab ?_);have m:IsPair r TO a b:=d.extBut _ _ D.TOi1 (f.extBut _ _ D.TOz a0);refine aa (bQ m rfl ?_);refine aa (wpAny_updateSeq_pair m λy M g=>?_);refine aa (wpAny_letGo (ab ?_));refine aa (aa (wpAny_onRaise ?_));show A8 _ _ (AB.SmallTypes.nextOf (.ref G)>>=_) _ _ _;refine aa (IX (by first|exact hh|rfl) (h2.at λo e=>g.extBut _ _ D.TOi2.symm (d.extBut _ _ D.i12.symm (f.extBut _ _ D.i2z e)))
   (a2.at λo e=>g.extBut _ _ D.l2TO (d.extBut _ _ D.l2i1 (f.extBut _ _ D.l2z e))) hy λK e n S=>?_);obtain⟨oe,l,t⟩:=S;have p:IsZip K z TI TO .ellipsis:=n _ _ D.i2z.symm (g.extBut _ _ D.TOz.symm (d.extBut _ _ D.i1z.symm i));have B:e≠z:=λx=>by subst x;rw[p]at l;cases l;simp at t
  refine cq p (by simp) λJ _ u=>H J e (λc o I c2 P c4 x=>u.extBut _ _ I (n _ _ c4 (g.extBut _ _ c2 (d.extBut _ _ P (f.extBut _ _ I x))))) ⟨oe,u.extBut _ _ B l,t⟩
end
def Its(x:AM):It:=⟨λi _=>i<x.cps.size,λi H v a=>a=H/\∃c,x.cps[i]?=A0 c/\v=.str ⟨#[c]⟩,λi _=>x.cps.size<=i⟩
theorem Tk{P:AA}{w:AK}{K:W.Frag}{T:A9}(it:A4)(x:AM)(ty:String)(t:Tok)(j:ty="str_ascii_iterator"\/ty="str_iterator"):
  Turn P w K T (Its x) [it] it (λi h=>h.IsStrIter it ty x t i)where
 mem:=by simp
 obj:=λi h a b l=>by
  have e:b=it:=by simpa using l
  subst e;obtain⟨o,e,c,d⟩:=a;exact⟨o,e,λv z=>by rw[d]at z;cases z⟩
 keep:=λi h g a k=>by obtain⟨o,e,r⟩:=a;exact⟨o,k it (by simp) o e,r⟩
 item:=by
  intro X M hw G Q i C s q H E I B a D;subst M hw G;obtain⟨N,O,Y,R,J,S⟩:=B it (by simp);have m:i<x.cps.size:=D;have n:x.cps[i]?=A0 x.cps[i]:=by simp[m]
  have f:∀g,g.IsStrIter it ty x t (i+1)->bB it s.heap g->∃u,A0 (A1.str ⟨#[x.cps[i]]⟩ s.toks)=A0 u/\
    A8 (AD X.prog X.w) X.A (letOwnedTupleGo T (.ref it) u) (λ_ U=>∃y L,Inv X C q L U/\At y u/\(Its x).yld i H y L/\U.heap.IsStrIter it ty x t (i+1)/\∀b∈[it],L b=A5) E {s with heap:=g,toks:=s.toks+1}:=λg p sb=>by have I1:Inv X C q H {s with heap:=g,toks:=s.toks+1}:=I.turned (λb o l e=>(sb.2 b l).trans e) N O R J S;obtain⟨o,e,c,d⟩:=id p;refine⟨_,rfl,Dz (s:={s with heap:=g,toks:=s.toks+1}) e c d ?_ ⟨.str ⟨#[x.cps[i]]⟩,H,I1,⟨_,rfl⟩,⟨rfl,_,n,rfl⟩,p,λb l=>(B b l).1⟩⟩;rcases j with rfl|rfl<;>decide
  rcases j with rfl|rfl;.exact wpAny_pyNext_ascii_item a n f
  .exact wpAny_pyNext_wide_item a n f
 done:=by
  intro X M hw G Q i C s q H E I B a D;subst M hw G;obtain⟨N,O,Y,R,J,S⟩:=B it (by simp);have m:x.cps.size<=i:=D;have n:x.cps[i]?=A5:=by simp[m]
  have f:∀g,AJ.ExtBut it s.heap g->(A5:Option A1)=A5/\Inv X C q H {s with heap:=g}:=λg Z=>⟨rfl,I.turned (t':=s.toks) (λb o l e=>Z b o l e) N O R J S⟩;rcases j with rfl|rfl;.exact wpAny_pyNext_ascii_end (I.ok.hd Q) a n f
  .exact wpAny_pyNext_wide_end (I.ok.hd Q) a n f
 self:=λ_ _ _ _ _ a h=>by
  rcases j with rfl|rfl;.exact wpAny_pyIter_striter_ascii a h
  .exact wpAny_pyIter_striter_wide a h
def Sq(k:Bool)(K:W.Frag)(H:Hp)(a:A4)(xs:List V):Prop:=match k with
 |A2=>SqT K H a xs
 |A6=>SqL K H a xs
theorem Inv.sq{X:Cx}{d:List (A4×AS)}{σ:St}{H:Hp}{s:A3}{k:Bool}{a:A4}{xs:List V}(I:Inv X d σ H s)(h:Sq k X.K H a xs):∃b:List A1,Av xs b/\Bx k s.heap a b.toArray/\xs.length<=A7:=by
 cases k;.obtain⟨b,r,p,z⟩:=I.list h;exact⟨b,r,p.isList,z⟩
 .obtain⟨b,r,p,z⟩:=I.tuple h;exact⟨b,r,p,z⟩
theorem Inv.sq_inj{X:Cx}{d:List (A4×AS)}{σ:St}{H:Hp}{s:A3}{k:Bool}{a:A4}{xs b:List V}(I:Inv X d σ H s)(h:Sq k X.K H a xs)(h':Sq k X.K H a b):xs=b:=by
 cases k;.exact I.list_inj h h'
 .exact I.tuple_inj h h'
def E4(k j:Bool)(K:W.Frag)(a b:A4):It:=
 ⟨λi H=>∃d e x y,Sq k K H a d/\Sq j K H b e/\d[i]?=A0 x/\e[i]?=A0 y,
  λi H v f=>∃p x y,v=.ref p/\H p=A5/\(∀d,Sq k K H a d->d[i]?=A0 x)/\(∀e,Sq j K H b e->e[i]?=A0 y)/\f=upd H p (.tup [x,y]),
  λi H=>∃d e,Sq k K H a d/\Sq j K H b e/\(d.length<=i\/e.length<=i)⟩
abbrev Itz(k:Bool)(K:W.Frag)(a b:A4):It:=E4 k k K a b
def zTn(k j:Bool)(z TI TO d e l1 f:A4)(i:Nat)(h:AJ):Prop:=
 IsZip h z TI TO .none/\IsPair h TI (.ref d) (.ref e)/\(∃a b,IsPair h TO a b)/\BZ k h d l1 i/\BZ j h e f i
theorem Tl{P:AA}{w:AK}{K:W.Frag}{a2:List A9}{kt:Nat}{pt:Pos}{k j:Bool}{z TI TO B A l1 l2:A4}(D:ZipApart z TI TO B A l1 l2):
  Turn P w K (.Tuple a2 kt pt) (E4 k j K l1 l2) [z,TI,TO,B,A] z (zTn k j z TI TO B A l1 l2)where
 mem:=by simp
 obj:=λi h L b hb=>by
  obtain⟨R,l,⟨_,_,t⟩,S,O⟩:=L;simp only[ao,av,or_false]at hb;rcases hb with rfl|rfl|rfl|rfl|rfl;.exact⟨_,R,λv=>(nomatch·)⟩
  .exact⟨_,l,λv=>(nomatch·)⟩
  .exact⟨_,t,λv=>(nomatch·)⟩
  .obtain⟨o,e,d⟩:=S.obj;exact⟨o,e,λv q=>by rw[d]at q;cases q⟩
  .obtain⟨o,e,d⟩:=O.obj;exact⟨o,e,λv q=>by rw[d]at q;cases q⟩
 keep:=λi h N L kk=>by obtain⟨R,l,⟨a,b,t⟩,S,O⟩:=L;exact⟨kk z (by simp) _ R,kk TI (by simp) _ l,⟨a,b,kk TO (by simp) _ t⟩,S.at λo e=>kk B (by simp) o e,O.at λo e=>kk A (by simp) o e⟩
 item:=by
  intro X hP hw hK f i p_ s σ H E I Q L hg;subst hP hw hK;obtain⟨xs,ys,x,y,J,M,hx,hy⟩:=hg;obtain⟨R,l,⟨a,b,t⟩,S,O⟩:=L;obtain⟨us,Z,Y,_⟩:=I.sq J;obtain⟨vs,a0,T,_⟩:=I.sq M;obtain⟨u,hu,ru⟩:=Z.get hx;obtain⟨v,hv,rv⟩:=a0.get hy;refine Ti D R l t S O Y T (x:=u) (y:=v) (by simpa using hu) (by simpa using hv) λN a9 a3 a7 a6 hT b2 hk=>?_;refine⟨_,rfl,wpAny_letOwnedTupleGo_zip (s:={s with heap:=N}) a9 λU a4 hs=>?_⟩;have G:bB z N U:=hs;have a8:z<s.heap.objs.size:=ak R;have a1:s.heap.objs.size≠z:=bp a8;have g:∀c o,c∉[z,TO,B,A]->s.heap.get? c=A0 o->U.get? c=A0 o:=λc o f e=>by simp only[ao,av,or_false,not_or]at f;exact(G.2 c f.1).trans (hk c o f.1 f.2.1 f.2.2.1 f.2.2.2 e)
  have sub:∀c∈[z,TO,B,A],c∈[z,TI,TO,B,A]:=λc f=>by
   simp only[ao,av,or_false]at f⊢;rcases f with h|h|h|h;.exact .inl h
   .exact .inr (.inr (.inl h))
   .exact .inr (.inr (.inr (.inl h)))
   .exact .inr (.inr (.inr (.inr h)))
  have C:H s.heap.objs.size=A5:=I.hok.fresh (ag _);have trk:∀c o,H c=A0 o->c∉[z,TO,B,A]:=λc o e f=>by rw[(Q c (sub c f)).1]at e;cases e
  have I1:Inv X p_ σ (upd H s.heap.objs.size (.tup [x,y])) {s with heap:=U}:=by
   refine I.step (g':=s.gens) (d':=s.drawn) (t':=s.toks) (ch:=[z,TO,B,A]) (λc f=>?_) (λc o _ _ f e _=>g c o f e) (λc o _ _ f e _=>⟨o.slots,g c o f e⟩)
    (λc o _ e n=>by rw[Au (ax (ak e))];exact n) (λc o f e=>⟨o,g c o f e⟩) (λc ps e=>by rw[Au (Bb e C)];exact e) (λc o p e=>by rw[Au (Bb e C)];exact e)
    (λc ps e=>⟨#[],by rw[Au (Bb e C),e];simp⟩) (λm hm=>?_) (λc o e=>?_) I.bare;.obtain⟨f0,f1,f2,f3,f4,f5⟩:=Q c (sub c f);exact⟨f3,f1,f4,f5⟩
   .obtain⟨oo,es,ep,ho,r⟩:=hm;exact⟨oo,es,ep,g _ oo (λf=>(Q _ (sub _ f)).2.1 rfl) ho,r⟩
   .by_cases hb:c=s.heap.objs.size;.subst hb;rw[Aw]at e;cases e;exact⟨by show 2<=A7;decide,[u,v],.cons ru (.cons rv .nil),⟨_,(G.2 _ a1).trans hT,rfl,⟨_,rfl⟩,rfl⟩⟩
    .rw[Au hb]at e;refine(I.hok c o e).stay (λd q hd eq=>g d q ?_ eq) (λd q=>by rw[Au (Bb q C)];exact q) λd qs q=>by rw[Au (Bb q C)];exact q
     rcases hd with rfl|hd;.exact trk _ _ e
     .exact trk _ _ hd
  refine⟨.ref s.heap.objs.size,_,I1,rfl,⟨s.heap.objs.size,x,y,rfl,C,λb4 N=>by rw[I.sq_inj N J];exact hx,λb1 N=>by rw[I.sq_inj N M];exact hy,rfl⟩,⟨a4,?_,⟨u,v,?_⟩,?_,?_⟩,λc f=>?_⟩;.exact(G.2 TI D.TIz).trans (hk TI _ D.TIz D.TITO D.TIi1 D.TIi2 l)
  .exact(G.2 TO D.TOz).trans a3
  .exact a7.at λo e=>(G.2 B D.i1z).trans e
  .exact a6.at λo e=>(G.2 A D.i2z).trans e
  .rw[Au];.exact(Q c f).1
   .intro q;subst q;simp only[ao,av,or_false]at f;rcases f with q|q|q|q|q;.exact a1 q
    .exact bi _ (q▸ak l)
    .exact bi _ (q▸ak t)
    .obtain⟨o,e,_⟩:=S.obj;exact bi _ (q▸ak e)
    .obtain⟨o,e,_⟩:=O.obj;exact bi _ (q▸ak e)
 done:=by
  intro X hP hw hK f i p_ s σ H E I Q L hg;subst hP hw hK;obtain⟨xs,ys,J,M,a5⟩:=hg;obtain⟨R,l,⟨a,b,t⟩,S,O⟩:=L;obtain⟨us,Z,Y,_⟩:=I.sq J;obtain⟨vs,a0,T,_⟩:=I.sq M;have b3:=Z.length;have b0:=a0.length;refine Tj (I.ok.hd f) D R l t S O Y T ?_ λN hk=>⟨rfl,?_⟩
  .rcases a5 with q|q;.exact .inl (by simp;omega)
   .exact .inr (by simp;omega)
  have sub:∀c∈[z,TO,B,A],c∈[z,TI,TO,B,A]:=λc f=>by
   simp only[ao,av,or_false]at f⊢;rcases f with h|h|h|h;.exact .inl h
   .exact .inr (.inr (.inl h))
   .exact .inr (.inr (.inr (.inl h)))
   .exact .inr (.inr (.inr (.inr h)))
  have g:∀c o,c∉[z,TO,B,A]->s.heap.get? c=A0 o->N.get? c=A0 o:=λc o f e=>by simp only[ao,av,or_false,not_or]at f;exact hk c o f.1 f.2.1 f.2.2.1 f.2.2.2 e
  have trk:∀c o,H c=A0 o->c∉[z,TO,B,A]:=λc o e f=>by rw[(Q c (sub c f)).1]at e;cases e
  refine I.step (g':=s.gens) (d':=s.drawn) (t':=s.toks) (ch:=[z,TO,B,A]) (λc f=>?_) (λc o _ _ f e _=>g c o f e) (λc o _ _ f e _=>⟨o.slots,g c o f e⟩)
    (λc o _ e n=>n) (λc o f e=>⟨o,g c o f e⟩) (λc ps e=>e) (λc o p e=>e) (λc ps e=>⟨#[],by rw[e];simp⟩) (λm hm=>?_) (λc o e=>?_) I.bare;.obtain⟨f0,f1,f2,f3,f4,f5⟩:=Q c (sub c f);exact⟨f3,f1,f4,f5⟩
  .obtain⟨oo,es,ep,ho,r⟩:=hm;exact⟨oo,es,ep,g _ oo (λf=>(Q _ (sub _ f)).2.1 rfl) ho,r⟩
  .refine(I.hok c o e).stay (λd q hd eq=>g d q ?_ eq) (λd q=>q) λd qs q=>q;rcases hd with rfl|hd;.exact trk _ _ e
   .exact trk _ _ hd
 self:=λ_ _ _ _ _ L h=>wpAny_pyIter_zip L.1 h
section
variable{X:Cx}{tg:A9}
def IY(K:W.Frag)(f:TE):TI:=λe H R=>f e H λx b=>
 (∃a,x=.ref a/\(∃d,SqL K b a d)/\R (Itl K a) b)\/(∃a,x=.ref a/\(∃d,SqT K b a d)/\R (Itt K a) b)\/∃z,x=.str z/\R (Its z) b
theorem Tn{l:A9}{y:TE}(B:PE X l y):PI X tg l (IY X.K y):=by
 intro A s u H R I h;refine thn (B A s u H _ I h) λv d⟨x,r,f,r1,E⟩=>?_;rcases E with⟨a,e,⟨D,n⟩,q⟩|⟨a,e,⟨D,n⟩,q⟩|⟨z,e,q⟩
 .subst e;cases r1;obtain⟨j,G,p,C⟩:=f.list n;refine cL p.isList ?_;refine⟨d.heap.objs.size,[d.heap.objs.size],_,_,r,rfl,f.kept (t':=d.toks) λb o e=>ac _ e,RW a _,⟨_,ai _ rfl,rfl,rfl⟩,λb g=>?_,q⟩;have e:b=d.heap.objs.size:=by simpa using g
  subst e;exact f.fpOk (ag _) (f.hok.fresh (ag _))
 .subst e;cases r1;obtain⟨j,G,p,C⟩:=f.tuple n;refine ce (show d.heap.IsTuple a j.toArray from p) ?_;refine⟨d.heap.objs.size,[d.heap.objs.size],_,_,r,rfl,f.kept (t':=d.toks) λb o e=>ac _ e,RX a _,⟨_,ai _ rfl,rfl,rfl⟩,λb g=>?_,q⟩;have e:b=d.heap.objs.size:=by simpa using g
  subst e;exact f.fpOk (ag _) (f.hok.fresh (ag _))
 .subst e;obtain⟨t,rfl⟩:=r1;have i:∀(ty:String),(ty="str_ascii_iterator"\/ty="str_iterator")->PIE X A u tg R (.ref d.heap.objs.size) {d with heap:=d.heap.push {cls:=.type ty,data:=.fields #[.str z t,.int 0 0]}}:=λty m=>by
   refine⟨d.heap.objs.size,[d.heap.objs.size],_,_,r,rfl,f.kept (t':=d.toks) λb o e=>ac _ e,Tk _ z ty t m,⟨_,ai _ rfl,rfl,rfl⟩,λb g=>?_,q⟩;have e:b=d.heap.objs.size:=by simpa using g
   subst e;exact f.fpOk (ag _) (f.hok.fresh (ag _))
  cases w:z.cps.all (· <128);.exact wpAny_pyIter_wide w (i _ (.inr rfl))
  .exact wpAny_pyIter_ascii w (i _ (.inl rfl))
def IZ(K:W.Frag)(g:TA):TI:=λh H R=>g h H λi d=>∃(k j:Bool)(a b:A4),i=[.ref a,.ref b]/\(∃e,Sq k K d a e)/\(∃f,Sq j K d b f)/\R (E4 k j K a b) d
theorem To{a b:A9}{x:TA}{p pos:Pos}{i:List A9}{P:Nat}{J:Pos}(B:Gl X "zip")(D:X.mg "zip"=A5)(O:PA X [a,b] x)(Z:AZ [a,b] X.env=[(A6,Ac a X.env),(A6,Ac b X.env)])(l:AZ [b] X.env=[(A6,Ac b X.env)]):
  PI X (.Tuple i P J) (.Call (.Name "zip" p) [a,b] [] pos) (IZ X.K x):=by
 intro Y s G H R I h;refine Call_ (DK I B D boot_zip (PyProof.Rows.callWith_type1 (thn (O pos Y s G H _ I h) λC d⟨vs,S,n,r1,U⟩=>?_) (by rw[Z,l]) (by rw[l];rfl)));obtain⟨k,j,a,b,e,⟨xs,u⟩,⟨ys,w⟩,q⟩:=U;subst e;cases r1 with
 |cons r o=>
  cases o with
  |cons L o=>
   cases o;cases r;cases L;obtain⟨C,T,g,_⟩:=n.sq u;obtain⟨vs,a0,m,_⟩:=n.sq w;refine Th g m λh' y t v N M Q E=>wpAny_pyIter_zip y ?_;refine⟨d.heap.objs.size+4,[d.heap.objs.size+4,d.heap.objs.size+2,d.heap.objs.size+3,d.heap.objs.size,d.heap.objs.size+1],_,_,S,rfl,n.kept (t':=d.toks) E,Tl (k:=k) (j:=j) (PyProof.Rows.zipApart_new g.lt m.lt),⟨y,t,⟨_,_,v⟩,N,M⟩,λc A=>?_,q⟩;have f:d.heap.objs.size<=c:=by
    simp only[ao,av,or_false]at A;rcases A with rfl|rfl|rfl|rfl|rfl;.exact bm _ _
    .exact bm _ _
    .exact bm _ _
    .exact ag _
    .exact bm _ _
   exact n.fpOk f (n.hok.fresh f)
end
def Itd(go:Nat->Hp->Prop)(val:Nat->Hp->V->Prop)(a:Nat->Hp->Prop):It:=
 ⟨go,λi H v b=>∃p x,v=.ref p/\H p=A5/\val i H x/\b=upd H p (.tup [.int i,x]),a⟩
structure EnSrc(P:AA)(w:AK)(K:W.Frag)(e it:A4)(Sx:Nat->AJ->Prop)(go:Nat->Hp->Prop)(val:Nat->Hp->V->Prop)(stop:Nat->Hp->Prop):Prop where
 ne:e≠it
 obj:∀i h,Sx i h->∃o,h.get? it=A0 o/\∀v,o.data≠.cell v
 keep:∀i h h',Sx i h->(∀o,h.get? it=A0 o->h'.get? it=A0 o)->Sx i h'
 item:∀(X:Cx),X.prog=P->X.w=w->X.K=K->X.calm=A2->∀(i:Nat)(p_:List (A4×AS))(s:A3)(σ:St)(H:Hp),Inv X p_ σ H s->H e=A5->H it=A5->e<s.heap.objs.size->(∃old,IsEnum s.heap e it i old)->Sx i s.heap->go i H->
  ∃n Pd Sd fp,Draws P w X.A.in1 it fp n Pd Sd/\e∉fp/\i<n/\Sd i s.heap/\(∀j h,Sd j h->Sx j h)/\∀u,Pd i u->∃x,At x u/\val i H x
 done:∀(X:Cx),X.prog=P->X.w=w->X.K=K->X.calm=A2->∀(i:Nat)(p_:List (A4×AS))(s:A3)(σ:St)(H:Hp),Inv X p_ σ H s->H e=A5->H it=A5->(∃old,IsEnum s.heap e it i old)->Sx i s.heap->stop i H->
  ∃Pd Sd fp,Draws P w X.A.in1 it fp i Pd Sd/\Sd i s.heap
theorem Ia{P:AA}{w:AK}{K:W.Frag}{T:List A9}{kt:Nat}{pt:Pos}{e it:A4}{Sx:Nat->AJ->Prop}{go:Nat->Hp->Prop}{val:Nat->Hp->V->Prop}{C:Nat->Hp->Prop}(S:EnSrc P w K e it Sx go val C):
  Turn P w K (.Tuple T kt pt) (Itd go val C) [e,it] e (λi h=>(∃f,IsEnum h e it i f)/\Sx i h)where
 mem:=by simp
 obj:=λi h g b A=>by
  obtain⟨⟨f,t⟩,N⟩:=g;simp only[ao,av,or_false]at A;rcases A with rfl|rfl;.exact⟨_,t,λv=>(nomatch·)⟩
  .exact S.obj i h N
 keep:=λi h h' g kk=>by obtain⟨⟨f,t⟩,N⟩:=g;exact⟨⟨f,kk e (by simp) _ t⟩,S.keep i h h' N λo q=>kk it (by simp) o q⟩
 item:=by
  intro X Z hw U a i p_ s σ H E I B g hg;have M:=B e (by simp);have y:=B it (by simp);obtain⟨n,Pd,Sd,fp,D,a0,a4,J,O,Q⟩:=S.item X Z hw U a i p_ s σ H I M.1 y.1 (ak g.1.choose_spec) g.1 g.2 hg;obtain⟨⟨f,t⟩,N⟩:=g;subst Z hw U;refine wpAny_pyNext_enum_itemD D t J a4 S.ne a0 λu h' tk a2 ho a3 hT a5 hk=>?_;obtain⟨x,rx,vx⟩:=Q u a2;refine⟨_,rfl,wpAny_letOwnedTupleGo_enum (s:={s with heap:=h',toks:=tk+1}) ho λL Y A=>?_⟩;have G:bB e h' L:=A;have a1:e<s.heap.objs.size:=ak t;have R:s.heap.objs.size≠e:=bp a1;have j:H s.heap.objs.size=A5:=I.hok.fresh (ag _);have l:∀c o,c∉[e,it]->s.heap.get? c=A0 o->L.get? c=A0 o:=λc o a q=>by simp only[ao,av,or_false,not_or]at a;exact(G.2 c a.1).trans (hk c o a.1 a.2 q)
  have trk:∀c o,H c=A0 o->c∉[e,it]:=λc o q a=>by rw[(B c a).1]at q;cases q
  have I1:Inv X p_ σ (upd H s.heap.objs.size (.tup [.int i,x])) {s with heap:=L,toks:=tk+1}:=by
   refine I.step (g':=s.gens) (d':=s.drawn) (t':=tk+1) (ch:=[e,it]) (λc a=>?_) (λc o _ _ a q _=>l c o a q) (λc o _ _ a q _=>⟨o.slots,l c o a q⟩)
    (λc o _ q n=>by rw[Au (ax (ak q))];exact n) (λc o a q=>⟨o,l c o a q⟩) (λc ps q=>by rw[Au (Bb q j)];exact q) (λc o p q=>by rw[Au (Bb q j)];exact q)
    (λc ps q=>⟨#[],by rw[Au (Bb q j),q];simp⟩) (λm hm=>?_) (λc o q=>?_) I.bare;.obtain⟨f0,f1,f2,f3,f4,f5⟩:=B c a;exact⟨f3,f1,f4,f5⟩
   .obtain⟨oo,es,ep,ho,r⟩:=hm;exact⟨oo,es,ep,l _ oo (λa=>(B _ a).2.1 rfl) ho,r⟩
   .by_cases A:c=s.heap.objs.size;.subst A;rw[Aw]at q;cases q;exact⟨by show 2<=A7;decide,[.int i tk,u],.cons ⟨_,rfl⟩ (.cons rx .nil),⟨_,(G.2 _ R).trans hT,rfl,⟨_,rfl⟩,rfl⟩⟩
    .rw[Au A]at q;refine(I.hok c o q).stay (λd q hd eq=>l d q ?_ eq) (λd q=>by rw[Au (Bb q j)];exact q) λd qs q=>by rw[Au (Bb q j)];exact q
     rcases hd with rfl|hd;.exact trk _ _ (by assumption)
     .exact trk _ _ hd
  refine⟨.ref s.heap.objs.size,_,I1,rfl,⟨s.heap.objs.size,x,rfl,j,vx,rfl⟩,⟨⟨_,Y⟩,S.keep _ _ _ (O _ _ a3) λo q=>(G.2 it (Ne.symm S.ne)).trans q⟩,λc a=>?_⟩;rw[Au];.exact(B c a).1
  .intro q;subst q;simp only[ao,av,or_false]at a;rcases a with q|q;.exact R q
   .obtain⟨o,e1,_⟩:=S.obj _ _ N;exact bi _ (q▸ak e1)
 done:=by intro X Z hw U a i p_ s σ H E I B g hg;have M:=B e (by simp);have y:=B it (by simp);obtain⟨Pd,Sd,fp,D,J⟩:=S.done X Z hw U a i p_ s σ H I M.1 y.1 g.1 g.2 hg;obtain⟨⟨f,t⟩,N⟩:=g;subst Z hw U;refine wpAny_pyNext_enum_endD D t J λh' hx=>⟨rfl,?_⟩;obtain⟨f0,f1,f2,f3,f4,f5⟩:=y;exact I.turned (t':=s.toks) (λb o A q=>hx b o A q) f0 f1 f3 f4 f5
 self:=λ_ _ _ _ _ g h=>by obtain⟨⟨f,t⟩,_⟩:=g;exact wpAny_pyIter_enum t h
def Ite(K:W.Frag)(a:A4):It:=Itd (λi H=>∃b x,SqL K H a b/\b[i]?=A0 x) (λi H x=>∀b,SqL K H a b->b[i]?=A0 x) (λi H=>∃b,SqL K H a b/\b.length=i)
theorem Tq{P:AA}{w:AK}{K:W.Frag}{e it a:A4}(ne:e≠it)(O:a≠e)(m:a≠it):EnSrc P w K e it (λi h=>h.IsListIter it a i) (λi H=>∃f x,SqL K H a f/\f[i]?=A0 x) (λi H x=>∀f,SqL K H a f->f[i]?=A0 x) (λi H=>∃f,SqL K H a f/\f.length=i)where
 ne:=ne
 obj:=λi h l=>by obtain⟨o,q,c,d⟩:=l;exact⟨o,q,λv z=>by rw[d]at z;cases z⟩
 keep:=λi h T l k=>l.at k
 item:=by
  intro X B hw y C i R s J H I _ _ _ _ l t;obtain⟨f,x,g,n⟩:=t;subst B hw y;obtain⟨b,r,p,N⟩:=I.list g;have M:=r.length;obtain⟨u,hu,L⟩:=r.get n;refine⟨_,_,_,_,Draws.list (show X.A.in1.handled=A5 from I.ok.hd C) it a m b.toArray,?_,?_,⟨l,p.isList⟩,λj h q=>q.1,λQ D=>⟨x,?_,λS E=>by rw[I.list_inj E g];exact n⟩⟩;.simp only[ao,av,or_false,not_or];exact⟨ne,Ne.symm O⟩
  .have:=(aK.mp n).1;simp;omega
  .have G:b[i]?=A0 Q:=by simpa using D
   rw[hu]at G;cases G;exact L
 done:=by
  intro X B hw y C i R s J H I _ _ _ l t;obtain⟨f,g,n⟩:=t;subst B hw y;obtain⟨b,r,p,N⟩:=I.list g;have M:=r.length;have e:i=b.toArray.size:=by simp;omega
  subst e;exact⟨_,_,_,Draws.list (show X.A.in1.handled=A5 from I.ok.hd C) it a m b.toArray,l,p.isList⟩
def E5(z:AM):It:=Itd (λi _=>i<z.cps.size) (λi _ v=>∃c,z.cps[i]?=A0 c/\v=.str ⟨#[c]⟩) (λi _=>z.cps.size=i)
theorem Tr{P:AA}{w:AK}{K:W.Frag}{e it:A4}{z:AM}{t:Tok}{ty:String}(f:ty="str_ascii_iterator"\/ty="str_iterator")(ne:e≠it):EnSrc P w K e it (λi h=>h.IsStrIter it ty z t i) (λi _=>i<z.cps.size) (λi _ v=>∃c,z.cps[i]?=A0 c/\v=.str ⟨#[c]⟩) (λi _=>z.cps.size=i)where
 ne:=ne
 obj:=λi h a=>by obtain⟨o,q,c,d⟩:=a;exact⟨o,q,λv z=>by rw[d]at z;cases z⟩
 keep:=λi h D a k=>by obtain⟨o,q,r⟩:=a;exact⟨o,k o q,r⟩
 item:=by
  intro X p hw n x i C s y H I _ _ _ _ a l;subst p hw n;have g:X.A.in1.handled=A5:=I.ok.hd x;rcases f with rfl|rfl;.refine⟨_,_,_,_,Draws.strAscii g it z t,by simpa using ne,l,a,λj h q=>q,λu hu=>?_⟩;obtain⟨c,B,b,rfl⟩:=hu;exact⟨.str ⟨#[c]⟩,⟨_,rfl⟩,c,b,rfl⟩
  .refine⟨_,_,_,_,Draws.strWide g it z t,by simpa using ne,l,a,λj h q=>q,λu hu=>?_⟩;obtain⟨c,B,b,rfl⟩:=hu;exact⟨.str ⟨#[c]⟩,⟨_,rfl⟩,c,b,rfl⟩
 done:=by
  intro X p hw n x i C s y H I _ _ _ a l;subst p hw n;have g:X.A.in1.handled=A5:=I.ok.hd x;have m:z.cps.size=i:=l;subst m;rcases f with rfl|rfl;.exact⟨_,_,_,Draws.strAscii g it z t,a⟩
  .exact⟨_,_,_,Draws.strWide g it z t,a⟩
theorem Le{prog:AA}{w:AK}{A:AL}(r:A.handled=A5)(it l:A4)(f:l≠it)(items:Array A1):
  Draws prog w A it [it,l] items.size (λi v=>items[i]?=A0 v) (λi h=>BZ A2 h it l i/\Bx A2 h l items)where
 live:=λ_ _ a=>let⟨o,n,_⟩:=a.1.obj;⟨o,n⟩
 frame:=λ_ _ _ a g=>⟨a.1.at λo e=>g it (by simp) o e,a.2.at λo e=>g l (by simp) o e⟩
 item:=λi s Q E j a m=>by refine Fq a.1 a.2 (x:=items[i]) (by simp[j]) λq d b=>?_;exact m _ q s.toks (by simp[j]) ⟨d,a.2.at λo e=>b.extBut l o f e⟩ b
 done:=λs Q E a p=>IX r a.1 a.2 (by simp) p
set_option tactic.hygienic true in
open AutoSeq1(wpAny_loadPart')in
theorem Tt(l:A4)(items:Array A1)(n:Nat)(dct:Option A4)(sl:Array (Option A1)):
  Meets (AB.«enumerate.__new__» ⟨[.type "enumerate",.ref l],[]⟩) (λ_ R s=>s.heap.get? l=A0 {cls:=.type "tuple",dict:=dct,data:=.seq items n,slots:=sl}/\
   R (.ok (.ret (.ref (s.heap.push {cls:=.type "tuple_iterator",data:=.fields #[.ref l,.int 0 0]}).objs.size)))
    {s with heap:=(s.heap.push {cls:=.type "tuple_iterator",data:=.fields #[.ref l,.int 0 0]}).push {cls:=.type "enumerate",data:=.fields #[.none,.bool A6,.ref s.heap.objs.size,AX 0,.none,.none]}}):=
 .of_wp λprog w A R s h=>by
  obtain⟨hp,g,d,tk,os⟩:=s;obtain⟨hl,h⟩:=h;have hsub:=sub_enumerate;have hL:AJ.IsTuple (A3.heap ⟨hp,g,d,tk,os⟩) l items:=⟨_,hl,rfl,n,rfl⟩;wp_walk using wpAny_loadPart' hl;refine wpAny_stack_any λst=>ab ?_;split
  .rename_i c _ _ _ _ _;cases(c==A1.type "enumerate");.wp_walk using wpAny_loadPart' hl,ce hL;exact⟨_,rfl,h⟩
   .wp_walk using wpAny_loadPart' hl,ce hL;exact⟨_,rfl,h⟩
  .wp_walk using wpAny_loadPart' hl,ce hL;exact⟨_,rfl,h⟩
theorem Tu{prog:AA}{w:AK}{A:AL}{E:A1->A3->Prop}{s:A3}{l:A4}{items:Array A1}{Q:A1->A3->Prop}(j:s.heap.IsTuple l items)
  (h:∀a,IsEnum a (s.heap.objs.size+1) s.heap.objs.size 0 .none->BZ A2 a s.heap.objs.size l 0->a.objs.size=s.heap.objs.size+2->
   (∀b o,s.heap.get? b=A0 o->a.get? b=A0 o)->Q (.ref (s.heap.objs.size+1)) {s with heap:=a}):
  A8 (AD prog w) A (call (.type "enumerate") [.ref l]) Q E s:=by
 obtain⟨⟨c,dct,q,m⟩,p,f,n,d⟩:=j;replace f:c=.type "tuple":=f;replace d:q=.seq items n:=d;subst f d;refine callType_new F.called_enumerate (by decide) (F.typeCall_enumerate_1 _) (F.newCall_enumerate_1 _) (λe=>F.args_object_init_2 e _) F.entry_enumerate_new
  (Tt l items n dct m) ⟨p,?_⟩;have g:(s.heap.push {cls:=.type "tuple_iterator",data:=.fields #[.ref l,.int 0 0]}).objs.size=s.heap.objs.size+1:=aW ..;show _/\_;rw[g];have i:IsEnum ((s.heap.push {cls:=.type "tuple_iterator",data:=.fields #[.ref l,.int 0 0]}).push
   {cls:=.type "enumerate",data:=.fields #[.none,.bool A6,.ref s.heap.objs.size,AX 0,.none,.none]}) (s.heap.objs.size+1) s.heap.objs.size 0 .none:=by
  have:=ai (s.heap.push {cls:=.type "tuple_iterator",data:=.fields #[.ref l,.int 0 0]})
   (o:={cls:=.type "enumerate",data:=.fields #[.none,.bool A6,.ref s.heap.objs.size,AX 0,.none,.none]}) rfl;rw[g]at this;exact this
 refine⟨⟨_,i,rfl⟩,h _ i ⟨_,ac _ (ai _ rfl),rfl,rfl⟩ (by rw[aW,g]) λb o x=>ac _ (ac _ x)⟩
def Fs(K:W.Frag)(a:A4):It:=Itd (λi H=>∃b x,SqT K H a b/\b[i]?=A0 x) (λi H x=>∀b,SqT K H a b->b[i]?=A0 x) (λi H=>∃b,SqT K H a b/\b.length=i)
theorem Tv{P:AA}{w:AK}{K:W.Frag}{e it a:A4}(ne:e≠it)(O:a≠e)(m:a≠it):EnSrc P w K e it (λi h=>BZ A2 h it a i) (λi H=>∃f x,SqT K H a f/\f[i]?=A0 x) (λi H x=>∀f,SqT K H a f->f[i]?=A0 x) (λi H=>∃f,SqT K H a f/\f.length=i)where
 ne:=ne
 obj:=λi h l=>by obtain⟨o,q,d⟩:=l.obj;exact⟨o,q,λv z=>by rw[d]at z;cases z⟩
 keep:=λi h T l k=>l.at k
 item:=by
  intro X B hw y C i R s J H I _ _ _ _ l t;obtain⟨f,x,g,n⟩:=t;subst B hw y;obtain⟨b,r,p,N⟩:=I.tuple g;have M:=r.length;obtain⟨u,hu,L⟩:=r.get n;refine⟨_,_,_,_,Le (show X.A.in1.handled=A5 from I.ok.hd C) it a m b.toArray,?_,?_,⟨l,p⟩,λj h q=>q.1,λQ D=>⟨x,?_,λS E=>by rw[I.tuple_inj E g];exact n⟩⟩;.simp only[ao,av,or_false,not_or];exact⟨ne,Ne.symm O⟩
  .have:=(aK.mp n).1;simp;omega
  .have G:b[i]?=A0 Q:=by simpa using D
   rw[hu]at G;cases G;exact L
 done:=by
  intro X B hw y C i R s J H I _ _ _ l t;obtain⟨f,g,n⟩:=t;subst B hw y;obtain⟨b,r,p,N⟩:=I.tuple g;have M:=r.length;have e:i=b.toArray.size:=by simp;omega
  subst e;exact⟨_,_,_,Le (show X.A.in1.handled=A5 from I.ok.hd C) it a m b.toArray,l,p⟩
section
variable{X:Cx}
def Ib(K:W.Frag)(g:TE):TI:=λe H R=>Bq g CD e H λf b=>∃x,f=[x]/\
 ((∃a,x=.ref a/\(∃d,SqL K b a d)/\R (Ite K a) b)\/(∃z,x=.str z/\R (E5 z) b)\/∃a,x=.ref a/\(∃d,SqT K b a d)/\R (Fs K a) b)
theorem Tw:bootBuiltins "enumerate"=A0 (.type "enumerate"):=⋯
theorem Tx{a:A9}{E:TE}{p pos:Pos}{w:List A9}{T:Nat}{P:Pos}(M:Gl X "enumerate")(O:X.mg "enumerate"=A5)(Q:PA X [a] (Bq E CD))(Y:AZ [a] X.env=[(A6,Ac a X.env)]):
  PI X (.Tuple w T P) (.Call (.Name "enumerate" p) [a] [] pos) (Ib X.K E):=by
 intro U s J H R I h;have C:Bq E CD J H (λL i=>∃x,L=[x]/\((∃a,x=.ref a/\(∃A,SqL X.K i a A)/\R (Ite X.K a) i)\/(∃z,x=.str z/\R (E5 z) i)\/∃a,x=.ref a/\(∃A,SqT X.K i a A)/\R (Fs X.K a) i)):=h;refine Call_ (DK I M O Tw (PyProof.Rows.callWith_type1 (thn (Q pos U s J H _ I C) λus b⟨L,i,g,r1,G⟩=>?_) (by rw[Y];rfl) (by rfl)));obtain⟨x,e,G⟩:=G;subst e;cases r1 with
 |cons r N=>
  cases N;rcases G with⟨a,rfl,⟨A,m⟩,q⟩|⟨z,rfl,q⟩|⟨a,rfl,⟨A,m⟩,q⟩
  .cases r;obtain⟨B,Z,n,S⟩:=g.list m;refine call_enumerate_list n.isList λC j f y v=>wpAny_pyIter_enum j ?_;have u:a<b.heap.objs.size:=by obtain⟨o,q,_⟩:=n.isList;exact ak q
   refine⟨b.heap.objs.size+1,[b.heap.objs.size+1,b.heap.objs.size],_,_,i,rfl,g.kept (t':=b.toks) v,Ia (Tq (Nat.succ_ne_self _) (ax (bv u)) (ax u)),⟨⟨_,j⟩,f⟩,λc l=>?_,q⟩;have d:b.heap.objs.size<=c:=by simp only[ao,av,or_false]at l;rcases l with rfl|rfl<;>omega
   exact g.fpOk d (g.hok.fresh d)
  .obtain⟨t,rfl⟩:=r;refine call_enumerate_str λC j f y v=>wpAny_pyIter_enum j ?_;have D:strIterType z="str_ascii_iterator"\/strIterType z="str_iterator":=by
    unfold strIterType;split;.exact .inl rfl
    .exact .inr rfl
   refine⟨b.heap.objs.size+1,[b.heap.objs.size+1,b.heap.objs.size],_,_,i,rfl,g.kept (t':=b.toks) v,Ia (Tr D (Nat.succ_ne_self _)),⟨⟨_,j⟩,f⟩,λc l=>?_,q⟩;have d:b.heap.objs.size<=c:=by simp only[ao,av,or_false]at l;rcases l with rfl|rfl<;>omega
   exact g.fpOk d (g.hok.fresh d)
  .cases r;obtain⟨B,Z,n,S⟩:=g.tuple m;refine Tu (show b.heap.IsTuple a B.toArray from n) λC j f y v=>wpAny_pyIter_enum j ?_;have u:a<b.heap.objs.size:=by obtain⟨o,q,_⟩:=n;exact ak q
   refine⟨b.heap.objs.size+1,[b.heap.objs.size+1,b.heap.objs.size],_,_,i,rfl,g.kept (t':=b.toks) v,Ia (Tv (Nat.succ_ne_self _) (ax (bv u)) (ax u)),⟨⟨_,j⟩,f⟩,λc l=>?_,q⟩;have d:b.heap.objs.size<=c:=by simp only[ao,av,or_false]at l;rcases l with rfl|rfl<;>omega
   exact g.fpOk d (g.hok.fresh d)
end
section
variable{X:Cx}
theorem Tz:B7 X (.type "int") (λa H Q=>∃x n,a=[.str x]/\PySem.intText? x=A0 n/\x.length<=640/\Q (.int n) H):=by intro f s g H a e Q I r h;obtain⟨x,n,rfl,b,d,q⟩:=h;obtain⟨u,rfl,t,rfl⟩:=C6 r;exact W.KIN.call_text b d ⟨.int n,H,I.tok _,⟨_,rfl⟩,q⟩
def Lf:List V->Hp->VK->Prop:=λa H Q=>((∃i,a=[.int i]/\Q (.int i) H)\/∃k,a=[.bl k]/\Q (.int (if k then 1 else 0)) H)\/∃x n,a=[.str x]/\PySem.intText? x=A0 n/\x.length<=640/\Q (.int n) H
theorem T_:B7 X (.type "int") Lf:=SD.or Tz
def U0:R2:=λx y H Q=>∃a n,x=.str a/\y=.int n/\-1000000<=n/\n<=1000000/\a.length*n.toNat<=1000000/\Q (.str (Txt.mul a n)) H
theorem U1:OpR X (Ah .Mult) U0:=by
 intro C s r H x y v u Q I f m h;obtain⟨a,n,rfl,rfl,w,D,A,q⟩:=h;obtain⟨t,rfl⟩:=f;obtain⟨j,rfl⟩:=m;refine SB.mul ⟨?_,λo l=>?_,λo l=>?_⟩ λj k=>⟨.str (Txt.mul a n),H,I.tok _,⟨_,rfl⟩,q⟩
 .have g:¬n< -(2^63:Int):=by omega
  have i:¬n≥2^63:=by omega
  simp[g,i];omega
 .have b:0<n:=by omega
  intro d;have B:(a.length:Int)*n<=1000000:=by
   have:((a.length*n.toNat:Nat):Int)<=1000000:=by omega
   rw[Int.natCast_mul,Int.toNat_of_nonneg ⋯]at this;exact this
  have p:=(Int.ediv_lt_iff_lt_mul b).mp d;omega
 .have e:AB.Str.tooLong (a.length*n.toNat)=A6:=by unfold AB.Str.tooLong;have:A7=16777216:=sizeLine_eq;simp;omega
  exact e
def Lg(K:W.Frag):V->List V->Hp->VK->Prop:=λx d H Q=>∃(a:AM)(p:A4)(b:List AM),x=.str a/\d=[.ref p]/\(SqL K H p (b.map V.str)\/SqT K H p (b.map V.str))/\(b.map (·.length)).sum+b.length*a.length<=16777216/\Q (.str (Txt.join a b)) H
theorem Ic:∀{b:List AM}{a:List A1},Av (b.map V.str) a->StrsAre a b
 | [],a,h=>by have e:=h.zero;subst e;exact .nil
 |y::b,_,.cons r t=>by obtain⟨k,rfl⟩:=r;exact .cons y k (Ic t)
theorem U2:MtR X "str.join" (Lg X.K):=by
 intro y s n H x w v m Q I g j h;obtain⟨l,p,o,rfl,rfl,a,e,q⟩:=h;obtain⟨t,rfl⟩:=g;obtain⟨u,rfl,f⟩:=j.one;cases f;rcases a with a|a;.obtain⟨d,r,b,_⟩:=I.list a;exact join_list b.isList (Ic r) e λi k=>⟨.str _,H,I.tok _,⟨_,rfl⟩,q⟩
 .obtain⟨d,r,b,_⟩:=I.tuple a;exact join_tuple b (Ic r) e λi k=>⟨.str _,H,I.tok _,⟨_,rfl⟩,q⟩
def U3:V->Option Int->Option Int->Hp->VK->Prop:=λx b d H Q=>∃a,x=.str a/\a.length<=A7/\Q (.str (Txt.slice a b d)) H
theorem U4:SlR X U3:=by
 intro C s o H x v K G B D f Q I p d n m h;obtain⟨a,rfl,E,q⟩:=h;obtain⟨t,rfl⟩:=p;have b:∀(l u:Option (Int×Tok)),l.map (·.1)=B->u.map (·.1)=D->s.heap.IsSlice f l u A5->A8 (AD X.prog X.w) X.A (getItem (.str a t) (.ref f)) (EP X C o Q) X.xe s:=by intro l u r y e;refine wpAny_getItem_str_slice (l:=l) (u:=u) (st:=A5) e rfl ?_;refine post_val_or_str ?_;subst r y;exact⟨aF (Txt.slice_le a _ _) E,λJ k=>⟨.str _,H,I.tok _,⟨_,rfl⟩,q⟩⟩
 refine⟨"str",_,F.slot_str_getitem.lookup,typeIs_str _ _ _,?_⟩;cases n with
 |none=>
  cases m with
  |none=>exact b A5 A5 rfl rfl d
  |int j u=>exact b A5 (A0 (j,u)) rfl rfl d
 |int i g=>
  cases m with
  |none=>exact b (A0 (i,g)) A5 rfl rfl d
  |int j u=>exact b (A0 (i,g)) (A0 (j,u)) rfl rfl d
def C2(H:Hp):V->Option String
 | .non=>A0 "NoneType"
 | .bl _=>A0 "bool"
 | .int _=>A0 "int"
 | .str _=>A0 "str"
 | .ref a=>match H a with
  |A0 (.lst _)=>A0 "list"
  |A0 (.tup _)=>A0 "tuple"
  |A0 (.dK _)=>A0 "dict"
  |A0 (.dT _)=>A0 "dict"
  |A0 (.frz _ (.lst _))=>A0 "list"
  |_=>A5
 |_=>A5
set_option tactic.hygienic true in
theorem U5{K:W.Frag}{H:Hp}{x:V}{T:String}(h:C2 H x=A0 T):TyOf K H x (.type T):=by
 cases x with
 |non=>cases h;exact .non
 |bl b=>cases h;exact .bl b
 |int i=>cases h;exact .int i
 |str y=>cases h;exact .str y
 |byt _=>cases h
 |flt _=>cases h
 |ty _=>cases h
 |ref a=>
  have h:(match H a with
   |A0 (.lst _)=>A0 "list"
   |A0 (.tup _)=>A0 "tuple"
   |A0 (.dK _)=>A0 "dict"
   |A0 (.dT _)=>A0 "dict"
   |A0 (.frz _ (.lst _))=>A0 "list"
   |_=>A5)=A0 T:=h;split at h;.rename_i e;cases h;exact .lst e
  .rename_i e;cases h;exact .tup e
  .rename_i e;cases h;exact .dK e
  .rename_i e;cases h;exact .dT e
  .rename_i e;cases h;exact .frz e
  .cases h
def isT(T c:String):Bool:=T==c||(T=="bool"&&c=="int")
def DA:List String:=["NoneType","bool","int","str","list","tuple","dict"]
theorem Lh(K:W.Frag):∀T∈DA,∀c∈["bool","int","str","list","tuple","dict"],W.kitOne K (.type T) (.type c)=A0 (isT T c):=by intro T hT c a;simp only[DA,ao,av,or_false]at hT a;rcases hT with rfl|rfl|rfl|rfl|rfl|rfl|rfl<;>rcases a with rfl|rfl|rfl|rfl|rfl|rfl<;>rfl
def Li:List V->Hp->VK->Prop:=λb H Q=>
 (∃x T c,b=[x,.ty c]/\C2 H x=A0 T/\T∈DA/\c∈["bool","int","str","list","tuple","dict"]/\Q (.bl (isT T c)) H)\/
 (∃(x:V)(T:String)(p:A4)(a:List String),b=[x,.ref p]/\C2 H x=A0 T/\T∈DA/\H p=A0 (.tup (a.map V.ty))/\(∀c∈a,c∈["bool","int","str","list","tuple","dict"])/\Q (.bl (a.any (isT T))) H)
theorem Lj:∀{a:List String}{b:List A1},Av (a.map V.ty) b->b=a.map A1.type
 | [],b,h=>h.zero
 |c::a,_,.cons r t=>by have d:_=A1.type c:=r;rw[d,Lj t];rfl
theorem Lk(K:W.Frag){T:String}(hT:T∈DA):∀{cs:List String},(∀c∈cs,c∈["bool","int","str","list","tuple","dict"])->W.kitAny K (.type T) (cs.map A1.type)=A0 (cs.any (isT T))
 | [],_=>rfl
 |c::cs,h=>by
  have f:=Lh K T hT c (h c az);have e:=Lk K hT (cs:=cs) λd a=>h d (ay _ a);show(match W.kitOne K (.type T) (.type c)with|A0 A2=>A0 A2|A0 A6=>W.kitAny K (.type T) (cs.map A1.type)|A5=>A5)=_;rw[f];cases b:isT T c;.rw[dj,b];exact e
  .rw[dj,b];rfl
set_option tactic.hygienic true in
theorem U6{p_:List (A4×AS)}{σ:St}{H:Hp}{s:A3}{Q:A1->A3->Prop}{E:A1->A3->Prop}{b:Bool}{x:V}{u:A1}{T:String}{p:A4}{dd:Option A4}{its:List A1}{n:Nat}{sl:Array (Option A1)}(I:Inv X p_ σ H s)(rx:At x u)(ty:C2 H x=A0 T)
  (hp:s.heap.get? p=A0 ⟨.type "tuple",dd,.seq its.toArray n,sl⟩)(e:W.kitAny X.K (.type T) its=A0 b)(h:∀tk,Q (.bool b) {s with toks:=tk}):
  A8 (AD X.prog X.w) X.A (call (.builtin "isinstance") [u,.ref p]) Q E s:=by
 cases x with
 |non=>cases ty;cases(show u=A1.none from rx);exact W.kia_tup W.kitx_none I.kIn True.intro hp e (λz=>nomatch z) h
 |bl y=>cases ty;cases(show u=A1.bool y from rx);exact W.kia_tup W.kitx_bool I.kIn True.intro hp e (λz=>nomatch z) h
 |int i=>cases ty;obtain⟨t,q⟩:=(show∃t,u=A1.int i t from rx);cases q;exact W.kia_tup W.kitx_int I.kIn True.intro hp e (λz=>nomatch z) h
 |str y=>cases ty;obtain⟨t,q⟩:=(show∃t,u=A1.str y t from rx);cases q;exact W.kia_tup W.kitx_str I.kIn True.intro hp e (λz=>nomatch z) h
 |byt _=>cases ty
 |flt _=>cases ty
 |ty _=>cases ty
 |ref a=>
  cases(show u=A1.ref a from rx);have ty:(match H a with
   |A0 (.lst _)=>A0 "list"
   |A0 (.tup _)=>A0 "tuple"
   |A0 (.dK _)=>A0 "dict"
   |A0 (.dT _)=>A0 "dict"
   |A0 (.frz _ (.lst _))=>A0 "list"
   |_=>A5)=A0 T:=ty;split at ty;.rename_i xs ea;cases ty;obtain⟨_,_,n,_,h1⟩:=(show B0 X.prog X.w H s.heap a (.lst xs)from I.hok a _ ea);exact W.kia_tup W.kitx_list I.kIn ⟨_,h1,rfl⟩ hp e (λz=>nomatch z) h
  .rename_i xs ea;cases ty;obtain⟨_,_,_,o,h1,h2,_⟩:=(show B0 X.prog X.w H s.heap a (.tup xs)from I.hok a _ ea);exact W.kia_tup W.kitx_tuple I.kIn ⟨o,h1,h2⟩ hp e (λz=>nomatch z) h
  .rename_i kvs ea;cases ty;obtain⟨_,_,vs,_,o,es,ep,h1,h2,_⟩:=(show B0 X.prog X.w H s.heap a (.dK kvs)from I.hok a _ ea);exact W.kia_tup W.kitx_dict I.kIn ⟨o,h1,h2.1⟩ hp e (λz=>nomatch z) h
  .rename_i kvs ea;cases ty;obtain⟨_,_,xs,_,o,es,ep,h1,h2,_⟩:=(show B0 X.prog X.w H s.heap a (.dT kvs)from I.hok a _ ea);exact W.kia_tup W.kitx_dict I.kIn ⟨o,h1,h2.1⟩ hp e (λz=>nomatch z) h
  .rename_i ob xs ea;cases ty;obtain⟨_,_,_,n,_,h1⟩:=(show B0 X.prog X.w H s.heap a (.frz ob (.lst xs))from I.hok a _ ea);exact W.kia_tup W.kitx_list I.kIn ⟨_,h1,rfl⟩ hp e (λz=>nomatch z) h
  .cases ty
theorem U7:B7 X (.builtin "isinstance") Li:=by
 intro J s D H G C Q I r h;rcases h with⟨x,T,c,rfl,hT,b,g,q⟩|⟨x,T,p,j,rfl,hT,b,v,g,q⟩;.obtain⟨u,d,rfl,r1,r2⟩:=Ee r;have r2:d=A1.type c:=r2;subst r2;exact SJ I r1 (U5 hT) (Lh X.K T b c g) λy=>⟨.bl _,H,I.tok _,rfl,q⟩
 .obtain⟨u,d,rfl,r1,r2⟩:=Ee r;have r2:d=A1.ref p:=r2;subst r2;obtain⟨_,A,B,o,m,i,⟨n,f⟩,_⟩:=(show B0 X.prog X.w H s.heap p (.tup (j.map V.ty))from I.hok p _ v);have e:=Lj B;subst e;obtain⟨l,E,a,t⟩:=o;have i:l=_:=i;have f:a=_:=f;subst i f;exact U6 I r1 hT m (Lk X.K b g) λy=>⟨.bl _,H,I.tok _,rfl,q⟩
def Ll(K:W.Frag)(any:Bool):List V->Hp->VK->Prop:=λb H Q=>∃(p:A4)(a:List Bool),b=[.ref p]/\SqL K H p (a.map V.bl)/\Q (.bl (if any then a.any id else a.all id)) H
theorem Lm:∀{a:List Bool}{d:List A1}{i:Nat}{v:A1},Av (a.map V.bl) d->d[i]?=A0 v->∃b,a[i]?=A0 b/\v=.bool b
 | [],d,i,v,h,e=>by rw[h.zero]at e;simp at e
 |b::a,_,0,v,.cons r t,e=>by have r:_=A1.bool b:=r;simp at e;exact⟨b,rfl,by rw[<-e];exact r⟩
 |b::a,_,i+1,v,.cons r t,e=>by obtain⟨f,j,g⟩:=Lm (i:=i) t (by simpa using e);exact⟨f,by simpa using j,g⟩
theorem U8(bs:List Bool):(aE bs.length).all (λi=>bs.getD i A6)=bs.all id:=by
 rw[dc,cf,cf];constructor;.intro h b d;obtain⟨i,a,rfl⟩:=cI.mp d;have:=h i (ba.mpr a);simpa[List.getD_eq_getElem?_getD,a]using this
 .intro h i a;have a:=ba.mp a;have:=h bs[i] (bR a);simpa[List.getD_eq_getElem?_getD,a]using this
theorem U9(B:X.calm=A2):B7 X (.builtin "all") (Ll X.K A6):=by
 intro S s L H R J Q I r h;obtain⟨p,g,rfl,G,q⟩:=h;obtain⟨u,rfl,x⟩:=C6 r;cases x;obtain⟨f,m,l,M⟩:=I.list G;have a:f.toArray.size=g.length:=by have:=m.length;rw[af]at this;rw[au,this]
 refine call_all_walk (cL l.isList ?_);have j:p<s.heap.objs.size:=by obtain⟨o,n,e,_⟩:=l;exact ak e
 refine⟨s.heap.objs.size,_,_,_,_,_,λi=>g.getD i A6,rfl,Walks.list (A:=X.A.in1) (I.ok.hd B) _ p (ax j) f.toArray,⟨⟨_,ai _ rfl,rfl,rfl⟩,AJ.IsList.push l.isList _⟩,?_,λO P w=>?_⟩
 .intro i v D E N C y;obtain⟨b,t,rfl⟩:=Lm m (i:=i) (by simpa using C);refine bL ?_;have e:g.getD i A6=b:=by rw[List.getD_eq_getElem?_getD,t];rfl
  have d:E (g.getD i A6) D:=y;rw[e]at d;exact d
 .rw[a,U8];exact⟨.bl _,H,I.kept λb o e=>w b o (by simp;exact ax (ak e)) (ac _ e),rfl,q⟩
def Ft(K:W.Frag)(mx:Bool):List V->Hp->VK->Prop:=λd H Q=>∃(p:A4)(b:List Int),d=[.ref p]/\SqL K H p (b.map V.int)/\b≠[]/\∀M,M∈b->(∀a∈b,if mx then a<=M else M<=a)->Q (.int M) H
theorem UA(B:X.calm=A2):B7 X (.builtin "max") (Ft X.K A2):=by
 intro S s M H d L Q I r h;obtain⟨p,A,rfl,G,f,q⟩:=h;obtain⟨u,rfl,x⟩:=C6 r;cases x;obtain⟨E,J,o,O⟩:=I.list G;have n:=IG J;obtain⟨d,e⟩:=n.allInts.items;have b:A=d.toList.map (·.1):=by rw[<-n.numsOf,<-nums_intItems,<-e]
 have g:0<d.size:=by have l:=List.length_pos_iff.mpr f;rw[b,af,am]at l;exact l
 have i:=o.isList;rw[e]at i;refine max_intList (I.ok.hd B) i g λv P R C w=>?_;obtain⟨t,rfl⟩:=intItems_at C;obtain⟨N,y⟩:=argBest_gt (numAt d) (d.size-1);refine⟨.int _,H,I.kept w,⟨t,rfl⟩,q _ ?_ λa m=>?_⟩;.rw[b,numAt_eq];exact getD_mem (by rw[af,am];omega)
 .rw[b]at m;obtain⟨j,D,rfl⟩:=mem_getD m;rw[af,am]at D;rw[if_pos rfl,<-numAt_eq];exact y j ⋯
theorem UB(B:X.calm=A2):B7 X (.builtin "min") (Ft X.K A6):=by
 intro S s M H d L Q I r h;obtain⟨p,A,rfl,G,f,q⟩:=h;obtain⟨u,rfl,x⟩:=C6 r;cases x;obtain⟨E,J,o,O⟩:=I.list G;have n:=IG J;obtain⟨d,e⟩:=n.allInts.items;have b:A=d.toList.map (·.1):=by rw[<-n.numsOf,<-nums_intItems,<-e]
 have g:0<d.size:=by have l:=List.length_pos_iff.mpr f;rw[b,af,am]at l;exact l
 have i:=o.isList;rw[e]at i;refine min_intList (I.ok.hd B) i g λv P R C w=>?_;obtain⟨t,rfl⟩:=intItems_at C;obtain⟨N,y⟩:=argBest_lt (numAt d) (d.size-1);refine⟨.int _,H,I.kept w,⟨t,rfl⟩,q _ ?_ λa m=>?_⟩;.rw[b,numAt_eq];exact getD_mem (by rw[af,am];omega)
 .rw[b]at m;obtain⟨j,D,rfl⟩:=mem_getD m;rw[af,am]at D;rw[if_neg (by decide),<-numAt_eq];exact y j ⋯
end
section
variable{X:Cx}
open PySem.SeqAt in
theorem Fu{A:AL}{s:A3}{x y:V}{u v:A1}(rx:At x u)(ry:At y v)(h:D_ x y=A2/\(∀b,x≠.byt b)\/x=y/\∃a,x=.ref a):EqAt A s u v (decide (x=y)):=by
 rcases h with⟨h,hb⟩|⟨rfl,a,rfl⟩
 .cases x with
  |non=>cases y with
   |non=>cases rx;cases ry;exact EqAt.same _
   |bl b=>cases rx;cases ry;exact EqAt.none_bool _
   |int b=>cases rx;obtain⟨t,rfl⟩:=ry;exact EqAt.none_int _ _
   |str b=>cases rx;obtain⟨t,rfl⟩:=ry;exact EqAt.none_str _ _
   |_=>cases h
  |bl a=>cases y with
   |non=>cases rx;cases ry;exact EqAt.bool_none _
   |bl b=>cases rx;cases ry;have:=EqAt.bool_bool (A:=A) (s:=s) a b;cases a<;>cases b<;>exact this
   |str b=>cases rx;obtain⟨t,rfl⟩:=ry;exact EqAt.bool_str _ _ _
   |_=>cases h
  |int a=>cases y with
   |non=>obtain⟨t,rfl⟩:=rx;cases ry;exact EqAt.int_none _ _
   |int b=>obtain⟨t,rfl⟩:=rx;obtain⟨t',rfl⟩:=ry;rw[I9];exact EqAt.int_int _ _ _ _
   |str b=>obtain⟨t,rfl⟩:=rx;obtain⟨t',rfl⟩:=ry;exact EqAt.int_str _ _ _ _
   |_=>cases h
  |str a=>cases y with
   |non=>obtain⟨t,rfl⟩:=rx;cases ry;exact EqAt.str_none _ _
   |bl b=>obtain⟨t,rfl⟩:=rx;cases ry;exact EqAt.str_bool _ _ _
   |int b=>obtain⟨t,rfl⟩:=rx;obtain⟨t',rfl⟩:=ry;exact EqAt.str_int _ _ _ _
   |str b=>
    obtain⟨t,rfl⟩:=rx;obtain⟨t',rfl⟩:=ry;have e:decide (V.str a=V.str b)=(a==b):=by
     by_cases hab:a=b;.subst hab;simp
     .rw[decide_eq_false (by intro z;cases z;exact hab rfl)];simp[hab]
    rw[e];exact EqAt.str_str _ _ _ _
   |_=>cases h
  |byt b=>exact absurd rfl (hb b)
  |_=>cases y<;>cases h
 .cases rx;cases ry;rw[decide_eq_true rfl];exact EqAt.same _
def LEq(xs d:List V):Prop:=∀(i:Nat)x y,xs[i]?=A0 x->d[i]?=A0 y->D_ x y=A2/\(∀b,x≠.byt b)\/x=y/\∃a,x=.ref a
def Fv(K:W.Frag)(neg:Bool):V->V->Hp->VK->Prop:=λx y H Q=>∃p q a b,x=.ref p/\y=.ref q/\SqL K H p a/\SqL K H q b/\(a.length=b.length->LEq a b)/\Q (.bl (if neg then !decide (a=b)else decide (a=b))) H
theorem Ie{xs a:List V}(h:xs.length=a.length):(aE xs.length).all (λi=>decide (xs[i]?=a[i]?))=decide (xs=a):=by
 by_cases e:xs=a;.subst e;simp
 .rw[decide_eq_false e,Bool.eq_false_iff];intro q;rw[cf]at q;apply e;apply bO;intro i;rcases Nat.lt_or_ge i xs.length with b|b;.exact of_decide_eq_true (q i (ba.mpr b))
  .rw[bf.mpr b,bf.mpr ⋯]
open PySem.SeqAt in
theorem UC(hu:X.A.units<Ao):OpR X (AU .Eq) (Fv X.K A6):=by
 intro p_ s σ H x y v u Q I rx ry h;obtain⟨p,q,xs,ys,rfl,rfl,hp,hq,he,k⟩:=h;cases rx;cases ry;obtain⟨its,r1,pl1,_⟩:=I.list hp;obtain⟨its2,r2,pl2,_⟩:=I.list hq;have l1:=r1.length;have l2:=r2.length;by_cases hl:xs.length=ys.length
 .refine eq_listAt (e:=λi=>decide (xs[i]?=ys[i]?)) pl1.isList pl2.isList (by simp;omega) hu (λj h1 h2=>?_) ?_
  .have j1:j<xs.length:=by simp at h1;omega
   have j2:j<ys.length:=by omega
   have g1:xs[j]?=A0 xs[j]:=ae j1;have g2:ys[j]?=A0 ys[j]:=ae j2;obtain⟨u1,e1,ru1⟩:=r1.get g1;obtain⟨u2,e2,ru2⟩:=r2.get g2;have f1:its.toArray[j]=u1:=by simp at h1⊢;rw[ae h1]at e1;exact Option.some.inj e1
   have f2:its2.toArray[j]=u2:=by simp at h2⊢;rw[ae h2]at e2;exact Option.some.inj e2
   rw[f1,f2,g1,g2];have e3:decide (A0 xs[j]=A0 ys[j])=decide (xs[j]=ys[j]):=by simp
   rw[e3];exact Fu ru1 ru2 (he hl j _ _ g1 g2)
  .have e4:(aE its.toArray.size).all (λi=>decide (xs[i]?=ys[i]?))=decide (xs=ys):=by rw[au,<-l1];exact Ie hl
   rw[e4];exact⟨.bl _,H,I,rfl,k⟩
 .refine eq_list_lengthsAt pl1.isList pl2.isList (by simp;omega) hu ?_;rw[decide_eq_false (λz=>hl (by rw[z]))]at k;exact⟨.bl A6,H,I,rfl,k⟩
open PySem.SeqAt in
theorem UD(hu:X.A.units<Ao):OpR X (AU .NotEq) (Fv X.K A2):=by
 intro p_ s σ H x y v u Q I rx ry h;obtain⟨p,q,xs,ys,rfl,rfl,hp,hq,he,k⟩:=h;cases rx;cases ry;obtain⟨its,r1,pl1,_⟩:=I.list hp;obtain⟨its2,r2,pl2,_⟩:=I.list hq;have l1:=r1.length;have l2:=r2.length;obtain⟨⟨cls,dd,data,sl⟩,ho,hc,n,hd⟩:=pl1.isList;obtain⟨⟨cls2,dd2,data2,sl2⟩,ho2,hc2,n2,hd2⟩:=pl2.isList;simp only at hc hd hc2 hd2;subst hc hd hc2 hd2;by_cases hl:xs.length=ys.length
 .refine richCompare_meets_room (op:=.NotEq) ⟨_,ho,rfl⟩ ⟨_,ho2,rfl⟩ F.slot_list_ne F.entry_list_ne (F.args_list_ne_2 _ _) (list_neAt p q its.toArray its2.toArray n n2 dd dd2 sl sl2 (by simp;omega) (λi=>decide (xs[i]?=ys[i]?))) ⟨ho,ho2,λj h1 h2=>?_,?_⟩ hu
  .have j1:j<xs.length:=by simp at h1;omega
   have j2:j<ys.length:=by omega
   have g1:xs[j]?=A0 xs[j]:=ae j1;have g2:ys[j]?=A0 ys[j]:=ae j2;obtain⟨u1,e1,ru1⟩:=r1.get g1;obtain⟨u2,e2,ru2⟩:=r2.get g2;have f1:its.toArray[j]=u1:=by simp at h1⊢;rw[ae h1]at e1;exact Option.some.inj e1
   have f2:its2.toArray[j]=u2:=by simp at h2⊢;rw[ae h2]at e2;exact Option.some.inj e2
   rw[f1,f2,g1,g2];have e3:decide (A0 xs[j]=A0 ys[j])=decide (xs[j]=ys[j]):=by simp
   rw[e3];exact Fu ru1 ru2 (he hl j _ _ g1 g2)
  .have e4:(aE its.toArray.size).all (λi=>decide (xs[i]?=ys[i]?))=decide (xs=ys):=by rw[au,<-l1];exact Ie hl
   rw[e4];exact(show A1.bool (!decide (xs=ys))≠A1.notImplemented/\EP X p_ σ Q (A1.bool (!decide (xs=ys))) s from⟨(λx=>nomatch x),⟨.bl _,H,I,rfl,k⟩⟩)
 .refine richCompare_meets_room (op:=.NotEq) ⟨_,ho,rfl⟩ ⟨_,ho2,rfl⟩ F.slot_list_ne F.entry_list_ne (F.args_list_ne_2 _ _) (list_ne_lengthsAt p q its.toArray its2.toArray n n2 dd dd2 sl sl2 (by simp;omega)) ⟨ho,ho2,?_⟩ hu;rw[decide_eq_false (λz=>hl (by rw[z]))]at k;exact(show A1.bool A2≠A1.notImplemented/\EP X p_ σ Q (A1.bool A2) s from⟨(λx=>nomatch x),⟨.bl A2,H,I,rfl,k⟩⟩)
def rgs(i:Int)(n:Nat):List V:=(aE n).map λ(k:Nat)=>V.int (i+(k:Int))
def Ln:List V->Hp->VK->Prop:=λa H Q=>∃i j:Int,(a=[.int i,.int j]\/(i=0/\a=[.int j]))/\∀p,H p=A5->Q (.ref p) (upd H p (.rng i j))
theorem UE:B7 X (.type "range") Ln:=by
 intro m s g H l f Q I a h;obtain⟨i,j,d,q⟩:=h;have b:H s.heap.objs.size=A5:=I.hok.fresh (ag _);rcases d with rfl|⟨rfl,rfl⟩
 .cases a with
  |cons r1 a=>
   cases a with
   |cons r2 a=>cases a;obtain⟨t,rfl⟩:=r1;obtain⟨u,rfl⟩:=r2;exact call_range_2 ⟨.ref s.heap.objs.size,_,I.laid (t':=s.toks+1) (λ_ _ e=>ac _ e) (ag _) (o:=.rng i j) ⟨t,u,s.toks,ai _ rfl⟩,rfl,q _ b⟩
 .cases a with
  |cons r1 a=>cases a;obtain⟨t,rfl⟩:=r1;exact call_range_1 ⟨.ref s.heap.objs.size,_,I.laid (t':=s.toks+1+1) (λ_ _ e=>ac _ e) (ag _) (o:=.rng 0 j) ⟨s.toks,t,s.toks+1,ai _ rfl⟩,rfl,q _ b⟩
def Lo:List V->Hp->VK->Prop:=λa H Q=>∃r i j,a=[.ref r]/\H r=A0 (.rng i j)/\(-(2^62)<=i/\i<2^62/\-(2^62)<=j/\j<2^62)/\(j-i).toNat<=A7/\∀p,H p=A5->Q (.ref p) (upd H p (.lst (rgs i (j-i).toNat)))
theorem UF(K:X.calm=A2):B7 X (.type "list") Lo:=by
 intro Y s S H U R Q I B h;obtain⟨r,i,j,rfl,L,⟨E,P,G,J⟩,C,q⟩:=h;cases B with
 |cons r1 B=>
  cases B;cases r1;obtain⟨t,u,v,e⟩:=(show B0 X.prog X.w H s.heap r (.rng i j)from I.hok r _ L);refine call_list_range (n:=(j-i).toNat) (I.ok.hd K) e (small_one E P G J) (by rw[rangeSize_one];split<;>omega) C λT p b D a N y=>?_;obtain⟨A,d⟩:=y;have O:H s.heap.objs.size=A5:=I.hok.fresh (ag _);have m:∀(n:Nat)(l:List A1)(f:Nat->Int),l.length=n->(∀k v,l[k]?=A0 v->∃t,v=A1.int (f k) t)->Av ((aE n).map λk=>V.int (f k)) l:=by
   intro n;induction n with
   |zero=>intro l f g d;have:l=[]:=cR.mp g;subst this;exact .nil
   |succ n M=>
    intro l f g d;cases l with
    |nil=>cases g
    |cons x r=>rw[List.range_succ_eq_map,aX,bn];refine .cons (d 0 x rfl) ?_;exact M r (λk=>f (k+1)) (by simpa using g) λk v a=>d (k+1) v (by simpa using a)
  refine⟨.ref s.heap.objs.size,_,I.laid (t':=p) a (ag _) (o:=.lst (rgs i (j-i).toNat)) ⟨by unfold rgs;rw[af,bx];exact C,b.toList,D,?_,N⟩,rfl,q _ O⟩;refine m _ _ (λk=>i+(k:Int)) (by rw[am];exact A) λk v a=>?_;obtain⟨t,e⟩:=d k v (by simpa using a);exact⟨t,by rw[e];simp⟩
end
section
variable{X:Cx}
theorem UG:OpR X (Ah .Mult) (rI IntMulOk λi j=>.int (i*j)):=opI λ_ _ _ _ _ _ _ a q=>mul_int q a
def Lp:V->Bool
 | .ty _=>A6
 | .byt _=>A6
 | .flt _=>A6
 |_=>A2
def Fw(neg:Bool):R2:=λx y H Q=>∃b,y=.bl b/\Lp x=A2/\Q (.bl (if neg then !decide (x=.bl b)else decide (x=.bl b))) H
theorem Lq{x:V}{v:A1}{b:Bool}(r:At x v)(h:Lp x=A2):plainIs v (.bool b)=A2/\(v==A1.bool b)=decide (x=.bl b):=by
 cases x with
 |non=>cases r;exact⟨rfl,rfl⟩
 |bl a=>cases r;refine⟨rfl,?_⟩;cases a<;>cases b<;>rfl
 |int i=>obtain⟨t,rfl⟩:=r;exact⟨rfl,rfl⟩
 |str i=>obtain⟨t,rfl⟩:=r;exact⟨rfl,rfl⟩
 |ref a=>cases r;exact⟨rfl,rfl⟩
 |_=>cases h
theorem UH:OpR X (AU .Is) (Fw A6):=by intro j s i H x y v u Q I a f h;obtain⟨b,rfl,e,q⟩:=h;cases f;obtain⟨d,g⟩:=Lq (b:=b) a e;exact wpAny_is_plain d ⟨.bl _,H,I,by rw[g];rfl,q⟩
theorem UI:OpR X (AU .IsNot) (Fw A2):=by intro j s i H x y v u Q I a f h;obtain⟨b,rfl,e,q⟩:=h;cases f;obtain⟨d,g⟩:=Lq (b:=b) a e;exact wpAny_isNot_plain d ⟨.bl _,H,I,by rw[g];rfl,q⟩
theorem UJ:OpR X (Ah .FloorDiv) (rI (λ_ j=>0<j/\j.natAbs.log2<9000) λi j=>.int (i/j)):=opI λi j _ _ _ _ _ a q=>by refine floordiv_int ⋯ ?_ (.inl (PyProof.noPylong_of_log2 a.2));rw[Int.fdiv_eq_ediv_of_nonneg i ⋯];exact q
end
section
variable{κ:Type} [DecidableEq κ]
def Bg(a:List (κ×V))(k:κ):Option V:=(a.find? λb=>decide (b.1=k)).map (·.2)
def Bn(a:List (κ×V))(k:κ)(v:V):List (κ×V):=
 if(a.any λb=>decide (b.1=k))=A2 then a.map (λb=>if b.1=k then(b.1,v)else b)else a++[(k,v)]
theorem En{p:κ×V}{r:List (κ×V)}{k:κ}(e:p.1=k):Bg (p::r) k=A0 p.2:=by simp[Bg,dg,e]
theorem Eo{p:κ×V}{r:List (κ×V)}{k:κ}(e:¬p.1=k):Bg (p::r) k=Bg r k:=by simp[Bg,dg,e]
theorem Ig(k:κ):∀a:List (κ×V),(a.any λb=>decide (b.1=k))=(Bg a k).isSome
 | []=>rfl
 |p::r=>by
  rw[dj];by_cases e:p.1=k;.simp only[En e,decide_eq_true e,Bool.true_or,Option.isSome_some]
  .rw[Eo e,decide_eq_false e,Bool.false_or];exact Ig k r
theorem Ih(a:List (κ×V))(k:κ)(v:V):(Bn a k v).length<=a.length+1:=by
 unfold Bn;split;.rw[af];omega
 .rw[aA,bD,cN];omega
theorem Ii{a:List (κ×V)}{k:κ}(v:V)(h:Bg a k=A5):Bn a k v=a++[(k,v)]:=by unfold Bn;rw[Ig,h];exact if_neg (by decide)
theorem D6.isSome_eq{o:Option V}{u:Option A1}(r:D6 o u):o.isSome=u.isSome:=by
 cases o with
 |none=>cases u with
  |none=>rfl
  |some _=>exact(show False from r).elim
 |some _=>cases u with
  |none=>exact(show False from r).elim
  |some _=>rfl
theorem D6.getD{o:Option V}{u:Option A1}{d:V}{d':A1}(r:D6 o u)(a:At d d'):At (o.getD d) (u.getD d'):=by
 cases o with
 |none=>cases u with
  |none=>exact a
  |some _=>exact(show False from r).elim
 |some _=>cases u with
  |none=>exact(show False from r).elim
  |some _=>exact r
theorem KV.val{a:List (κ×V)}{vs:List (κ×A1)}(r:KV a vs)(k:κ):D6 (Bg a k) (valueAt vs k):=by
 unfold KV at r;induction r with
 |nil=>exact True.intro
 | @cons p q l f h t j=>
  obtain⟨g,i⟩:=h;by_cases e:p.1=k
  .have d:q.1=k:=g.symm.trans e;have b:valueAt (q::f) k=A0 q.2:=by simp[valueAt,dg,d]
   rw[En e,b];exact i
  .have d:¬q.1=k:=λz=>e (g.trans z);have b:valueAt (q::f) k=valueAt f k:=by simp[valueAt,dg,d]
   rw[Eo e,b];exact j
theorem KV.any{a:List (κ×V)}{vs:List (κ×A1)}(r:KV a vs)(k:κ):(a.any λb=>decide (b.1=k))=vs.any λb=>decide (b.1=k):=by
 unfold KV at r;induction r with
 |nil=>rfl
 |cons h t d=>rw[dj,dj,d,h.1]
theorem KV.repl{b:List (κ×V)}{vs:List (κ×A1)}(r:KV b vs)(k:κ){y:V}{u:A1}(f:At y u):
  KV (b.map λa=>if a.1=k then(a.1,y)else a) (vs.map λa=>if a.1=k then(a.1,u)else a):=by
 unfold KV at r⊢;induction r with
 |nil=>exact .nil
 | @cons p q l j h t g=>
  rw[aX,aX];refine .cons ?_ g;obtain⟨d,i⟩:=h;by_cases e:p.1=k;.rw[if_pos e,if_pos (d.symm.trans e)];exact⟨d,f⟩
  .rw[if_neg e,if_neg (λz=>e (d.trans z))];exact⟨d,i⟩
theorem KV.put{a:List (κ×V)}{vs:List (κ×A1)}(r:KV a vs)(k:κ){y:V}{u:A1}(b:At y u):KV (Bn a k y) (stored vs k u):=by
 unfold Bn stored;rw[r.any k];by_cases e:(vs.any λd=>decide (d.1=k))=A2;.rw[if_pos e,if_pos e];exact r.repl k b
 .rw[if_neg e,if_neg e];exact An.snoc r ⟨rfl,b⟩
theorem KV.keys{a:List (κ×V)}{vs:List (κ×A1)}(r:KV a vs):a.map (·.1)=vs.map (·.1):=by
 unfold KV at r;induction r with
 |nil=>rfl
 |cons h t b=>rw[aX,aX,b,h.1]
theorem KV.length{a:List (κ×V)}{vs:List (κ×A1)}(r:KV a vs):a.length=vs.length:=Aj r
end
theorem E6{P:AA}{w:AK}{k:Key}{u:A1}(r:At (kV k) u):(B8 P w).is k u=A2:=by
 cases k with
 |inl i=>obtain⟨t,e⟩:=(show∃t,u=A1.int i t from r);subst e;exact Qw P w i t
 |inr x=>obtain⟨t,e⟩:=(show∃t,u=A1.str x t from r);subst e;exact Qx P w x t
 |non=>obtain rfl:u=A1.none:=r;rfl
theorem Lr{P:AA}{w:AK}:∀{a:List Key}{b:List A1},Av (a.map kV) b->ItemsAre (B8 P w) a b
 | [],_,r=>by rw[List.map_nil]at r;cases r;exact .nil
 |k::a,_,r=>by
  rw[aX]at r;cases r with
  |cons h t=>exact .cons (E6 h) (Lr t)
abbrev KT(H:Hp):List (List Key×V)->List (List Key×A4×A1)->Prop:=An λp q=>p.1=q.1/\H q.2.1=A0 (.tup (p.1.map kV))/\At p.2 q.2.2
theorem KT.val{H:Hp}{a:List (List Key×V)}{xs:List (List Key×A4×A1)}(r:KT H a xs)(k:List Key):D6 (Bg a k) ((atKey xs k).map (·.2)):=by
 induction r with
 |nil=>exact True.intro
 | @cons p q l f h t j=>
  obtain⟨g,_,i⟩:=h;by_cases e:p.1=k
  .have d:q.1=k:=g.symm.trans e;have b:atKey (q::f) k=A0 q.2:=by simp[atKey,dg,d]
   rw[En e,b];exact i
  .have d:¬q.1=k:=λz=>e (g.trans z);have b:atKey (q::f) k=atKey f k:=by simp[atKey,dg,d]
   rw[Eo e,b];exact j
theorem KT.repl{H:Hp}{a:List (List Key×V)}{xs:List (List Key×A4×A1)}(r:KT H a xs)(k:List Key){y:V}{u:A1}(i:At y u):
  KT H (a.map λd=>if d.1=k then(d.1,y)else d) (xs.map (putAt k u)):=by
 induction r with
 |nil=>exact .nil
 | @cons p q m l h t j=>
  rw[aX,aX];refine .cons ?_ j;obtain⟨b,f,g⟩:=h;unfold putAt;by_cases e:p.1=k;.rw[if_pos e,if_pos (b.symm.trans e)];exact⟨b,f,i⟩
  .rw[if_neg e,if_neg (λz=>e (b.trans z))];exact⟨b,f,g⟩
theorem KT.put{H:Hp}{a:List (List Key×V)}{xs:List (List Key×A4×A1)}(r:KT H a xs)(k:List Key){b:A4}{y:V}{u:A1}(f:H b=A0 (.tup (k.map kV)))(d:At y u):
  KT H (Bn a k y) (storedH xs k b u):=by
 have e:(a.any λg=>decide (g.1=k))=(atKey xs k).isSome:=by rw[Ig,(r.val k).isSome_eq,Option.isSome_map]
 unfold Bn storedH;rw[e];by_cases q:(atKey xs k).isSome=A2;.rw[if_pos q,if_pos q];exact r.repl k d
 .rw[if_neg q,if_neg q];exact An.snoc r ⟨rfl,f,d⟩
theorem KT.keeps{H H':Hp}{a:List (List Key×V)}{xs:List (List Key×A4×A1)}(r:KT H a xs)(e:∀b d,H b=A0 (.tup d)->H' b=A0 (.tup d)):KT H' a xs:=
 Paired.mapP r λ_ _ z=>⟨z.1,e _ _ z.2.1,z.2.2⟩
section
variable{P:AA}{w:AK}{H:Hp}{h:AJ}{a:A4}
theorem Ls{u:HO}(ok:HOk P w H h)(e:Rd H a u):B0 P w H h a u:=e.ok ok
theorem Di{b:List (Key×V)}(ok:HOk P w H h)(e:Rd H a (.dK b)):b.length<=A7/\(a==AO)=A6/\∃d,KV b d/\h.DictOf (B8 P w) a d:=
 show B0 P w H h a (.dK b)from Ls ok e
theorem Fx{b:List (Key×V)}(ok:HOk P w H h)(e:H a=A0 (.dK b)):b.length<=A7/\(a==AO)=A6/\∃d,KV b d/\h.DictOf (B8 P w) a d:=Di ok (.inl e)
theorem CW{ks:List Key}(ok:HOk P w H h)(e:H a=A0 (.tup (ks.map kV))):(Af (B8 P w)).is h ks a:=by obtain⟨_,b,r,o,g,f,⟨n,d⟩,_⟩:=(show B0 P w H h a (.tup (ks.map kV))from ok a _ e);exact⟨o,b.toArray,n,g,f,d,by simpa using Lr r⟩
theorem Cy{b:List (List Key×V)}(ok:HOk P w H h)(e:Rd H a (.dT b)):b.length<=A7/\(a==AO)=A6/\
  ∃f,KT H b f/\h.DictOfH (Af (B8 P w)) a f:=by
 obtain⟨z,y,f,r,o,j,B,n,A,s,u,i⟩:=(show B0 P w H h a (.dT b)from Ls ok e);refine⟨z,y,f,r,o,j,B,n,A,s,u,λx d=>?_,i⟩;have all:∀{l:List (List Key×V)}{m:List (List Key×A4×A1)},KT H l m->∀x∈m,(Af (B8 P w)).is h x.1 x.2.1:=by
  intro l m q;induction q with
  |nil=>intro x d;exact nomatch d
  | @cons p q D C g t v=>
   intro x d;rcases ao.mp d with e|d;.subst e;exact CW ok (by rw[<-g.1];exact g.2.1)
   .exact v x d
 exact all r x d
theorem Lu{b:List (List Key×V)}(ok:HOk P w H h)(e:H a=A0 (.dT b)):b.length<=A7/\(a==AO)=A6/\
  ∃d,KT H b d/\h.DictOfH (Af (B8 P w)) a d:=Cy ok (.inl e)
end
def C8(H:Hp)(a:A4)(y:V)(r:Option V):Prop:=
 (∃d k,Rd H a (.dK d)/\y=kV k/\r=Bg d k)\/∃d k b,Rd H a (.dT d)/\y=.ref b/\H b=A0 (.tup (k.map kV))/\r=Bg d k
def E7(H:Hp)(a:A4)(y v:V)(H':Hp):Prop:=
 (∃d k,H a=A0 (.dK d)/\y=kV k/\d.length<A7/\H'=upd H a (.dK (Bn d k v)))\/
 ∃d k b,H a=A0 (.dT d)/\y=.ref b/\H b=A0 (.tup (k.map kV))/\d.length<A7/\H'=upd H a (.dT (Bn d k v))
theorem C8.k{H:Hp}{a:A4}{b:List (Key×V)}{k:Key}(e:H a=A0 (.dK b)):C8 H a (kV k) (Bg b k):=.inl ⟨b,k,.inl e,rfl,rfl⟩
theorem C8.t{H:Hp}{a b:A4}{d:List (List Key×V)}{k:List Key}(e:H a=A0 (.dT d))(f:H b=A0 (.tup (k.map kV))):C8 H a (.ref b) (Bg d k):=.inr ⟨d,k,b,.inl e,rfl,f,rfl⟩
theorem E7.t{H:Hp}{a b:A4}{d:List (List Key×V)}{k:List Key}{v:V}(e:H a=A0 (.dT d))(f:H b=A0 (.tup (k.map kV)))(g:d.length<A7):
  E7 H a (.ref b) v (upd H a (.dT (Bn d k v))):=.inr ⟨d,k,b,e,rfl,f,g,rfl⟩
section
variable{X:Cx}{p_:List (A4×AS)}{σ:St}{H:Hp}{s:A3}{a:A4}{y v:V}{u r:A1}{o:Option V}{A:AL}{E:A1->A3->Prop}
theorem Inv.big(I:Inv X p_ σ H s):AO<s.heap.objs.size:=by have h:AN<s.heap.objs.size:=(I.mod.glob.keeps I.bk).lt;exact Nat.lt_trans (by decide) h
theorem UK{Q:A1->A3->Prop}(hu:A.units+1<Ao)(I:Inv X p_ σ H s)(g:C8 H a y o)(p:At y u)(h:∀n,Inv X p_ σ H n->Q (.bool o.isSome) n):
  A8 (AD X.prog X.w) A (AU .In u (.ref a)) Q E s:=by
 rcases g with⟨j,k,e,i,l⟩|⟨j,k,b,e,i,t,l⟩;.subst i;obtain⟨z,f,B,d,m⟩:=Di I.hok e;refine wpAny_in_of (E6 p) f m.mapOf ?_;rw[<-(d.val k).isSome_eq,<-l];exact h _ (I.tok _)
 .subst i;cases(show u=A1.ref b from p);obtain⟨z,f,x,d,m⟩:=Cy I.hok e;refine wpAny_in_heap (tupleKind_room_in1 hu) (CW I.hok t) f m ?_;have q:=(d.val k).isSome_eq;rw[Option.isSome_map]at q;rw[<-q,<-l];exact h _ (I.tok _)
theorem UL{Q:A1->A3->Prop}(hu:A.units+1<Ao)(I:Inv X p_ σ H s)(g:C8 H a y o)(p:At y u)(h:∀n,Inv X p_ σ H n->Q (.bool (!o.isSome)) n):
  A8 (AD X.prog X.w) A (AU .NotIn u (.ref a)) Q E s:=by
 rcases g with⟨j,k,e,i,l⟩|⟨j,k,b,e,i,t,l⟩;.subst i;obtain⟨z,f,B,d,m⟩:=Di I.hok e;refine wpAny_notIn_of (E6 p) f m.mapOf ?_;rw[<-(d.val k).isSome_eq,<-l];exact h _ (I.tok _)
 .subst i;cases(show u=A1.ref b from p);obtain⟨z,f,x,d,m⟩:=Cy I.hok e;refine wpAny_notIn_heap (tupleKind_room_in1 hu) (CW I.hok t) f m ?_;have q:=(d.val k).isSome_eq;rw[Option.isSome_map]at q;rw[<-q,<-l];exact h _ (I.tok _)
theorem Fy{h':AJ}{t':Nat}{ob:HO}(I:Inv X p_ σ H s)(i:Mut (H a))(h:bB a s.heap h')(f:∃q,h'.get? a=A0 q)(d:B0 X.prog X.w (upd H a ob) h' a ob):
  Inv X p_ σ (upd H a ob) {s with heap:=h',toks:=t'}:=
 I.write (x:=a) (e:=a) i (.inl rfl) (λb q g z=>(h.2 b g).trans z) f d
theorem UM{P:AA}{w:AK}{H':Hp}{h':AJ}{b:List (Key×V)}{vs:List (Key×A1)}(z:b.length<=A7)(e:(a==AO)=A6)(d:KV b vs)(f:h'.DictOf (B8 P w) a vs):
  B0 P w H' h' a (.dK b):=⟨z,e,vs,d,f⟩
theorem UN{H':Hp}{Q:Unit->A3->Prop}(hu:A.units+1<Ao)(I:Inv X p_ σ H s)(g:E7 H a y v H')(L:At y u)(M:At v r)(h:∀J,Inv X p_ σ H' J->Q () J):
  A8 (AD X.prog X.w) A (setItem (.ref a) u r) Q E s:=by
 rcases g with⟨f,k,e,n,l,B⟩|⟨f,k,b,e,n,K,l,B⟩
 .subst n B;obtain⟨z,m,Y,d,t⟩:=Fx I.hok e;have x:Y.length<=A7:=by rw[<-d.length];exact z
  have p:(Bn f k v).length<=A7:=by have:=Ih f k v;omega
  refine wpAny_setItem_pairs (hsz:=x) (E6 L) t λG i C=>h _ ?_;have P:∃q,G.get? a=A0 q:=let⟨q,_,_,j,_⟩:=i;⟨q,j⟩;exact Fy I (by rw[e];exact True.intro) C P (UM p m (d.put k M) i)
 .subst n B;cases(show u=A1.ref b from L);obtain⟨z,m,U,d,t⟩:=Lu I.hok e;have x:U.length<=A7:=by rw[<-Aj d];exact z
  have p:(Bn f k v).length<=A7:=by have:=Ih f k v;omega
  refine wpAny_setItem_heap (hsz:=x) (tupleKind_room_in1 hu) (CW I.hok K) t λG i C=>h _ ?_;obtain⟨q,O,Z,j,R,S,T,_,N⟩:=i;refine Fy I (by rw[e];exact True.intro) C ⟨q,j⟩ ⟨p,m,_,(d.put k K M).keeps λc ys D=>?_,q,O,Z,j,R,S,T,N⟩;rw[Au (Qy D e (λz=>nomatch z))];exact D
end
section
variable{X:Cx}{p_:List (A4×AS)}{σ:St}{H:Hp}{s:A3}{a:A4}{kvs:List (Key×V)}{k:Key}{u:A1}{A:AL}{E:A1->A3->Prop}
theorem UO{Q:A1->A3->Prop}(I:Inv X p_ σ H s)(e:Rd H a (.dK kvs))(h:∀t d,Inv X p_ σ H d->Q (.int kvs.length t) d):A8 (AD X.prog X.w) A (call (.builtin "len") [.ref a]) Q E s:=by obtain⟨z,f,i,b,g⟩:=Di I.hok e;refine call_len_dict f g (by rw[<-b.length];rw[sizeLine_eq]at z;omega) ?_;rw[<-b.length];exact h _ _ (I.tok _)
end
theorem UP{P:AA}{w:AK}{H:Hp}(h:AJ)(a:AO<h.objs.size):B0 P w H (h.push {cls:=.type "dict",data:=.dict #[]}) h.objs.size (.dK []):=
 ⟨aN _,beq_eq_false_iff_ne.mpr (Ne.symm (ax a)),[],.nil,AJ.DictOf.new h⟩
theorem UQ{P:AA}{w:AK}{H:Hp}(h:AJ)(a:AO<h.objs.size):B0 P w H (h.push {cls:=.type "dict",data:=.dict #[]}) h.objs.size (.dT []):=
 ⟨aN _,beq_eq_false_iff_ne.mpr (Ne.symm (ax a)),[],.nil,_,#[],0,ai _ rfl,⟨rfl,rfl,rfl⟩,rfl,rfl,cG⟩
def Ij:TE:=λ_ H Q=>∀p,H p=A5->Q (.ref p) (upd H p (.dK []))
def Ik:TE:=λ_ H Q=>∀p,H p=A5->Q (.ref p) (upd H p (.dT []))
section
variable{X:Cx}{pos:Pos}
theorem UR:PE X (.Dict [] [] pos) Ij:=λb s d H Q I h=>
 wpAny_Dict_empty ⟨.ref s.heap.objs.size,_,I.laid (a:=s.heap.objs.size) (o:=.dK []) (t':=s.toks) (λ_ _ q=>ac _ q) (ag _) (UP s.heap I.big),rfl,h _ (I.hok.fresh (ag _))⟩
theorem US:PE X (.Dict [] [] pos) Ik:=λb s d H Q I h=>
 wpAny_Dict_empty ⟨.ref s.heap.objs.size,_,I.laid (a:=s.heap.objs.size) (o:=.dT []) (t':=s.toks) (λ_ _ q=>ac _ q) (ag _) (UQ s.heap I.big),rfl,h _ (I.hok.fresh (ag _))⟩
end
structure M1(X:Cx)(o:A9)(m:AM)(apos:Pos)(e:A9)(cpos:Pos):Prop where
 base:attributeBase o m X.env (Ac o X.env)=Ac o X.env
 few:((backTo cpos (AZ [e] X.env)).all (λx=>!x.1)&&(backToKw cpos (keywordEach [] X.env)).all (λx=>x.1.isSome)
  &&decide (([e]:List A9).length+([]:List Keyword).length+(if([]:List Keyword).isEmpty then 0 else 1)<30))=A2
 line:(apos.endLine==cpos.line)=A2
 trees:backTo cpos (AZ [e] X.env)=[(A6,Ac e X.env)]
def IsD(H:Hp)(a:A4):Prop:=(∃b,Rd H a (.dK b))\/∃b,Rd H a (.dT b)
theorem UT{X:Cx}{m:List (A4×AS)}{σ:St}{H:Hp}{s:A3}{a:A4}(I:Inv X m σ H s)(d:IsD H a):
  s.TypeIs (.ref a) "dict"/\(∀b,A1.ref a=.ref b->∃f,s.heap.get? b=A0 f/\f.dict=A5)/\(a==AO)=A6:=by
 rcases d with⟨i,e⟩|⟨i,e⟩;.obtain⟨_,h,o,_,g⟩:=Di I.hok e;refine⟨g.typeIs,λb q=>?_,h⟩;cases q;obtain⟨f,_,_,j,l,_⟩:=g;exact⟨f,j,l.2.1⟩
 .obtain⟨_,h,n,_,g⟩:=Cy I.hok e;refine⟨g.typeIs,λb q=>?_,h⟩;cases q;obtain⟨f,_,_,j,l,_⟩:=g;exact⟨f,j,l.2.1⟩
section
variable{X:Cx}{p_:List (A4×AS)}{σ:St}{H:Hp}{s:A3}{a:A4}{y d:V}{u r:A1}{o:Option V}{A:AL}{E:A1->A3->Prop}
theorem UU{Q:A1->A3->Prop}(hu:A.units+1<Ao)(I:Inv X p_ σ H s)(g:C8 H a y o)(t:At y u)(h:∀p q,Inv X p_ σ H q->At (o.getD .non) p->Q p q):
  A8 (AD X.prog X.w) A (call (.builtin "dict.get") [.ref a,u]) Q E s:=by
 rcases g with⟨n,k,e,m,l⟩|⟨n,k,b,e,m,v,l⟩;.subst m;obtain⟨z,j,B,f,i⟩:=Di I.hok e;refine call_meetsIn PySem.F.slot_dict_get i.typeIs PySem.F.entry_dict_get (PySem.F.args_dict_get_2 _ _) (meets_dict_get (B8 X.prog X.w) a (E6 t) j) ⟨_,i.mapOf,h _ _ (I.tok _) ?_⟩;rw[l];exact(f.val k).getD rfl
 .subst m;cases(show u=A1.ref b from t);obtain⟨z,j,x,f,i⟩:=Cy I.hok e;refine call_meetsIn PySem.F.slot_dict_get i.typeIs PySem.F.entry_dict_get (PySem.F.args_dict_get_2 _ _) (meetsH_dict_get (Af (B8 X.prog X.w)) a b j) ⟨tupleKind_room_in1 hu,k,x,CW I.hok v,i,h _ _ (I.tok _) ?_⟩;rw[l];exact(f.val k).getD rfl
end
section
variable{X:Cx}
theorem UV:B7 X (.builtin "len") (λd H Q=>∃a b,d=[V.ref a]/\H a=A0 (.dK b)/\Q (.int b.length) H):=by intro m s j H d i Q I r h;obtain⟨a,b,rfl,g,q⟩:=h;obtain⟨u,rfl,e⟩:=C6 r;cases e;exact UO I (.inl g) λt l f=>⟨.int b.length,H,f,⟨t,rfl⟩,q⟩
end
section
variable{X:Cx}
theorem UW{i:Int}(h:0<=i):AB.bitAnd i 1=i%2:=by rw[PyProof.Rows.bitAnd_pp h (by decide)];have e:(1:Int).toNat=1:=rfl;rw[e,Nat.and_one_is_mod];omega
theorem UX:OpR X (Ah .BitAnd) (rI (λi j=>0<=i/\j=1) λi _=>.int (i%2)):=by intro g s b H x y v u Q I d e h;obtain⟨i,j,rfl,rfl,⟨f,rfl⟩,q⟩:=h;refine Rv g s b H _ _ v u Q I d e ⟨i,1,rfl,rfl,?_⟩;have a:Q (.int (i%2)) H:=q;rw[<-UW f]at a;exact a
def inT(x y:AM):Bool:=!(AB.Str.occurrences x y 0 x.length 1).isEmpty
def F_(neg:Bool):R2:=λx y H Q=>∃a b,x=.str a/\y=.str b/\Q (.bl (if neg then !inT b a else inT b a)) H
theorem UY:OpR X (AU .In) (F_ A6):=by intro i s f H x y v u Q I d e h;obtain⟨a,b,rfl,rfl,q⟩:=h;obtain⟨t,rfl⟩:=d;obtain⟨g,rfl⟩:=e;exact in_str ⟨.bl _,H,I,rfl,q⟩
theorem UZ:OpR X (AU .NotIn) (F_ A2):=by intro j s g H x y v u Q I e f h;obtain⟨a,b,rfl,rfl,q⟩:=h;obtain⟨t,rfl⟩:=e;obtain⟨i,rfl⟩:=f;have d:Q (.bl (!inT b a)) H:=q;refine notIn_str ⟨.bl (!inT b a),H,I,?_,d⟩;show A1.bool _=A1.bool _;simp[inT]
end
def Ua(h:AJ)(e:A4)(cls:A1)(T:A4):Prop:=∃a b d f g,h.get? e=A0 a/\(a.cls=cls/\b[0]?=A0 g)/\a.data=.fields b/\b[1]?=A0 (.ref T)/\T≠e/\h.get? T=A0 d/\d.data=.fields f/\f[3]?=A0 .none
set_option tactic.hygienic true in
theorem Ub{K:W.Frag}{cd:A1}{q:AM}(e:W.codeIn K cd q=A2):W.kdsCode K cd=A2:=by
 unfold W.codeIn at e;unfold W.kdsCode;split at e
 .split at e;.rename_i h;dsimp only;rw[h]
  .cases e
 .cases e
structure FnCx(X:Cx):Prop where
 ex:X.ex=[]
 fn:∀x,X.fn x=A2
 stk:X.stack=X.env::X.outer
 fr:X.env.frame=A0 X.env.locals
 cd:W.kdsCode X.K X.env.code=A2
section
variable{X:Cx}{p_:List (A4×AS)}{σ:St}{H:Hp}{s:A3}
def CX1(P:AA)(w:AK)(mg:AM->Option A1):CXT:=λa H s E e b=>∃(f T g:A4)(h:AM)(d:Hp),e=.ref f/\mg h=A0 (.ref g)/\b.os=s.os/\AllBare b.gens/\Un (frs a) [] H d s.heap b.heap/\HOk P w d b.heap/\
 Ua b.heap f (.ref g) T/\d f=A5/\d T=A5/\s.heap.get? f=A5/\s.heap.get? T=A5/\E (.str h 0) A5 d
end
open PySem.W
def Lv:Option Int->A1->Bool
 |A0 k,v=>A1.isInt k v
 |A5,.none=>A2
 |A5,_=>A6
theorem Cz:∀{k:Option Int}{v:A1},Lv k v=A2->(∃i t,k=A0 i/\v=A1.int i t)\/(k=A5/\v=A1.none)
 |A0 i,v,h=>by obtain⟨t,e⟩:=A1.isInt_shape (k:=i) (v:=v) h;exact .inl ⟨i,t,rfl,e⟩
 |A5,v,h=>by cases v<;>first|exact .inr ⟨rfl,rfl⟩|cases h
def okH:Option Int->Int
 |A0 k=>hashInt k
 |A5=>0xFCA86420
def DO(prog:AA)(w:AK):PySem.KeyKind prog w (Option Int)where
 is:=Lv
 hash:=okH
 inj:=λv a b l f=>by
  rcases Cz l with⟨i,t,rfl,rfl⟩|⟨rfl,rfl⟩
  .rcases Cz f with⟨j,u,rfl,e⟩|⟨rfl,e⟩;.injection e with g _;rw[g]
   .exact nomatch e
  .rcases Cz f with⟨j,u,rfl,e⟩|⟨rfl,e⟩;.exact nomatch e
   .rfl
 byValue:=λk v h=>by rcases Cz h with⟨i,t,rfl,rfl⟩|⟨rfl,rfl⟩<;>rfl
 pyHash:=λd h=>by
  rcases Cz d with⟨i,t,rfl,rfl⟩|⟨rfl,rfl⟩;.exact wpAny_pyHash_int h
  .exact Eb h
 eqBool:=λ{A E s a b u v Q}hu d h=>by
  rcases Cz hu with⟨i,t,rfl,rfl⟩|⟨rfl,rfl⟩
  .rcases Cz d with⟨j,u,rfl,rfl⟩|⟨rfl,rfl⟩
   .have e:decide ((A0 i:Option Int)=A0 j)=(i==j):=by
     by_cases q:i=j;.subst q;simp
     .rw[decide_eq_false (λz=>q (Option.some.inj z)),(beq_eq_false_iff_ne.mpr q)]
    rw[e]at h;exact wpAny_eqBool_int h
   .exact AW.int_none i t _ _ _ _ h
  .rcases Cz d with⟨j,u,rfl,rfl⟩|⟨rfl,rfl⟩;.exact AW.none_int j u _ _ _ _ h
   .exact AW.same .none _ _ _ _ h
 «strs»:=λk x t v h=>by rcases Cz h with⟨i,u,rfl,e⟩|⟨rfl,e⟩<;>exact nomatch e
end L2
namespace PySem
open PyProof.Rows
section
variable{prog:AA}{w:AK}{K:Type} [DecidableEq K]{knd:KeyKind prog w K}{A:AL}{E:A1->A3->Prop}{s:A3}
def Il(a:Bool):AS:={cls:=.type "set",dict:=A5,data:=.set #[] 0 (.fresh 0 0 a)}
theorem Uc:(Il (!(w.params.followText "set-order"))).SetIt knd (λ_=>A6) 0:=
 ⟨#[],0,_,⟨rfl,rfl,rfl⟩,rfl,λe a=>by simp at a,λk=>by simp,by decide,by rfl,rfl,by simp[Dst],by
  cases h:w.params.followText "set-order"with
  |true=>exact .inl rfl
  |false=>exact .inr ⟨rfl,by unfold Rsn;exact List.Pairwise.nil⟩⟩
theorem Ud{Q:A1->A3->Prop}(h:Q (.ref s.heap.objs.size) {s with heap:=s.heap.push (Il (!(w.params.followText "set-order")))}):A8 (AD prog w) A (newSet (.type "set")) Q E s:=by unfold newSet setsByText;refine aa (aa (bC (ab ?_)));exact aI h
end
end PySem
namespace L2
open PySem PySem.Spec PyProof.Rows
section
variable{X:Cx}
def Ue(x y:AM):Bool:=decide (y.cps.toList<x.cps.toList)
def Lw:R2:=λx y H Q=>∃a b,x=.str a/\y=.str b/\Q (.bl (Ue a b)) H
theorem Uf:OpR X (AU .Gt) Lw:=by intro i s f H x y v u Q I d e h;obtain⟨a,b,rfl,rfl,k⟩:=h;obtain⟨t,rfl⟩:=d;obtain⟨g,rfl⟩:=e;exact PySem.P.gt_str ⟨.bl _,H,I,rfl,k⟩
def dSc:V->Bool
 | .int _=>A2
 | .str _=>A2
 | .bl _=>A2
 | .non=>A2
 |_=>A6
def Dq(H:Hp):Nat->V->V->Prop
 |0,v,w=>v=w/\dSc v=A2
 |n+1,v,w=>(v=w/\dSc v=A2)\/∃a b d e,v=.ref a/\w=.ref b/\((H a=A0 (.lst d)/\H b=A0 (.lst e))\/(H a=A0 (.tup d)/\H b=A0 (.tup e)))/\d.length=e.length/\∀(i:Nat)x y,d[i]?=A0 x->e[i]?=A0 y->Dq H n x y
open PySem.SeqAt in
theorem Lx{A:AL}{s:A3}{x:V}{u v:A1}(h:dSc x=A2)(r1:At x u)(r2:At x v):EqAt A s u v A2:=by have:=Fu (A:=A) (s:=s) r1 r2 (.inl (by cases x<;>first|(cases h;done)|exact⟨rfl,λb=>by intro z;cases z⟩));rw[decide_eq_true rfl]at this;exact this
theorem E8{n:Nat}:(aE n).all (λ_=>A2)=A2:=by simp
theorem G0{a:List A1}{j:Nat}{u:A1}(e:a[j]?=A0 u)(h:j<a.toArray.size):a.toArray[j]=u:=by grind
open PySem.SeqAt in
theorem E9{n:Nat}{H:Hp}{A:AL}{s:A3}{xs ys:List V}{its its2:List A1}(ih:∀x y u v,Dq H n x y->At x u->At y v->EqAt A.in1 s u v A2)(hl:xs.length=ys.length)(r1:Av xs its)(r2:Av ys its2)
  (he:∀(i:Nat)x y,xs[i]?=A0 x->ys[i]?=A0 y->Dq H n x y):∀j(h1:j<its.toArray.size)(h2:j<its2.toArray.size),EqAt A.in1 s its.toArray[j] its2.toArray[j] ((λ_=>A2) j):=by
 intro j h1 h2;have l1:=r1.length;have j1:j<xs.length:=by simp at h1;omega
 have j2:j<ys.length:=by omega
 have g1:xs[j]?=A0 xs[j]:=ae j1;have g2:ys[j]?=A0 ys[j]:=ae j2;obtain⟨u1,e1,ru1⟩:=r1.get g1;obtain⟨u2,e2,ru2⟩:=r2.get g2;rw[G0 e1 h1,G0 e2 h2];exact ih _ _ _ _ (he j _ _ g1 g2) ru1 ru2
open PySem.SeqAt in
theorem Ly{p_:List (A4×AS)}{σ:L2.St}{H:Hp}{s:A3}(I:Inv X p_ σ H s):∀(n:Nat)(A:AL)(x y:V)(u v:A1),A.units+n<Ao->Dq H n x y->At x u->At y v->EqAt A s u v A2:=by
 intro n;induction n with
 |zero=>rintro A x y u v hu⟨rfl,hs⟩r1 r2;exact Lx hs r1 r2
 |succ n ih=>
  rintro A x y u v hu h rx ry;rcases h with⟨rfl,hs⟩|⟨a,b,xs,ys,rfl,rfl,hab,hl,he⟩;.exact Lx hs rx ry
  cases rx;cases ry;by_cases hne:a=b;.subst hne;exact EqAt.same _
  have ih':∀x y u v,Dq H n x y->At x u->At y v->EqAt A.in1 s u v A2:=λx y u v=>ih A.in1 x y u v (by show A.units+1+n<Ao;omega);rcases hab with⟨h1,h2⟩|⟨h1,h2⟩;.obtain⟨its,r1,pl1,_⟩:=I.list (SqL.of h1);obtain⟨its2,r2,pl2,_⟩:=I.list (SqL.of h2);have l1:=r1.length;have l2:=r2.length;have:=RcAt.lists pl1.isList pl2.isList (by simp;omega) ⋯ (E9 ih' hl r1 r2 he);rw[E8]at this;exact EqAt.of_refs hne this
  .obtain⟨its,r1,pl1,_⟩:=I.tuple (SqT.of h1);obtain⟨its2,r2,pl2,_⟩:=I.tuple (SqT.of h2);have l1:=r1.length;have l2:=r2.length;have:=RcAt.tuples pl1 pl2 ⋯ (E9 ih' hl r1 r2 he);rw[E8]at this;have e:(A2&&its.toArray.size==its2.toArray.size)=A2:=by simp;omega
   rw[e]at this;exact EqAt.of_refs hne this
def Lz:R2:=λx y H Q=>∃a b d e,x=.ref a/\y=.ref b/\H a=A0 (.tup d)/\H b=A0 (.tup e)/\d.length=e.length/\LEq d e/\Q (.bl (decide (d=e))) H
open PySem.SeqAt in
theorem Ug(hu:X.A.units+64<Ao):OpR X (AU .Eq) Lz:=by
 intro p_ s σ H x y v u Q I rx ry h;obtain⟨p,q,xs,ys,rfl,rfl,hp,hq,hl,he,k⟩:=h;cases rx;cases ry;obtain⟨its,r1,pl1,_⟩:=I.tuple (SqT.of hp);obtain⟨its2,r2,pl2,_⟩:=I.tuple (SqT.of hq);have l1:=r1.length;have l2:=r2.length;refine eq_tupleAt (e:=λi=>decide (xs[i]?=ys[i]?)) pl1 pl2 ⋯ (λj h1 h2=>?_) ?_
 .have j1:j<xs.length:=by simp at h1;omega
  have j2:j<ys.length:=by omega
  have g1:xs[j]?=A0 xs[j]:=ae j1;have g2:ys[j]?=A0 ys[j]:=ae j2;obtain⟨u1,e1,ru1⟩:=r1.get g1;obtain⟨u2,e2,ru2⟩:=r2.get g2;rw[G0 e1 h1,G0 e2 h2,g1,g2];have e3:decide (A0 xs[j]=A0 ys[j])=decide (xs[j]=ys[j]):=by simp
  rw[e3];exact Fu ru1 ru2 (he j _ _ g1 g2)
 .have e4:(aE (min its.toArray.size its2.toArray.size)).all (λi=>decide (xs[i]?=ys[i]?))=decide (xs=ys):=by rw[au,au,<-l1,<-l2,<-hl,Nat.min_self];exact Ie hl
  have e5:(its.toArray.size==its2.toArray.size)=A2:=by simp;omega
  rw[e4,e5,Bool.and_true];exact⟨.bl _,H,I,rfl,k⟩
def G1(neg:Bool):R2:=λx y H Q=>(∃n,n<=8/\Dq H n x y/\(∃a b,x=.ref a/\y=.ref b)/\Q (.bl (!neg)) H)\/(neg=A6/\Lz x y H Q)
theorem Dq.open{H:Hp}{n:Nat}{a b:A4}(h:Dq H n (.ref a) (.ref b)):∃m e d,n=m+1/\((H a=A0 (.lst e)/\H b=A0 (.lst d))\/(H a=A0 (.tup e)/\H b=A0 (.tup d)))/\e.length=d.length/\∀(i:Nat)x y,e[i]?=A0 x->d[i]?=A0 y->Dq H m x y:=by
 cases n with
 |zero=>exact(al h.2).elim
 |succ m=>
  rcases h with⟨_,p⟩|⟨q,r,e,d,j,l,f,o,g⟩;.cases p
  .cases j;cases l;exact⟨m,e,d,rfl,f,o,g⟩
open PySem.SeqAt in
theorem Uh(hu:X.A.units+64<Ao):OpR X (AU .Eq) (G1 A6):=by
 intro p_ s σ H x y v u Q I rx ry h;rcases h with h|⟨_,h⟩;case inr=>exact Ug hu p_ s σ H x y v u Q I rx ry h
 obtain⟨n,hn,hd,⟨a,b,rfl,rfl⟩,k⟩:=h;cases rx;cases ry;obtain⟨m,xs,ys,rfl,hab,hl,he⟩:=hd.open;have ih':∀x y u v,Dq H m x y->At x u->At y v->EqAt X.A.in1 s u v A2:=λx y u v=>Ly I m X.A.in1 x y u v (by show X.A.units+1+m<Ao;omega);rcases hab with⟨h1,h2⟩|⟨h1,h2⟩;.obtain⟨its,r1,pl1,_⟩:=I.list (SqL.of h1);obtain⟨its2,r2,pl2,_⟩:=I.list (SqL.of h2);have l1:=r1.length;have l2:=r2.length;refine eq_listAt pl1.isList pl2.isList (by simp;omega) ⋯ (E9 ih' hl r1 r2 he) ?_;rw[E8];exact⟨.bl A2,H,I,rfl,k⟩
 .obtain⟨its,r1,pl1,_⟩:=I.tuple (SqT.of h1);obtain⟨its2,r2,pl2,_⟩:=I.tuple (SqT.of h2);have l1:=r1.length;have l2:=r2.length;refine eq_tupleAt pl1 pl2 ⋯ (E9 ih' hl r1 r2 he) ?_;have e:(A2&&its.toArray.size==its2.toArray.size)=A2:=by simp;omega
  rw[E8,e];exact⟨.bl A2,H,I,rfl,k⟩
open PySem.SeqAt in
theorem Ui(hu:X.A.units+64<Ao):OpR X (AU .NotEq) (G1 A2):=by
 intro p_ s σ H x y v u Q I rx ry h;rcases h with h|⟨hf,_⟩;case inr=>cases hf
 obtain⟨n,hn,hd,⟨a,b,rfl,rfl⟩,k⟩:=h;cases rx;cases ry;obtain⟨m,xs,ys,rfl,hab,hl,he⟩:=hd.open;have ih':∀x y u v,Dq H m x y->At x u->At y v->EqAt X.A.in1 s u v A2:=λx y u v=>Ly I m X.A.in1 x y u v (by show X.A.units+1+m<Ao;omega);have hend:EP X p_ σ Q (A1.bool A6) s:=⟨.bl A6,H,I,rfl,k⟩;rcases hab with⟨h1,h2⟩|⟨h1,h2⟩;.obtain⟨its,r1,pl1,_⟩:=I.list (SqL.of h1);obtain⟨its2,r2,pl2,_⟩:=I.list (SqL.of h2);have l1:=r1.length;have l2:=r2.length;obtain⟨⟨cls,dd,data,sl⟩,ho,hc,n1,hd1⟩:=pl1.isList;obtain⟨⟨cls2,dd2,data2,sl2⟩,ho2,hc2,n2,hd2⟩:=pl2.isList;simp only at hc hd1 hc2 hd2;subst hc hd1 hc2 hd2;refine richCompare_meets_room (op:=.NotEq) ⟨_,ho,rfl⟩ ⟨_,ho2,rfl⟩ F.slot_list_ne F.entry_list_ne (F.args_list_ne_2 _ _) (list_neAt a b its.toArray its2.toArray n1 n2 dd dd2 sl sl2 (by simp;omega) (λ_=>A2)) ⟨ho,ho2,E9 ih' hl r1 r2 he,?_⟩ ⋯;rw[E8];exact(show A1.bool A6≠A1.notImplemented/\EP X p_ σ Q (A1.bool A6) s from⟨(λx=>nomatch x),hend⟩)
 .obtain⟨its,r1,pl1,_⟩:=I.tuple (SqT.of h1);obtain⟨its2,r2,pl2,_⟩:=I.tuple (SqT.of h2);have l1:=r1.length;have l2:=r2.length;obtain⟨⟨cls,dd,data,sl⟩,ho,hc,n1,hd1⟩:=id pl1;obtain⟨⟨cls2,dd2,data2,sl2⟩,ho2,hc2,n2,hd2⟩:=id pl2;simp only at hc hd1 hc2 hd2;subst hc hd1 hc2 hd2;refine richCompare_meets_room (op:=.NotEq) ⟨_,ho,rfl⟩ ⟨_,ho2,rfl⟩ F.slot_tuple_ne F.entry_tuple_ne (F.args_tuple_ne_2 _ _) (tuple_neAt a b its.toArray its2.toArray n1 n2 dd dd2 sl sl2 (λ_=>A2)) ⟨ho,ho2,E9 ih' hl r1 r2 he,?_⟩ ⋯;have e:(A2&&its.toArray.size==its2.toArray.size)=A2:=by simp;omega
  rw[E8,e];exact(show A1.bool A6≠A1.notImplemented/\EP X p_ σ Q (A1.bool A6) s from⟨(λx=>nomatch x),hend⟩)
end
end L2
namespace HT
open PySem PyProof.Rows
open PySem.SeqAt
open PySem.MeetsSeq PySem.MeetsSeq2 PySem.MeetsSeq3
section
variable{prog:AA}{w:AK}{A:AL}{E:A1->A3->Prop}{s:A3}
theorem Uj{t b:A4}{i:List A1}{Q:A1->A3->Prop}(x:IsTup s.heap t #[])(r:IsTup s.heap b i.toArray)(h0:Q (.ref b) s):A8 (AD prog w) A (Ah .Add (.ref t) (.ref b)) Q E s:=by
 obtain⟨⟨y,v,m,u⟩,l,o,n,j⟩:=id x;obtain⟨⟨p,f,g,h⟩,d,e,q,a⟩:=id r;simp only at o j e a;subst o j e a;exact concat_meets ⟨_,l,rfl⟩ ⟨_,d,rfl⟩ noFill_tuple_add seq_tuple_add PySem.F.slot_tuple_add PySem.F.entry_tuple_add (PySem.F.args_tuple_add_2 _ _)
  (tuple_addW0 t b #[] i.toArray n q v f u h rfl) ⟨l,d,h0⟩
end
end HT
namespace L2
open PySem PySem.Spec PyProof.Rows
section
variable{X:Cx}
def L_(K:W.Frag):R2:=λx y H Q=>∃a b d,x=.ref a/\y=.ref b/\SqT K H a []/\SqT K H b d/\Q (.ref b) H
theorem Uk:OpR X (Ah .Add) (L_ X.K):=by intro r s o H x y v u Q I i m h;obtain⟨a,b,p,rfl,rfl,l,g,q⟩:=h;cases i;cases m;obtain⟨d,r1,j,_⟩:=I.tuple l;obtain⟨f,r2,n,_⟩:=I.tuple g;have e:d=[]:=r1.nil_iff.mpr rfl;subst e;exact HT.Uj j n ⟨.ref b,H,I,rfl,q⟩
end
open PySem.Calls PySem.NumText
def B2(x:PySem.Str)(n:Int):Prop:=(x.cps.all (· <128))=A2/\(x.cps.toList.takeWhile (·!=0)).length<=640/\(int_private%"readNumeral") 0 2 (x.cps.toList.takeWhile (·!=0))=(int_private%"Numeral.value") n/\((x.cps.toList.takeWhile (·!=0)).length==x.cps.toList.length)=A2
theorem Ul{M:Model}{A:AL}{E:A1->A3->Prop}{s:A3}{Q:A1->A3->Prop}{v:A1}{a:List Nat}{n:Int}
  (e:(a.takeWhile (·!=0)).length<=640)(f:(int_private%"readNumeral") 0 2 (a.takeWhile (·!=0))=(int_private%"Numeral.value") n)
  (b:((a.takeWhile (·!=0)).length==a.length)=A2)(h:Q (.int n s.toks) {s with toks:=s.toks+1}):
  A8 M A ((int_private%"intFromText") v a 2) Q E s:=by
 obtain⟨l,g,d,i,j⟩:=s
 repeat(any_goals(first
  |assumption
  |(with_reducible refine wpAny_ite_true (decide_eq_true e) ?_)
  |(with_reducible refine wpAny_ite_true (decide_eq_true b) ?_)
  |wp_step))
 all_goals(try rw[f])
 all_goals(try dsimp only)
 repeat(any_goals(first
  |assumption
  |(with_reducible refine wpAny_ite_true (decide_eq_true e) ?_)
  |(with_reducible refine wpAny_ite_true (decide_eq_true b) ?_)
  |wp_step))
set_option maxHeartbeats 4000000 in
theorem Um{x:PySem.Str}{u v:Tok}{n:Int}(hb:B2 x n):Gives (AB.«int.__new__» ⟨[.type "int",.str x u,.int 2 v],[]⟩) (.int n):=
 .of_wp λM A E s Q h=>by
  obtain⟨hp,g,d,tk,os⟩:=s;have f1:=F.conv_sub_int;have f2:=F.madeHere_int;have f6:typeOf (.str x u)=pure (.type "str"):=rfl;have hk:=W.KIN.Hid.mk hb;clear hb
  repeat(any_goals(first
   |assumption
   |((with_reducible show A8 _ _ ((int_private%"intFromText") _ _ _) _ _ _);rw[if_pos hk.out.1];refine Ul hk.out.2.1 hk.out.2.2.1 hk.out.2.2.2 ?_)
   |wp_step))
  all_goals first|exact⟨_,rfl,h⟩|skip
theorem Uo(a b:A1):checkTypeCall "int" ⟨[a,b],[]⟩=pure ():=by kernel_rfl
theorem Up(a b:A1):checkBuiltinCall "int.__new__" ⟨[.type "int",a,b],[]⟩=pure ():=by kernel_rfl
section
variable{X:Cx}
def M0:List V->Hp->VK->Prop:=λa H Q=>∃x n,a=[.str x,.int 2]/\B2 x n/\Q (.int n) H
theorem Uq:B7 X (.type "int") M0:=by intro i s e H g d Q I r h;obtain⟨x,n,rfl,b,q⟩:=h;obtain⟨u,v,rfl,⟨t,rfl⟩,⟨f,rfl⟩⟩:=Ee r;exact callType_new F.called_int F.newNe_int (Uo _ _) (Up _ _) (λa=>F.args_object_init_3 a _ _) F.entry_int_new (Um b).meets (show(Made.int n).post _ s from⟨rfl,⟨.int n,H,I.tok _,⟨_,rfl⟩,q⟩⟩)
theorem Ur:B7 X (.type "int") (λa H Q=>Lf a H Q\/M0 a H Q):=T_.or Uq
end
end L2
namespace PySem
open PyProof.Rows
theorem M2{h h':AJ}{t:A4}{items:Array A1}(x:IsTup h t items)(k:∀o,h.get? t=A0 o->h'.get? t=A0 o):IsTup h' t items:=let⟨o,a,r⟩:=x;⟨o,k o a,r⟩
namespace F
theorem M3:Manifest.owners.lookup (String.ofList ['r','o','t','a','r','e','t','i','_','t','e','s'].reverse)=A0 Manifest.sig_set_iterator:=by kernel_rfl
theorem DP:Slot "set_iterator" "__next__" "set_iterator.__next__":=
 .of (owner:="set_iterator") (n:="__next__") (by rw[typeLookup_type,builtinLookup_eq_fast];kernel_rfl) ⋯ ⋯ ⋯
  (by first|exact .inl ⋯|exact .inr ⋯) (by rw[isSubtype_type];kernel_rfl)
theorem M4:entryFor table "set_iterator.__next__"=A0 AB.«set_iterator.__next__»:=entryFor_of_tree (by kernel_rfl)
theorem M5:Slot "set_iterator" "__iter__" "set_iterator.__iter__":=
 .of (owner:="set_iterator") (n:="__iter__") (by rw[typeLookup_type,builtinLookup_eq_fast];kernel_rfl) ⋯ ⋯ ⋯
  (by first|exact .inl ⋯|exact .inr ⋯) (by rw[isSubtype_type];kernel_rfl)
theorem Us:entryFor table "set_iterator.__iter__"=A0 AB.«dict_keyiterator.__iter__»:=
 entryFor_alias (id':="dict_keyiterator.__iter__") (by kernel_rfl) (by first|rfl|decide+kernel|(unfold String.splitOn;simp+decide [String.splitOnAux])) ⋯ (by kernel_rfl)
theorem M6(a:A1):argsOk "set_iterator.__next__" ⟨[a],[]⟩:=by unfold argsOk;rw[signature?_of (id:="set_iterator.__next__") (n:=['_','_','t','x','e','n','_','_']) (o:=['r','o','t','a','r','e','t','i','_','t','e','s']) (by kernel_rfl) M3];kernel_rfl
theorem Ut(a:A1):argsOk "set_iterator.__iter__" ⟨[a],[]⟩:=by unfold argsOk;rw[signature?_of (id:="set_iterator.__iter__") (n:=['_','_','r','e','t','i','_','_']) (o:=['r','o','t','a','r','e','t','i','_','t','e','s']) (by kernel_rfl) M3];kernel_rfl
theorem Uu:entryFor table "set.__iter__"=A0 AB.«frozenset.__iter__»:=
 entryFor_alias (id':="frozenset.__iter__") (by kernel_rfl) (by first|rfl|decide+kernel|(unfold String.splitOn;simp+decide [String.splitOnAux])) ⋯ (by kernel_rfl)
end F
def Heap.IsSti(h:AJ)(a d:A4)(f:A1)(i n b:Nat):Prop:=∃o,h.get? a=A0 o/\o.cls=.type "set_iterator"/\o.data=.fields #[f,AX i,.ref d,AX n,AX b]
theorem Heap.IsSti.at{h h':AJ}{a d:A4}{f:A1}{i n b:Nat}(x:h.IsSti a d f i n b)(e:∀o,h.get? a=A0 o->h'.get? a=A0 o):h'.IsSti a d f i n b:=let⟨o,g,r⟩:=x;⟨o,e _ g,r⟩
def Ord(a:Bool)(w:AK)(d e:Nat)(es:Array (Int×A1))(t:AH)(xs:Array A1)(h:AJ)(f:A1)(i:Nat):Prop:=
 (a=A2/\f=AX 0/\xs=(pickOrder (w.params.setOrder d e) es).map (·.2))\/
 (a=A6/\(!t.plain&&decide (es.size>1))=A6/\Rsn t.place/\f=AX (if i=0 then 0 else((t.place.getD (i-1) 0+1:Nat):Int))/\xs=es.map (·.2))\/
 (a=A6/\∃(T:A4)(b:Array Nat),f=.ref T/\IsTup h T (b.map λ(j:Nat)=>AX j)/\xs.size=b.size/\∀(j p:Nat),b[j]?=A0 p->∃x:Int×A1,es[p]?=A0 x/\xs[j]?=A0 x.2)
section
variable{prog:AA}{w:AK}{A:AL}{E:A1->A3->Prop}{s:A3}
theorem Heap.IsSti.typeIs{a d:A4}{f:A1}{i n e:Nat}(x:s.heap.IsSti a d f i n e):s.TypeIs (.ref a) "set_iterator":=let⟨o,g,b,_⟩:=x;⟨o,g,b⟩
theorem Uv{it d:A4}{f:A1}{i n b:Nat}{Q:A1->A3->Prop}(a:s.heap.IsSti it d f i n b)(h:Q (.ref it) s):A8 (AD prog w) A (pyIter (.ref it)) Q E s:=by refine wpAny_pyIter_slot a.typeIs F.M5 (aP F.M5 a.typeIs F.Us ?_ (F.Ut _));show A8 _ _ (ret (.ref it)) _ _ s;exact ab ⟨_,rfl,"set_iterator",_,a.typeIs,F.DP.lookup,h⟩
theorem M8{xs:Array Nat}(b:Rsn xs){i:Nat}(hi:i<=xs.size):AH.below xs (Int.toNat (if i=0 then 0 else((xs.getD (i-1) 0+1:Nat):Int)))=i:=by
 by_cases e:i=0
 .subst e;rw[if_pos rfl];obtain⟨h,a,d⟩:=Fo b (Int.toNat 0);by_cases l:AH.below xs (Int.toNat 0)=0;.exact l
  .exact absurd (a 0 ⋯ ⋯) (by simp)
 .rw[if_neg e,bb];have f:xs.getD (i-1) 0=xs[i-1]'⋯:=by simp[Array.getD,show i-1<xs.size by omega]
  rw[f];obtain⟨h,a,d⟩:=Fo b (xs[i-1]'⋯+1);refine Nat.le_antisymm (Nat.le_of_not_lt λz=>?_) (Nat.le_of_not_lt λz=>?_);.have g:=a i ⋯ z;have m:=Fm b (i:=i-1) (j:=i) ⋯ ⋯;omega
  .have g:=d (i-1) ⋯ ⋯;omega
theorem Im{b:Type}:∀(l:List b)(i:Nat)(h:i<l.length),(l[i]::l.eraseIdx i).Perm l
 |a::l,0,h=>List.Perm.refl _
 |a::l,i+1,h=>by rw[List.eraseIdx_cons_succ,List.getElem_cons_succ];exact(List.Perm.swap a _ _).trans ((Im l i (by simpa using h)).cons a)
theorem M9{b:Type}(f:Nat->Nat):∀(n k:Nat)(l:List b)(out:Array b),n=l.length->(pickOrder.go f n k l out).toList.Perm (out.toList++l)
 |0,k,l,out,e=>by have:l=[]:=cR.mp e.symm;subst this;unfold pickOrder.go;simp
 |n+1,k,l,out,e=>by unfold pickOrder.go;have a:f k%l.length<l.length:=Nat.mod_lt _ ⋯;rw[ae a];dsimp only;refine(M9 f n (k+1) _ _ (by rw[List.length_eraseIdx_of_lt a];omega)).trans ?_;rw[cy,aQ];refine List.Perm.append_left _ ?_;rw[List.singleton_append];exact Im l _ a
theorem MA{a:Type}(f:Nat->Nat)(xs:Array a):(pickOrder f xs).toList.Perm xs.toList:=by have:=M9 f xs.size 0 xs.toList #[] (by simp);simpa[pickOrder]using this
theorem Uw{it d:A4}{o:AS}{f:A1}{i m:Nat}{es:Array (Int×A1)}{t:AH}{xs:Array A1}{v:A1}{Q:Option A1->A3->Prop}(q:s.heap.IsSti it d f i es.size m)(a4:d≠it)(hT:∀T,f=.ref T->T≠it)(D:s.heap.get? d=A0 o)(B:o.data=.set es m t)
  (r:t.fits es.size=A2)(S:TOk (w.params.followText "set-order") t)(a2:Ord (w.params.followText "set-order") w d m es t xs s.heap f i)(l:xs[i]?=A0 v)
  (U:∀R Z,R.IsSti it d Z (i+1) es.size m->bB it s.heap R->Ord (w.params.followText "set-order") w d m es t xs R Z (i+1)->(∀T,Z=.ref T->f=.ref T)->Q (A0 v) {s with heap:=R}):A8 (AD prog w) A (pyNext (.ref it)) Q E s:=by
 obtain⟨oi,g,K,b⟩:=id q;have a5:t.place.size=es.size:=by simp only[AH.fits,ah,beq_iff_eq]at r;exact r.1
 unfold pyNext;refine aa (cm (aS (name:=AM.ofString "__next__") q.typeIs F.DP (aP F.DP q.typeIs F.M4 ?_ (F.M6 _))));unfold AB.«set_iterator.__next__»;refine aa (cQ (a:=(A1.ref it,[])) rfl ?_);dsimp only;refine aa (wpAny_fieldsOf g b ?_);dsimp only[AX];refine aa (wpAny_setEntries_of D B r ?_);rw[if_neg (by simp)];have k1:∀(P:A1)(O:AJ),O=(s.heap.update it (AS.mapFields λx=>x.setIfInBounds 0 P)).update it (AS.mapFields λx=>x.setIfInBounds 1 (AX ((i:Int)+1)))->O.IsSti it d P (i+1) es.size m/\bB it s.heap O:=by intro P O e;subst e;have H:=aM (AS.mapFields λx=>x.setIfInBounds 0 P) g (AS.isFreed_of_fields (AR b _));have g2:=aM (AS.mapFields λx=>x.setIfInBounds 1 (AX ((i:Int)+1))) H (AS.isFreed_of_fields (AR (AR b _) _));exact⟨⟨_,g2,(AS.cls_mapFields ..).trans ((AS.cls_mapFields ..).trans K),by rw[AR (AR b _)];simp[AX]⟩,(AJ.SameBut.update ..).trans (AJ.SameBut.update ..)⟩
 rcases id a2 with⟨n,rfl,h⟩|⟨n,M,G,rfl,h⟩|⟨n,T,N,rfl,J,a1,C⟩
 .dsimp only[AX];unfold setNext;refine aa (aa (bW D B r ?_));dsimp only;unfold setsByText;refine aa (aa (bC (ab ?_)));show A8 _ _ (if w.params.followText "set-order"=A2 then _ else _) _ _ _;rw[if_pos n];rw[if_neg (by simp)];unfold setWalk;refine aa (aa (bW D B r ?_));dsimp only;unfold setsByText;refine aa (aa (bC (ab ?_)));show A8 _ _ (if w.params.followText "set-order"=A2 then _ else _) _ _ _;rw[if_pos n];refine aa (bC (ab ?_));have u:(pickOrder (w.params.setOrder d m) es)[i]?.map (·.2)=A0 v:=by rw[h,Array.getElem?_map]at l;exact l
  obtain⟨p,hp,rfl⟩:∃p,(pickOrder (w.params.setOrder d m) es)[i]?=A0 p/\p.2=v:=by
   cases hq:(pickOrder (w.params.setOrder d m) es)[i]? with
   |none=>rw[hq]at u;cases u
   |some p=>rw[hq]at u;exact⟨p,rfl,by injection u⟩
  show A8 _ _ (pure (aJ (λe=>(e.2,(0:Int).toNat)) (pickOrder (w.params.setOrder d m) es)[(i:Int).toNat]?)) _ _ _;rw[bb,hp];refine ab ?_;dsimp only[aJ];refine aa (bK g b (by simp) ?_);have H:=aM (AS.mapFields λx=>x.setIfInBounds 0 (AX ((0:Int).toNat:Int))) g (AS.isFreed_of_fields (AR b _));refine aa (bK H (AR b _) (by simp) ?_);obtain⟨Y,z2⟩:=k1 (AX ((0:Int).toNat:Int)) _ rfl;exact ab ⟨_,rfl,ab (U _ _ Y z2 (.inl ⟨n,rfl,h⟩) λT z=>nomatch z)⟩
 .dsimp only[AX];have L:i<es.size:=by rw[h]at l;have:=(Array.getElem?_eq_some_iff.mp l).1;rwa [cx]at this
  have u:es[i].2=v:=by rw[h,Array.getElem?_map,aD L]at l;injection l
  unfold setNext;refine aa (aa (bW D B r ?_));dsimp only;unfold setsByText;refine aa (aa (bC (ab ?_)));show A8 _ _ (if w.params.followText "set-order"=A2 then _ else _) _ _ _;rw[if_neg (by rw[n];exact al)];show A8 _ _ (if(!t.plain&&decide (es.size>1))=A2 then _ else _) _ _ _;rw[if_neg (by rw[M];exact al)];have y:t.led=A2:=by
   rcases S with z|z;.rw[n]at z;cases z
   .exact z.1
  refine aa ?_;show A8 _ _ (if(!t.led&&!es.isEmpty)=A2 then _ else _) _ _ _;rw[if_neg (by rw[y];simp)];refine ab ?_;rw[M8 G ⋯];rw[aD L,aD (show i<t.place.size by omega)];refine ab ?_;dsimp only;refine aa (bK g b (by simp) ?_);have H:=aM (AS.mapFields λx=>x.setIfInBounds 0 (AX ((t.place[i]'⋯+1:Nat):Int))) g (AS.isFreed_of_fields (AR b _));refine aa (bK H (AR b _) (by simp) ?_);obtain⟨Y,z2⟩:=k1 (AX ((t.place[i]'⋯+1:Nat):Int)) _ rfl;subst u;refine ab ⟨_,rfl,ab (U _ _ Y z2 (.inr (.inl ⟨n,M,G,?_,h⟩)) λT z=>nomatch z)⟩;rw[if_neg ⋯];simp[Array.getD,show i<t.place.size by omega]
 .have L:i<N.size:=by have:=(Array.getElem?_eq_some_iff.mp l).1;omega
  dsimp only[AX];obtain⟨x,ex,a3⟩:=C i _ (aD L);rw[a3]at l;injection l with l;subst l;obtain⟨oT,X,a6,nT,a0⟩:=id J;refine aa ?_;show A8 _ _ (load T>>=_) _ _ _;refine aa (wpAny_load X ?_);rw[a0];refine ab ?_;dsimp only;have hg:(N.map λ(j:Nat)=>AX j)[(i:Int).toNat]?=A0 (AX (N[i]:Nat)):=by rw[bb,Array.getElem?_map,aD L];rfl
  rw[hg];dsimp only[AX];unfold setNextDrawn;refine aa (aa (bW D B r ?_));dsimp only;rw[if_neg (by simp)];rw[bb,ex];refine ab ?_;refine aa (bK g b (by simp) ?_);have I:=AJ.SameBut.update s.heap it (AS.mapFields λx=>x.setIfInBounds 1 (AX ((i:Int)+1)));refine ab ⟨_,rfl,ab (U _ (.ref T) ⟨_,aM _ g (AS.isFreed_of_fields (AR b _)),(AS.cls_mapFields ..).trans K,by rw[AR b];simp[AX]⟩ I (.inr (.inr ⟨n,T,N,rfl,M2 J λo e=>(I.2 T (hT T rfl)).trans e,a1,C⟩)) λT' z=>z)⟩
end
section
variable{prog:AA}{w:AK}{A:AL}{E:A1->A3->Prop}{s:A3}
theorem Ux{it d:A4}{o:AS}{f:A1}{y:Nat}{es:Array (Int×A1)}{t:AH}{xs:Array A1}{Q:Option A1->A3->Prop}(p:A.handled=A5)(l:s.heap.IsSti it d f es.size es.size y)(C:s.heap.get? d=A0 o)(B:o.data=.set es y t)
  (n:t.fits es.size=A2)(D:TOk (w.params.followText "set-order") t)(L:Ord (w.params.followText "set-order") w d y es t xs s.heap f es.size)(v:xs.size=es.size)
  (G:∀N,AJ.ExtBut it s.heap N->Q A5 {s with heap:=N}):A8 (AD prog w) A (pyNext (.ref it)) Q E s:=by
 obtain⟨Z,i,Y,h⟩:=id l;have r:t.place.size=es.size:=by simp only[AH.fits,ah,beq_iff_eq]at n;exact n.1
 unfold pyNext;refine aa (cm (aS (name:=AM.ofString "__next__") l.typeIs F.DP (aP F.DP l.typeIs F.M4 ?_ (F.M6 _))));unfold AB.«set_iterator.__next__»;refine aa (cQ (a:=(A1.ref it,[])) rfl ?_);dsimp only;refine aa (wpAny_fieldsOf i h ?_);dsimp only[AX];refine aa (wpAny_setEntries_of C B n ?_);rw[if_neg (by simp)];rcases id L with⟨g,rfl,u⟩|⟨g,M,I,rfl,u⟩|⟨g,T,O,rfl,J,U,R⟩
 .dsimp only[AX];unfold setNext;refine aa (aa (bW C B n ?_));dsimp only;unfold setsByText;refine aa (aa (bC (ab ?_)));show A8 _ _ (if w.params.followText "set-order"=A2 then _ else _) _ _ _;rw[if_pos g];rw[if_neg (by simp)];unfold setWalk;refine aa (aa (bW C B n ?_));dsimp only;unfold setsByText;refine aa (aa (bC (ab ?_)));show A8 _ _ (if w.params.followText "set-order"=A2 then _ else _) _ _ _;rw[if_pos g];refine aa (bC (ab ?_));have X:(pickOrder (w.params.setOrder d y) es)[es.size]?=A5:=by rw[u,cx]at v;exact cE.mpr (Nat.le_of_eq v)
  show A8 _ _ (pure (aJ (λe=>(e.2,(0:Int).toNat)) (pickOrder (w.params.setOrder d y) es)[(es.size:Int).toNat]?)) _ _ _;rw[bb,X];refine ab ?_;dsimp only[aJ];refine aa (bK i h (by simp) ?_);have k:AJ.ExtBut it s.heap (s.heap.update it (AS.mapFields λx=>x.setIfInBounds 2 A1.none)):=(AJ.SameBut.update ..).extBut;refine aa ?_;simp only[newExc,newTuple];refine aa (aI ?_ (by size_fits));refine aa (m:=Am _ _) (cQ (a:=A1.none) (by first|rfl|(simp only[Am];rfl)) ?_);refine aI ?_ (by size_fits);simp only[raiseNew];refine aa (dy ?_);first|rw[show A.in1.handled=A5 from p]|rw[p]
  refine aa (ab (wpAny_throw ?_));refine aa (bT (T:="StopIteration") (b:=A2) ⟨_,ai _ rfl,rfl⟩ isSubtype_stop ?_);exact ab (G _ λb o g e=>((AJ.ExtBut.refl _ _).push _|>.push _) b o g (k b o g e))
 .dsimp only[AX];unfold setNext;refine aa (aa (bW C B n ?_));dsimp only;unfold setsByText;refine aa (aa (bC (ab ?_)));show A8 _ _ (if w.params.followText "set-order"=A2 then _ else _) _ _ _;rw[if_neg (by rw[g];exact al)];show A8 _ _ (if(!t.plain&&decide (es.size>1))=A2 then _ else _) _ _ _;rw[if_neg (by rw[M];exact al)];have q:t.led=A2:=by
   rcases D with z|z;.rw[g]at z;cases z
   .exact z.1
  refine aa ?_;show A8 _ _ (if(!t.led&&!es.isEmpty)=A2 then _ else _) _ _ _;rw[if_neg (by rw[q];simp)];refine ab ?_;rw[show(if es.size=0 then(0:Int)else((t.place.getD (es.size-1) 0+1:Nat):Int))=(if t.place.size=0 then(0:Int)else((t.place.getD (t.place.size-1) 0+1:Nat):Int))by rw[r]];rw[M8 I (ag _),r];rw[cE.mpr (ag es.size)];refine ab ?_;dsimp only;refine aa (bK i h (by simp) ?_);have k:AJ.ExtBut it s.heap (s.heap.update it (AS.mapFields λx=>x.setIfInBounds 2 A1.none)):=(AJ.SameBut.update ..).extBut;refine aa ?_;simp only[newExc,newTuple];refine aa (aI ?_ (by size_fits));refine aa (m:=Am _ _) (cQ (a:=A1.none) (by first|rfl|(simp only[Am];rfl)) ?_);refine aI ?_ (by size_fits);simp only[raiseNew];refine aa (dy ?_);first|rw[show A.in1.handled=A5 from p]|rw[p]
  refine aa (ab (wpAny_throw ?_));refine aa (bT (T:="StopIteration") (b:=A2) ⟨_,ai _ rfl,rfl⟩ isSubtype_stop ?_);exact ab (G _ λb o g e=>((AJ.ExtBut.refl _ _).push _|>.push _) b o g (k b o g e))
 .dsimp only[AX];obtain⟨oT,H,S,nT,K⟩:=id J;refine aa ?_;show A8 _ _ (load T>>=_) _ _ _;refine aa (wpAny_load H ?_);rw[K];refine ab ?_;dsimp only;have P:(O.map λ(j:Nat)=>AX j)[(es.size:Int).toNat]?=A5:=by rw[bb];exact cE.mpr (by rw[cx];omega)
  rw[P];dsimp only;refine aa (bK i h (by simp) ?_);refine aa (bK (aM _ i (AS.isFreed_of_fields (AR h _))) (AR h _) (by simp) ?_);have k:AJ.ExtBut it s.heap ((s.heap.update it (AS.mapFields λx=>x.setIfInBounds 0 (AX 0))).update it (AS.mapFields λx=>x.setIfInBounds 2 A1.none)):=λb o g e=>
   (AJ.SameBut.update ..).extBut b o g ((AJ.SameBut.update ..).extBut b o g e);refine aa ?_;simp only[newExc,newTuple];refine aa (aI ?_ (by size_fits));refine aa (m:=Am _ _) (cQ (a:=A1.none) (by first|rfl|(simp only[Am];rfl)) ?_);refine aI ?_ (by size_fits);simp only[raiseNew];refine aa (dy ?_);first|rw[show A.in1.handled=A5 from p]|rw[p]
  refine aa (ab (wpAny_throw ?_));refine aa (bT (T:="StopIteration") (b:=A2) ⟨_,ai _ rfl,rfl⟩ isSubtype_stop ?_);exact ab (G _ λb o g e=>((AJ.ExtBut.refl _ _).push _|>.push _) b o g (k b o g e))
theorem MB{b:Type}:∀(n:Nat)(l:List b)(s:A3)(Q:List b->A3->Prop),n=l.length->(∀a d,a.Perm l->Q a {s with drawn:=d})->A8 (AD prog w) A (drawOrder n l) Q E s
 |0,l,s,Q,e,h=>by have:l=[]:=cR.mp e.symm;subst this;unfold drawOrder;exact ab (h [] s.drawn (List.Perm.refl _))
 |n+1,[],s,Q,e,h=>by simp at e
 |n+1,x::l,s,Q,e,h=>by
  unfold drawOrder;have j:∀(k:Nat->Sem (List b)),(∀i,i<(x::l).length->∀d,A8 (AD prog w) A (k i) Q E {s with drawn:=d})->A8 (AD prog w) A (choose .order (x::l).length>>=k) Q E s:=by intro k q m p f;show Sem.wp _ m (.choose .order (x::l).length λi=>k i) _ _ p s;rw[Sem.wp_choose];exact⟨by simp,q _ (Nat.mod_lt _ (by simp)) _ m p f⟩
  refine j _ λi g d=>?_;rw[ae g];dsimp only;refine aa (MB n _ _ _ (by rw[List.length_eraseIdx_of_lt g];omega) λa o r=>ab ?_);exact h _ o ((r.cons _).trans (Im _ _ g))
end
theorem MC{a:Bool}{w:AK}{d b:Nat}{es:Array (Int×A1)}{t:AH}{xs:Array A1}{h h':AJ}{f:A1}{i:Nat}(x:Ord a w d b es t xs h f i)(k:∀T,f=.ref T->∀o,h.get? T=A0 o->h'.get? T=A0 o):Ord a w d b es t xs h' f i:=by
 rcases x with z|z|⟨z,T,g,e,j,r⟩;.exact .inl z
 .exact .inr (.inl z)
 .exact .inr (.inr ⟨z,T,g,e,M2 j (k T e),r⟩)
section
variable{prog:AA}{w:AK}
def Io(w:AK)(I D:A4)(o:AS)(TL:List A4)(es:Array (Int×A1))(a:Nat)(t:AH)(xs:Array A1)(i:Nat)(s:A3):Prop:=
 s.heap.get? D=A0 o/\∃f,s.heap.IsSti I D f i es.size a/\Ord (w.params.followText "set-order") w D a es t xs s.heap f i/\∀T,f=.ref T->T∈TL
theorem Uy{A:AL}(P:A.handled=A5){I D:A4}{o:AS}{TL:List A4}{es:Array (Int×A1)}{M:Nat}{t:AH}{xs:Array A1}(n:D≠I)(y:I∉TL)(H:o.data=.set es M t)(K:t.fits es.size=A2)(j:TOk (w.params.followText "set-order") t)(G:xs.size=es.size):
  WalksS prog w A I (I::D::TL) [I] Eq es.size (λi v=>xs[i]?=A0 v) (Io w I D o TL es M t xs)where
 sub:=λb h=>by simp at h;simp[h]
 grefl:=λ_=>rfl
 gtrans:=λ_ _ _=>Eq.trans
 frame:=λ_ _ _ _ x _ u=>by obtain⟨g,f,L,a,hT⟩:=x;exact⟨u D (by simp) o g,f,L.at λo e=>u I (by simp) o e,MC a λT e o q=>u T (by simp[hT T e]) o q,hT⟩
 item:=λi s Q E L x l=>by obtain⟨g,f,d,a,hT⟩:=x;have J:xs[i]?=A0 (xs[i]'⋯):=aD ⋯;refine Uw d n (λT e z=>y (z▸hT T e)) g H K j a J λO N r p m B=>?_;exact l _ _ J ⟨(p.2 D n).trans g,N,r,m,λT e=>hT T (B T e)⟩ ⟨λb o h q=>p.extBut b o (λz=>h (by simp[z])) q,rfl,rfl,rfl,ag _⟩
 done:=λs Q E x l=>by obtain⟨g,f,d,a,hT⟩:=x;exact Ux P d g H K j a G λO C=>l _ ⟨λb o h q=>C b o (λz=>h (by simp[z])) q,rfl,rfl,rfl,ag _⟩
 self:=λ_ _ _ _ x l=>by obtain⟨g,f,d,a,hT⟩:=x;exact Uv d l
variable{A:AL}{E:A1->A3->Prop}{s:A3}
theorem Uz{D:A4}{o:AS}{es:Array (Int×A1)}{B:Nat}{t:AH}{Q:A1->A3->Prop}(n:s.heap.get? D=A0 o)(hc:o.ExactSet)(H:o.data=.set es B t)(M:t.fits es.size=A2)(C:TOk (w.params.followText "set-order") t)(hz:es.size<=A7)
  (X:∀g I TL l,(∀b o,s.heap.get? b=A0 o->g.heap.get? b=A0 o)->g.gens=s.gens->g.os=s.os->s.toks<=g.toks->s.heap.objs.size<=g.heap.objs.size->(∀b∈I::TL,s.heap.objs.size<=b/\b<g.heap.objs.size)->I∉TL->l.size=es.size->l.toList.Perm (es.toList.map (·.2))->Io w I D o TL es B t l 0 g->Q (.ref I) g):
  A8 (AD prog w) A (pyIter (.ref D)) Q E s:=by
 have hT:s.TypeIs (.ref D) "set":=⟨o,n,hc.1⟩;have a0:D<s.heap.objs.size:=ak n;refine wpAny_pyIter_slot hT F.slot_set_iter (aP F.slot_set_iter hT F.Uu ?_ (F.args_set_iter_1 _));unfold AB.«frozenset.__iter__»;refine aa (cQ (a:=D) rfl ?_);dsimp only;refine aa ?_;unfold AB.Frozenset.sizeOf;refine aa (wpAny_setEntries_of n H M (ab ?_));unfold setDrawn;refine aa (aa (bW n H M ?_));dsimp only;unfold setsByText;refine aa (aa (bC (ab (ab ?_))));have i:∀(f:A1)(h:A3)(TL:List A4)(l:Array A1)(O:Fin->A3->Prop),h.heap.get? D=A0 o->(∀b o,s.heap.get? b=A0 o->h.heap.get? b=A0 o)->h.gens=s.gens->h.os=s.os->h.toks=s.toks->s.heap.objs.size<=h.heap.objs.size->(∀b∈TL,s.heap.objs.size<=b/\b<h.heap.objs.size)->
   l.size=es.size->l.toList.Perm (es.toList.map (·.2))->Ord (w.params.followText "set-order") w D B es t l h.heap f 0->(∀T,f=.ref T->T∈TL)->
   (∀v g,Q v g->g.TypeIs v "set_iterator"->O (.done (.ret v)) g)->
   A8 (AD prog w) A.in1 (do ret (<-newFields "set_iterator" [f,AX 0,.ref D,AX es.size,AX (<-setEpoch D)])) O E h:=by
  intro f h TL l O S h2 h3 h4 Y U N h8 h9 K L R;refine aa (wpAny_setEpoch_of S H M ?_);unfold newFields;refine aa (aI ?_ (by size_fits));refine ab (R _ _ ?_ ⟨_,ai _ rfl,rfl⟩);refine X _ h.heap.objs.size TL l (λb o e=>ac _ (h2 b o e)) h3 h4 (Nat.le_of_eq Y.symm) (by show _<=(h.heap.push _).objs.size;rw[aW];exact dm U) (λb m=>?_) (λz=>bi _ (N _ z).2) h8 h9 ⟨ac _ S,f,⟨_,ai _ rfl,rfl,rfl⟩,MC K λT e o Z=>ac _ Z,L⟩;show _/\b<(h.heap.push _).objs.size;rw[aW];rcases ao.mp m with rfl|m;.exact⟨U,Nat.lt_succ_self _⟩
  .exact⟨(N b m).1,bv (N b m).2⟩
 show A8 _ _ (if(!(w.params.followText "set-order")&&(!t.plain&&decide (es.size>1)))=A2 then _ else _) _ _ _;cases m:w.params.followText "set-order"with
 |true=>
  rw[if_neg (by simp)];refine aa (ab ?_);refine i (AX 0) s [] ((pickOrder (w.params.setOrder D B) es).map (·.2)) _ n (λ_ _ e=>e) rfl rfl rfl (ag _) (λb z=>nomatch z) ?_ ?_ ?_ (λT z=>nomatch z) λv g q ty=>⟨_,rfl,"set_iterator",_,ty,F.DP.lookup,q⟩;.rw[cx,<-am,(MA _ _).length_eq,am]
  .rw[du];exact(MA _ _).map _
  .rw[m];exact .inl ⟨rfl,rfl,rfl⟩
 |false=>
  cases P:(!t.plain&&decide (es.size>1))with
  |false=>
   rw[if_neg (by simp)];refine aa (ab ?_);refine i (AX 0) s [] (es.map (·.2)) _ n (λ_ _ e=>e) rfl rfl rfl (ag _) (λb z=>nomatch z) ?_ ?_ ?_ (λT z=>nomatch z) λv g q ty=>⟨_,rfl,"set_iterator",_,ty,F.DP.lookup,q⟩;.rw[cx]
   .rw[du]
   .rw[m];refine .inr (.inl ⟨rfl,P,?_,rfl,rfl⟩);rcases C with z|z;.rw[m]at z;cases z
    .exact z.2
  |true=>
   rw[if_pos (by simp)];refine aa (MB _ _ _ _ (by simp) λr d y=>?_);unfold newTuple;refine aa ?_;refine aI ?_ (by show(List.map _ r).toArray.size<=_;rw[au,af,y.length_eq,bx];exact hz);have J:∀p∈r,p<es.size:=λp z=>ba.mp (y.mem_iff.mp z);have G:r.length=es.size:=by rw[y.length_eq,bx]
   let l:List A1:=r.map λp=>(es.getD p (0,.none)).2;refine i (.ref s.heap.objs.size) _ [s.heap.objs.size] l.toArray _ (ac _ n) (λ_ _ e=>ac _ e) rfl rfl rfl ?_ (λb z=>?_) ?_ ?_ ?_ (λT z=>by injection z with z;simp[z]) λv g q ty=>⟨_,rfl,"set_iterator",_,ty,F.DP.lookup,q⟩;.show _<=(s.heap.push _).objs.size;rw[aW];exact Nat.le_succ _
   .rw[aO]at z;subst z;show _/\_<(s.heap.push _).objs.size;rw[aW];exact⟨ag _,Nat.lt_succ_self _⟩
   .rw[au,af,G]
   .show(r.map λp=>(es.getD p (0,.none)).2).Perm _;refine(y.map _).trans (List.Perm.of_eq ?_);apply bO;intro j;rw[aj,aj];by_cases x:j<es.size;.rw[cA x,ae (show j<es.toList.length by rw[am];exact x)];simp[Array.getD,x]
    .rw[bg (by simpa using x),bg (by rw[am];omega)];rfl
   .rw[m];refine .inr (.inr ⟨rfl,s.heap.objs.size,r.toArray,rfl,⟨_,ai _ rfl,rfl,0,?_⟩,?_,λj p e=>?_⟩);.show Data.seq _ _=_;congr 1;simp
    .rw[au,au,af]
    .rw[List.getElem?_toArray]at e;have u:=J p (ar e);refine⟨_,aD u,?_⟩;rw[List.getElem?_toArray];show(List.map _ r)[j]?=_;rw[aj,e];simp[Array.getD,u]
theorem U_{D:A4}{o:AS}{es:Array (Int×A1)}{ep:Nat}{t:AH}{Q:List A1->A3->Prop}(hh:A.handled=A5)(R:s.heap.get? D=A0 o)(hc:o.ExactSet)(hd:o.data=.set es ep t)(hf:t.fits es.size=A2)(x:TOk (w.params.followText "set-order") t)(hz:es.size<=A7)
  (hQ:∀g u,(∀b o,s.heap.get? b=A0 o->g.heap.get? b=A0 o)->g.gens=s.gens->g.os=s.os->s.toks<=g.toks->s.heap.objs.size<=g.heap.objs.size->u.Perm (es.toList.map (·.2))->Q u g):A8 (AD prog w) A (collect (.ref D)) Q E s:=by
 have L:D<s.heap.objs.size:=ak R;have J:s.heap.objs.size≠D:=bp L;unfold collect;refine aa (wpAny_runValue (Ae F.entry_proto_collect ?_));rw[AL.under_plainId F.plain_proto_collect _];show A8 _ A.in1 (newList []>>=λl=>again (.builtin "list.__iadd__" ⟨[l,.ref D],[]⟩)) _ _ s;refine aa (aI ?_);refine ab ⟨plainId_quiet F.plain_list_iadd _,Ae F.entry_list_iadd ?_⟩;rw[AL.under_plainId F.plain_list_iadd _];generalize a:({cls:=.type "list",data:=.seq ([]:List A1).toArray}:AS)=h;have a2:A3.TypeIs {s with heap:=s.heap.push h} (.ref D) "set":=⟨o,ac _ R,hc.1⟩;have Y:(s.heap.push h).get? s.heap.objs.size=A0 h:=ai _ (by rw[<-a];rfl);have h1:AB.List.listSameRef (.ref s.heap.objs.size) (.ref D)=A6:=by simp[AB.List.listSameRef,J]
 show A8 _ A.in1 (AB.List.listExtendWith (.ref s.heap.objs.size) (.ref D) (.ref s.heap.objs.size)) _ _ _;unfold AB.List.listExtendWith;refine aa (dw a2 ?_);rw[if_neg (by rw[h1];decide)];refine aa (Uz (s:={s with heap:=s.heap.push h}) (ac _ R) hc hd hf x hz λr I TL u U k2 k3 k4 k5 k6 k7 k8 k9 a1=>?_);have q:r.TypeIs (.ref D) "set":=⟨o,U D o (ac _ R),hc.1⟩;refine aa (aC ?_);unfold AB.List.listLengthHint;refine aa (wpAny_specialOf q F.slot_set_len.lookup ?_);dsimp only;(generalize p:("set.__len__":String)=y;(fail_if_success(clear p y));rw[show splitId y=A0 ("set","__len__")from by subst p;decide+kernel];subst p);dsimp only;refine aa (bT (b:=A2) q (by rw[isSubtype_type];kernel_rfl) ?_);rw[if_neg (by decide),if_pos ⋯];refine aa (dw q (ab ?_));rw[if_pos (by decide)];refine aa (bq ?_);refine aa ?_;have N:r.heap.get? s.heap.objs.size=A0 h:=U _ _ Y;have Z:h.data=.seq #[] 0:=by rw[<-a]
 have G:(s.heap.push h).objs.size=s.heap.objs.size+1:=aW ..;show A8 _ A.in1 (updateSeq s.heap.objs.size (·.push .none)>>=λ_=>updateSeq s.heap.objs.size (·.pop)) _ _ _;refine aa (wpAny_updateSeq N Z ?_);have B:=aM (AS.mapSeq (·.push A1.none)) N (by rw[<-a];rfl);refine wpAny_updateSeq B (by rw[<-a];rfl) ?_;have X:=aM (AS.mapSeq (·.pop)) B (by rw[<-a];rfl);have M:∀b o,b≠s.heap.objs.size->r.heap.get? b=A0 o->((r.heap.update s.heap.objs.size (AS.mapSeq (·.push A1.none))).update s.heap.objs.size (AS.mapSeq (·.pop))).get? b=A0 o:=
  λb o d e=>(cZ _ _ (Ne.symm d)).trans ((cZ _ _ (Ne.symm d)).trans e);have m:∀b∈I::TL,s.heap.objs.size<b:=λb d=>by have:=(k6 b d).1;rw[show(A3.heap {s with heap:=s.heap.push h}).objs.size=s.heap.objs.size+1 from G]at this;exact this
 have a0:D≠I:=λe=>bi _ (Nat.lt_trans L (e▸m I (by simp)));have O:s.heap.objs.size∉I::D::TL:=λn=>by
  have C:∀b∈I::TL,s.heap.objs.size≠b:=λb d e=>bi _ (e▸m b d);simp only[ao]at n;rcases n with e|e|e;.exact C I (by simp) e
  .exact J e
  .exact C _ (ay _ e) rfl
 have W:WalksS prog w A.in1 I (I::D::TL) [I] Eq es.size (λi v=>u[i]?=A0 v) (Io w I D o TL es ep t u):=Uy (A:=A.in1) hh a0 k7 hd hf x k8;have T:=W.frame 0 r _ r.toks a1 (ag _) λb d o e=>M b o (λz=>O (z▸d)) e;refine ab ⟨plainId_quiet F.plain_extend_loop _,codeAny_extend_loopS W hz _ O _ es.size 0 _ _ _ rfl (aN _) T (by rw[X,<-a];rfl) (ItemsOf.nil _) λg f c' n P H=>?_⟩;show A8 _ A (load s.heap.objs.size>>=_) _ _ g;refine aa (wpAny_load P (ab ?_));have K:f.toList=u.toList:=by
  obtain⟨hl,hp⟩:=H;apply bO;intro j;by_cases hj:j<es.size;.have h2:f[j]?=A0 (f[j]'⋯):=aD ⋯;rw[bX,bX,h2,<-hp j _ h2]
  .rw[bg (by rw[am];omega),bg (by rw[am];omega)]
 have S:s.heap.objs.size<g.heap.objs.size:=ak P;refine hQ g _ (λb o e=>?_) ?_ ?_ ?_ (bG S) (by rw[K];exact k9);.have d:b≠s.heap.objs.size:=ax (ak e);refine n.heap b o ?_ (M b o d (U b o (ac _ e)));simp only[ao,av,or_false,not_or];refine⟨d,λz=>?_⟩;exact bi _ (Nat.lt_trans (ak e) (z▸m I (by simp)))
 .have:=n.gens;exact this.symm.trans k2
 .exact n.os.trans k3
 .exact aF k4 n.toks
end
end PySem
namespace L2
open PySem PySem.Spec PyProof.Rows
def DQ{a:Type}(own:List Nat)(j:TI)(g:TG)(i:TT)(Ar:TL a)(a0:a)(h:A4->a->HO)(ok:a->Hp->Prop):TE:=λe H Q=>j e H λJ f=>C7 own g i Ar J e a0 f λd b=>ok d b/\∀p,b p=A5->Q (.ref p) (upd b p (h p d))
structure CompInG{α:Type}(Is:α->AS->Prop)(X:Cx)(e:A9)(scope:AY)(tg:A9)(iter:A9)(ifs:List A9)(nx:A4->Env->Sem Unit)(g:TG)(tc:TT)(Ar:TL α)(own:List Nat):Prop where
 sc:CompSc X scope
 ow:∀i x,X.N[i]?=A0 x->(scope.names.lookup x=A0 .local\/scope.names.lookup x=A0 .cell)->i∈own
 cl:∃gs,clausesOf e=⟨tg,iter,ifs,0⟩::gs
 fs:∀x,foldedSetIterable iter X.env x=pure x
 calm:X.calm=A2
 q:∀it D env,(Code.compLoop e 0 it (.ref D) env).quiet=A2/\(Code.compStart e 0 it (.ref D) env).quiet=A2
 u:∀A it D env,AL.under A (Code.compLoop e 0 it (.ref D) env)=A/\AL.under A (Code.compStart e 0 it (.ref D) env)=A
 T:∀P w it D env,(AD P w).den (.compLoop e 0 it (.ref D) env)=(CK e 0 tg iter ifs (nx D env) it (.ref D) env).onRaise (λx=>do noteFrame x env;theTreesLotGoes x)
 S:∀P w it D env,(AD P w).den (.compStart e 0 it (.ref D) env)=(compStart e 0 it (.ref D) env).onRaise (λx=>do noteFrame x env;standAt theWindowsPlace)
 ge:E3 own g
 inn:∀s0 H0 ex D,PG (X.comp scope s0 H0 ex) tg g/\PTs (X.comp scope s0 H0 ex) ifs tc/\∃ws',(∀j∈ws',j∈own)/\Cv (X.comp scope s0 H0 ex) D Is ws' (nx D (X.comp scope s0 H0 ex).env) Ar
section
variable{X:Cx}{e:A9}{scope:AY}{tg iter:A9}{ifs:List A9}{nx:A4->Env->Sem Unit}{g:TG}{tc:TT}{α:Type}{Is:α->AS->Prop}{Ar:TL α}{own:List Nat}{wi:TI}{a0:α}{o0:Bool->AS}{newAcc:Sem A1}{ho:A4->α->HO}{ok:α->Hp->Prop}
theorem Ip(a1:∀(s:A3)(Q:A1->A3->Prop),(∀d,Q (.ref s.heap.objs.size) {s with heap:=s.heap.push (o0 d)})->A8 (AD X.prog X.w) X.A newAcc Q X.xe s)(b0:∀d,(o0 d).isFreed=A6)(a6:∀d,Is a0 (o0 d))(a9:∀(a:α)(o:AS),Is a o->∀v:Option A1,o.data≠.cell v)(C:CompInG Is X e scope tg iter ifs nx g tc Ar own)(hi:PI X tg iter wi){t:List (A4×AS)}{s:A3}{σ:St}{H:Hp}{R:V->Hp->Prop}(I:Inv X t σ H s)(hw:DQ own wi g tc Ar a0 ho ok σ H R)
  {P:Option (A1->Sem Unit)}{Q:A1->A3->Prop}{pos:Pos}
  (a2:∀(j s':A3)(H0 H':Hp)(ex:List A4)(D:A4)(xs:α)(o:AS)(b1:St),Inv X t σ H0 j->(∀b∈ex,BL X t H0 b)->Inv (X.comp scope j H0 ex) [] b1 H' s'->s'.heap.get? D=A0 o->D<j.heap.objs.size->X.s₀.heap.objs.size<=D->BL X t H0 D->(D==AO)=A6->Is xs o->H' D=A5->ok xs H'->R (.ref D) (upd H' D (ho D xs))->
   compPost (AD X.prog X.w) X.A X.xe P Q (.ref D) j.heap.objs.size (.ok .next) s'):
  A8 (AD X.prog X.w) X.A (Ak e scope X.env pos newAcc A6 (Ac iter X.env) P) Q X.xe s:=by
 obtain⟨gs,Z⟩:=C.cl;refine wpAny_comprehension_free Z C.fs (LX λn hn=>I.ok.has n (C.sc.free n hn)) C.sc.kind C.sc.names ?_;refine thn (hi t s σ H _ I hw) λv s1 h1=>thn h1 λb2 f h2=>?_;obtain⟨it,m,tn,J,l,rfl,O,T,st2,f2,hc⟩:=h2;refine a1 _ _ λd=>La ?_;have keep:∀b o,f.heap.get? b=A0 o->(f.heap.push (o0 d)).get? b=A0 o:=λb o e=>ac _ e;have I3:Inv X t σ l {f with heap:=f.heap.push (o0 d)}:=O.kept (t':=f.toks) keep;have a4:(f.heap.push (o0 d)).objs.size=f.heap.objs.size+1:=aW ..;have fD:BL X t l f.heap.objs.size:=O.fpOk (ag _) (O.hok.fresh (ag _));have Y:∀b∈m,b<f.heap.objs.size:=λb i=>by obtain⟨o,e,_⟩:=T.obj _ _ st2 b i;exact ak e
 have a7:f.heap.objs.size∉m:=λz=>bi _ (Y _ z);have G:∀b∈f.heap.objs.size::m,BL X t l b:=λb i=>by
  rcases ao.mp i with rfl|i;.exact fD
  .exact f2 b i
 generalize B:({f with heap:=f.heap.push (o0 d)}:A3)=j at*;have N:j.heap.objs.size=f.heap.objs.size+1:=by rw[<-B];exact a4
 have x:∀b∈f.heap.objs.size::m,b<j.heap.objs.size:=λb i=>by
  rw[N];rcases ao.mp i with rfl|i;.exact Nat.lt_succ_self _
  .exact bv (Y b i)
 have J0:=Lb (own:=own) I3 G x C.sc C.ow;obtain⟨c1,c2,b3,c4,c5⟩:=C.inn j l (f.heap.objs.size::m) f.heap.objs.size;have kp:∀b o,f.heap.get? b=A0 o->(CV j.heap scope.names).get? b=A0 o:=λb o e=>pushCells_keeps _ _ b o (ac _ (by rw[<-B];exact keep b o e));have oD:(CV j.heap scope.names).get? f.heap.objs.size=A0 (o0 d):=pushCells_keeps _ _ _ _ (ac _ (by rw[<-B];exact ai _ (b0 d)));have y:∀b∈f.heap.objs.size::m,BL (X.comp scope j l (f.heap.objs.size::m)) [] l b:=λb i=>
  ⟨(G b i).1,(J0.ok.exf b i).1,J0.ok.exfs b i,.inl i,(J0.ok.exf b i).2,λp hp=>absurd (show p∈([]:List (A4×AS))from hp) (by simp)⟩;have T':Turn (X.comp scope j l (f.heap.objs.size::m)).prog (X.comp scope j l (f.heap.objs.size::m)).w (X.comp scope j l (f.heap.objs.size::m)).K tg J m it tn:=T;have a3:C7 own g tc Ar J (clr own σ) a0 l (λxs l=>ok xs l/\∀p,l p=A5->R (.ref p) (upd l p (ho p xs))):=by obtain⟨W,w0,U⟩:=hc;refine⟨W,w0,?_⟩;rw[Lc];exact U
 have M:tn 0 ({j with heap:=CV j.heap scope.names}:A3).heap:=T.keep _ _ _ st2 λb i o e=>kp b o e;have L:=IT (X:=X.comp scope j l (f.heap.objs.size::m)) (Is:=Is) (D:=f.heap.objs.size) rfl C.calm (C.q _ _ _).1 (C.u _ _ _ _).1 (C.T _ _ _ _ _) T' c1 C.ge c2 c5 c4 a9 a7 J0
  (λb i=>y b (ay _ i)) (y _ az) oD (a6 d) M a3;have L2:=IV (C.q _ _ _).2 (C.u _ _ _ _).2 (λa8=>(C.q a8 _ _).1) (C.S _ _ _ _ _) ⟨_,by rw[Z];rfl,rfl⟩ L (λE=>T.self _ 0 _ _ E M ⟨rfl,rfl⟩);refine Ag L2 λr s' h=>?_;obtain⟨rfl,xs,o',H',J',e',a5,n',hN⟩:=h;exact a2 j s' l H' _ _ xs o' _ I3 G J' e' (x _ az) O.sz fD (beq_eq_false_iff_ne.mpr (bp O.big)) a5 n' hN.1 (hN.2 _ n')
end
section
variable{X:Cx}{e:A9}{scope:AY}{tg iter:A9}{ifs:List A9}{nx:A4->Env->Sem Unit}{g:TG}{tc:TT}{α:Type}{Is:α->AS->Prop}{Ar:TL α}{own:List Nat}{wi:TI}{a0:α}{o0:Bool->AS}{newAcc:Sem A1}{ho:A4->α->HO}{ok:α->Hp->Prop}
theorem V0(i:∀(s:A3)(Q:A1->A3->Prop),(∀b,Q (.ref s.heap.objs.size) {s with heap:=s.heap.push (o0 b)})->A8 (AD X.prog X.w) X.A newAcc Q X.xe s)(u:∀b,(o0 b).isFreed=A6)(l:∀b,Is a0 (o0 b))(n:∀(a:α)(o:AS),Is a o->∀v:Option A1,o.data≠.cell v)
  (f:∀(a:α)(o:AS)(D:A4)(H:Hp)(h:AJ),Is a o->h.get? D=A0 o->(D==AO)=A6->H D=A5->ok a H->HOk X.prog X.w H h->B0 X.prog X.w (upd H D (ho D a)) h D (ho D a))(C:CompInG Is X e scope tg iter ifs nx g tc Ar own)(hi:PI X tg iter wi){pos:Pos}(K:Ac e X.env=Ak e scope X.env pos newAcc A6 (Ac iter X.env)):PE X e (DQ own wi g tc Ar a0 ho ok):=by intro p_ s T H Q I hw;rw[K];refine Ip i u l n C hi I hw λN Z U x ex D r o S M q J G j P O L t E d hR=>?_;obtain⟨m,R,_⟩:=J.loc;refine⟨m,R,λY y=>?_⟩;have B:=Ek M q J y;have p:D≠N.heap.objs.size:=ax j;refine⟨.ref D,upd x D (ho D r),B.track (o:=ho D r) ⟨E,O.2⟩ P (f r o D x _ t ((y.2 D p).trans G) L E d B.hok),rfl,hR⟩
theorem V1(x:∀(s:A3)(Q:A1->A3->Prop),(∀d,Q (.ref s.heap.objs.size) {s with heap:=s.heap.push (o0 d)})->A8 (AD X.prog X.w) X.A newAcc Q X.xe s)(a3:∀d,(o0 d).isFreed=A6)(M:∀d,Is a0 (o0 d))(T:∀(a:α)(o:AS),Is a o->∀v:Option A1,o.data≠.cell v)
  (p:∀(a:α)(o:AS)(D:A4)(H:Hp)(h:AJ),Is a o->h.get? D=A0 o->(D==AO)=A6->H D=A5->ok a H->HOk X.prog X.w H h->B0 X.prog X.w (upd H D (ho D a)) h D (ho D a))(C:CompInG Is X e scope tg iter ifs nx g tc Ar own)(hi:PI X tg iter wi){i:Nat}{y:AM}{G pos u:Pos}(hN:X.N.Nodup)(hy:X.N[i]?=A0 y)(hx:Loc X.env.scope y)(hf:X.fn y=A2\/X.env.scope.names.lookup y=A0 .local)
  (he:evalThenUse e X.env (assign (.Name y G) X.env)=(do let _<-Ak e scope X.env u newAcc A6 (Ac iter X.env) (A0 (assign (.Name y G) X.env))))
  (O:swapsWith e (A0 (.Name y G)) pos.line X.env=pure A2):PS X (.Assign [.Name y G] e pos) (CT (DQ own wi g tc Ar a0 ho ok) (CC i)):=by
 intro B s P H D I hw;rw[exec_Assign_Name_used _ _ _ _ O];refine aa (ck (aa ?_));rw[he];refine aa (thn (Q:=λ_ l=>SP X B D .next l) (Ip x a3 M T C hi I hw λt l H0 E ex f xs o a5 Z a1 J e' K h0 fD sy a2 n' n hR=>?_) λ_ l q=>ab (ab q));obtain⟨m,hn,_⟩:=J.loc;have J2:Inv X B P E l:=Ek Z a1 J (AJ.SameBut.refl ..);have Y:f≠t.heap.objs.size:=ax K;have J3:Inv X B P (upd E f (ho f xs)) l:=J2.track ⟨n',fD.2⟩ h0 (p xs o f E _ a2 e' sy n' n J2.hok);have j:BL X B H0 t.heap.objs.size:=Z.fpOk (ag _) (Z.hok.fresh (ag _));refine wpAny_assign_Name (Hd J3 hN hy hx (v:=.ref f) rfl (λr J4 hs=>?_) hf);obtain⟨a,L,U⟩:=hs;have a4:t.heap.objs.size≠a:=by
  rcases U with rfl|U;.exact j.2.1
  .exact λq=>j.2.2.2.2.1 _ _ U q.symm
 have S:l.heap.Ns t.heap.objs.size m:=hn;refine⟨m,S.sameBut L a4,λh' R=>?_⟩;have J5:Inv X B (P.set i (A0 (.ref f))) (upd E f (ho f xs)) {r with heap:=h'}:=J4.turned (it:=t.heap.objs.size) (t':=r.toks) (λb ob hb q=>(R.2 b hb).trans q) (by rw[Au (Ne.symm Y)];exact J.free) j.2.1 j.2.2.2.1 j.2.2.2.2.1 j.2.2.2.2.2;exact⟨_,_,J5,hR⟩
end
def kO:Option Int->V
 |A0 i=>.int i
 |A5=>.non
theorem DR{P:AA}{w:AK}{k:Option Int}{u:A1}(r:At (kO k) u):(DO P w).is k u=A2/\u.scannable=A2:=by
 cases k with
 |none=>cases r;exact⟨rfl,rfl⟩
 |some i=>obtain⟨t,rfl⟩:=r;exact⟨by show A1.isInt i (.int i t)=A2;simp[A1.isInt],rfl⟩
def IsS(a:(Option Int->Bool)×Nat)(o:AS):Prop:=a.2<=4000/\(∃b d t,o.data=.set b d t)/\∃m,m<=a.2/\∀(P:AA)(w:AK),o.SetObjOf (DO P w) a.1 m
theorem MD{P:AA}{w:AK}{S:Option Int->Bool}{n m:Nat}{o:AS}(h:o.SetObjOf (DO P w) S m)(d:m<=n)(e:n<=4000):IsS (S,n) o:=⟨e,⟨_,_,_,h.2.choose_spec.choose_spec.choose_spec.1⟩,m,d,λa b=>h.transport (knd':=DO a b) rfl rfl⟩
theorem Iq(a:(Option Int->Bool)×Nat)(o:AS)(h:IsS a o)(v:Option A1):o.data≠.cell v:=by obtain⟨_,⟨d,e,t,b⟩,_⟩:=h;rw[b];exact λz=>nomatch z
def Bh(D:A4)(S:Option Int->Bool)(n:Nat):HO:=.ext λh=>∃o,h.get? D=A0 o/\IsS (S,n) o
theorem ME{P:AA}{w:AK}{H:Hp}{h:AJ}{D:A4}{S:Option Int->Bool}{n:Nat}{o:AS}(e:h.get? D=A0 o)(i:IsS (S,n) o):B0 P w H h D (Bh D S n):=
 ⟨⟨o,e,i⟩,⟨o,e⟩,λg f⟨a,b,d⟩k=>⟨a,k a b,d⟩⟩
section
variable{X:Cx}
theorem Ir{s:A3}{D:A4}{a:(Option Int->Bool)×Nat}{o:AS}(e:s.heap.get? D=A0 o)(i:IsS a o):∃m,m<=a.2/\s.heap.SetOf (DO X.prog X.w) D a.1 m:=by obtain⟨d,_,m,b,h⟩:=i;exact⟨m,b,(h X.prog X.w).setOf e (cn (aF b d) (by decide))⟩
def G2(neg:Bool):R2:=λx y H Q=>∃k D S n,x=kO k/\y=.ref D/\H D=A0 (Bh D S n)/\Q (.bl (if neg then !(S k)else S k)) H
theorem V2:OpR X (AU .In) (G2 A6):=by intro j s g H x y v u Q I a d h;obtain⟨k,D,S,n,rfl,rfl,b,q⟩:=h;cases d;obtain⟨o,e,i⟩:=(show B0 X.prog X.w H s.heap D (Bh D S n)from I.hok D _ b).1;obtain⟨m,_,f⟩:=Ir (X:=X) e i;exact wpAny_inSet_of (DR a).1 (DR (P:=X.prog) (w:=X.w) a).2 f ⟨.bl (S k),H,I.tok _,rfl,q⟩
theorem V3:OpR X (AU .NotIn) (G2 A2):=by intro j s g H x y v u Q I a d h;obtain⟨k,D,S,n,rfl,rfl,b,q⟩:=h;cases d;obtain⟨o,e,i⟩:=(show B0 X.prog X.w H s.heap D (Bh D S n)from I.hok D _ b).1;obtain⟨m,_,f⟩:=Ir (X:=X) e i;exact wpAny_notInSet_of (DR a).1 (DR (P:=X.prog) (w:=X.w) a).2 f ⟨.bl (!S k),H,I.tok _,rfl,q⟩
def inL(ns:List Int):Option Int->Bool
 |A0 i=>ns.contains i
 |A5=>A6
def MF(K:W.Frag):List V->Hp->VK->Prop:=λd H Q=>∃a b,d=[.ref a]/\SqL K H a (b.map V.int)/\b.length<=3999/\∀p,H p=A5->Q (.ref p) (upd H p (Bh p (inL b) b.length))
theorem V4(S:X.calm=A2):B7 X (.type "set") (MF X.K):=by
 intro p_ s σ H xs us Q I D h;obtain⟨a,f,rfl,hs,P,q⟩:=h;cases D with
 |cons r1 D=>
  cases D;cases r1;obtain⟨l,r,L,hz⟩:=I.list hs;have d:=r.length;rw[af]at d;refine call_set_list (I.ok.hd S) L.isList (IG r) (by rw[au,<-d];exact cn (Nat.succ_le_succ P) (by decide)) λh' Z hS M=>?_;have hn:H s.heap.objs.size=A5:=I.hok.fresh (ag _);obtain⟨o,O,A⟩:=hS.objOf;have U:=firstMet_length_le (λi=>f.getD i 0) l.toArray.size;have u:o.SetObjOf (DO X.prog X.w) (inL f) (firstMet (λi=>f.getD i 0) l.toArray.size).length:=by
   obtain⟨B,N,ep,t,hd,m,p,C,T⟩:=A;refine⟨B,N,ep,t,hd,λe y=>?_,λk=>?_,C,T⟩;.obtain⟨⟨j,g,G⟩,n⟩:=m e y;exact⟨⟨A0 j,g,G⟩,n⟩
   .cases k with
    |none=>
     constructor;.intro z;cases z
     .rintro⟨e,y,J⟩;obtain⟨⟨j,g,G⟩,n⟩:=m e y;obtain⟨t',Y⟩:=A1.isInt_shape g;rw[Y]at J;cases J
    |some i=>
     have:=p i;dsimp only at this;rw[firstMet_any]at this;refine Iff.trans ?_ this;show f.contains i=A2↔_;have R:(aE l.toArray.size).map (λi=>f.getD i 0)=f:=by
      rw[au,<-d];apply bO;intro j;rw[aj];by_cases g:j<f.length;.rw[cA g];simp[List.getD,g]
      .rw[bf.mpr (by simpa using g),bf.mpr ⋯];rfl
     rw[R,List.contains_eq_any_beq];constructor;.intro z;rw[bE]at z⊢;obtain⟨x,v,e⟩:=z;exact⟨x,v,by rw[beq_iff_eq]at e⊢;exact e.symm⟩
     .intro z;rw[bE]at z⊢;obtain⟨x,v,e⟩:=z;exact⟨x,v,by rw[beq_iff_eq]at e⊢;exact e.symm⟩
  refine⟨.ref s.heap.objs.size,_,I.laid (t':=Z) (λb o E=>M b o (ak E) E) (ag _) (o:=Bh s.heap.objs.size (inL f) f.length) (ME O (MD u (aF U (by rw[au,d];exact ag _)) ⋯)),rfl,q _ hn⟩
def DB(b:TE):TL ((Option Int->Bool)×Nat):=λd a H N=>b d H λv e=>∃k,v=kO k/\a.2<4000/\N (λj=>a.1 j||decide (j=k),a.2+1) e
theorem V5{D:A4}{d:A9}{A:TE}(l:X.xe=λ_ _=>False)(L:PE X d A):Cv X D IsS [] (do let v<-Ac d X.env;standAt d.pos;let _<-call (.builtin "set.add") [.ref D,v]) (DB A):=by
 intro B s g H a o N I r q C R;have Y:Inv X (B++C5 [D] s.heap) g H s:=I.pinned (λb f=>by
  have e:b=D:=by simpa using f
  subst e;exact r) (λb f=>by
  have e:b=D:=by simpa using f
  subst e;exact⟨o,q,Iq _ _ C⟩);have x:=L _ s g H _ Y R;rw[l]at x;refine aa (thn x λu j⟨v,y,t,r1,k,G,M,Z⟩=>?_);subst G;have n:=t.pin (D,o) (ap _ (ap _ (CU (by simp) q)));obtain⟨m,E,hS⟩:=Ir (X:=X) n.1 C;refine aa (ck (aa (call_set_add (DR r1).1 (DR (P:=X.prog) (w:=X.w) r1).2 hS (cn (Nat.succ_le_of_lt (cn E M)) (by decide)) λU hs p=>?_)));obtain⟨_,O,f2,S,J,T⟩:=r;obtain⟨K,h,i⟩:=p.objOf;have Q:Inv X B g y {j with heap:=U,toks:=j.toks+1}:=t.unpinned.turned (it:=D) (t':=j.toks+1) (λb o f e=>(hs.2 b f).trans e) n.2.1 O S J T;exact ab ⟨g,_,K,y,Q,Ext.refl,h,MD i (by split<;>omega) ⋯,n.2.1,Z⟩
theorem V6{A:AL}{E:A1->A3->Prop}(s:A3)(Q:A1->A3->Prop)(h:∀a,Q (.ref s.heap.objs.size) {s with heap:=s.heap.push {cls:=.type "set",dict:=A5,data:=.set #[] 0 (.fresh 0 0 a)}}):A8 (AD X.prog X.w) A (newSet (.type "set")) Q E s:=by unfold newSet setsByText;refine aa (aa (bC (ab ?_)));exact aI (h _)
theorem V7(a:Bool):IsS (λ_=>A6,0) {cls:=.type "set",dict:=A5,data:=.set #[] 0 (.fresh 0 0 a)}:=⟨aN _,⟨_,_,_,rfl⟩,0,ag _,λ_ _=>setObjOf_fresh a⟩
end
abbrev NH:Int:=0xFCA86420
section
variable{prog:AA}{w:AK}{A:AL}{E:A1->A3->Prop}{s:A3}
theorem MG{d:A4}{o:AS}{es:Array AV}{j:Nat}{Q:Option Nat->A3->Prop}(n:s.heap.get? d=A0 o)(g:o.data=.dict es j)(f:∀e∈es.toList,e.hash≠NH)(h:Q A5 s):
  A8 (AD prog w) A (dictFind d .none NH) Q E s:=by
 have m:Ad es.size (λi=>es[i]?.map (·.hash)) NH=[]:=by
  unfold Ad;rw[List.filter_eq_nil_iff];intro i p a;dsimp only at a;cases b:es[i]? with
  |none=>rw[b]at a;cases a
  |some e=>rw[b]at a;have l:e∈es.toList:=Array.mem_toList_iff.mpr (Array.mem_of_getElem? b);exact f e l (by simpa using a)
 unfold dictFind;try with_reducible refine aC ?_
 refine aa (bP n g ?_);dsimp only;rw[m];rw[if_pos (show((A1.none::([]:List Nat).filterMap (λi=>es[i]?.map (·.key))).all carriedByValue)=A2 by rfl)];unfold dictWalkPlain;simp only[dr,pure_bind,bind_pure];exact ab h
theorem V8{d:A4}(g:(d==AO)=A6):
  MeetsIn prog w (AB.«dict.get» ⟨[.ref d,.none],[]⟩) (λ_ R s=>∃o a b,s.heap.get? d=A0 o/\o.data=.dict a b/\(∀e∈a.toList,e.hash≠NH)/\R (.ok (.ret .none)) {s with toks:=s.toks+1}):=
 .of_wp λA R s⟨o,a,b,j,i,f,h⟩=>by
  show A8 _ _ (dictGet d .none>>=_) _ _ s;refine aa ?_;unfold dictGet;try with_reducible refine aC ?_
  refine aa (Eb (aa (MG (s:={s with toks:=s.toks+1}) j i f (ab ?_))));show A8 _ _ (AB.Dict.missed d .none>>=_) _ _ _;exact aa (wpAny_missed_other g (ab ⟨.none,rfl,h⟩))
end
theorem MH{P:AA}{w:AK}{k:Key}:∀{b:List AV}{d:List (Key×A1)}{a:AV},Pairs (B8 P w) b d->a∈b->(B8 P w).is k a.key=A2->k∈d.map (·.1)
 |_,_,_,.nil,h,_=>by cases h
 |_,_,a,.cons (e:=e) (kv:=kv) g i r,h,f=>by
  rcases ao.mp h with rfl|h;.rw[(B8 P w).inj _ _ _ f g];exact az
  .exact ay _ (MH r h f)
theorem EA{e a:Type}{F:e->a->Prop}:∀{b:List e}{d:List a}{y:a},An F b d->y∈d->∃x∈b,F x y
 |_,_,_,.nil,h=>by cases h
 |_,_,y,.cons g r,h=>by
  rcases ao.mp h with rfl|h;.exact⟨_,az,g⟩
  .obtain⟨x,f,i⟩:=EA r h;exact⟨x,ay _ f,i⟩
def NoN(H:Hp)(a:A4):Prop:=(∃b,H a=A0 (.dK b)/\∀d∈b,∃i:Int,d.1=.inl i/\hashInt i≠NH)\/
 ∃b,H a=A0 (.dT b)/\∀d∈b,∃e:List Int,d.1=e.map Key.inl/\reduceHash (AB.Tuple.tupleHashOf (e.map hashInt))≠NH
theorem NoN.at{X:Cx}{L:List (A4×AS)}{σ:St}{H:Hp}{s:A3}{a:A4}(I:Inv X L σ H s)(h:NoN H a):(a==AO)=A6/\s.TypeIs (.ref a) "dict"/\∃o g m,s.heap.get? a=A0 o/\o.data=.dict g m/\∀e∈g.toList,e.hash≠NH:=by
 rcases h with⟨j,e,r⟩|⟨j,e,r⟩
 .obtain⟨z,p,N,d,l⟩:=Fx I.hok e;refine⟨p,l.typeIs,?_⟩;obtain⟨o,g,m,v,_,y,A,E,_⟩:=l;refine⟨o,g,m,v,y,λD b=>?_⟩;obtain⟨k,n,B⟩:=A D (Array.mem_toList_iff.mp b);have u:k∈j.map (·.1):=by rw[d.keys];exact MH E b n
  obtain⟨q,f,rfl⟩:=aB.mp u;obtain⟨i,t,C⟩:=r q f;rw[B,t];exact C
 .obtain⟨z,p,M,d,l⟩:=Lu I.hok e;refine⟨p,l.typeIs,?_⟩;obtain⟨o,g,m,v,_,y,A,_⟩:=l;refine⟨o,g,m,v,y,λD b=>?_⟩;rw[A]at b;obtain⟨x,G,rfl⟩:=aB.mp b;obtain⟨q,f,K⟩:=EA d G;obtain⟨J,t,C⟩:=r q f;show(Af (B8 X.prog X.w)).hash x.1≠NH;rw[<-K.1,t];show reduceHash (AB.Tuple.tupleHashOf ((J.map Key.inl).map (B8 X.prog X.w).hash))≠NH;rw[bn];exact C
theorem V9{X:Cx}{d:List (A4×AS)}{σ:St}{H:Hp}{s:A3}{a:A4}{A:AL}{E:A1->A3->Prop}{Q:A1->A3->Prop}(I:Inv X d σ H s)(g:NoN H a)(h:∀b,Inv X d σ H b->Q .none b):
  A8 (AD X.prog X.w) A (call (.builtin "dict.get") [.ref a,.none]) Q E s:=by obtain⟨e,l,o,f,n,i,m,j⟩:=g.at I;exact call_meetsIn PySem.F.slot_dict_get l PySem.F.entry_dict_get (PySem.F.args_dict_get_2 _ _) (V8 e) ⟨o,f,n,i,m,j,h _ (I.tok _)⟩
def Ep(P:AA)(w:AK)(a:List (Key×V))(o:AS):Prop:=a.length<=A7/\∃d b e,KV a d/\o.ExactDict/\o.data=.dict b e/\KeysOf (B8 P w) b/\Pairs (B8 P w) b.toList d/\(d.map (·.1)).Nodup
theorem MI{P:AA}{w:AK}(a:List (Key×V))(o:AS)(h:Ep P w a o)(v:Option A1):o.data≠.cell v:=by obtain⟨_,_,d,e,_,_,b,_⟩:=h;rw[b];exact λz=>nomatch z
theorem MJ{X:Cx}{A:AL}{E:A1->A3->Prop}(s:A3)(Q:A1->A3->Prop)(h:∀a:Bool,Q (.ref s.heap.objs.size) {s with heap:=s.heap.push {cls:=.type "dict",dict:=A5,data:=.dict #[]}}):A8 (AD X.prog X.w) A newDict Q E s:=aI (h A2)
theorem VA{P:AA}{w:AK}(a:Bool):Ep P w [] {cls:=.type "dict",dict:=A5,data:=.dict #[]}:=
 ⟨aN _,[],#[],0,.nil,⟨rfl,rfl,rfl⟩,rfl,λe b=>by simp at b,.nil,cG⟩
theorem VB{P:AA}{w:AK}(a:List (Key×V))(o:AS)(D:A4)(H:Hp)(h:AJ)(i:Ep P w a o)(e:h.get? D=A0 o)(l:(D==AO)=A6)(_:H D=A5)(_:True)(_:HOk P w H h):B0 P w (upd H D (.dK a)) h D (.dK a):=by obtain⟨z,p,d,q,f,n,g,j,b,m⟩:=i;exact⟨z,l,p,f,o,d,q,e,n,g,j,b,m⟩
section
variable{X:Cx}
def G3(e f:TE):TL (List (Key×V)):=λb a H N=>e b H λy d=>f b d λv g=>∃k,y=kV k/\a.length<A7/\N (Bn a k v) g
theorem VC{D:A4}{G p:A9}{O Q:TE}(n:X.xe=λ_ _=>False)(hk:PE X G O)(hv:PE X p Q):Cv X D (Ep X.prog X.w) [] (do
   let r<-Ac G X.env
   let R<-holding [r] (Ac p X.env)
   match A1.ref D with
   | .ref d=>do
    standAt {G.pos with endLine:=p.pos.endLine,endCol:=p.pos.endCol}
    holding [r,R] (dictSet d r R)
   |_=>unsupported "internal:dictcomp") (G3 O Q):=by
 intro p_ s h H a o N I S x M hq;have m:∀{i:A3}{g:List (A4×AS)}{j:Hp},Inv X g h j i->BL X g j D->i.heap.get? D=A0 o->Inv X (g++C5 [D] i.heap) h j i:=λJ f e=>J.pinned (λb l=>by
  have z:b=D:=by simpa using l
  subst z;exact f) (λb l=>by
  have z:b=D:=by simpa using l
  subst z;exact⟨o,e,MI _ _ M⟩);have U:=hk _ s h H _ (m I S x) hq;rw[n]at U;refine aa (thn U λu i⟨y,j,T,r1,C⟩=>?_);have q1:=T.pin (D,o) (ap _ (ap _ (CU (by simp) x)));have P:=hv _ i h j _ T C;rw[n]at P;refine aa (aC (thn P λu2 q⟨v,Y,L,r2,k,ek,z2,n2⟩=>?_));subst ek;have t:=L.pin (D,o) (ap _ (ap _ (CU (by simp) x)));obtain⟨z,vs,es,ep,K,g2,g3,g4,g5,g6⟩:=M;have dd:q.heap.DictOf (B8 X.prog X.w) D vs:=⟨o,es,ep,t.1,g2,g3,g4,g5,g6⟩;refine aa (ck (aC (wpAny_dictSet_pairs (hsz:=by rw[<-K.length];exact z) (E6 r1) dd λh' B hs=>?_)));obtain⟨_,f1,f2,f3,Z,f5⟩:=S;obtain⟨o',E,A,d1,d2,d3,d4,d5,d6⟩:=B;have J3:Inv X p_ h Y {q with heap:=h',toks:=q.toks+1}:=L.unpinned.turned (it:=D) (t':=q.toks+1) (λb o l e=>(hs.2 b l).trans e) t.2.1 f1 f3 Z f5;exact⟨h,_,o',Y,J3,Ext.refl,d1,⟨aF (Ih a k v) z2,_,E,A,K.put k r2,d2,d3,d4,d5,d6⟩,t.2.1,n2⟩
end
abbrev KTL:=List (List Key×A4×V)
def Er(P:AA)(w:AK)(a:KTL)(o:AS):Prop:=a.length<=A7/\∃(b:List (List Key×A4×A1))(d:Array AV)(e:Nat),An (λ(p:List Key×A4×V)(q:List Key×A4×A1)=>p.1=q.1/\p.2.1=q.2.1/\At p.2.2 q.2.2) a b/\o.ExactDict/\o.data=.dict d e/\d.toList=b.map (entryOfKey (Af (B8 P w)))/\(b.map (·.1)).Nodup
theorem MK{P:AA}{w:AK}(a:KTL)(o:AS)(h:Er P w a o)(v:Option A1):o.data≠.cell v:=by obtain⟨_,_,d,e,_,_,b,_⟩:=h;rw[b];exact λz=>nomatch z
theorem VD{P:AA}{w:AK}(a:Bool):Er P w [] {cls:=.type "dict",dict:=A5,data:=.dict #[]}:=
 ⟨aN _,[],#[],0,.nil,⟨rfl,rfl,rfl⟩,rfl,rfl,cG⟩
def okT(a:KTL)(H:Hp):Prop:=∀x∈a,H x.2.1=A0 (.tup (x.1.map kV))
def plT(a:KTL):List (List Key×V):=a.map λx=>(x.1,x.2.2)
theorem ML{H:Hp}:∀{a:KTL}{b:List (List Key×A4×A1)},An (λ(p:List Key×A4×V)(q:List Key×A4×A1)=>p.1=q.1/\p.2.1=q.2.1/\At p.2.2 q.2.2) a b->okT a H->An (λ(p:List Key×V)(q:List Key×A4×A1)=>p.1=q.1/\H q.2.1=A0 (.tup (p.1.map kV))/\At p.2 q.2.2) (plT a) b
 |_,_,.nil,_=>.nil
 |_,_,.cons h r,ok=>.cons ⟨h.1,by rw[<-h.2.1];exact ok _ az,h.2.2⟩ (ML r λx d=>ok x (ay _ d))
theorem VE{P:AA}{w:AK}(a:KTL)(o:AS)(D:A4)(H:Hp)(h:AJ)(i:Er P w a o)(e:h.get? D=A0 o)(n:(D==AO)=A6)(g:H D=A5)(ok:okT a H)(_:HOk P w H h):B0 P w (upd H D (.dT (plT a))) h D (.dT (plT a)):=by obtain⟨z,p,f,r,j,q,l,m,d⟩:=i;refine⟨by unfold plT;rw[af];exact z,n,p,ML j λx b=>?_,o,f,r,e,q,l,m,d⟩;rw[Au (Bb (ok x b) g)];exact ok x b
section
variable{X:Cx}
def G4(g h:TE):TL KTL:=λe a H N=>g e H λy f=>h e f λv d=>∃(k:List Key)(b:A4),y=.ref b/\d b=A0 (.tup (k.map kV))/\okT a d/\(∀x∈a,x.1≠k)/\a.length<A7/\N (a++[(k,b,v)]) d
theorem VF{D:A4}{S E:A9}{Y tv:TE}(hu:X.A.units+1<Ao)(t:X.xe=λ_ _=>False)(hk:PE X S Y)(hv:PE X E tv):Cv X D (Er X.prog X.w) [] (do
   let K<-Ac S X.env
   let vv<-holding [K] (Ac E X.env)
   match A1.ref D with
   | .ref d=>do
    standAt {S.pos with endLine:=E.pos.endLine,endCol:=E.pos.endCol}
    holding [K,vv] (dictSet d K vv)
   |_=>unsupported "internal:dictcomp") (G4 Y tv):=by
 intro p_ s h H a o N I hD ho U hq;have m:∀{i:A3}{g:List (A4×AS)}{j:Hp},Inv X g h j i->BL X g j D->i.heap.get? D=A0 o->Inv X (g++C5 [D] i.heap) h j i:=λJ f e=>J.pinned (λb l=>by
  have z:b=D:=by simpa using l
  subst z;exact f) (λb l=>by
  have z:b=D:=by simpa using l
  subst z;exact⟨o,e,MK _ _ U⟩);have h1:=hk _ s h H _ (m I hD ho) hq;rw[t]at h1;refine aa (thn h1 λu i⟨y,j,J1,r1,Q⟩=>?_);have Z:=hv _ i h j _ J1 Q;rw[t]at Z;refine aa (aC (thn Z λu2 G⟨v,H2,C,r2,k,b,ek,eb,ok,nw,z2,n2⟩=>?_));subst ek;cases(show u=A1.ref b from r1);have O:=C.pin (D,o) (ap _ (ap _ (CU (by simp) ho)));obtain⟨z,xs,es,ep,B,g2,g3,g4,g5⟩:=U;have L:=Aj B;have dd:G.heap.DictOfH (Af (B8 X.prog X.w)) D xs:=⟨o,es,ep,O.1,g2,g3,g4,λx q=>by obtain⟨p,T,M,e2,_⟩:=EA B q;rw[<-M,<-e2];exact CW C.hok (ok p T),g5⟩;refine aa (ck (aC (wpAny_dictSet_heap (hsz:=by rw[<-L];exact z) (show X.A.units<Ao from Nat.lt_of_succ_lt hu) (CW C.hok eb) dd λh' n hs=>?_)));obtain⟨_,f1,f2,f3,f4,f5⟩:=hD;have r:∀x∈xs,x.1≠k:=λx q e=>by obtain⟨p,T,M,_⟩:=EA B q;exact nw p T (M.trans e)
 rw[storedH_new (by unfold atKey;rw[List.find?_eq_none.mpr (λx q=>by simpa using r x q)];rfl)]at n;obtain⟨o',R,P,d1,d2,d3,d4,d5,d6⟩:=n;have J3:Inv X p_ h H2 {G with heap:=h',toks:=G.toks+(Af (B8 X.prog X.w)).draws k}:=C.unpinned.turned (it:=D) (t':=G.toks+(Af (B8 X.prog X.w)).draws k) (λb o l e=>(hs.2 b l).trans e) O.2.1 f1 f3 f4 f5;exact⟨h,_,o',H2,J3,Ext.refl,d1,⟨by rw[aA];exact z2,_,R,P,An.snoc B ⟨rfl,rfl,r2⟩,d2,d3,d4,d6⟩,O.2.1,n2⟩
end
theorem ltG{a:Type}{l:List a}{i:Nat}{x:a}(h:l[i]?=A0 x):i<l.length:=(aK.mp h).1
section
variable{prog:AA}{w:AK}{K:Type} [DecidableEq K]{knd:HeapKind prog w K}{A:AL}{E:A1->A3->Prop}{s:A3}
def C_(knd:HeapKind prog w K):Option (K×A4)->AV
 |A5=>⟨NH,.none,.bool A2⟩
 |A0 (k,a)=>⟨knd.hash k,.ref a,.bool A2⟩
structure MixO(knd:HeapKind prog w K)(h:AJ)(es:Array AV)(ys:List (Option (K×A4))):Prop where
 its:es.toList=ys.map (C_ knd)
 is:∀k b,A0 (k,b)∈ys->knd.is h k b
 ne:∀k b,A0 (k,b)∈ys->knd.hash k≠NH
 nd:(ys.map (aJ Prod.fst)).Nodup
theorem MixO.get{h:AJ}{es:Array AV}{a:List (Option (K×A4))}(m:MixO knd h es a)(j:Nat):es[j]?=a[j]?.map (C_ knd):=by rw[<-bX,m.its,aj]
theorem MixO.one{h:AJ}{es:Array AV}{d:List (Option (K×A4))}(m:MixO knd h es d){i j:Nat}{x y:Option (K×A4)}(hi:d[i]?=A0 x)(hj:d[j]?=A0 y)(e:x.map Prod.fst=y.map Prod.fst):i=j:=by
 have g:=ltG hi;have n:=ltG hj;rw[ae g]at hi;rw[ae n]at hj;cases hi;cases hj;have f:∀a b:Nat,∀(p:a<d.length)(o:b<d.length),a<b->d[a].map Prod.fst≠d[b].map Prod.fst:=λa b p o l=>by have:=bF.mp m.nd a b (by rw[af];exact p) (by rw[af];exact o) l;rw[List.getElem_map,List.getElem_map]at this;exact this
 rcases Nat.lt_trichotomy i j with z|z|z;.exact absurd e (f i j g n z)
 .exact z
 .exact absurd e.symm (f j i n g z)
theorem MM{d a:A4}{o:AS}{es:Array AV}{ep:Nat}{p:List (Option (K×A4))}{k:K}{Q:Option Nat->A3->Prop}(hu:knd.room A)(B:knd.is s.heap k a)(X:knd.hash k≠NH)
  (Z:s.heap.get? d=A0 o)(U:o.data=.dict es ep)(m:MixO knd s.heap es p)(J:(∀(j:Nat)b,p[j]?≠A0 (A0 (k,b)))->Q A5 s)(n:∀(j:Nat)b,p[j]?=A0 (A0 (k,b))->Q (A0 j) s):
  A8 (AD prog w) A (dictFind d (.ref a) (knd.hash k)) Q E s:=by
 have O:∀i:Nat,(es[i]?.map (·.hash))=A0 (knd.hash k)->∃l b,p[i]?=A0 (A0 (l,b)):=λi h=>by
  rw[m.get i]at h;cases e:p[i]? with
  |none=>rw[e]at h;cases h
  |some x=>
   cases x with
   |none=>rw[e]at h;exact absurd (Option.some.inj h).symm X
   |some q=>exact⟨q.1,q.2,rfl⟩
 have G:∀i:Nat,i∈Ad es.size (λi=>es[i]?.map (·.hash)) (knd.hash k)->(es[i]?.map (·.hash))=A0 (knd.hash k):=λi h=>by have:=(bo.mp h).2;simpa using this
 have a1:∀(j:Nat)b,p[j]?=A0 (A0 (k,b))->j∈Ad es.size (λi=>es[i]?.map (·.hash)) (knd.hash k):=λj b g=>by
  refine bo.mpr ⟨ba.mpr ?_,?_⟩
  .have:=ltG g;have e:es.size=p.length:=by rw[<-am,m.its,af]
   omega
  .show(es[j]?.map (·.hash)==A0 (knd.hash k))=A2;rw[m.get j,g];simp[C_]
 have M:¬(es.any λe=>e.key==A1.ref a&&e.hash !=knd.hash k)=A2:=by
  rw[<-Array.any_toList,bE];rintro⟨e,N,hc⟩;rw[m.its]at N;obtain⟨x,hx,rfl⟩:=aB.mp N;cases x with
  |none=>have h1:=(Bool.and_eq_true_iff.mp hc).1;exact absurd (eq_of_beq h1) (λz=>nomatch z)
  |some q=>have h1:=eq_of_beq (Bool.and_eq_true_iff.mp hc).1;have h2:=(Bool.and_eq_true_iff.mp hc).2;have ea:q.2=a:=A1.ref.inj h1;have h:=m.is q.1 q.2 hx;rw[ea]at h;have hk:=knd.inj h B;have:(knd.hash q.1 !=knd.hash k)=A2:=h2;rw[hk]at this;simp at this
 have a3:∀v∈(Ad es.size (λi=>es[i]?.map (·.hash)) (knd.hash k)).filterMap (λi=>es[i]?.map (·.key)),∃l b,v=.ref b/\knd.is s.heap l b:=by intro v T;obtain⟨i,h,T⟩:=cc.mp T;obtain⟨l,b,C⟩:=O i (G i h);rw[m.get i,C]at T;exact⟨l,b,(Option.some.inj T).symm,m.is l b (ar C)⟩
 unfold dictFind;try with_reducible refine aC ?_
 refine aa (bP Z U ?_);dsimp only;rw[if_neg (show¬((A1.ref a::(Ad es.size (λi=>es[i]?.map (·.hash)) (knd.hash k)).filterMap (λi=>es[i]?.map (·.key))).all carriedByValue)=A2 by simp[carriedByValue])];rw[if_neg M];by_cases H:(((Ad es.size (λi=>es[i]?.map (·.hash)) (knd.hash k)).filterMap (λi=>es[i]?.map (·.key)))== [A1.ref a])=A2<;>
 (first|rw[if_pos H]|rw[if_neg H])<;>(first|refine aa (ab ?_)|refine aa (wpAny_tableMayTell_quiet B a3 ?_))<;>(
  rw[if_neg (by simp)];refine aa ?_;refine wpAny_forIn_list _ (λAr b s'=>s'=s/\∃f,b=(A5,f)/\Ar.Nodup/\(∀i∈Ar,(es[i]?.map (·.hash))=A0 (knd.hash k))/\(∀j b,p[j]?=A0 (A0 (k,b))->j∈Ar\/f=A0 j)/\∀j,f=A0 j->j∉Ar/\∃b,p[j]?=A0 (A0 (k,b))) _ ?_ ?_ _ _
   ⟨rfl,A5,rfl,List.Pairwise.filter _ List.nodup_range,G,λj b g=>.inl (a1 j b g),λj z=>nomatch z⟩
  .rintro x Ar b s'⟨rfl,f,rfl,u,hr,t,R⟩;obtain⟨a0,u⟩:=cz.mp u;obtain⟨l,b,C⟩:=O x (hr x az);have a2:=m.is l b (ar C);have P:es[x]?=A0 ⟨knd.hash l,.ref b,.bool A2⟩:=by rw[m.get x,C];rfl
   have Y:(knd.hash l==knd.hash k)=A2:=by have:=hr x az;rw[P]at this;simpa using this
   have L:=λi h=>hr i (ay _ h);rw[P];dsimp only;rw[if_pos Y];refine aa (cB Z U (aa (knd.eqBool (x:=l) (y:=k) hu a2 B (aa (cB Z U ?_)))));show A8 _ _ (if(ep !=ep)=A2 then _ else _) _ E _;rw[if_neg (by simp)];by_cases D:l=k
   .rw[decide_eq_true D];subst D;have h0:f=A5:=by
     cases f with
     |none=>rfl
     |some j=>obtain⟨z,S,g⟩:=R j rfl;have:=m.one g C rfl;subst this;exact absurd az z
    subst h0;first|rw[if_pos rfl]|skip
    simp only[Option.isSome_none,aV,if_false];first|refine aa (ab ?_)|skip
    refine aa (bq ?_);split;.exact ab (ab (n x b C))
    .refine ab ⟨rfl,A0 x,rfl,u,L,λj S g=>.inr (by rw[m.one g C rfl]),λj g=>?_⟩;cases g;exact⟨a0,b,C⟩
   .rw[decide_eq_false D];simp only[aV,if_false];refine aa (bq ?_);have I:∀j S,p[j]?=A0 (A0 (k,S))->j∈Ar\/f=A0 j:=λj S g=>by
     rcases t j S g with z|z
     .rcases ao.mp z with z|z;.subst z;rw[C]at g;cases g;exact absurd rfl D
      .exact .inl z
     .exact .inr z
    have r:∀j,f=A0 j->j∉Ar/\∃b,p[j]?=A0 (A0 (k,b)):=λj g=>⟨λz=>(R j g).1 (ay _ z),(R j g).2⟩;first|rw[if_neg (by simp)]|skip
    first
     |exact ab ⟨rfl,f,rfl,u,L,I,r⟩
     |exact aa (ab (ab ⟨rfl,f,rfl,u,L,I,r⟩))
  .rintro b s'⟨rfl,f,rfl,_,_,t,R⟩;cases f with
   |none=>
    refine ab (J λj b g=>?_);rcases t j b g with z|z;.exact av z
    .cases z
   |some j=>obtain⟨_,b,g⟩:=R j rfl;exact ab (n j b g))
theorem VG{Q:Bool->A3->Prop}(h:Q A2 s):A8 (AD prog w) A (eqBool .none .none) Q E s:=by unfold eqBool;refine aC ?_;show A8 _ _ (if(A1.none==A1.none)=A2 then _ else _) Q E s;rw[if_pos (beq_self_eq_true _)];exact aa (bq (ab h))
theorem VH{d:A4}{o:AS}{es:Array AV}{H:Nat}{h:List (Option (K×A4))}{Q:Option Nat->A3->Prop}
  (u:s.heap.get? d=A0 o)(t:o.data=.dict es H)(m:MixO knd s.heap es h)(l:A5∉h->Q A5 s)(g:∀j:Nat,h[j]?=A0 A5->Q (A0 j) s):
  A8 (AD prog w) A (dictFind d .none NH) Q E s:=by
 have p:∀i:Nat,(es[i]?.map (·.hash))=A0 NH->h[i]?=A0 A5:=λi a=>by
  rw[m.get i]at a;cases e:h[i]? with
  |none=>rw[e]at a;cases a
  |some x=>
   cases x with
   |none=>rfl
   |some q=>rw[e]at a;exact absurd (Option.some.inj a) (m.ne q.1 q.2 (ar e))
 have f:∀i:Nat,i∈Ad es.size (λi=>es[i]?.map (·.hash)) NH->(es[i]?.map (·.hash))=A0 NH:=λi a=>by have:=(bo.mp a).2;simpa using this
 have B:∀j:Nat,h[j]?=A0 A5->j∈Ad es.size (λi=>es[i]?.map (·.hash)) NH:=λj r=>by
  refine bo.mpr ⟨ba.mpr ?_,?_⟩
  .have:=ltG r;have e:es.size=h.length:=by rw[<-am,m.its,af]
   omega
  .show(es[j]?.map (·.hash)==A0 NH)=A2;rw[m.get j,r];simp[C_]
 have C:((A1.none::(Ad es.size (λi=>es[i]?.map (·.hash)) NH).filterMap (λi=>es[i]?.map (·.key))).all carriedByValue)=A2:=by
  rw[cf];intro v n;rcases ao.mp n with rfl|n;.rfl
  .obtain⟨i,a,n⟩:=cc.mp n;rw[m.get i,p i (f i a)]at n;cases n;rfl
 unfold dictFind;try with_reducible refine aC ?_
 refine aa (bP u t ?_);dsimp only;rw[if_pos C];unfold dictWalkPlain;cases J:Ad es.size (λi=>es[i]?.map (·.hash)) NH with
 |nil=>simp only[dr,pure_bind,bind_pure];refine ab (l λz=>?_);obtain⟨j,r⟩:=bI z;have:=B j r;rw[J]at this;exact av this
 |cons i Ar=>
  have a:i∈Ad es.size (λi=>es[i]?.map (·.hash)) NH:=by rw[J];exact az
  have I:=p i (f i a);have D:es[i]?=A0 ⟨NH,.none,.bool A2⟩:=by rw[m.get i,I];rfl
  refine aa ?_;refine wpAny_forIn_list _ (λAr b G=>G=s/\((b=(A5,())/\∃y,Ar=i::y))\/False) _ ?_ ?_ _ _ (.inl ⟨rfl,rfl,Ar,rfl⟩)
  .rintro x Ar b G(⟨rfl,rfl,y,e⟩|z);.cases e;rw[D];dsimp only;rw[if_pos (by simp)];refine aa (cB u t (aa (VG (aa (cB u t ?_)))));show A8 _ _ (if(H !=H)=A2 then _ else _) _ E _;rw[if_neg (by simp)];rw[if_pos rfl];exact aa (bq (ab (ab (g i I))))
   .exact z.elim
  .rintro b G(⟨rfl,rfl,y,e⟩|z);.cases e
   .exact z.elim
def C9(a:List (Option (K×A4)))(q:Option (K×A4)):List (Option (K×A4)):=if q.map Prod.fst∈a.map (aJ Prod.fst)then a else a++[q]
theorem Iu{a:List (Option (K×A4))}{q:Option (K×A4)}(h:q.map Prod.fst∈a.map (aJ Prod.fst)):C9 a q=a:=if_pos h
theorem Iv{a:List (Option (K×A4))}{q:Option (K×A4)}(h:¬q.map Prod.fst∈a.map (aJ Prod.fst)):C9 a q=a++[q]:=if_neg h
theorem MN{es:Array AV}{l:List AV}{j:Nat}(a:es.toList=l)(hj:∀e,l[j]?=A0 e->e.val=.bool A2):(es.modify j λe=>{e with val:=.bool A2}).toList=l:=by
 rw[Array.toList_modify,a];refine bO λi=>?_;rw[List.getElem?_modify];cases e:l[i]? with
 |none=>rfl
 |some x=>
  show A0 (if j=i then{x with val:=A1.bool A2}else x)=A0 x;by_cases h:j=i;.subst h;have:=hj x e;rw[if_pos rfl,<-this]
  .rw[if_neg h]
theorem MixO.val{h:AJ}{es:Array AV}{b:List (Option (K×A4))}(m:MixO knd h es b){j:Nat}{e:AV}(a:(b.map (C_ knd))[j]?=A0 e):e.val=.bool A2:=by
 rw[aj]at a;cases x:b[j]? with
 |none=>rw[x]at a;cases a
 |some q=>rw[x]at a;cases q<;>cases a<;>rfl
theorem MO{d a:A4}{o:AS}{es:Array AV}{y:Nat}{l:List (Option (K×A4))}{k:K}{Q:Unit->A3->Prop}(hu:knd.room A)(f:knd.is s.heap k a)(n:knd.hash k≠NH)
  (i:s.heap.get? d=A0 o)(C:o.ExactDict)(g:o.data=.dict es y)(m:MixO knd s.heap es l)(hz:l.length<=A7)
  (B:∀v p h r,v.get? d=A0 p->p.ExactDict->p.data=.dict h r->h.toList=(C9 l (A0 (k,a))).map (C_ knd)->bB d s.heap v->Q () {s with heap:=v,toks:=s.toks+knd.draws k}):
  A8 (AD prog w) A (dictSet d (.ref a) (.bool A2)) Q E s:=by
 have x:es.size<=A7:=by rw[<-am,m.its,af];exact hz
 unfold dictSet;try with_reducible refine aC ?_
 refine aa (knd.pyHash hu f ?_);unfold dictSetHashed;try with_reducible refine aC ?_
 refine aa (MM (s:={s with toks:=s.toks+knd.draws k}) hu f n i g m (λu=>?_) λj b t=>?_)
 .refine aa (bq (wpAny_updateDictKeys (hz:=x) (s:={s with toks:=s.toks+knd.draws k}) i g (B _ _ _ (y+1) (aM _ i (AS.isFreed_of_dict (AS.data_mapDictKeys g _))) (C.mapDictKeys _) (AS.data_mapDictKeys g _) ?_ (AJ.SameBut.update ..))));have D:¬(A0 (k,a):Option (K×A4)).map Prod.fst∈l.map (aJ Prod.fst):=λz=>by
   obtain⟨q,H,e⟩:=aB.mp z;cases q with
   |none=>cases e
   |some q=>obtain⟨j,t⟩:=bI H;have e:q.1=k:=Option.some.inj e;exact u j q.2 (by rw[t,<-e])
  rw[Iv D,cy,m.its,aG];rfl
 .refine aa (bq (aa (wpAny_updateDict (s:={s with toks:=s.toks+knd.draws k}) i g (wpAny_point (B _ _ _ y (aM _ i (AS.isFreed_of_dict (AS.data_mapDict g _))) (C.mapDict _) (AS.data_mapDict g _) ?_ (AJ.SameBut.update ..))))));rw[Iu (q:=A0 (k,a)) (aB.mpr ⟨A0 (k,b),ar t,rfl⟩)];exact MN m.its λe G=>m.val G
theorem MP{d:A4}{o:AS}{es:Array AV}{r:Nat}{g:List (Option (K×A4))}{Q:Unit->A3->Prop}
  (f:s.heap.get? d=A0 o)(u:o.ExactDict)(a:o.data=.dict es r)(m:MixO knd s.heap es g)(hz:g.length<=A7)
  (t:∀n h b i,n.get? d=A0 h->h.ExactDict->h.data=.dict b i->b.toList=(C9 g A5).map (C_ knd)->bB d s.heap n->Q () {s with heap:=n,toks:=s.toks+1}):
  A8 (AD prog w) A (dictSet d .none (.bool A2)) Q E s:=by
 have p:es.size<=A7:=by rw[<-am,m.its,af];exact hz
 unfold dictSet;try with_reducible refine aC ?_
 refine aa (Eb ?_);unfold dictSetHashed;try with_reducible refine aC ?_
 refine aa (VH (s:={s with toks:=s.toks+1}) f a m (λl=>?_) λj B=>?_)
 .refine aa (bq (wpAny_updateDictKeys (hz:=p) (s:={s with toks:=s.toks+1}) f a (t _ _ _ (r+1) (aM _ f (AS.isFreed_of_dict (AS.data_mapDictKeys a _))) (u.mapDictKeys _) (AS.data_mapDictKeys a _) ?_ (AJ.SameBut.update ..))));have v:¬(A5:Option (K×A4)).map Prod.fst∈g.map (aJ Prod.fst):=λz=>by
   obtain⟨q,y,e⟩:=aB.mp z;cases q with
   |none=>exact l y
   |some q=>cases e
  rw[Iv v,cy,m.its,aG];rfl
 .refine aa (bq (aa (wpAny_updateDict (s:={s with toks:=s.toks+1}) f a (wpAny_point (t _ _ _ r (aM _ f (AS.isFreed_of_dict (AS.data_mapDict a _))) (u.mapDict _) (AS.data_mapDict a _) ?_ (AJ.SameBut.update ..))))));rw[Iu (aB.mpr ⟨A5,ar B,rfl⟩)];exact MN m.its λe x=>m.val x
theorem VI{d a:A4}{o:AS}{es:Array AV}{u:Nat}{l:List (Option (K×A4))}{k:K}{Q:Option A1->A3->Prop}(hu:knd.room A)(f:knd.is s.heap k a)(i:knd.hash k≠NH)
  (r:s.heap.get? d=A0 o)(p:o.data=.dict es u)(m:MixO knd s.heap es l)
  (h:Q (if A0 k∈l.map (aJ Prod.fst)then A0 (.bool A2)else A5) {s with toks:=s.toks+knd.draws k}):A8 (AD prog w) A (dictGet d (.ref a)) Q E s:=by
 unfold dictGet;try with_reducible refine aC ?_
 refine aa (knd.pyHash hu f (aa (MM (s:={s with toks:=s.toks+knd.draws k}) hu f i r p m (λn=>?_) λj b g=>?_)))
 .rw[if_neg]at h;.exact ab h
  .intro z;obtain⟨q,t,e⟩:=aB.mp z;cases q with
   |none=>cases e
   |some q=>obtain⟨j,g⟩:=bI t;have e:q.1=k:=Option.some.inj e;exact n j q.2 (by rw[g,<-e])
 .rw[if_pos (show A0 k∈l.map (aJ Prod.fst)from aB.mpr ⟨A0 (k,b),ar g,rfl⟩)]at h;refine aa (bP (s:={s with toks:=s.toks+knd.draws k}) r p ?_);rw[m.get j,g];exact ab h
end
abbrev NK:=Option (List Int×A4)
def lkN:NK->Option (List Key×A4):=aJ λq=>(q.1.map Key.inl,q.2)
def hT(k:List Int):Int:=reduceHash (AB.Tuple.tupleHashOf (k.map hashInt))
def G5:NK->AV
 |A5=>⟨NH,.none,.bool A2⟩
 |A0 q=>⟨hT q.1,.ref q.2,.bool A2⟩
def IsN(L:List NK)(o:AS):Prop:=L.length<=4000/\(∀q,A0 q∈L->hT q.1≠NH)/\(L.map (aJ Prod.fst)).Nodup/\∃a b,o.ExactDict/\o.data=.dict a b/\a.toList=L.map G5
def B3(D:A4)(L:List NK):HO:=.ext λh=>(D==AO)=A6/\∃o,h.get? D=A0 o/\IsN L o
def Bo(H:Hp)(L:List NK):Prop:=∀q,A0 q∈L->H q.2=A0 (.tup (q.1.map V.int))
theorem G6{P:AA}{w:AK}{H:Hp}{h:AJ}{D:A4}{L:List NK}{o:AS}(a:(D==AO)=A6)(e:h.get? D=A0 o)(i:IsN L o):B0 P w H h D (B3 D L):=
 ⟨⟨a,o,e,i⟩,⟨o,e⟩,λg j⟨a,b,d,f⟩k=>⟨a,b,k b d,f⟩⟩
theorem EB{k:List Int}:(k.map Key.inl).map kV=k.map V.int:=by rw[bn];rfl
theorem EC{P:AA}{w:AK}{k:List Int}:(Af (B8 P w)).hash (k.map Key.inl)=hT k:=by show reduceHash (AB.Tuple.tupleHashOf ((k.map Key.inl).map (B8 P w).hash))=_;rw[bn];rfl
theorem Es{P:AA}{w:AK}{L:List NK}:(L.map lkN).map (C_ (Af (B8 P w)))=L.map G5:=by
 rw[bn];refine ci λq _=>?_;cases q with
 |none=>rfl
 |some q=>show AV.mk ((Af (B8 P w)).hash (q.1.map Key.inl)) _ _=AV.mk (hT q.1) _ _;rw[EC]
theorem Iw{q:NK}:(lkN q).map Prod.fst=(q.map Prod.fst).map λk=>k.map Key.inl:=by cases q<;>rfl
theorem Ix{L:List NK}:(L.map lkN).map (aJ Prod.fst)=(L.map (aJ Prod.fst)).map (aJ λk=>k.map Key.inl):=by rw[bn,bn];exact ci λq _=>Iw
set_option tactic.hygienic true in
theorem Iy{o p:Option (List Int)}(h:o.map (λk=>k.map Key.inl)=p.map (λk=>k.map (Key.inl:Int->Key))):o=p:=by
 cases o<;>cases p;.rfl
 .cases h
 .cases h
 .rename_i a b;have h:a.map (Key.inl:Int->Key)=b.map Key.inl:=Option.some.inj h;congr 1;exact List.map_inj_right (λx y z=>by injection z)|>.mp h
theorem G7{L:List NK}{o:Option (List Int)}:o.map (λk=>k.map (Key.inl:Int->Key))∈(L.map lkN).map (aJ Prod.fst)↔o∈L.map (aJ Prod.fst):=by rw[Ix,aB];exact⟨λ⟨p,a,e⟩=>Iy e▸a,λh=>⟨o,h,rfl⟩⟩
def BH(L:List NK)(q:NK):List NK:=if q.map Prod.fst∈L.map (aJ Prod.fst)then L else L++[q]
theorem Iz{L:List NK}{q:NK}:C9 (L.map lkN) (lkN q)=(BH L q).map lkN:=by
 by_cases h:q.map Prod.fst∈L.map (aJ Prod.fst);.rw[Iu (by rw[Iw];exact G7.mpr h)];unfold BH;rw[if_pos h]
 .rw[Iv (by rw[Iw];exact λz=>h (G7.mp z))];unfold BH;rw[if_neg h,aG];rfl
theorem MQ{b:Type}{l:List b}{a:b}(h:l.Nodup)(d:a∉l):(l++[a]).Nodup:=by grind
section
variable{X:Cx}{p_:List (A4×AS)}{σ:St}{H:Hp}{s:A3}{A:AL}{E:A1->A3->Prop}
theorem I_{D:A4}{L:List NK}(I:Inv X p_ σ H s)(p:H D=A0 (B3 D L))(t:Bo H L):(D==AO)=A6/\L.length<=4000/\(∀q,A0 q∈L->hT q.1≠NH)/\(L.map (aJ Prod.fst)).Nodup/\∃o d j,s.heap.get? D=A0 o/\o.ExactDict/\o.data=.dict d j/\MixO (Af (B8 X.prog X.w)) s.heap d (L.map lkN):=by
 obtain⟨u,o,e,r,l,m,d,j,h,n,i⟩:=(show B0 X.prog X.w H s.heap D (B3 D L)from I.hok D _ p).1;refine⟨u,r,l,m,o,d,j,e,h,n,i.trans Es.symm,λk b f=>?_,λk b f=>?_,?_⟩
 .obtain⟨q,g,e⟩:=aB.mp f;cases q with
  |none=>cases e
  |some q=>cases e;exact CW I.hok (by rw[EB];exact t q g)
 .obtain⟨q,g,e⟩:=aB.mp f;cases q with
  |none=>cases e
  |some q=>cases e;rw[EC];exact l q g
 .rw[Ix];rw[List.nodup_iff_pairwise_ne,bM];exact m.imp λ{a b}z e=>z (Iy e)
theorem J6{D:A4}{o:AS}(e:s.heap.get? D=A0 o)(h:o.ExactDict):s.TypeIs (.ref D) "dict":=⟨o,e,h.1⟩
def Et(H:Hp)(y:V)(q:NK):Prop:=(y=.non/\q=A5)\/∃k b,y=.ref b/\q=A0 (k,b)/\H b=A0 (.tup (k.map V.int))/\hT k≠NH
theorem MR{L:List NK}{q:NK}{g:AS}{b:Array AV}{d:Nat}(i:L.length<4000)(j:∀q,A0 q∈L->hT q.1≠NH)(n:(L.map (aJ Prod.fst)).Nodup)(o:∀r,q=A0 r->hT r.1≠NH)(m:g.ExactDict)(l:g.data=.dict b d)
  (a:b.toList=(BH L q).map G5):IsN (BH L q) g:=by
 by_cases h:q.map Prod.fst∈L.map (aJ Prod.fst);.have e:BH L q=L:=if_pos h;rw[e]at a⊢;exact⟨bG i,j,n,b,d,m,l,a⟩
 .have e:BH L q=L++[q]:=if_neg h;rw[e]at a⊢;refine⟨by rw[aA];exact i,λr f=>?_,?_,b,d,m,l,a⟩
  .rcases aU.mp f with f|f;.exact j r f
   .exact o r (aO.mp f).symm
  .rw[aG];exact MQ n h
theorem VJ{D:A4}{L:List NK}{y:V}{u:A1}{q:NK}{Q:Unit->A3->Prop}(hu:A.units+1<Ao)(I:Inv X p_ σ H s)(v:H D=A0 (B3 D L))(U:Bo H L)(B:L.length<4000)(S:Et H y q)(K:At y u)
  (h:∀G,Inv X p_ σ (upd H D (B3 D (BH L q))) G->Q () G):A8 (AD X.prog X.w) A (setItem (.ref D) u (.bool A2)) Q E s:=by
 obtain⟨N,_,J,M,o,Y,Z,p,j,C,m⟩:=I_ I v U;have O:(L.map lkN).length<=A7:=by rw[af];exact aF (bG B) (by decide)
 have hT:=J6 p j;unfold setItem;try with_reducible refine aC ?_
 refine aa (wpAny_sequenceKey hT (by decide) ?_);refine aa (aS (name:=AM.ofString "__setitem__") hT F.slot_dict_setitem (aP F.slot_dict_setitem hT F.entry_dict_setitem ?_ (F.args_dict_setitem_3 _ _ _)));rcases S with⟨rfl,rfl⟩|⟨k,b,rfl,rfl,R,l⟩;.cases K;show A8 _ _ (AB.Dict.notOrdered "__setitem__" ⟨[.ref D,.none,.bool A2],[]⟩>>=_) _ _ s;refine aa (dh hT ?_);show A8 _ _ (dictSet D .none (.bool A2)>>=_) _ _ s;refine aa (MP p j C m O λT t n x d f i a g=>ab ⟨.none,rfl,ab (h _ ?_)⟩);refine Fy (ob:=B3 D (BH L A5)) I (by rw[v];exact True.intro) g ⟨t,d⟩ (G6 N d (MR B J M (λr e=>nomatch e) f i ?_));rw[a,<-Es (P:=X.prog) (w:=X.w),<-Iz];rfl
 .cases(show u=A1.ref b from K);show A8 _ _ (AB.Dict.notOrdered "__setitem__" ⟨[.ref D,.ref b,.bool A2],[]⟩>>=_) _ _ s;refine aa (dh hT ?_);show A8 _ _ (dictSet D (.ref b) (.bool A2)>>=_) _ _ s;refine aa (MO (k:=k.map Key.inl) (tupleKind_room_in1 hu) (CW I.hok (by rw[EB];exact R)) (by rw[EC];exact l) p j C m O λT t n x d f i a g=>ab ⟨.none,rfl,ab (h _ ?_)⟩);refine Fy (ob:=B3 D (BH L (A0 (k,b)))) I (by rw[v];exact True.intro) g ⟨t,d⟩ (G6 N d (MR B J M (λr e=>by cases e;exact l) f i ?_));rw[a,<-Es (P:=X.prog) (w:=X.w),<-Iz];rfl
theorem MS{D b:A4}{L:List NK}{k:List Int}{Q:Bool->A3->Prop}(hu:A.units+1<Ao)(I:Inv X p_ σ H s)(l:H D=A0 (B3 D L))(n:Bo H L)(j:H b=A0 (.tup (k.map V.int)))(d:hT k≠NH)
  (h:∀g,Inv X p_ σ H g->Q (decide (A0 k∈L.map (aJ Prod.fst))) g):A8 (AD X.prog X.w) A (contains (.ref D) (.ref b)) Q E s:=by
 obtain⟨p,_,r,t,o,q,u,f,e,i,m⟩:=I_ I l n;have hT:=J6 f e;unfold contains;try with_reducible refine aC ?_
 refine aa (wpAny_specialOf hT F.slot_dict_contains.lookup ?_);show A8 _ _ (if(A0 (A1.builtin "dict.__contains__")==A0 A1.none)=A2 then _ else _) _ E s;rw[if_neg (by rw[beq_builtin_none];exact al)];refine aa (wpAny_callSpecialUnlessNone?_slot (name:=AM.ofString "__contains__") hT F.slot_dict_contains (aP F.slot_dict_contains hT F.entry_dict_contains ?_ (F.args_dict_contains_2 _ _)));show A8 _ _ (dictGet D (.ref b)>>=_) _ _ s;refine aa (VI (k:=k.map Key.inl) (tupleKind_room_in1 hu) (CW I.hok (by rw[EB];exact j)) (by rw[EC];exact d) f i m ?_);by_cases a:A0 k∈L.map (aJ Prod.fst);.rw[if_pos (show A0 (k.map Key.inl)∈_ from G7 (o:=A0 k)|>.mpr a)];have h:=h _ (I.tok (s.toks+(Af (B8 X.prog X.w)).draws (k.map Key.inl)));rw[decide_eq_true a]at h;show A8 _ _ (ret (.bool A2)) _ _ _;exact ab ⟨_,rfl,bL h⟩
 .rw[if_neg (show¬A0 (k.map Key.inl)∈_ from λz=>a (G7 (o:=A0 k)|>.mp z))];have h:=h _ (I.tok (s.toks+(Af (B8 X.prog X.w)).draws (k.map Key.inl)));rw[decide_eq_false a]at h;show A8 _ _ (AB.Dict.pendingKey? D (.ref b)>>=_) _ _ _;exact aa (wpAny_pendingKey_other p (ab ⟨_,rfl,bL h⟩))
def NoR(H:Hp)(a:A4):Prop:=∃b,Rd H a (.dT b)/\∀e∈b,∃d:List Int,e.1=d.map Key.inl/\hT d≠NH
theorem NoR.at{a:A4}(I:Inv X p_ σ H s)(h:NoR H a):(a==AO)=A6/\s.TypeIs (.ref a) "dict"/\∃o d i,s.heap.get? a=A0 o/\o.data=.dict d i/\∀e∈d.toList,e.hash≠NH:=by obtain⟨r,e,n⟩:=h;obtain⟨z,l,G,f,j⟩:=Cy I.hok e;refine⟨l,j.typeIs,?_⟩;obtain⟨o,d,i,t,_,u,v,_⟩:=j;refine⟨o,d,i,t,u,λD b=>?_⟩;rw[v]at b;obtain⟨x,p,rfl⟩:=aB.mp b;obtain⟨m,g,y⟩:=EA f p;obtain⟨C,q,B⟩:=n m g;show(Af (B8 X.prog X.w)).hash x.1≠NH;rw[<-y.1,q,EC];exact B
theorem MT{a:A4}{Q:Bool->A3->Prop}(I:Inv X p_ σ H s)(g:NoR H a)(h:∀d,Inv X p_ σ H d->Q A6 d):A8 (AD X.prog X.w) A (contains (.ref a) .none) Q E s:=by
 obtain⟨f,hT,o,j,l,i,e,b⟩:=g.at I;unfold contains;try with_reducible refine aC ?_
 refine aa (wpAny_specialOf hT F.slot_dict_contains.lookup ?_);show A8 _ _ (if(A0 (A1.builtin "dict.__contains__")==A0 A1.none)=A2 then _ else _) _ E s;rw[if_neg (by rw[beq_builtin_none];exact al)];refine aa (wpAny_callSpecialUnlessNone?_slot (name:=AM.ofString "__contains__") hT F.slot_dict_contains (aP F.slot_dict_contains hT F.entry_dict_contains ?_ (F.args_dict_contains_2 _ _)));show A8 _ _ (dictGet a .none>>=_) _ _ s;refine aa ?_;unfold dictGet;try with_reducible refine aC ?_
 refine aa (Eb (aa (MG (s:={s with toks:=s.toks+1}) i e b (ab ?_))));show A8 _ _ (AB.Dict.pendingKey? a .none>>=_) _ _ _;exact aa (wpAny_pendingKey_other f (ab ⟨_,rfl,bL (h _ (I.tok _))⟩))
def J7:TE:=λ_ H Q=>∀p,H p=A5->Q (.ref p) (upd H p (B3 p []))
theorem VL{P:AA}{w:AK}{H:Hp}(h:AJ)(b:AO<h.objs.size):B0 P w H (h.push {cls:=.type "dict",data:=.dict #[]}) h.objs.size (B3 h.objs.size []):=
 G6 (beq_eq_false_iff_ne.mpr (Ne.symm (ax b))) (ai _ rfl) ⟨aN _,λq a=>absurd a av,cG,#[],0,⟨rfl,rfl,rfl⟩,rfl,rfl⟩
theorem VM{pos:Pos}:PE X (.Dict [] [] pos) J7:=λp_ s σ H Q I h=>
 wpAny_Dict_empty ⟨.ref s.heap.objs.size,_,I.laid (a:=s.heap.objs.size) (o:=B3 s.heap.objs.size []) (t':=s.toks) (λ_ _ q=>ac _ q) (ag _) (VL s.heap I.big),rfl,h _ (I.hok.fresh (ag _))⟩
def G8(neg:Bool):R2:=λy x H Q=>(∃(k:List Int)(b D:A4)(L:List NK),y=.ref b/\H b=A0 (.tup (k.map V.int))/\hT k≠NH/\x=.ref D/\H D=A0 (B3 D L)/\Bo H L/\Q (.bl (if neg then !decide (A0 k∈L.map (aJ Prod.fst))else decide (A0 k∈L.map (aJ Prod.fst)))) H)\/(y=.non/\∃D,x=.ref D/\NoR H D/\Q (.bl neg) H)
theorem VN(hu:X.A.units+1<Ao):OpR X (AU .In) (G8 A6):=by
 intro p_ s σ H y x v u Q I f e h;show A8 _ _ (contains u v>>=λb=>pure (A1.bool b)) _ _ s;rcases h with⟨k,b,D,L,rfl,i,a,rfl,j,m,q⟩|⟨rfl,D,rfl,g,q⟩;.cases f;cases e;exact aa (MS hu I j m i a λl d=>ab ⟨.bl (decide (A0 k∈L.map (aJ Prod.fst))),H,d,rfl,q⟩)
 .cases f;cases e;exact aa (MT I g λl d=>ab ⟨.bl A6,H,d,rfl,q⟩)
theorem VO(hu:X.A.units+1<Ao):OpR X (AU .NotIn) (G8 A2):=by
 intro p_ s σ H y x v u Q I f e h;show A8 _ _ (contains u v>>=λb=>pure (A1.bool (!b))) _ _ s;rcases h with⟨k,b,D,L,rfl,i,a,rfl,j,m,q⟩|⟨rfl,D,rfl,g,q⟩;.cases f;cases e;exact aa (MS hu I j m i a λl d=>ab ⟨.bl (!decide (A0 k∈L.map (aJ Prod.fst))),H,d,rfl,q⟩)
 .cases f;cases e;exact aa (MT I g λl d=>ab ⟨.bl A2,H,d,rfl,q⟩)
def J8(g ty f:TE):TS:=λD σ H=>f σ H λv e=>g σ e λx h=>ty σ h λy b=>(∃a d,x=.ref a/\E7 b a y v d/\D.nx σ d)\/∃(a:A4)(L:List NK)(q:NK),x=.ref a/\v=.bl A2/\b a=A0 (B3 a L)/\Bo b L/\L.length<4000/\Et b y q/\D.nx σ (upd b a (B3 a (BH L q)))
variable{o i value:A9}{pos pos':Pos}{td ty tv:TE}
theorem VP(hu:X.A.units+1<Ao)(p:PE X o td)(hi:PE X i ty)(J:PE X value tv)(T:swapsWith value (A0 (.Subscript o i pos')) pos.line X.env=pure A6):
  PS X (.Assign [.Subscript o i pos'] value pos) (J8 td ty tv):=by
 intro p_ s σ H D I h;refine wpAny_Assign_Subscript (thn (J p_ s σ H _ I h) λr M⟨v,N,O,m,S⟩=>thn (p p_ M σ N _ O S) λu U⟨x,K,B,f,P⟩=>thn (hi p_ U σ K _ B P) λZ s3⟨y,Y,j,l,b⟩=>?_) T;rcases b with⟨a,C,e,g,b⟩|⟨a,L,q,e,Q,t,R,G,n,b⟩;.subst e;obtain rfl:u=A1.ref a:=f;exact UN hu j g l m λw d=>⟨σ,C,d,b⟩
 .subst e Q;obtain rfl:u=A1.ref a:=f;obtain rfl:r=A1.bool A2:=m;exact VJ hu j t R G n l λw d=>⟨σ,_,d,b⟩
end
def J9(neg:Bool)(ty f:TE):TE:=λd H Q=>ty d H λy e=>f d e λx b=>(∃a o,x=.ref a/\C8 b a y o/\Q (.bl (if neg then !o.isSome else o.isSome)) b)\/G2 neg y x b Q\/G8 neg y x b Q
def JA(f ty:TE):TE:=λe H Q=>f e H λx d=>∃a,x=.ref a/\IsD d a/\ty e d λy b=>(∃o,C8 b a y o/\Q (o.getD .non) b)\/(y=.non/\NoN b a/\Q .non b)
section
variable{X:Cx}{o e f i:A9}{apos cpos:Pos}{td ty tx:TE}
theorem MU(hu:X.A.units+1<Ao)(hi:PE X i ty)(t:PE X o td):PC X .In i o (J9 A6 ty td):=by
 intro j s d H Q I h;refine thn (hi j s d H _ I h) λq w⟨y,B,C,p,G⟩=>thn (t j w d B _ C G) λu r⟨x,n,m,l,b⟩=>?_;rcases b with⟨a,D,E,g,b⟩|b|b;.subst E;obtain rfl:u=A1.ref a:=l;exact UK hu m g p λJ v=>⟨.bl D.isSome,n,v,rfl,b⟩
 .exact V2 j r d n y x q u Q m p l b
 .exact VN hu j r d n y x q u Q m p l b
theorem MV(hu:X.A.units+1<Ao)(hi:PE X i ty)(t:PE X o td):PC X .NotIn i o (J9 A2 ty td):=by
 intro j s d H Q I h;refine thn (hi j s d H _ I h) λq w⟨y,B,C,p,G⟩=>thn (t j w d B _ C G) λu r⟨x,n,m,l,b⟩=>?_;rcases b with⟨a,D,E,g,b⟩|b|b;.subst E;obtain rfl:u=A1.ref a:=l;exact UL hu m g p λJ v=>⟨.bl (!D.isSome),n,v,rfl,b⟩
 .exact V3 j r d n y x q u Q m p l b
 .exact VO hu j r d n y x q u Q m p l b
theorem VQ(hu:X.A.units+1<Ao)(C:PE X o td)(E:PE X e ty)(m:M1 X o "get" apos e cpos):PE X (.Call (.Attribute o "get" apos) [e] [] cpos) (JA td ty):=by
 intro v s n H Q I h;refine wpAny_Call_method m.base m.few m.line PySem.F.plainAttrs_dict PySem.F.slot_dict_get PySem.F.type_dict_get (thn (C v s n H _ I h) λu L⟨x,M,r,B,a,N,d,O⟩=>?_);subst N;obtain rfl:u=A1.ref a:=B;obtain⟨G,w,_⟩:=UT r d;refine⟨G,w,?_⟩;rw[m.trees];refine Calls.callWith_builtin rfl (Calls.evalArgs_plain (Calls.spliced_cons (thn (E v L n M _ r O) λJ S⟨y,q,p,t,b⟩=>Calls.spliced_nil ?_)));rcases b with⟨R,g,b⟩|⟨D,g,b⟩;.exact UU hu p g t λP K j l=>⟨_,q,j,l,b⟩
 .subst D;obtain rfl:J=A1.none:=t;exact V9 p g λK j=>⟨.non,q,j,rfl,b⟩
end
abbrev MW(own:List Nat)(d:TI)(g:TG)(b:TT)(Ar:TL ((Option Int->Bool)×Nat)):TE:=DQ own d g b Ar (λ_=>A6,0) (λp a=>Bh p a.1 a.2) λ_ _=>True
abbrev MX(own:List Nat)(f:TI)(g:TG)(e:TT)(b d:TE):TE:=DQ own f g e (G3 b d) [] (λ_ a=>.dK a) λ_ _=>True
abbrev MY(own:List Nat)(f:TI)(g:TG)(e:TT)(b d:TE):TE:=DQ own f g e (G4 b d) [] (λ_ a=>.dT (plT a)) okT
section
variable{X:Cx}{e:A9}{scope:AY}{tg iter:A9}{ifs:List A9}{nx:A4->Env->Sem Unit}{g:TG}{tc:TT}{own:List Nat}{wi:TI}
theorem VR{P:AA}{w:AK}(a:(Option Int->Bool)×Nat)(o:AS)(D:A4)(H:Hp)(h:AJ)(i:IsS a o)(e:h.get? D=A0 o)(_:(D==AO)=A6)(_:H D=A5)(_:True)(_:HOk P w H h):B0 P w (upd H D (Bh D a.1 a.2)) h D (Bh D a.1 a.2):=ME e i
theorem JB{n:Type}{Is:n->AS->Prop}{Ar:TL n}{a0:n}{o0:Bool->AS}{d:Sem A1}{x:A4->n->HO}{ok:n->Hp->Prop}{i:Nat}{y:AM}{r pos l:Pos}
  (m:∀(s:A3)(Q:A1->A3->Prop),(∀f,Q (.ref s.heap.objs.size) {s with heap:=s.heap.push (o0 f)})->A8 (AD X.prog X.w) X.A d Q X.xe s)(t:∀f,(o0 f).isFreed=A6)(p:∀f,Is a0 (o0 f))(q:∀(a:n)(o:AS),Is a o->∀v:Option A1,o.data≠.cell v)
  (j:∀(a:n)(o:AS)(D:A4)(H:Hp)(h:AJ),Is a o->h.get? D=A0 o->(D==AO)=A6->H D=A5->ok a H->HOk X.prog X.w H h->B0 X.prog X.w (upd H D (x D a)) h D (x D a))
  (C:CompInG Is X e scope tg iter ifs nx g tc Ar own)(hi:PI X tg iter wi)(K:X.N.Nodup)(G:X.N[i]?=A0 y)(I:Loc X.env.scope y)(L:X.fn y=A2\/X.env.scope.names.lookup y=A0 .local)
  (M:PG X (.Name y r) (CC i))
  (J:Ac e X.env=Ak e scope X.env l d A6 (Ac iter X.env))
  (B:evalThenUse e X.env (assign (.Name y r) X.env)=(do let _<-Ak e scope X.env l d A6 (Ac iter X.env) (A0 (assign (.Name y r) X.env))))
  (u:∃b,swapsWith e (A0 (.Name y r)) pos.line X.env=pure b):PS X (.Assign [.Name y r] e pos) (CT (DQ own wi g tc Ar a0 x ok) (CC i)):=by
 obtain⟨b,E⟩:=u;cases b with
 |true=>exact V1 m t p q j C hi K G I L B E
 |false=>exact Fg (V0 m t p q j C hi J) M E rfl
end
def iOf:A1->Int
 | .int i _=>i
 |_=>0
theorem G9:∀{a:List A1},(∀v∈a,∃i t,v=.int i t)->IntsAre a (a.map iOf)
 | [],_=>.nil
 |v::a,h=>by obtain⟨i,t,rfl⟩:=h v (by simp);exact .cons i t (G9 λv b=>h v (by simp[b]))
theorem MZ:∀{a:List Int}{b:List A1},IntsAre b a->Av (a.map V.int) b
 |_,_,.nil=>.nil
 |_,_,.cons y t r=>.cons ⟨t,rfl⟩ (MZ r)
theorem Ma:∀{l b:List Int},l.Nodup->(∀i∈l,i∈b)->l.length<=b.length
 | [],_,_,_=>aN _
 |a::l,b,h,g=>by
  have f:a∈b:=g a (by simp);have:=Ma (l:=l) (b:=b.erase a) (cz.mp h).2 λi j=>by have d:i≠a:=λe=>(cz.mp h).1 (by rw[<-e];exact j);exact(List.mem_erase_of_ne d).mpr (g i (by simp[j]))
  rw[List.length_erase_of_mem f]at this;have:=List.length_pos_of_mem f;rw[bD];omega
section
variable{X:Cx}
theorem Inv.other{a:List (A4×AS)}{σ:List (Option V)}{H:Hp}{s s':A3}(I:Inv X a σ H s)(h1:s'.heap=s.heap)(e:s'.gens=s.gens)(b:s'.os=s.os):Inv X a σ H s':=by obtain⟨f,g,d,t,os⟩:=s';cases h1;cases e;cases b;exact⟨I.ok,I.os,I.bare,I.base,I.loc,I.cell,I.free,I.freeC,I.pin,I.hok,I.len⟩
theorem Inv.ints{f:List (A4×AS)}{σ:List (Option V)}{H:Hp}{s s':A3}{l:A4}{d:List Int}{vs:Array A1}{e:Nat}(I:Inv X f σ H s)(h:∀b o,s.heap.get? b=A0 o->s'.heap.get? b=A0 o)(m:s'.gens=s.gens)(g:s'.os=s.os)(n:s.heap.objs.size<=l)(j:s'.heap.get? l=A0 (Ai "list" vs e))(i:IntsAre vs.toList d)(p:d.length<=A7):
  Inv X f σ (upd H l (.lst (d.map V.int))) s':=by have J:=I.laid (a:=l) (o:=.lst (d.map V.int)) (h':=s'.heap) (t':=s.toks) h n ⟨by rw[af];exact p,vs.toList,e,MZ i,by rw[j]⟩;exact J.other rfl m g
def GB(P:AA)(w:AK)(a:(Option Int->Bool)×Nat)(o:AS):Prop:=a.2<=4000/\∃m,m<=a.2/\o.SetIt (DO P w) a.1 m
theorem Mb{P:AA}{w:AK}(a:(Option Int->Bool)×Nat)(o:AS)(h:GB P w a o)(v:Option A1):o.data≠.cell v:=by obtain⟨_,m,_,d,e,t,_,b,_⟩:=h;rw[b];exact λz=>nomatch z
theorem VS{D:A4}{d:A9}{y:TE}(j:X.xe=λ_ _=>False)(K:PE X d y):Cv X D (GB X.prog X.w) [] (do let v<-Ac d X.env;standAt d.pos;let _<-call (.builtin "set.add") [.ref D,v]) (DB y):=by
 intro A s g H a o N I q p B R;have Y:Inv X (A++C5 [D] s.heap) g H s:=I.pinned (λb f=>by
  have e:b=D:=by simpa using f
  subst e;exact q) (λb f=>by
  have e:b=D:=by simpa using f
  subst e;exact⟨o,p,Mb _ _ B⟩);have t:=K _ s g H _ Y R;rw[j]at t;refine aa (thn t λu i⟨v,x,r,r1,k,E,M,Z⟩=>?_);subst E;have l:=r.pin (D,o) (ap _ (ap _ (CU (by simp) p)));obtain⟨hn,m,C,hS⟩:=B;refine aa (ck (aa (TY (DR r1).1 (DR (P:=X.prog) (w:=X.w) r1).2 l.1 hS (cn (Nat.succ_le_of_lt (cn C M)) (by decide)) λU J L h n=>?_)));obtain⟨_,O,f2,S,G,T⟩:=q;have Q:Inv X A g x {i with heap:=U,toks:=i.toks+1}:=r.unpinned.turned (it:=D) (t':=i.toks+1) (λb o f e=>(L.2 b f).trans e) l.2.1 O S G T;exact ab ⟨g,_,J,x,Q,Ext.refl,h,⟨by show a.2+1<=4000;omega,_,by show _<=a.2+1;split<;>omega,n⟩,l.2.1,Z⟩
variable{e:A9}{scope:AY}{tg iter:A9}{ifs:List A9}{nx:A4->Env->Sem Unit}{g:TG}{tc:TT}{Ar:TL ((Option Int->Bool)×Nat)}{own:List Nat}{wi:TI}
end
end L2
namespace HT
open PySem PyProof.Rows
section
variable{prog:AA}{w:AK}{A:AL}{E:A1->A3->Prop}{s:A3}
theorem VT{t f:A4}{items:Array A1}{n l:A1}{a hi:Option Int}{Q:A1->A3->Prop}(d:IsTup s.heap t items)(o:s.heap.IsSliceOf f n l .none)(pl:IsPart n a)(v:IsPart l hi)
  (hw:sIx items.size 0 a=0/\sIx items.size items.size hi=items.size)
  (h:Q (.ref t) s):A8 (AD prog w) A (getItem (.ref t) (.ref f)) Q E s:=by
 obtain⟨r,i,g,p⟩:=id o;have j:s.TypeIs (.ref f) "slice":=⟨r,i,g⟩;unfold getItem;try with_reducible refine aC ?_
 first|refine aa (ab ?_)|skip
 refine aa (wpAny_sequenceKey d.typeIs (by decide) ?_);refine aa (aS (name:=AM.ofString "__getitem__") d.typeIs PyProof.Rows.slot_tuple_getitem
  (aP PyProof.Rows.slot_tuple_getitem d.typeIs entry_tuple_getitem ?_ (args_tuple_getitem _ _)));show A8 _ _ (AB.Tuple.tupleItemsOf (.ref t)>>=_) _ _ s;refine aa (tupleItemsOf_ d ?_);refine aa (dw j ?_);rw[if_pos (by decide)];refine aa (LH o pl v ?_);have e:(((sIx items.size 0 a:Nat):Int)==0&&(1:Int)==1&&(sIx items.size items.size hi-sIx items.size 0 a)==items.size)=A2:=by rw[hw.1,hw.2];simp
 show A8 _ _ (if(((sIx items.size 0 a:Nat):Int)==0&&(1:Int)==1&&(sIx items.size items.size hi-sIx items.size 0 a)==items.size)=A2 then _ else _) _ _ s;rw[if_pos e];obtain⟨ot,x,u,y,q⟩:=id d;refine aa (cY (Q:=λb m=>b=A2/\m=s) (E:=E) ?_ ?_ (λ_ _ z=>z));.unfold AB.Tuple.tupleIsExact;exact aa (dw d.typeIs (ab ⟨rfl,rfl⟩))
 .rintro b m⟨rfl,rfl⟩;rw[if_pos rfl];exact aa (bq (ab ⟨_,rfl,ab h⟩))
end
end HT
namespace L2
open PySem PySem.Spec PyProof.Rows
section
variable{X:Cx}
def GC(K:W.Frag):V->Option Int->Option Int->Hp->VK->Prop:=λx d e H Q=>∃a b,x=.ref a/\SqT K H a b/\(HT.sIx b.length 0 d=0/\HT.sIx b.length b.length e=b.length)/\Q (.ref a) H
theorem VU:SlR X (GC X.K):=by
 intro u s n H x v w p t y o Q I i m f j h;obtain⟨a,l,rfl,g,hw,q⟩:=h;cases i;obtain⟨d,r,e,A⟩:=I.tuple g;have b:d.toArray.size=l.length:=by rw[au];exact r.length.symm
 refine⟨"tuple",_,PyProof.Rows.slot_tuple_getitem.lookup,e.typeIs,?_⟩;exact HT.VT e m f j (by rw[b];exact hw) ⟨.ref a,H,I,rfl,q⟩
end
section
variable{prog:AA}{w:AK}{A:AL}{E:A1->A3->Prop}{s:A3}{b0:Array AG}{κ:PyProof.Rows.KeyKind}
set_option tactic.hygienic true in
theorem Mc:∀(f n r:Nat),r<=1->minRun' f n r<=n+r
 |0,n,r,_=>by show n+r<=n+r;omega
 |f+1,n,r,hr=>by
  rw[minRun'_succ];split;.omega
  .rename_i h;have:=Mc f (n/2) (max r (n%2)) ⋯;omega
theorem VV{n:Nat}:minRun' n n 0<=n:=Mc n n 0 ⋯
def Md(b0:Array AG)(st:AF):Prop:=AQ st=b0/\Aa st=A5/\AI st=#[(0,b0.size,0)]
end
section
variable{prog:AA}{w:AK}{A:AL}{E:A1->A3->Prop}{s:A3}{b0:Array AG}{κ:SortKind}
def UpK(prog:AA)(w:AK)(A:AL)(s:A3)(κ:SortKind)(b0:Array AG):Prop:=
 ∀i x y,1<=i->b0[i]?=A0 x->b0[i-1]?=A0 y->∀(b:A1->A3->Prop)(a:Bool->A3->Prop),a A6 s->A8 (AD prog w) A (keyLt' κ x.1 y.1) a b s
theorem VW{st:AF}{i j:Nat}{x y:AG}{c:Bool}{Q:Option Bool->AF->Prop}(hi:(AQ st)[i]?=A0 x)(hj:(AQ st)[j]?=A0 y)
  (d:∀(b:A1->A3->Prop)(a:Bool->A3->Prop),a c s->A8 (AD prog w) A (keyLt' (kindOf st) x.1 y.1) a b s)(h:Q (A0 c) st):wpS (AD prog w) A E s (ltAt' i j) Q st:=by rw[ltAt'_eq];refine AC (wpS_get ?_);show wpS _ _ _ _ (do let x<-elem' (AQ st) i;let y<-elem' (AQ st) j;lt' x y) Q st;rw[elem'_eq,elem'_eq,hi,hj];refine AC (AE (AC (AE ?_)));rw[lt'_eq];refine AC (wpS_get ?_);refine AC (wpS_lift (cm (d _ _ ⟨rfl,?_⟩)));exact AE h
theorem VX{st:AF}{Q:AscSt->AF->Prop}(hu:UpK prog w A s (kindOf st) (AQ st))(h1:1<=(AQ st).size)(h:Q (A5,(AQ st).size) st):wpS (AD prog w) A E s (ascLoop 1 (AQ st).size) Q st:=by
 unfold ascLoop;refine wpS_forRange (I:=λx c a=>c=(A5,x)/\a=st) (Q:=Q) ?_ ?_ ⟨rfl,rfl⟩;.rintro i c a hi1 b⟨rfl,rfl⟩;refine AC (VW (x:=(AQ a)[i]) (y:=(AQ a)[i-1]) (c:=A6) (aD b) (aD ⋯) (hu i _ _ hi1 (aD b) (aD ⋯)) ?_);exact AE ⟨rfl,rfl⟩
 .rintro c a⟨rfl,rfl⟩;rw[Nat.max_eq_right h1];exact h
theorem VY{st:AF}{Q:Option Nat->AF->Prop}(hu:UpK prog w A s (kindOf st) (AQ st))(h1:1<=(AQ st).size)(h:Q (A0 (AQ st).size) st):wpS (AD prog w) A E s (countRun' 0 (AQ st).size) Q st:=by rw[countRun0_eq];refine AC (VX hu h1 ?_);dsimp only;rw[if_pos (by simp)];exact AE h
theorem VZ{st:AF}{Q:Unit->AF->Prop}(hu:UpK prog w A s (kindOf st) b0)(b:AQ st=b0)(d:AI st=#[])(g:Aa st=A5)(j:2<=b0.size)
  (h:∀a,AQ a=b0->Aa a=A5->Q () a):wpS (AD prog w) A E s sortRuns' Q st:=by
 rw[sortRuns'_eq];refine AC (wpS_get ?_);dsimp only;have f:minRun' b0.size b0.size 0<=b0.size:=VV;rw[b];generalize minRun' b0.size b0.size 0=i at f;refine AC (wpS_mono (wpS_forRange (I:=λx c a=>(x=0/\c=(A5,0)/\a=st)\/(1<=x/\c=(A5,b0.size)/\Md b0 a)) (Q:=λc a=>c=(A5,b0.size)/\Md b0 a) ?go ?out (.inl ⟨rfl,rfl,rfl⟩)) ?then_);case out=>
  rintro c a(⟨z,_,_⟩|⟨_,e,W⟩);.omega
  .exact⟨e,W⟩
 case go=>
  rintro x c a _ _(⟨rfl,rfl,rfl⟩|⟨_,rfl,W⟩)
  .dsimp only;rw[if_neg ⋯];simp only[Nat.sub_zero,Nat.zero_add];subst b;refine AC (VY hu ⋯ ?_);dsimp only;rw[if_neg ⋯];refine AC (wpS_get ?_);have e:(AI a).back?=A5:=by rw[d];rfl
   rw[e];dsimp only;refine AC (wpS_modify (AE (.inr ⟨⋯,rfl,rfl,g,?_⟩)));show(AI a).push _=_;rw[d];rfl
  .dsimp only;rw[if_pos (ag _)];exact AE ⟨rfl,W⟩
 case then_=>
  rintro c a⟨rfl,W⟩;dsimp only;refine AC (wpS_mono (wpS_forRange (I:=λ_ c t=>t=a/\c=(A5,())) (Q:=λc t=>t=a/\c=(A5,())) ?_ (λ_ _ z=>z) ⟨rfl,rfl⟩) ?_);.rintro x c t _ _⟨rfl,rfl⟩;refine AC (wpS_get ?_);rw[if_pos (by rw[W.2.2];exact ag 1)];exact AE ⟨rfl,rfl⟩
  .rintro c t⟨rfl,rfl⟩;exact AE (h _ W.1 W.2.1)
def UpV(prog:AA)(w:AK)(h0:AJ)(a:A4)(vs:List A1):Prop:=
 2<=vs.length->∃κ:SortKind,∀(A:AL)(s:A3),(∀b o,b≠a->h0.get? b=A0 o->s.heap.get? b=A0 o)->
  (∀(E:A1->A3->Prop)(Q:SortKind->A3->Prop),Q κ s->A8 (AD prog w) A (keyKind' vs.toArray) Q E s)/\UpK prog w A s κ (pairsOf vs)
theorem Va{a:A4}{vs:List A1}{n:Nat}{P:Fin->A3->Prop}(r:s.heap.get? a=A0 (Ai "list" vs.toArray n))(hu:UpV prog w s.heap a vs)(hz:vs.length<=A7)
  (h:P (.done (.ret .none)) {s with heap:=sortedHeap s.heap a vs vs.toArray}):A8 (AD prog w) A (AB.«list.sort» ⟨[.ref a],[]⟩) P E s:=by
 have v:(pairsOf vs).map (·.2)=vs.toArray:=by apply cX.mp;rw[du,pairsOf_toList,List.map_snd_zip (ag _)]
 rw[list_sort_plain];have x:a<s.heap.objs.size:=ak r;refine aa (listItems_at r rfl (aa (listUpdate_at r rfl ?_)));obtain⟨t,j⟩:∃t,(s.heap.update a (AS.mapSeq λ_=>#[])).get? a=A0 (Ai "list" #[] t):=⟨_,get?_update_seq r (λ_=>#[])⟩;refine aa (seqEpoch_at j rfl (aa (wpAny_newTuple (aa (wpAny_newList (aC ?_))))));have g:(((s.heap.update a (AS.mapSeq λ_=>#[])).push (Ai "tuple" vs.toArray 0)).push (Ai "list" #[] 0)).get? a=A0 (Ai "list" #[] t):=by rw[cj _ _ _ (by rw[size_push',cr];exact ax (bv x)),cj _ _ _ (by rw[cr];exact ax x)];exact j
 have l:∀b o,b≠a->s.heap.get? b=A0 o->(((s.heap.update a (AS.mapSeq λ_=>#[])).push (Ai "tuple" vs.toArray 0)).push (Ai "list" #[] 0)).get? b=A0 o:=λb o B q=>by have i:b<s.heap.objs.size:=ak q;rw[cj _ _ _ (by rw[size_push',cr];exact ax (bv i)),cj _ _ _ (by rw[cr];exact ax i),AJ.get?_update_ne _ _ _ _ B];exact q
 show A8 (AD prog w) A _ P E {s with heap:=((s.heap.update a (AS.mapSeq λ_=>#[])).push (Ai "tuple" vs.toArray 0)).push (Ai "list" #[] 0)};dsimp only;have f:=h;by_cases p:vs.toArray.size<2;.rw[if_pos p,if_pos p];refine aa (ab ?_);rw[StateT.run_pure];refine aa (ab ?_);dsimp only;refine aa (seqEpoch_at g rfl (aa (listUpdate_at g rfl ?_ (hsz2:=by rw[cx];show(pairsOf vs).size<=_;rw[pairsOf_size];exact dm hz))));simp only[bne_self_eq_false,aV,if_false];refine ab ?_;rw[<-v]at f;exact f
 .rw[if_neg p,if_neg p];have m:2<=vs.length:=by rw[au]at p;omega
  obtain⟨κ,u⟩:=hu m;obtain⟨C,I⟩:=u A {s with heap:=((s.heap.update a (AS.mapSeq λ_=>#[])).push (Ai "tuple" vs.toArray 0)).push (Ai "list" #[] 0)} l;refine aa (C _ _ ?_);refine aa (cY (VZ (b0:=pairsOf vs) (st:=AF.mk' κ (pairsOf vs) #[] 7 A5) (Q:=λ_ d=>AQ d=pairsOf vs/\Aa d=A5)
   I rfl rfl rfl (by rw[pairsOf_size];exact m) λd D G=>⟨D,G⟩) ?_ λ_ _ e=>e);rintro⟨⟨⟩,d⟩J⟨rfl,y,H⟩;dsimp only;refine aa (seqEpoch_at g rfl (aa (listUpdate_at g rfl ?_ (hsz2:=by rw[cx];show(AQ d).size<=_;rw[y,pairsOf_size];exact dm hz))));rw[H];simp only[bne_self_eq_false,aV,if_false];refine ab ?_;rw[<-v,<-y]at f;exact f
end
end L2
namespace So
open PySem PySem.Spec PyProof.Rows
def CY:Bool->AG->Array AG->Nat->Nat->Nat->StateT AF Sem (Option Nat):=sortPriv%PySem.Builtin.gallop
def GD:Array AG->Array AG->StateT AF Sem (Array AG):=sortPriv%PySem.Builtin.mergeLo
def GE:Array AG->Array AG->StateT AF Sem (Array AG):=sortPriv%PySem.Builtin.mergeHi
section
variable{M:Model}{A:AL}{E:A1->A3->Prop}{s:A3}{O:KeyOrd}{ky:AG->O.α}{P:AG->Prop}{kd:SortKind}
theorem C3{σ d o:Type}{a b:Nat}{f:Nat->d->StateT σ Sem (ForInStep d)}{g:d->StateT σ Sem o}{Q:o->σ->Prop}{c:d}{st:σ}(I:Nat->d->σ->Prop)(D:d->σ->Prop)(m:I a c st)
  (h:∀i c st,a<=i->i<b->I i c st->wpS M A E s (f i c) (λr l=>match r with| .done n=>D n l| .yield n=>I (i+1) n l) st)
  (j:∀c st,I (max a b) c st->D c st)(e:∀c st,D c st->wpS M A E s (g c) Q st):wpS M A E s (forIn [a:b] c f>>=g) Q st:=
 AC (wpS_mono (wpS_forRange I h j m) e)
theorem Bc{a:Array AG}{i:Nat}{x:AG}{Q:AG->AF->Prop}{st:AF}(e:a[i]?=A0 x)(h:Q x st):wpS M A E s (elem' a i) Q st:=by rw[elem'_eq,e];exact AE h
def bey(a:Bool)(key:AG)(b:Array AG)(i:Nat):StateT AF Sem (Option Bool):=do
  let x<-elem' b i
  if a then lt' x key else return(<-lt' key x).map (!·)
def GF(a:Bool)(key:AG)(e:Array AG)(base n l h:Nat):StateT AF Sem (Option Nat):=do
 let mut b:=l
 let mut d:=h
 for _ in [0:n]do
  if b≥d then break
  let m:=b+(d-b)/2
  let A0 more<-bey a key e (base+m)|return A5
  if more then b:=m+1 else d:=m
 return A0 d
theorem Vb(b:Bool)(key:AG)(d:Array AG)(base n a:Nat):CY b key d base n a=(do
 let mut u:=0
 let mut v:=1
 let A0 right<-bey b key d (base+a)|return A5
 if right then
  for _ in [0:n]do
   if v≥n-a then break
   let A0 more<-bey b key d (base+(a+v))|return A5
   if !more then break
   u:=v
   v:=2*v+1
  GF b key d base n (a+u+1) (a+min v (n-a))
 else
  for _ in [0:n]do
   if v≥a+1 then break
   let A0 found<-bey b key d (base+(a-v))|return A5
   if found then break
   u:=v
   v:=2*v+1
  GF b key d base n (a+1-min v (a+1)) (a-u)):=rfl
end
section
variable{M:Model}{A:AL}{E:A1->A3->Prop}{s:A3}{O:KeyOrd}{ky:AG->O.α}{P:AG->Prop}{kd:SortKind}
def B6(st a:AF):Prop:=kindOf a=kindOf st/\AQ a=AQ st/\AI a=AI st/\Aa a=Aa st
theorem B6.rfl'(st:AF):B6 st st:=⟨rfl,rfl,rfl,rfl⟩
theorem B6.trans{a b c:AF}(h:B6 a b)(g:B6 b c):B6 a c:=⟨g.1.trans h.1,g.2.1.trans h.2.1,g.2.2.1.trans h.2.2.1,g.2.2.2.trans h.2.2.2⟩
theorem B6.set(st:AF)(m:Nat):B6 st (AF.mk' (kindOf st) (AQ st) (AI st) m (Aa st)):=⟨rfl,rfl,rfl,rfl⟩
theorem Bp{a:Array AG}{i:Nat}(h:i<a.size):∃p,a[i]?=A0 p/\p∈a.toList:=⟨a[i],by simp,by simp⟩
theorem Me{a:Array AG}{i:Nat}{p:AG}(e:a[i]?=A0 p):a.toList.drop i=p::a.toList.drop (i+1):=by
 have b:i<a.size:=by
  rcases Nat.lt_or_ge i a.size with h|h;.exact h
  .rw[Array.getElem?_eq_none h]at e;cases e
 have:a[i]=p:=by rw[aD b]at e;exact Option.some.inj e
 rw[List.drop_eq_getElem_cons (by simpa using b)];simp[this]
theorem D1(a:Array AG)(i j:Nat):(a.extract i j).toList=(a.toList.drop i).take (j-i):=by simp
theorem GG(a:Array AG)(i:Nat):(a.extract i a.size).toList=a.toList.drop i:=by rw[D1,br];simp
theorem GH(l:List AG)(i k:Nat):l.drop i=(l.drop i).take k++l.drop (i+k):=by rw[<-List.drop_drop,bY]
end
section
variable{M:Model}{A:AL}{E:A1->A3->Prop}{s:A3}{O:KeyOrd}{ky:AG->O.α}{P:AG->Prop}{kd:SortKind}{x y:Array AG}
theorem Mg{m:Nat}{st:AF}{Q:PUnit->AF->Prop}(h:∀a,B6 st a->Q ⟨⟩ a):wpS M A E s (modify λst=>AF.mk' (kindOf st) (AQ st) (AI st) m (Aa st)) Q st:=
 wpS_modify (h _ (B6.set _ _))
def dnL(x y o:Array AG)(i j:Nat):Array AG:=o++x.extract i x.size++y.extract j y.size
def laL(x y o:Array AG)(i j:Nat):Array AG:=o++y.extract j y.size++x.extract i x.size
abbrev SG:Type:=Option (Array AG)×Array AG×Nat×Nat×Nat×Nat×Nat
def lo3(x y o:Array AG)(i j mg ca cb:Nat):StateT AF Sem (ForInStep SG):=do
 let p<-elem' x i
 if(i+1+1==x.size)=A2 then pure (.done (A0 (laL x y (o.push p) (i+1) j),o.push p,i+1,j,mg,ca,cb))
 else if(decide (ca<7)&&decide (cb<7))=A2 then pure (.done (A5,o.push p,i+1,j,mg,ca,cb))else pure (.yield (A5,o.push p,i+1,j,mg,ca,cb))
def lo2(x y o:Array AG)(i j mg ca cb:Nat):StateT AF Sem (ForInStep SG):=do
 let q<-elem' y j
 if(j+1==y.size)=A2 then pure (.done (A0 (dnL x y (o.push q) i (j+1)),o.push q,i,j+1,mg,ca,cb))
 else do
  let p<-elem' x i
  let r<-CY A2 p y (j+1) (y.size-(j+1)) 0
  match r with
  |A0 k=>
   if k>0 then
    if(j+1+k==y.size)=A2 then pure (.done (A0 (dnL x y (o.push q++y.extract (j+1) (j+1+k)) i (j+1+k)),o.push q++y.extract (j+1) (j+1+k),i,j+1+k,mg,ca,k))
    else lo3 x y (o.push q++y.extract (j+1) (j+1+k)) i (j+1+k) mg ca k
   else lo3 x y (o.push q) i (j+1) mg ca k
  |_=>pure (.done (A0 (dnL x y (o.push q) i (j+1)),o.push q,i,j+1,mg,ca,cb))
def lo1(x y o:Array AG)(i j mg ca cb:Nat):StateT AF Sem (ForInStep SG):=do
 modify λa=>AF.mk' (kindOf a) (AQ a) (AI a) mg (Aa a)
 let q<-elem' y j
 let r<-CY A6 q x i (x.size-i) 0
 match r with
 |A0 k=>
  if k>0 then
   if(i+k+1==x.size)=A2 then pure (.done (A0 (laL x y (o++x.extract i (i+k)) (i+k) j),o++x.extract i (i+k),i+k,j,mg,k,cb))
   else if(i+k==x.size)=A2 then pure (.done (A0 (dnL x y (o++x.extract i (i+k)) (i+k) j),o++x.extract i (i+k),i+k,j,mg,k,cb))
   else lo2 x y (o++x.extract i (i+k)) (i+k) j mg k cb
  else lo2 x y o i j mg k cb
 |_=>pure (.done (A0 (dnL x y o i j),o,i,j,mg,ca,cb))
abbrev SI:Type:=Option (Array AG)×Array AG×Nat×Nat×Nat×Nat
abbrev SO:Type:=Option (Array AG)×Array AG×Nat×Nat×Nat
def loI(x y:Array AG)(o:Array AG)(i j mg ca cb:Nat):StateT AF Sem (ForInStep SI):=do
 let q<-elem' y j
 let p<-elem' x i
 let r<-lt' q p
 match r with
 |A0 b=>
  if b=A2 then do
   let q<-elem' y j
   if(j+1==y.size)=A2 then pure (.done (A0 (dnL x y (o.push q) i (j+1)),o.push q,i,j+1,0,cb+1))
   else if cb+1≥mg then pure (.done (A5,o.push q,i,j+1,0,cb+1))else pure (.yield (A5,o.push q,i,j+1,0,cb+1))
  else do
   let p<-elem' x i
   if(i+1+1==x.size)=A2 then pure (.done (A0 (laL x y (o.push p) (i+1) j),o.push p,i+1,j,ca+1,0))
   else if ca+1≥mg then pure (.done (A5,o.push p,i+1,j,ca+1,0))else pure (.yield (A5,o.push p,i+1,j,ca+1,0))
 |_=>pure (.done (A0 (dnL x y o i j),o,i,j,ca,cb))
def loG(x y:Array AG)(u:SG):StateT AF Sem (ForInStep SG):=
 if u.2.2.2.2.1>1 then lo1 x y u.2.1 u.2.2.1 u.2.2.2.1 (u.2.2.2.2.1-1) u.2.2.2.2.2.1 u.2.2.2.2.2.2 else lo1 x y u.2.1 u.2.2.1 u.2.2.2.1 u.2.2.2.2.1 u.2.2.2.2.2.1 u.2.2.2.2.2.2
def loO(x y:Array AG)(c:SO):StateT AF Sem (ForInStep SO):=do
 let r<-forIn [0:x.size+y.size] ((A5,c.2.1,c.2.2.1,c.2.2.2.1,0,0):SI) λ_ r=>loI x y r.2.1 r.2.2.1 r.2.2.2.1 c.2.2.2.2 r.2.2.2.2.1 r.2.2.2.2.2
 match r.1 with
 |A0 v=>pure (.done (A0 v,r.2.1,r.2.2.1,r.2.2.2.1,c.2.2.2.2))
 |A5=>do
  liftM (rule "list.sort.gallop")
  let u<-forIn [0:x.size+y.size] ((A5,r.2.1,r.2.2.1,r.2.2.2.1,c.2.2.2.2+1,r.2.2.2.2.1,r.2.2.2.2.2):SG) λ_ u=>loG x y u
  match u.1 with
  |A0 v=>pure (.done (A0 v,u.2.1,u.2.2.1,u.2.2.2.1,u.2.2.2.2.1))
  |A5=>do
   modify λa=>AF.mk' (kindOf a) (AQ a) (AI a) (u.2.2.2.2.1+1) (Aa a)
   pure (.yield (A5,u.2.1,u.2.2.1,u.2.2.2.1,u.2.2.2.2.1+1))
theorem Vc(x y:Array AG):GD x y=(do
 rule "list.sort.merge-lo"
 let t:=x.size+y.size
 let d(o:Array AG)(i j:Nat):=o++x.extract i x.size++y.extract j y.size
 let f(o:Array AG)(i j:Nat):=o++y.extract j y.size++x.extract i x.size
 let mut o:Array AG:=#[<-elem' y 0]
 let mut i:=0
 let mut j:=1
 if j==y.size then return d o i j
 if i+1==x.size then return f o i j
 let mut a:=gallopOf (<-get)
 for _ in [0:t]do
  let mut e:=0
  let mut cb:=0
  for _ in [0:t]do
   let A0 bw<-lt' (<-elem' y j) (<-elem' x i)|return d o i j
   if bw then
    o:=o.push (<-elem' y j);j:=j+1;cb:=cb+1;e:=0
    if j==y.size then return d o i j
    if cb≥a then break
   else
    o:=o.push (<-elem' x i);i:=i+1;e:=e+1;cb:=0
    if i+1==x.size then return f o i j
    if e≥a then break
  rule "list.sort.gallop"
  a:=a+1
  for _ in [0:t]do
   if a>1 then a:=a-1
   modify λb=>AF.mk' (kindOf b) (AQ b) (AI b) a (Aa b)
   let A0 k<-CY A6 (<-elem' y j) x i (x.size-i) 0|return d o i j
   e:=k
   if k>0 then
    o:=o++x.extract i (i+k);i:=i+k
    if i+1==x.size then return f o i j
    if i==x.size then return d o i j
   o:=o.push (<-elem' y j);j:=j+1
   if j==y.size then return d o i j
   let A0 k<-CY A2 (<-elem' x i) y j (y.size-j) 0|return d o i j
   cb:=k
   if k>0 then
    o:=o++y.extract j (j+k);j:=j+k
    if j==y.size then return d o i j
   o:=o.push (<-elem' x i);i:=i+1
   if i+1==x.size then return f o i j
   if e<7&&cb<7 then break
  a:=a+1
  modify λb=>AF.mk' (kindOf b) (AQ b) (AI b) a (Aa b)
 unsupported "internal:list.sort.merge-bound"):=rfl
theorem By{a b:Type}{t:Std.Legacy.Range}{c:a}{f g:Nat->a->StateT AF Sem (ForInStep a)}{u v:a->StateT AF Sem b}(h:∀n c,f n c=g n c)(k:∀c,u c=v c):(forIn t c f>>=u)=(forIn t c g>>=v):=by rw[show f=g from funext λn=>funext λc=>h n c,show u=v from funext k]
theorem BF{b d:Type}{m:StateT AF Sem b}{u v:b->StateT AF Sem d}(h:∀a,u a=v a):(m>>=u)=(m>>=v):=by rw[show u=v from funext h]
theorem CG{f:Type}{c:Prop} [Decidable c]{a b d e:f}(h:a=d)(k:b=e):(if c then a else b)=(if c then d else e):=by rw[h,k]
def loM(x y:Array AG):StateT AF Sem (Array AG):=do
 liftM (rule "list.sort.merge-lo")
 let q<-elem' y 0
 if(1==y.size)=A2 then pure (dnL x y #[q] 0 1)
 else if(0+1==x.size)=A2 then pure (laL x y #[q] 0 1)
 else do
  let a<-get
  let r<-forIn [0:x.size+y.size] ((A5,#[q],0,1,gallopOf a):SO) λ_ r=>loO x y r
  match r.1 with
  |A0 v=>pure v
  |A5=>unsupported "internal:list.sort.merge-bound"
theorem Vd(x y:Array AG):GD x y=loM x y:=by
 refine(Vc x y).trans ?_;refine BF λ_=>BF λq=>CG rfl (CG rfl (BF λd=>By (λn c=>?_) λc=>by obtain⟨a,e⟩:=c;cases a<;>rfl));refine By (λn c=>rfl) λc=>?_;obtain⟨a,o,i,j,b,cb⟩:=c;cases a
 .refine BF λ_=>By (λn c=>rfl) λc=>?_;obtain⟨a,o,i,j,f,b,cb⟩:=c;cases a;.rfl
  .rfl
 .rfl
end
def dnH(x y o:Array AG)(i j:Nat):Array AG:=x.extract 0 i++y.extract 0 j++o.reverse
def fbH(x y o:Array AG)(i j:Nat):Array AG:=y.extract 0 j++x.extract 0 i++o.reverse
abbrev TG:Type:=Option (Array AG)×Nat×Nat×Array AG×Nat×Nat×Nat
abbrev TI:Type:=Option (Array AG)×Nat×Nat×Array AG×Nat×Nat
abbrev TO:Type:=Option (Array AG)×Nat×Nat×Array AG×Nat
def hi3(x y:Array AG)(i j:Nat)(o:Array AG)(mg ca cb:Nat):StateT AF Sem (ForInStep TG):=do
 let p<-elem' x (i-1)
 if(i-1==0)=A2 then pure (.done (A0 (dnH x y (o.push p) (i-1) j),i-1,j,o.push p,mg,ca,cb))
 else if(decide (ca<7)&&decide (cb<7))=A2 then pure (.done (A5,i-1,j,o.push p,mg,ca,cb))else pure (.yield (A5,i-1,j,o.push p,mg,ca,cb))
def hi2(x y:Array AG)(i j:Nat)(o:Array AG)(mg ca cb:Nat):StateT AF Sem (ForInStep TG):=do
 let q<-elem' y (j-1)
 if(j-1==1)=A2 then pure (.done (A0 (fbH x y (o.push q) i (j-1)),i,j-1,o.push q,mg,ca,cb))
 else do
  let p<-elem' x (i-1)
  let r<-CY A2 p y 0 (j-1) (j-1-1)
  match r with
  |A0 z=>
   if j-1-z>0 then
    if(z==1)=A2 then pure (.done (A0 (fbH x y (o.push q++(y.extract z (j-1)).reverse) i z),i,z,o.push q++(y.extract z (j-1)).reverse,mg,ca,j-1-z))
    else if(z==0)=A2 then pure (.done (A0 (dnH x y (o.push q++(y.extract z (j-1)).reverse) i z),i,z,o.push q++(y.extract z (j-1)).reverse,mg,ca,j-1-z))
    else hi3 x y i z (o.push q++(y.extract z (j-1)).reverse) mg ca (j-1-z)
   else hi3 x y i (j-1) (o.push q) mg ca (j-1-z)
  |_=>pure (.done (A0 (dnH x y (o.push q) i (j-1)),i,j-1,o.push q,mg,ca,cb))
def hi1(x y:Array AG)(i j:Nat)(o:Array AG)(mg ca cb:Nat):StateT AF Sem (ForInStep TG):=do
 modify λa=>AF.mk' (kindOf a) (AQ a) (AI a) mg (Aa a)
 let q<-elem' y (j-1)
 let r<-CY A6 q x 0 i (i-1)
 match r with
 |A0 z=>
  if i-z>0 then
   if(z==0)=A2 then pure (.done (A0 (dnH x y (o++(x.extract z i).reverse) z j),z,j,o++(x.extract z i).reverse,mg,i-z,cb))
   else hi2 x y z j (o++(x.extract z i).reverse) mg (i-z) cb
  else hi2 x y i j o mg (i-z) cb
 |_=>pure (.done (A0 (dnH x y o i j),i,j,o,mg,ca,cb))
def hiI(x y:Array AG)(i j:Nat)(o:Array AG)(mg ca cb:Nat):StateT AF Sem (ForInStep TI):=do
 let q<-elem' y (j-1)
 let p<-elem' x (i-1)
 let r<-lt' q p
 match r with
 |A0 b=>
  if b=A2 then do
   let p<-elem' x (i-1)
   if(i-1==0)=A2 then pure (.done (A0 (dnH x y (o.push p) (i-1) j),i-1,j,o.push p,ca+1,0))
   else if ca+1≥mg then pure (.done (A5,i-1,j,o.push p,ca+1,0))else pure (.yield (A5,i-1,j,o.push p,ca+1,0))
  else do
   let q<-elem' y (j-1)
   if(j-1==1)=A2 then pure (.done (A0 (fbH x y (o.push q) i (j-1)),i,j-1,o.push q,0,cb+1))
   else if cb+1≥mg then pure (.done (A5,i,j-1,o.push q,0,cb+1))else pure (.yield (A5,i,j-1,o.push q,0,cb+1))
 |_=>pure (.done (A0 (dnH x y o i j),i,j,o,ca,cb))
def hiG(x y:Array AG)(u:TG):StateT AF Sem (ForInStep TG):=
 if u.2.2.2.2.1>1 then hi1 x y u.2.1 u.2.2.1 u.2.2.2.1 (u.2.2.2.2.1-1) u.2.2.2.2.2.1 u.2.2.2.2.2.2 else hi1 x y u.2.1 u.2.2.1 u.2.2.2.1 u.2.2.2.2.1 u.2.2.2.2.2.1 u.2.2.2.2.2.2
def hiO(x y:Array AG)(c:TO):StateT AF Sem (ForInStep TO):=do
 let r<-forIn [0:x.size+y.size] ((A5,c.2.1,c.2.2.1,c.2.2.2.1,0,0):TI) λ_ r=>hiI x y r.2.1 r.2.2.1 r.2.2.2.1 c.2.2.2.2 r.2.2.2.2.1 r.2.2.2.2.2
 match r.1 with
 |A0 v=>pure (.done (A0 v,r.2.1,r.2.2.1,r.2.2.2.1,c.2.2.2.2))
 |A5=>do
  liftM (rule "list.sort.gallop")
  let u<-forIn [0:x.size+y.size] ((A5,r.2.1,r.2.2.1,r.2.2.2.1,c.2.2.2.2+1,r.2.2.2.2.1,r.2.2.2.2.2):TG) λ_ u=>hiG x y u
  match u.1 with
  |A0 v=>pure (.done (A0 v,u.2.1,u.2.2.1,u.2.2.2.1,u.2.2.2.2.1))
  |A5=>do
   modify λa=>AF.mk' (kindOf a) (AQ a) (AI a) (u.2.2.2.2.1+1) (Aa a)
   pure (.yield (A5,u.2.1,u.2.2.1,u.2.2.2.1,u.2.2.2.2.1+1))
theorem Ve(x y:Array AG):GE x y=(do
 rule "list.sort.merge-hi"
 let t:=x.size+y.size
 let d(o:Array AG)(i j:Nat):=x.extract 0 i++y.extract 0 j++o.reverse
 let f(o:Array AG)(i j:Nat):=y.extract 0 j++x.extract 0 i++o.reverse
 let mut i:=x.size-1
 let mut j:=y.size
 let mut o:Array AG:=#[<-elem' x i]
 if i==0 then return d o i j
 if j==1 then return f o i j
 let mut a:=gallopOf (<-get)
 for _ in [0:t]do
  let mut e:=0
  let mut cb:=0
  for _ in [0:t]do
   let A0 aw<-lt' (<-elem' y (j-1)) (<-elem' x (i-1))|return d o i j
   if aw then
    i:=i-1;o:=o.push (<-elem' x i);e:=e+1;cb:=0
    if i==0 then return d o i j
    if e≥a then break
   else
    j:=j-1;o:=o.push (<-elem' y j);cb:=cb+1;e:=0
    if j==1 then return f o i j
    if cb≥a then break
  rule "list.sort.gallop"
  a:=a+1
  for _ in [0:t]do
   if a>1 then a:=a-1
   modify λb=>AF.mk' (kindOf b) (AQ b) (AI b) a (Aa b)
   let A0 z<-CY A6 (<-elem' y (j-1)) x 0 i (i-1)|return d o i j
   let k:=i-z
   e:=k
   if k>0 then
    o:=o++(x.extract z i).reverse;i:=z
    if i==0 then return d o i j
   j:=j-1;o:=o.push (<-elem' y j)
   if j==1 then return f o i j
   let A0 z<-CY A2 (<-elem' x (i-1)) y 0 j (j-1)|return d o i j
   let k:=j-z
   cb:=k
   if k>0 then
    o:=o++(y.extract z j).reverse;j:=z
    if j==1 then return f o i j
    if j==0 then return d o i j
   i:=i-1;o:=o.push (<-elem' x i)
   if i==0 then return d o i j
   if e<7&&cb<7 then break
  a:=a+1
  modify λb=>AF.mk' (kindOf b) (AQ b) (AI b) a (Aa b)
 unsupported "internal:list.sort.merge-bound"):=rfl
def hiM(x y:Array AG):StateT AF Sem (Array AG):=do
 liftM (rule "list.sort.merge-hi")
 let p<-elem' x (x.size-1)
 if(x.size-1==0)=A2 then pure (dnH x y #[p] (x.size-1) y.size)
 else if(y.size==1)=A2 then pure (fbH x y #[p] (x.size-1) y.size)
 else do
  let a<-get
  let r<-forIn [0:x.size+y.size] ((A5,x.size-1,y.size,#[p],gallopOf a):TO) λ_ r=>hiO x y r
  match r.1 with
  |A0 v=>pure v
  |A5=>unsupported "internal:list.sort.merge-bound"
theorem Vf(x y:Array AG):GE x y=hiM x y:=by
 refine(Ve x y).trans ?_;refine BF λ_=>BF λq=>CG rfl (CG rfl (BF λd=>By (λn c=>?_) λc=>by obtain⟨a,e⟩:=c;cases a<;>rfl));refine By (λn c=>rfl) λc=>?_;obtain⟨a,o,i,j,b,cb⟩:=c;cases a
 .refine BF λ_=>By (λn c=>rfl) λc=>?_;obtain⟨a,o,i,j,f,b,cb⟩:=c;cases a;.rfl
  .rfl
 .rfl
section
variable{M:Model}{A:AL}{E:A1->A3->Prop}{s:A3}{O:KeyOrd}{ky:AG->O.α}{P:AG->Prop}{kd:SortKind}{x y:Array AG}
theorem GI(a:Array AG)(i:Nat):(a.extract 0 i).toList=a.toList.take i:=by rw[D1];simp
theorem Vg(l:List AG){z i:Nat}(h:z<=i):(l.take i).reverse=((l.drop z).take (i-z)).reverse++(l.take z).reverse:=by rw[<-List.reverse_append];congr 1;rw[<-bY z (l.take i),List.take_take,List.drop_take];congr 2;omega
end
theorem Vh(i:Nat):mergeAt' i=(do
 let z<-get
 let(A0 (d,b,pw),A0 (sv,nv,_)):=((AI z)[i]?,(AI z)[i+1]?)|unsupported "internal:list.sort.pending"
 set (AF.mk' (kindOf z) (AQ z) (((AI z).setIfInBounds i (d,b+nv,pw)).eraseIdxIfInBounds (i+1)) (gallopOf z) (Aa z))
 let A0 k<-CY A6 (<-elem' (AQ z) sv) (AQ z) d b 0|return A6
 let(d,b):=(d+k,b-k)
 if b==0 then return A2
 let A0 nv<-CY A2 (<-elem' (AQ z) (d+b-1)) (AQ z) sv nv (nv-1)|return A6
 if nv==0 then return A2
 let x:=(AQ z).extract d sv
 let y:=(AQ z).extract sv (sv+nv)
 let e<-if b<=nv then GD x y else GE x y
 modify λz=>setArr z (e.toList.zipIdx.foldl (λa(p,j)=>a.setIfInBounds (d+j) p) (AQ z))
 return(Aa (<-get)).isNone):=rfl
section
variable{M:Model}{A:AL}{E:A1->A3->Prop}{s:A3}{O:KeyOrd}{ky:AG->O.α}{P:AG->Prop}{kd:SortKind}
theorem Vi{σ:Type}{st st2:σ}{Q:PUnit->σ->Prop}(h:Q ⟨⟩ st2):wpS M A E s (set st2:StateT σ Sem PUnit) Q st:=by unfold wpS;rw[StateT.run_set];exact ab ⟨rfl,h⟩
theorem Mh{b:Nat}{C:List AG}:∀(l B A:List AG)(n:Nat)(d:Array AG),d.toList=A++(B++C)->B.length=l.length->A.length=b+n->
  ((l.zipIdx n).foldl (λa(x:AG×Nat)=>a.setIfInBounds (b+x.2) x.1) d).toList=A++(l++C)
 | [],B,A,n,d,e,h,_=>by have:B=[]:=cu h;subst this;simpa using e
 |p::l,[],A,n,d,e,h,_=>by simp at h
 |p::l,q::B,A,n,d,e,h,g=>by
  rw[List.zipIdx_cons,List.foldl_cons];have i:(d.setIfInBounds (b+n) p).toList=(A++[p])++(B++C):=by rw[Array.toList_setIfInBounds,e,<-g,List.set_append_right _ _ (ag _)];simp
  have f:(A++[p]).length=b+(n+1):=by rw[aA,g];rfl
  have j:=Mh (b:=b) l B (A++[p]) (n+1) (d.setIfInBounds (b+n) p) i (by simpa using h) f;refine j.trans ?_;simp
end
def cT(d n a:Nat):StateT AF Sem (Option Nat):=do
 reverseSlice' d (d+n)
 let r<-forIn [n:a] ((A5,n):Option (Option Nat)×Nat) λ_ r=>do
  let x<-ltAt' (d+r.2) (d+r.2-1)
  match x with
  |A0 b=>if b=A2 then pure (ForInStep.done (A5,r.2))else pure (ForInStep.yield (A5,r.2+1))
  |_=>pure (ForInStep.done (A0 A5,r.2))
 match r.1 with
 |A0 v=>pure v
 |A5=>pure (A0 r.2)
def cS(a n e:Nat):StateT AF Sem (ForInStep (Option (Option Nat)×Nat×Nat)):=do
 let x<-ltAt' (a+n) (a+n-1)
 match x with
 |A0 b=>
  if b=A2 then
   if e>0 then do
    reverseSlice' (a+n-(e+1)) (a+n)
    pure (ForInStep.yield (A5,n+1,0))
   else pure (ForInStep.yield (A5,n+1,0))
  else do
   let x<-ltAt' (a+n-1) (a+n)
   match x with
   |A0 b=>if b=A2 then pure (ForInStep.done (A5,n,e))else pure (ForInStep.yield (A5,n+1,e+1))
   |_=>pure (ForInStep.done (A0 A5,n,e))
 |_=>pure (ForInStep.done (A0 A5,n,e))
def cD(b n a:Nat):StateT AF Sem (Option Nat):=do
 liftM (rule "list.sort.descending-run")
 let r<-forIn [n+1:a] ((A5,n+1,0):Option (Option Nat)×Nat×Nat) λ_ r=>cS b r.2.1 r.2.2
 match r.1 with
 |A0 v=>pure v
 |A5=>if r.2.2>0 then(reverseSlice' (b+r.2.1-(r.2.2+1)) (b+r.2.1)>>=λ_=>cT b r.2.1 a)else cT b r.2.1 a
def cM(d a:Nat):StateT AF Sem (Option Nat):=do
 let r<-forIn [1:a] ((A5,1):Option (Option Nat)×Nat) λ_ r=>do
  let x<-ltAt' (d+r.2) (d+r.2-1)
  match x with
  |A0 b=>if b=A2 then pure (ForInStep.done (A5,r.2))else pure (ForInStep.yield (A5,r.2+1))
  |_=>pure (ForInStep.done (A0 A5,r.2))
 match r.1 with
 |A0 v=>pure v
 |A5=>if(r.2==a)=A2 then pure (A0 r.2)else if r.2>1 then(ltAt' d (d+r.2-1)>>=λx=>match x with
   |A0 b=>if b=A2 then pure (A0 r.2)else(reverseSlice' d (d+r.2)>>=λ_=>cD d r.2 a)
   |_=>pure A5)else cD d r.2 a
theorem Vj(f d:Nat):countRun' f d=cM f d:=by
 refine(countRun'_eq f d).trans ?_;refine By (λn c=>?_) λc=>?_;.refine BF λx=>?_;cases x<;>rfl
 obtain⟨a,n⟩:=c;cases a
 .refine CG rfl (CG (BF λx=>?_) ?_)
  .cases x with
   |none=>rfl
   |some b=>
    refine CG rfl (BF λ_=>?_);refine BF λ_=>By (λn c=>?_) λc=>?_
    .refine BF λx=>?_;cases x with
     |none=>rfl
     |some b=>exact CG rfl (BF λx=>by cases x<;>rfl)
    .obtain⟨a,n,e⟩:=c;cases a;.refine CG (BF λ_=>BF λ_=>By (λn c=>BF λx=>by cases x<;>rfl) λc=>by obtain⟨a,n⟩:=c;cases a<;>rfl) (BF λ_=>By (λn c=>BF λx=>by cases x<;>rfl) λc=>by obtain⟨a,n⟩:=c;cases a<;>rfl)
     .rfl
  .refine BF λ_=>By (λn c=>?_) λc=>?_
   .refine BF λx=>?_;cases x with
    |none=>rfl
    |some b=>exact CG rfl (BF λx=>by cases x<;>rfl)
   .obtain⟨a,n,e⟩:=c;cases a;.refine CG (BF λ_=>BF λ_=>By (λn c=>BF λx=>by cases x<;>rfl) λc=>by obtain⟨a,n⟩:=c;cases a<;>rfl) (BF λ_=>By (λn c=>BF λx=>by cases x<;>rfl) λc=>by obtain⟨a,n⟩:=c;cases a<;>rfl)
    .rfl
 .rfl
def sP(a n:Nat):StateT AF Sem (ForInStep (Option Unit×Nat)):=do
 modify λs=>setPending s ((AI s).push (a,n,0))
 pure (ForInStep.yield (A5,a+n))
def sT(z g n:Nat):StateT AF Sem (ForInStep (Option Unit×Nat)):=do
 let d<-get
 match(AI d).back? with
 |A0 (f,e,_)=>do
  let r<-forIn [0:z] ((A5,()):Option Unit×Unit) λ_ _=>do
   let d<-get
   match(if(AI d).size>1 then(AI d)[(AI d).size-2]? else A5)with
   |A0 (_,_,a)=>(if a<=power' z (2*f+e) (2*f+e+e+n) z then pure (ForInStep.done (A5,()))else mergeAt' ((AI d).size-2)>>=λb=>if(!b)=A2 then pure (ForInStep.done (A0 (),()))else pure (ForInStep.yield (A5,())))
   |_=>pure (ForInStep.done (A5,()))
  match r.1 with
  |A0 v=>pure (ForInStep.done (A0 v,g))
  |A5=>do
   modify λs=>setPending s ((AI s).modify ((AI s).size-1) λ(x:Nat×Nat×Nat)=>(x.1,x.2.1,power' z (2*f+e) (2*f+e+e+n) z))
   sP g n
 |_=>sP g n
def sB(z d a:Nat):StateT AF Sem (ForInStep (Option Unit×Nat)):=
 if a≥z then pure (ForInStep.done (A5,a))else countRun' a (z-a)>>=λx=>match x with
  |A0 m=>if m<d then(liftM (rule "list.sort.binary-insertion")>>=λ(_:Unit)=>binarySort' a (min (z-a) d) m>>=λb=>if(!b)=A2 then pure (ForInStep.done (A0 (),a))else sT z a (min (z-a) d))else sT z a m
  |_=>pure (ForInStep.done (A0 (),a))
def sC(z:Nat):StateT AF Sem (ForInStep (Option Unit×Unit)):=do
 let a<-get
 if(AI a).size<=1 then pure (ForInStep.done (A5,()))
 else mergeAt' (if(if(AI a).size-2>0 then((AI a)[(AI a).size-2-1]?).map (·.2.1)else A5).any (λx=>decide (x<((AI a)[(AI a).size-2+1]?.elim 0 (·.2.1))))=A2 then(AI a).size-2-1 else(AI a).size-2)>>=λb=>
  if(!b)=A2 then pure (ForInStep.done (A0 (),()))else pure (ForInStep.yield (A5,()))
def sM:StateT AF Sem Unit:=do
 let a<-get
 let r<-forIn [0:(AQ a).size] ((A5,0):Option Unit×Nat) λ_ r=>sB (AQ a).size (minRun' (AQ a).size (AQ a).size 0) r.2
 match r.1 with
 |A0 v=>pure v
 |A5=>do
  let u<-forIn [0:(AQ a).size] ((A5,()):Option Unit×Unit) λ_ _=>sC (AQ a).size
  match u.1 with
  |A0 v=>pure v
  |A5=>pure ()
theorem Vk:sortRuns'=sM:=by
 refine sortRuns'_eq.trans ?_;refine BF λi=>By (λn c=>?_) λc=>?_
 .refine CG rfl (BF λx=>?_);cases x with
  |none=>rfl
  |some m=>
   refine CG (BF λ_=>BF λb=>CG rfl (BF λst2=>?_)) (BF λst2=>?_)
   .cases h:(AI st2).back? with
    |none=>rfl
    |some p=>
     obtain⟨f,g,w⟩:=p;refine By (λn c=>BF λa=>?_) λc=>?_;.dsimp only;cases(if(AI a).size>1 then(AI a)[(AI a).size-2]? else A5)<;>rfl
     .obtain⟨d,e⟩:=c;cases d<;>rfl
   .cases h:(AI st2).back? with
    |none=>rfl
    |some p=>
     obtain⟨f,g,w⟩:=p;refine By (λn c=>BF λa=>?_) λc=>?_;.dsimp only;cases(if(AI a).size>1 then(AI a)[(AI a).size-2]? else A5)<;>rfl
     .obtain⟨d,e⟩:=c;cases d<;>rfl
 .obtain⟨d,e⟩:=c;cases d;.refine By (λn c=>rfl) λc=>?_;obtain⟨d,e⟩:=c;cases d<;>rfl
  .rfl
end So
namespace L2
open PySem PySem.Spec PyProof.Rows So
section
variable{prog:AA}{w:AK}{A:AL}{E:A1->A3->Prop}{s:A3}
def JC(prog:AA)(w:AK)(h0:AJ)(a:A4)(vs:List A1)(O:KeyOrd)(kv:A1->O.α):Prop:=
 2<=vs.length->∃d:SortKind,∀(A:AL)(s:A3),(∀b o,b≠a->h0.get? b=A0 o->s.heap.get? b=A0 o)->
  (∀(E:A1->A3->Prop)(Q:SortKind->A3->Prop),Q d s->A8 (AD prog w) A (keyKind' vs.toArray) Q E s)/\
  ∀x y,x∈vs->y∈vs->∀(E:A1->A3->Prop)(Q:Bool->A3->Prop),Q (O.blt (kv x) (kv y)) s->A8 (AD prog w) A (keyLt' d x y) Q E s
end
abbrev Itm:Type:=Int⊕PySem.Str
def Cg:Itm->Itm->Bool
 | .inl i,.inl j=>decide (i<j)
 | .inl _,.inr _=>A2
 | .inr _,.inl _=>A6
 | .inr x,.inr y=>decide (x.cps.toList<y.cps.toList)
def BI:List Itm->List Itm->Bool
 | [],[]=>A6
 | [],_::_=>A2
 |_::_,[]=>A6
 |a::l,b::m=>if a=b then BI l m else Cg a b
theorem Vl{x y:PySem.Str}(h:x.cps.toList=y.cps.toList):x=y:=by cases x;cases y;congr 1;exact cX.mp h
theorem Vm(a:Itm):Cg a a=A6:=by cases a<;>simp[Cg,List.lt_irrefl]
theorem Vn{a b c:Itm}(h1:Cg a b=A2)(d:Cg b c=A2):Cg a c=A2:=by cases a<;>cases b<;>cases c<;>simp only[Cg,decide_eq_true_eq,aV]at*<;>first|omega|exact List.lt_trans h1 d
theorem Vo{a b:Itm}(h1:Cg a b=A6)(d:Cg b a=A6):a=b:=by
 cases a<;>cases b<;>simp only[Cg,decide_eq_false_iff_not,Bool.true_eq_false]at*;.congr 1;omega
 .congr 1;exact Vl (List.le_antisymm (List.not_lt.mp d) (List.not_lt.mp h1))
theorem Mi:∀a:List Itm,BI a a=A6
 | []=>rfl
 |a::l=>by rw[BI,if_pos rfl];exact Mi l
theorem JD:∀{a b c:List Itm},BI a b=A2->BI b c=A2->BI a c=A2
 | [],[],_,h,_=>by simp[BI]at h
 | [],_::_,[],_,h=>by simp[BI]at h
 | [],_::_,_::_,_,_=>rfl
 |_::_,[],_,h,_=>by simp[BI]at h
 |_::_,_::_,[],_,h=>by simp[BI]at h
 |a::l,b::m,c::n,e,d=>by
  rw[BI]at e d⊢;by_cases i:a=b
  .subst i;rw[if_pos rfl]at e;by_cases f:a=c;.subst f;rw[if_pos rfl]at d⊢;exact JD e d
   .rw[if_neg f]at d⊢;exact d
  .rw[if_neg i]at e;by_cases f:b=c;.subst f;rw[if_neg i];exact e
   .rw[if_neg f]at d;have g:=Vn e d;by_cases j:a=c;.subst j;rw[Vm]at g;cases g
    .rw[if_neg j];exact g
theorem JE:∀{a b:List Itm},BI a b=A6->BI b a=A6->a=b
 | [],[],_,_=>rfl
 | [],_::_,h,_=>by simp[BI]at h
 |_::_,[],_,h=>by simp[BI]at h
 |a::l,b::m,f,d=>by
  rw[BI]at f d;by_cases e:a=b;.subst e;rw[if_pos rfl]at f d;rw[JE f d]
  .rw[if_neg e]at f;rw[if_neg (Ne.symm e)]at d;exact absurd (Vo f d) e
theorem Vp{a b c:List Itm}(h:BI a c=A2):BI a b=A2\/BI b c=A2:=by
 cases f:BI a b
 .cases e:BI b c
  .cases d:BI b a;.have:=JE f d;subst this;rw[e]at h;cases h
   .have:=JD d h;rw[e]at this;cases this
  .exact .inr rfl
 .exact .inl rfl
def JF:KeyOrd:=⟨List Itm,BI,Mi,λ_ _ _=>JD,λ_ _ _=>Vp,λ_ _=>JE⟩
def ED:Itm->A1->Prop
 | .inl i,v=>∃t,v=.int i t
 | .inr x,v=>∃t,v=.str x t
inductive ItsAre:List A1->List Itm->Prop
 |nil:ItsAre [] []
 |cons{v:A1}{a:Itm}{vs:List A1}{l:List Itm}:ED a v->ItsAre vs l->ItsAre (v::vs) (a::l)
theorem ItsAre.len:∀{a:List A1}{l:List Itm},ItsAre a l->a.length=l.length
 |_,_,.nil=>rfl
 |_,_,.cons _ r=>by simp[r.len]
def shp(l:List Itm):List Bool:=l.map Sum.isLeft
def Tps(h:AJ)(q:A4×List Itm):Prop:=∃o a n,h.get? q.1=A0 o/\o.cls=.type "tuple"/\o.data=.seq a n/\ItsAre a.toList q.2
section
variable{prog:AA}{w:AK}{A:AL}{E:A1->A3->Prop}{s:A3}
theorem Vq{p q:A1}{b:Bool}{a c:Itm}{Q:Bool->A3->Prop}(h1:ED a p)(d:ED c q)(e:a.isLeft=c.isLeft)(h:Q (Cg a c) s):A8 (AD prog w) A (oneLt' b p q) Q E s:=by
 cases a<;>cases c<;>simp at e
 .obtain⟨t,rfl⟩:=h1;obtain⟨u,rfl⟩:=d;cases b;.exact W.kat_one _ _ (PyProof.Rows.lt_int h)
  .exact oneLt_int h
 .obtain⟨t,rfl⟩:=h1;obtain⟨u,rfl⟩:=d;cases b;.exact W.kat_one _ _ (PyProof.Rows.lt_str h)
  .exact oneLt_str h
set_option tactic.hygienic true in
theorem Vr{p q:A1}{a c:Itm}{Q:Bool->A3->Prop}(h1:ED a p)(h2:ED c q)(hs:a.isLeft=c.isLeft)(h:Q (decide (a=c)) s):A8 (AD prog w) A (eqBool p q) Q E s:=by
 cases a<;>cases c<;>simp at hs
 .obtain⟨t,rfl⟩:=h1;obtain⟨u,rfl⟩:=h2;refine wpAny_eqBool_int ?_;rename_i i j;have e:(i==j)=decide ((Sum.inl i:Itm)=Sum.inl j):=by
   by_cases c:i=j;.subst c;simp
   .simp[c]
  rw[e];exact h
 .obtain⟨t,rfl⟩:=h1;obtain⟨u,rfl⟩:=h2;refine wpAny_eqBool_str ?_;simpa using h
theorem Mj{Q:Bool->A3->Prop}:∀{n g:List A1}{l m:List Itm}{i:Nat},ItsAre n l->ItsAre g m->shp l=shp m->Q (BI l m) s->W.KatLex prog w A A2 A6 Q (n.zip g) i s
 |_,_,_,_,i,.nil,.nil,_,h=>W.kat_nil h
 |_,_,_,_,i,.nil,.cons _ _,b,_=>by simp[shp]at b
 |_,_,_,_,i,.cons _ _,.nil,b,_=>by simp[shp]at b
 |_,_,a::l,c::m,i,.cons j r1,.cons o r2,b,h=>by
  have d:a.isLeft=c.isLeft:=by simp[shp]at b;exact b.1
  have f:shp l=shp m:=by simp[shp]at b⊢;exact b.2
  rw[List.zip_cons_cons];refine W.kat_cons (Vr j o d ?_);rw[BI]at h;by_cases e:a=c;.rw[if_pos e]at h;rw[decide_eq_true e];exact W.kat_yes (Mj r1 r2 f h)
  .rw[if_neg e]at h;rw[decide_eq_false e];exact W.kat_no (Vq j o d h)
end
def EE(qs:List (A4×List Itm)):A1->List Itm
 | .ref a=>((qs.find? λq=>q.1==a).map (·.2)).getD []
 |_=>[]
set_option tactic.hygienic true in
theorem Vs{vs:List A1}:∀{l m:List Itm},ItsAre vs l->ItsAre vs m->l=m:=by
 induction vs with
 |nil=>intro l m h1 h2;cases h1;cases h2;rfl
 |cons v vs ih=>
  intro l m h1 h2;cases h1 with
  |cons a1 r1=>
   cases h2 with
   |cons a2 r2=>rw[ih r1 r2];congr 1;rename_i a l b m;cases a<;>cases b<;>(obtain⟨t,e1⟩:=a1;obtain⟨u,e2⟩:=a2;rw[e1]at e2;cases e2)<;>rfl
theorem JG{h:AJ}{qs:List (A4×List Itm)}(g:∀q∈qs,Tps h q){q:A4×List Itm}(f:q∈qs):EE qs (.ref q.1)=q.2:=by
 show((qs.find? λx=>x.1==q.1).map (·.2)).getD []=q.2;cases e:qs.find? λx=>x.1==q.1 with
 |none=>exact absurd (List.find?_eq_none.mp e q f) (by simp)
 |some r=>
  have p:=List.find?_some e;have t:=List.mem_of_find?_eq_some e;obtain⟨o,w,n,j,_,i,s⟩:=g q f;obtain⟨u,m,v,a,_,b,d⟩:=g r t;have l:r.1=q.1:=by simpa using p
  rw[l,j]at a;cases a;rw[i]at b;cases b;show r.2=q.2;exact Vs d s
set_option tactic.hygienic true in
theorem Mk{h:AJ}{sh:List Bool}{b:Bool}:∀{qs:List (A4×List Itm)},(∀q∈qs,Tps h q)->(∀q∈qs,shp q.2=b::sh)->∃fs,W.KatTups h (qs.map λq=>A1.ref q.1) fs/\fs.length=qs.length/\∀f∈fs,∃a,ED a f/\a.isLeft=b
 | [],_,_=>⟨[],trivial,rfl,λ_ h=>absurd h av⟩
 |q::qs,hq,hs=>by
  obtain⟨fs,h1,h2,h3⟩:=Mk (qs:=qs) (λx hx=>hq x (by simp[hx])) λx hx=>hs x (by simp[hx]);obtain⟨o,xs,n,ho,hc,hd,hi⟩:=hq q (by simp);have hsq:=hs q (by simp);obtain⟨qa,ql⟩:=q;cases ql with
  |nil=>simp[shp]at hsq
  |cons a l=>
   generalize hxl:xs.toList=xl at hi;cases hi with
   |cons ha hr=>
    rename_i v vr;have hx0:xs[0]?=A0 v:=by
     have:xs.toList[0]?=A0 v:=by rw[hxl];rfl
     simpa using this
    exact⟨v::fs,W.KatTups.cons ho hc hd hx0 h1,by simp[h2],λf hf=>by
     rcases ao.mp hf with rfl|hf;.exact⟨a,ha,by simp[shp]at hsq;exact hsq.1⟩
     .exact h3 f hf⟩
theorem Vt{prog:AA}{w:AK}{h0:AJ}{a:A4}{qs:List (A4×List Itm)}{R:List Bool}{b:Bool}(hq:∀q∈qs,Tps h0 q)(D:∀q∈qs,q.1≠a)(g:∀q∈qs,shp q.2=b::R):JC prog w h0 a (qs.map λq=>A1.ref q.1) JF (EE qs):=by
 intro P;refine⟨tuples' A2,λA s i=>?_⟩;have d:∀q∈qs,Tps s.heap q:=λq N=>let⟨o,L,n,X,r⟩:=hq q N;⟨o,L,n,i _ _ (D q N) X,r⟩;refine⟨λE Q h=>?_,λx y e S E Q h=>?_⟩
 .obtain⟨fs,O,p,u⟩:=Mk d g;cases b;.refine W.kat_kind (T:=.type "str") O (by rw[p];rw[af]at P;omega) (λv J=>?_) rfl h;obtain⟨x,e,B⟩:=u v J;cases x<;>simp at B;obtain⟨t,rfl⟩:=e;exact .now
  .refine W.kat_kind (T:=.type "int") O (by rw[p];rw[af]at P;omega) (λv J=>?_) rfl h;obtain⟨x,e,B⟩:=u v J;cases x<;>simp at B;obtain⟨t,rfl⟩:=e;exact .now
 .obtain⟨G,mx,rfl⟩:=aB.mp e;obtain⟨C,l,rfl⟩:=aB.mp S;rw[JG d mx,JG d l]at h;obtain⟨ox,L,n,K,_,H,f⟩:=d G mx;obtain⟨oy,Y,m,M,_,I,j⟩:=d C l;refine W.kat_lt K H M I ?_;have Z:¬L.size<Y.size:=by have p:=f.len;have u:=j.len;have U:=congrArg List.length ((g G mx).trans (g C l).symm);simp only[shp,af]at U;rw[am]at p u;omega
  rw[decide_eq_false Z];exact Mj f j ((g G mx).trans (g C l).symm) h
open PySem.Ts
theorem Ml{P:AA}{w:AK}:∀{k:List Int}{a:List A1},Av (k.map V.int) a->ItemsAre (intKind P w) k a
 | [],_,.nil=>.nil
 |i::k,_,.cons r t=>by obtain⟨u,rfl⟩:=(show∃u,_=A1.int i u from r);exact .cons (by show A1.isInt i (.int i u)=A2;simp[A1.isInt]) (Ml t)
theorem Vu{P:AA}{w:AK}{H:Hp}{h:AJ}{q:List Int×A4}(ok:HOk P w H h)(e:H q.2=A0 (.tup (q.1.map V.int))):Tup P w h q:=by obtain⟨_,a,r,o,f,d,⟨n,b⟩,_⟩:=(show B0 P w H h q.2 (.tup (q.1.map V.int))from ok _ _ e);exact⟨o,a.toArray,n,f,d,b,by rw[List.toList_toArray];exact Ml r⟩
section
variable{X:Cx}
def kI(k:List Int):List Itm:=k.map Sum.inl
theorem Vv{k:List Int}{vs:List A1}{P:AA}{w:AK}(h:ItemsAre (intKind P w) k vs):ItsAre vs (kI k):=by
 induction h with
 |nil=>exact .nil
 |cons b _ a=>obtain⟨t,e⟩:=A1.isInt_shape b;exact .cons ⟨t,e⟩ a
theorem Vw{k:List Int}:shp (kI k)=aL k.length A2:=by
 unfold shp kI;induction k with
 |nil=>rfl
 |cons i k a=>rw[aX,aX,a];rfl
variable{e:A9}{scope:AY}{tg iter:A9}{ifs:List A9}{nx:A4->Env->Sem Unit}{g:TG}{tc:TT}{Ar:TL (List (List Int×A4))}{own:List Nat}{wi:TI}
theorem Mm:∀(a:List (List Int×A4)),Av (a.map λq=>V.ref q.2) (a.map λq=>A1.ref q.2)
 | []=>.nil
 |q::a=>.cons rfl (Mm a)
end
open PySem.SeqAt
theorem Mn{P:AA}{w:AK}{k:Key}{u:A1}(h:(B8 P w).is k u=A2):At (kV k) u:=by
 rcases Cr (show Db k u=A2 from h)with⟨i,t,rfl,rfl⟩|⟨x,t,rfl,rfl⟩|⟨rfl,rfl⟩;.exact⟨t,rfl⟩
 .exact⟨t,rfl⟩
 .exact rfl
theorem Dj:∀{d:List V}{b:List A1},d.length=b.length->(∀(i:Nat)x u,d[i]?=A0 x->b[i]?=A0 u->At x u)->Av d b
 | [],[],_,_=>.nil
 |x::d,u::b,a,h=>.cons (h 0 x u rfl rfl) (Dj (by simpa using a) λi j f e g=>h (i+1) j f (by simpa using e) (by simpa using g))
 | [],_::_,a,_=>by simp at a
 |_::_,[],a,_=>by simp at a
theorem JH{b:List (Key×V)}{vs:List (Key×A1)}(r:KV b vs):∀{i:Nat}{a:Key×V}{p:Key×A1},b[i]?=A0 a->vs[i]?=A0 p->a.1=p.1/\At a.2 p.2:=by
 induction r with
 |nil=>intro i a p h;simp at h
 |cons h r f=>
  intro i a p e d;cases i with
  |zero=>cases e;cases d;exact h
  |succ i=>exact f (by simpa using e) (by simpa using d)
section
variable{X:Cx}
def Mo:List V->Hp->VK->Prop:=λd H Q=>∃(a:A4)(b:List (Key×V)),d=[.ref a]/\H a=A0 (.dK b)/\∀l,H l=A5->Q (.ref l) (upd H l (.lst (b.map λe=>kV e.1)))
theorem Vx(A:X.calm=A2):B7 X (.type "list") Mo:=by intro P s N H O M Q I L h;obtain⟨a,l,rfl,C,q⟩:=h;obtain⟨u,rfl,r1⟩:=C6 L;cases r1;obtain⟨z,hd,R,g,t⟩:=Fx I.hok C;obtain⟨S,hat⟩:=t.dictAt;have d:=g.length;refine W.kdl_call (W.kdl_dict (knd:=B8 X.prog X.w) hd) (I.ok.hd A) hat (by rw[<-d];exact z) λh' E m c r G f=>?_;have J:H s.heap.objs.size=A5:=I.hok.fresh (ag _);refine⟨.ref s.heap.objs.size,_,I.laid (a:=s.heap.objs.size) (o:=.lst (l.map λn=>kV n.1)) (h':=h') (t':=E) (λb o e=>r b o e) (ag _) ⟨by rw[af];exact z,m.toList,c,Dj (by rw[af,d];exact f.1.symm.trans am.symm) λi x v p B=>?_,by rw[G]⟩,rfl,q _ J⟩;rw[aj]at p;obtain⟨n,j,rfl⟩:=aY.mp p;obtain⟨k,y,D,K⟩:=f.2 i v (by rw[<-bX];exact B);have e:=(JH g j D).1;rw[e];exact Mn K
def VwO(v d:A4):HO:=.ext λh=>h.IsValuesView v d
def Mp:List V->Hp->VK->Prop:=λd H Q=>∃a b,d=[V.ref a]/\H a=A0 (.dK b)/\Q (.int b.length) H
theorem Vy:B7 X (.builtin "len") Mp:=UV
end
end L2
namespace PySem
open Sem (wp)
namespace F
theorem Vz:typeLookup (.type "list") "__getattr__"=pure A5:=by rw[typeLookup_type,builtinLookup_eq_fast];kernel_rfl
theorem V_:typeLookup (.type "list") "keys"=pure A5:=by rw[typeLookup_type,builtinLookup_eq_fast];kernel_rfl
theorem JI:isSubtype (.type "AttributeError") (.type "AttributeError")=pure A2:=by rw[isSubtype_type];kernel_rfl
end F
section
variable{prog:AA}{w:AK}{A:AL}{h:AJ}{g:Array GenState}{d:Drawn}{t:Nat}{os:OsState}{a:A4}
theorem W0{q:Type}{E:A1->A3->Prop}{Q:q->A3->Prop}{o:A1}{name f:AM}(s:A.handled=A5)(u:f.length<=A7)
  (r:∀j l e,(∀b i,h.get? b=A0 i->j.get? b=A0 i)->(∃n,j.get? e=A0 n/\n.cls=.type "AttributeError")->h.objs.size<=j.objs.size->t<=l->E (.ref e) ⟨j,g,d,l,os⟩):
  A8 (AD prog w) A (raiseAttrError o name f) Q E ⟨h,g,d,t,os⟩:=by
 unfold raiseAttrError newExc;have v:=F.JI;repeat(any_goals(first|assumption|wp_step))
 simp only[raiseNew];refine aa (dy ?_);rw[s];refine aa (ab (wpAny_throw ?_));refine r _ _ _ (λb i m=>?_) ?_ ?_ ⋯;.have p:=ak m;refine(AJ.SameBut.update ..).extBut b i (λz=>?_) (ac _ (ac _ m));rw[aW]at z;exact ax (bv p) z
 .exact⟨_,aM _ (ai _ rfl) (AS.isFreed_of_fields (AR rfl _)),(AS.cls_mapFields ..).trans rfl⟩
 .rw[(AJ.SameBut.update ..).1,aW,aW];omega
theorem W1{f:Tok}{E:A1->A3->Prop}{items:Array A1}{m:Nat}{q:Array (Option A1)}{Q:Fin->A3->Prop}(p:h.get? a=A0 {cls:=.type "list",data:=.seq items m,dict:=A5,slots:=q})(n:A.handled=A5)
  (o:∀i f e,(∀b j,h.get? b=A0 j->i.get? b=A0 j)->(∃l,i.get? e=A0 l/\l.cls=.type "AttributeError")->h.objs.size<=i.objs.size->t<=f->E (.ref e) ⟨i,g,d,f,os⟩):
  A8 (AD prog w) A (AB.«object.__getattribute__» ⟨[.ref a,.str "keys" f],[]⟩) Q E ⟨h,g,d,t,os⟩:=by
 have hT:(⟨h,g,d,t,os⟩:A3).TypeIs (.ref a) "list":=⟨_,p,rfl⟩;have r:=F.V_;repeat(any_goals(first|assumption|wp_step))
 exact W0 n ⋯ o
theorem W2{f:Tok}{items:Array A1}{n:Nat}{q:Array (Option A1)}{R:Result->A3->Prop}(l:h.get? a=A0 {cls:=.type "list",data:=.seq items n,dict:=A5,slots:=q})(o:A.handled=A5)
  (p:∀i f e,(∀b j,h.get? b=A0 j->i.get? b=A0 j)->(∃m,i.get? e=A0 m/\m.cls=.type "AttributeError")->h.objs.size<=i.objs.size->t<=f->R (.error (.ref e)) ⟨i,g,d,f,os⟩):
  codeAny (AD prog w) A (.call (.builtin "list.__getattribute__") ⟨[.ref a,.str "keys" f],[]⟩) R ⟨h,g,d,t,os⟩:=
 codeAny_call_builtin F.slot_list_getattribute.plain F.entry_list_ga (F.slot_list_getattribute.check _ _ _ _ _ _ _ _ (show(⟨h,g,d,t,os⟩:A3).TypeIs (.ref a) "list"from⟨_,l,rfl⟩) (F.args_list_getattribute_2 _ _) (W1 l o p))
theorem W3{l:Tok}{E:A1->A3->Prop}{items:Array A1}{v:Nat}{u:Array (Option A1)}{Q:A1->A3->Prop}(p:h.get? a=A0 {cls:=.type "list",data:=.seq items v,dict:=A5,slots:=u})(C:A.handled=A5)
  (x:∀f l e,(∀b o,h.get? b=A0 o->f.get? b=A0 o)->(∃m,f.get? e=A0 m/\m.cls=.type "AttributeError")->h.objs.size<=f.objs.size->t<=l->E (.ref e) ⟨f,g,d,l,os⟩):
  A8 (AD prog w) A (getAttrBy (.ref a) (.str "keys" l) A6) Q E ⟨h,g,d,t,os⟩:=by
 have hT:(⟨h,g,d,t,os⟩:A3).TypeIs (.ref a) "list":=⟨_,p,rfl⟩;have G:=F.slot_list_getattribute.lookup;have H:=F.slot_list_getattribute.bind (.ref a);repeat(any_goals(first|assumption|wp_step))
 refine W2 p C λf i e s⟨m,q,j⟩B r=>?_;dsimp only;unfold getattributeRaised;have y:=F.JI;have D:=F.Vz;have n:(⟨f,g,d,i,os⟩:A3).TypeIs (.ref e) "AttributeError":=⟨_,q,j⟩;refine aa (bT (T:="AttributeError") (b:=A2) n y ?_);rw[if_pos rfl];repeat(any_goals(first|assumption|wp_step))
 exact x f i e s ⟨m,q,j⟩ B r
theorem Mq{E:A1->A3->Prop}{items:Array A1}{v:Nat}{u:Array (Option A1)}{Q:Option A1->A3->Prop}(r:h.get? a=A0 {cls:=.type "list",data:=.seq items v,dict:=A5,slots:=u})(B:A.handled=A5)
  (o:∀i n,(∀b m,h.get? b=A0 m->i.get? b=A0 m)->h.objs.size<=i.objs.size->t<=n->Q A5 ⟨i,g,d,n,os⟩):
  A8 (AD prog w) A (getAttr? (.ref a) "keys") Q E ⟨h,g,d,t,os⟩:=by unfold getAttr? getAttrBy?;refine aa (wpAny_mkText (s:=⟨h,g,d,t,os⟩) ?_);refine aa (cm (W3 r B λi f e q⟨D,x,l⟩y p=>?_));have j:(⟨i,g,d,f,os⟩:A3).TypeIs (.ref e) "AttributeError":=⟨_,x,l⟩;dsimp only;refine aa (bT (T:="AttributeError") (b:=A2) j F.JI ?_);rw[if_pos rfl];have C:t+1<=f:=p;exact ab (o i f q y ⋯)
end
namespace F
theorem Mr:plainId "dict.__new__"=A2:=⋯
theorem W4:entryFor table "dict.__new__"=A0 AB.«dict.__new__»:=entryFor_of_tree (by kernel_rfl)
theorem Ms:mroOf (.type "dict")=pure [.type "dict",.type "object"]:=by first|rfl|kernel_rfl
theorem W5:Bind.madeBy (.type "dict")=pure (A0 "dict.__new__"):=by first|rfl|kernel_rfl
theorem Mt:isSubtype (.type "dict") (.type "dict")=pure A2:=by rw[isSubtype_type];kernel_rfl
theorem Br:TypeCalled "dict" "dict.__new__" "dict.__init__":=
 ⟨⋯,⋯,⟨_,_,Ms⟩,W5,⋯,Mt,slot_dict_init⟩
theorem Mu(a:A1):checkTypeCall "dict" ⟨[a],[]⟩=pure ():=by kernel_rfl
theorem W6(a:A1):checkBuiltinCall "dict.__new__" ⟨[.type "dict",a],[]⟩=pure ():=by kernel_rfl
theorem GJ:entryFor table "dict.update.loop"=A0 AB.«dict.update.loop»:=entryFor_of_tree (by kernel_rfl)
theorem Dk:plainId "dict.update.loop"=A2:=⋯
end F
end PySem
namespace L2
open PySem PySem.Spec PyProof.Rows
section
variable{prog:AA}{w:AK}{A:AL}{R:Result->A3->Prop}{I:A4}{fp wr:List A4}{G:Array GenState->Array GenState->Prop}{n:Nat}{St:Nat->A3->Prop}
abbrev kT(prog:AA)(w:AK):=Af (B8 prog w)
def CL(key:Nat->List Key)(ka:Nat->A4)(xv:Nat->A1):Nat->List (List Key×A4×A1)
 |0=>[]
 |i+1=>storedH (CL key ka xv i) (key i) (ka i) (xv i)
def OkP(prog:AA)(w:AK)(n:Nat)(ps:Nat->A4)(key:Nat->List Key)(ka:Nat->A4)(xv:Nat->A1)(h:AJ):Prop:=
 ∀i,i<n->IsTup h (ps i) #[.ref (ka i),xv i]/\(kT prog w).is h (key i) (ka i)
theorem OkP.at{ps:Nat->A4}{key:Nat->List Key}{ka:Nat->A4}{xv:Nat->A1}{h h':AJ}(x:OkP prog w n ps key ka xv h)(k:∀i,i<n->∀b,b=ps i\/b=ka i->∀o,h.get? b=A0 o->h'.get? b=A0 o):OkP prog w n ps key ka xv h':=λi d=>by obtain⟨⟨o,e,c,m,z⟩,⟨f,a,j,g,r⟩⟩:=x i d;exact⟨⟨o,k i d _ (.inl rfl) o e,c,m,z⟩,⟨f,a,j,k i d _ (.inr rfl) f g,r⟩⟩
theorem JJ{key:Nat->List Key}{ka:Nat->A4}{xv:Nat->A1}:∀{i:Nat}{x:List Key×A4×A1},x∈CL key ka xv i->∃j,j<i/\x.1=key j/\x.2.1=ka j
 |0,x,h=>by cases h
 |i+1,x,h=>by
  have h:x∈storedH (CL key ka xv i) (key i) (ka i) (xv i):=h;cases d:atKey (CL key ka xv i) (key i)with
  |none=>
   rw[storedH_new d]at h;rcases aU.mp h with h|h;.obtain⟨j,f,a⟩:=JJ h;exact⟨j,⋯,a⟩
   .cases aO.mp h;exact⟨i,⋯,rfl,rfl⟩
  |some p=>
   rw[storedH_old d]at h;obtain⟨y,e,rfl⟩:=aB.mp h;obtain⟨j,f,a,b⟩:=JJ e;refine⟨j,⋯,?_⟩;unfold putAt;split;.exact⟨a,b⟩
   .exact⟨a,b⟩
theorem JK{key:Nat->List Key}{ka:Nat->A4}{xv:Nat->A1}:∀{i:Nat},(CL key ka xv i).length<=i
 |0=>ag _
 |i+1=>by
  show(storedH (CL key ka xv i) (key i) (ka i) (xv i)).length<=_;have:=JK (key:=key) (ka:=ka) (xv:=xv) (i:=i);cases a:atKey (CL key ka xv i) (key i)with
  |none=>rw[storedH_new a,aA];exact Nat.succ_le_succ this
  |some p=>rw[storedH_old a,af];omega
def GK(prog:AA)(w:AK)(h:AJ)(d:A4)(xs:List (List Key×A4×A1)):Prop:=∃o a b,h.get? d=A0 o/\o.ExactDict/\o.data=.dict a b/\a.toList=xs.map (entryOfKey (kT prog w))/\(xs.map (·.1)).Nodup
theorem W7{ps:Nat->A4}{key:Nat->List Key}{ka:Nat->A4}{xv:Nat->A1}(W:WalksS prog w A.in1 I fp wr G n (λi v=>v=.ref (ps i)) St)(d:A4)(H:d∉fp)(hu:A.in1.units<Ao)
  (C:∀i,i<n->ps i∉d::wr)(D:∀i,i<n->ka i∉d::wr)(hn:n<=A7):
  ∀(k i:Nat)(s:A3),n-i=k->i<=n->St i s->OkP prog w n ps key ka xv s.heap->GK prog w s.heap d (CL key ka xv i)->
   (∀f,Moved (d::wr) G s f->GK prog w f.heap d (CL key ka xv n)->R (.ok (.ret .none)) f)->
   codeAny (AD prog w) A (.builtin "dict.update.loop" ⟨[.ref d,.ref I,AX (i:Int),.none],[]⟩) R s:=by
 have K:d∉wr:=λh=>H (W.sub _ h);have a:∀b∈wr,b∈d::wr:=λb m=>ay _ m;intro k;induction k with
 |zero=>
  intro i s hk hi p q T hR;have S:i=n:=by omega
  subst S;refine Ae F.GJ ?_;rw[AL.under_plainId F.Dk _];show A8 _ A.in1 (pyNext (.ref I)>>=_) _ _ s;refine aa (W.done s _ _ p λf r=>?_);dsimp only;unfold AB.Dict.addKeywords;refine aa (ab ?_);refine ab (hR f (r.mono a) ?_);obtain⟨o,B,P,J,E⟩:=T;exact⟨o,B,P,r.heap _ _ K J,E⟩
 |succ k ih=>
  intro i s hk hi p q T hR;have l:i<n:=by omega
  refine Ae F.GJ ?_;rw[AL.under_plainId F.Dk _];show A8 _ A.in1 (pyNext (.ref I)>>=_) _ _ s;refine aa (W.item i s _ _ l p λv f hP L r=>?_);subst hP;dsimp only;obtain⟨M,y⟩:=q i l;have g:OkP prog w n ps key ka xv f.heap:=q.at λj t b m o e=>r.heap b o (λz=>by
   rcases m with rfl|rfl;.exact C j t (a _ z)
   .exact D j t (a _ z)) e;obtain⟨M,y⟩:=g i l;obtain⟨ot,O,a2,nt,U⟩:=M;have a1:f.TypeIs (.ref (ps i)) "tuple":=⟨ot,O,a2⟩;refine aa (aC ?_);refine aa (wpAny_tryCatch ?_);unfold AB.Dict.pairItems;refine aa (dw a1 ?_);rw[if_pos (by decide)];refine aa (bQ O U ?_);refine ab ?_;show A8 _ _ (holding [.ref (ka i),xv i] (dictSet d (.ref (ka i)) (xv i))) _ _ f;have X:f.heap.DictOfH (kT prog w) d (CL key ka xv i):=by obtain⟨o,B,P,J,E,Y,Z,Q⟩:=T;refine⟨o,B,P,r.heap _ _ K J,E,Y,Z,λx hx=>?_,Q⟩;obtain⟨j,t,e1,e2⟩:=JJ hx;rw[e1,e2];exact(g j ⋯).2
  refine aC (wpAny_dictSet_heap (hsz:=aF JK ⋯) hu y X λh' dd hs=>?_);have k':∀b o,b∉d::wr->f.heap.get? b=A0 o->h'.get? b=A0 o:=λb o m e=>(hs.2 b (λz=>m (by rw[z];exact az))).trans e;refine ab ⟨plainId_quiet F.Dk _,?_⟩;rw[show AX ((i:Int)+1)=AX (((i+1:Nat)):Int)by rw[Int.natCast_add];rfl];refine ih (i+1) _ ⋯ l (W.frame _ f _ _ L (bm _ _) λb m o e=>?_) (g.at λj t b m o e=>k' b o (λz=>?_) e) ?_ λa0 N u=>?_;.exact(hs.2 b (λh:b=d=>H (by rw[<-h];exact m))).trans e
  .rcases m with rfl|rfl;.exact C j t z
   .exact D j t z
  .obtain⟨o,B,P,J,E,Y,Z,_,Q⟩:=dd;exact⟨o,B,P,J,E,Y,Z,Q⟩
  .exact hR a0 (Moved.trans W.gtrans ((r.mono a).then_heap (bm _ _) k') N) u
end
section
variable{prog:AA}{w:AK}{A:AL}{E:A1->A3->Prop}{s:A3}
theorem Mv(a:A1){Q₁:A1->A3->Prop}(h:Q₁ (.ref s.heap.objs.size) {s with heap:=s.heap.push {cls:=.type "dict",data:=.dict #[]}}):
  codeAny (AD prog w) A (.call (.builtin "dict.__new__") ⟨[.type "dict",a],[]⟩) (wants Q₁ E) s:=by refine codeAny_of_tree ?_;show A8 _ A.in1 (do checkBuiltinCall "dict.__new__" ⟨[.type "dict",a],[]⟩;again (.builtin "dict.__new__" ⟨[.type "dict",a],[]⟩)) _ _ s;refine aa (cQ (F.W6 a) (ab ⟨plainId_quiet F.Mr _,Ae F.W4 ?_⟩));rw[AL.under_plainId F.Mr _];unfold AB.«dict.__new__»;have b:=F.Mt;have e:=F.Ms;obtain⟨j,g,d,f,i⟩:=s;dsimp only;wp_walk;exact h
theorem Mw{I:A4}{fp wr:List A4}{G:Array GenState->Array GenState->Prop}{n:Nat}{P a:Nat->A1->Prop}{St:Nat->A3->Prop}(W:WalksS prog w A I fp wr G n P St)(h:∀i v,i<n->P i v->a i v):WalksS prog w A I fp wr G n a St where
 sub:=W.sub
 grefl:=W.grefl
 gtrans:=W.gtrans
 frame:=W.frame
 item:=λi s Q E b g d=>W.item i s Q E b g λv f e=>d v f (h i v b e)
 done:=W.done
 self:=W.self
set_option maxRecDepth 100000 in
set_option maxHeartbeats 3200000 in
theorem W8{l:A4}{items:Array A1}{ps:Nat->A4}{key:Nat->List Key}{ka:Nat->A4}{xv:Nat->A1}{Q:A1->A3->Prop}
  (hh:A.handled=A5)(hu:A.units+64<Ao)(hl:PlainL s.heap l items)(hit:∀i,i<items.size->items[i]?=A0 (.ref (ps i)))(hok:OkP prog w items.size ps key ka xv s.heap)(hsz:items.size<=A7)
  (h:∀(h':AJ)(tk:Nat),GK prog w h' s.heap.objs.size (CL key ka xv items.size)->(∀b o,s.heap.get? b=A0 o->h'.get? b=A0 o)->s.toks<=tk->Q (.ref s.heap.objs.size) {s with heap:=h',toks:=tk}):
  A8 (AD prog w) A (call (.type "dict") [.ref l]) Q E s:=by
 obtain⟨c,tl,hmro⟩:=F.Br.mro;have hmade:=F.Br.made;have hsub:=F.Br.sub;refine wpAny_call (codeAny_of_tree ?_);show A8 _ _ (callAny (.type "dict") _) _ _ _;refine ab ⟨Code.quiet_builtin _ ⋯,Ae F.entry_type_call ?_⟩;rw[AL.under_plain (weight_type_call_type "dict" [.ref l] []) rfl];have h1:=F.Br.notType;have h2:=F.Br.canCreate;have hct:=F.Mu (.ref l);repeat(any_goals(first|assumption|wp_step))
 refine Ag (Mv (.ref l) (E:=E) (Q₁:=λobj s₁=>obj=.ref s.heap.objs.size/\s₁={s with heap:=s.heap.push {cls:=.type "dict",data:=.dict #[]}}) ⟨rfl,rfl⟩) λr s₁ hr=>?_;cases r with
 |error e=>exact hr
 |ok fl=>
  cases fl with
  |ret obj=>
   obtain⟨rfl,rfl⟩:=hr;have hS:(s.heap.push {cls:=.type "dict",data:=.dict #[]}).get? s.heap.objs.size=A0 {cls:=.type "dict",data:=.dict #[]}:=ai _ rfl;have hT:A3.TypeIs {s with heap:=s.heap.push {cls:=.type "dict",data:=.dict #[]}} (.ref s.heap.objs.size) "dict":=⟨_,hS,rfl⟩;have hli:=F.Br.init.lookup;have hbi:=F.Br.init.bind (.ref s.heap.objs.size);repeat(any_goals(first|assumption|wp_step))
   refine Ag (codeAny_call_builtin (R:=wants (λr s₂=>r=.none/\∃h' tk,s₂={s with heap:=h',toks:=tk}/\GK prog w h' s.heap.objs.size (CL key ka xv items.size)/\(∀b o,s.heap.get? b=A0 o->h'.get? b=A0 o)/\s.toks<=tk) E) F.Br.init.plain F.entry_dict_init (F.Br.init.check _ _ _ _ _ _ _ _ hT (F.args_dict_init_2 _ _) ?_)) λr₂ s₂ hr₂=>?_
   .obtain⟨⟨ocls,odict,odata,oslots⟩,nl,hol,hcl,hdl,hdd⟩:=hl;simp only at hcl hdl hdd;subst hcl;subst hdl;subst hdd;have hol':(s.heap.push {cls:=.type "dict",data:=.dict #[]}).get? l=A0 {cls:=.type "list",dict:=A5,data:=.seq items nl,slots:=oslots}:=ac _ hol;have hTl:A3.TypeIs {s with heap:=s.heap.push {cls:=.type "dict",data:=.dict #[]}} (.ref l) "list":=⟨_,hol',rfl⟩;unfold AB.«dict.__init__»AB.Dict.selfAndRest AB.Dict.notOrdered AB.Dict.updateCommon AB.Dict.updateFrom;generalize hGA:getAttr?=GA;generalize hPI:pyIter=PI;repeat(any_goals(first|assumption|wp_step))
    subst hGA;have hh2:A.in1.in1.handled=A5:=by simp[hh]
    refine Mq hol' hh2 λh2 tk2 k2 z2 t2=>?_;have hlS:l<s.heap.objs.size:=ak hol;rw[aW]at z2;simp only[Option.isNone_none,if_true];refine aa (bq ?_);subst hPI;have hl2:h2.IsList l items:=⟨_,k2 _ _ hol',rfl,nl,rfl⟩;refine aa (cL (s:=⟨h2,s.gens,s.drawn,tk2,s.os⟩) hl2 ?_);refine ab ⟨Code.quiet_builtin _ ⋯,?_⟩;have hneI:l≠h2.objs.size:=ax (aq hlS ⋯);have hDI:s.heap.objs.size≠h2.objs.size:=by omega
    have hDf:s.heap.objs.size∉[h2.objs.size,l]:=by simp only[ao,aO,av,or_false,not_or];exact⟨hDI,bp hlS⟩
    have hok2:OkP prog w items.size ps key ka xv (h2.push {cls:=.type "list_iterator",data:=.fields #[.ref l,.int 0 0]}):=hok.at λi hi b hb o e=>ac _ (k2 _ _ (ac _ e));have old:∀{b:A4}{o:AS},s.heap.get? b=A0 o->b∉[s.heap.objs.size,h2.objs.size]:=λ{b o}e=>by have:=ak e;simp only[ao,aO,av,or_false,not_or];exact⟨ax this,ax (aq this ⋯)⟩
    have hh3:A.in1.in1.handled=A5:=hh2;refine W7 (G:=λa b=>b=a) (fp:=[h2.objs.size,l]) (wr:=[h2.objs.size]) (n:=items.size) (ps:=ps) (key:=key) (ka:=ka) (xv:=xv) (St:=λi s=>(AJ.IsListIter s.heap h2.objs.size l i)/\s.heap.IsList l items) ?W s.heap.objs.size hDf ?hu (λi hi=>old (hok i hi).1.choose_spec.1) (λi hi=>old (hok i hi).2.choose_spec.choose_spec.choose_spec.1) hsz (items.size-0) 0 _ ⋯ (aN _) ?hSt hok2 ?hD0 ?hR;case W=>exact Mw ((Walks.list hh3 _ l hneI items).toS) λi v hi hv=>(Option.some.inj ((hit i hi).symm.trans hv)).symm
    case hu=>simp[units_in1];omega
    case hSt=>exact⟨⟨_,ai _ rfl,rfl,rfl⟩,hl2.push _⟩
    case hD0=>exact⟨_,#[],0,ac _ (k2 _ _ hS),⟨rfl,rfl,rfl⟩,rfl,rfl,cG⟩
    case hR=>intro s' hm hD';obtain⟨h',g',d',tk',os'⟩:=s';have eg:g'=s.gens:=hm.gens;have ed:d'=s.drawn:=hm.drawn;have eo:os'=s.os:=hm.os;subst eg;subst ed;subst eo;have htk:tk2<=tk':=hm.toks;have ht2:s.toks<=tk2:=t2;exact⟨rfl,h',tk',rfl,hD',λb o e=>hm.heap b o (old e) (ac _ (k2 _ _ (ac _ e))),⋯⟩
   .cases r₂ with
    |error e=>exact hr₂
    |ok fl₂=>
     cases fl₂ with
     |ret r=>
      obtain⟨rfl,h',tk,rfl,hS',hk',htk⟩:=hr₂;repeat(any_goals(first|assumption|wp_step))
      exact h _ _ hS' hk' htk
     |_=>exact hr₂.elim
  |_=>exact hr.elim
end
section
variable{X:Cx}
abbrev PL:=List (A4×List Key×A4×V)
def Ch(L:PL):List (List Key×V):=L.foldl (λa x=>Bn a x.2.1 x.2.2.2) []
theorem Mx{L:PL}{x:A4×List Key×A4×V}:Ch (L++[x])=Bn (Ch L) x.2.1 x.2.2.2:=by unfold Ch;rw[List.foldl_append];rfl
def W9(K:W.Frag):List V->Hp->VK->Prop:=λa H Q=>∃(p:A4)(L:PL),a=[.ref p]/\SqL K H p (L.map λx=>V.ref x.1)/\(∀x∈L,H x.1=A0 (.tup [.ref x.2.2.1,x.2.2.2])/\H x.2.2.1=A0 (.tup (x.2.1.map kV)))/\∀d,H d=A5->Q (.ref d) (upd H d (.dT (Ch L)))
def My:List V->Hp->VK->Prop:=λa H Q=>∃(p:A4)(L:PL),a=[.ref p]/\H p=A0 (.lst (L.map λx=>V.ref x.1))/\(∀x∈L,H x.1=A0 (.tup [.ref x.2.2.1,x.2.2.2])/\H x.2.2.1=A0 (.tup (x.2.1.map kV)))/\∀d,H d=A5->Q (.ref d) (upd H d (.dT (Ch L)))
theorem WA(hc:X.calm=A2)(hu:X.A.units+64<Ao):B7 X (.type "dict") (W9 X.K):=by
 intro p_ s σ H xs us Q I E h;obtain⟨p,L,rfl,hs,t,q⟩:=h;cases E with
 |cons r1 E=>
  cases E;cases r1;obtain⟨C,r,P,y⟩:=I.list hs;have j:=r.length;rw[af]at j y;have N:H s.heap.objs.size=A5:=I.hok.fresh (ag _);have n:∀i,i<L.length->∃u:A1,At ((L[i]?.getD (0,[],0,.non)).2.2.2) u/\IsTup s.heap (L[i]?.getD (0,[],0,.non)).1 #[.ref (L[i]?.getD (0,[],0,.non)).2.2.1,u]:=λi d=>by
   have g:L[i]?.getD (0,[],0,.non)=L[i]:=by rw[ae d];rfl
   rw[g];obtain⟨_,M,r2,R⟩:=(show B0 X.prog X.w H s.heap _ (.tup [.ref L[i].2.2.1,L[i].2.2.2])from I.hok _ _ (t _ (bR d)).1);cases r2 with
   |cons S r2=>
    cases r2 with
    |cons a2 r2=>cases r2;cases S;exact⟨_,a2,R.tup⟩
  let xv:Nat->A1:=λi=>if h:i<L.length then(n i h).choose else .none;have m:∀i(h:i<L.length),xv i=(n i h).choose:=λi h=>by show(if h:i<L.length then _ else _)=_;rw[dif_pos h]
  have f:C.toArray.size=L.length:=by rw[au,<-j]
  refine W8 (ps:=λi=>(L[i]?.getD (0,[],0,.non)).1) (key:=λi=>(L[i]?.getD (0,[],0,.non)).2.1) (ka:=λi=>(L[i]?.getD (0,[],0,.non)).2.2.1) (xv:=xv) (I.ok.hd hc) hu P (λi d=>?_) (λi d=>?_) (by rw[f];exact y) λh' tk J T O=>?_
  .rw[f]at d;have g:L[i]?.getD (0,[],0,.non)=L[i]:=by rw[ae d];rfl
   obtain⟨u,v,Y⟩:=r.get (i:=i) (x:=.ref L[i].1) (by rw[aj,ae d];rfl);cases Y;rw[g];simpa using v
  .rw[f]at d;have g:L[i]?.getD (0,[],0,.non)=L[i]:=by rw[ae d];rfl
   refine⟨by rw[m i d];exact(n i d).choose_spec.2,?_⟩;show(kT X.prog X.w).is s.heap (L[i]?.getD (0,[],0,.non)).2.1 (L[i]?.getD (0,[],0,.non)).2.2.1;rw[g];exact CW I.hok (t _ (bR d)).2
  .rw[f]at J;have l:∀i,i<=L.length->KT H (Ch (L.take i)) (CL (λi=>(L[i]?.getD (0,[],0,.non)).2.1) (λi=>(L[i]?.getD (0,[],0,.non)).2.2.1) xv i):=by
    intro i;induction i with
    |zero=>intro _;exact .nil
    |succ i ih=>
     intro d;have g:L[i]?.getD (0,[],0,.non)=L[i]:=by rw[ae ⋯];rfl
     rw[bj,ae (show i<L.length by omega),Option.toList_some,Mx];show KT H _ (storedH _ (L[i]?.getD (0,[],0,.non)).2.1 (L[i]?.getD (0,[],0,.non)).2.2.1 _);have G:=(n i ⋯).choose_spec.1;rw[<-m i ⋯,g]at G;rw[g];exact KT.put (ih ⋯) _ (t _ (bR ⋯)).2 G
   have B:=l L.length (ag _);rw[aZ]at B;have D:(Ch L).length<=L.length:=by have:=Aj B;rw[this];exact JK
   obtain⟨o,U,ep,d1,Z,d3,d4,d5⟩:=J;refine⟨.ref s.heap.objs.size,_,I.laid (a:=s.heap.objs.size) (o:=.dT (Ch L)) (h':=h') (t':=tk) T (ag _) ?_,rfl,q _ N⟩;have sy:(s.heap.objs.size==AO)=A6:=by have:=I.big;rw[beq_eq_false_iff_ne];exact bp this
   refine⟨aF D y,sy,_,?_,o,U,ep,d1,Z,d3,d4,d5⟩;exact KT.keeps B λb ys e=>by rw[Au (Bb e N)];exact e
theorem WB(d:X.calm=A2)(hu:X.A.units+64<Ao):B7 X (.type "dict") My:=λg s i H b a Q I j⟨p,L,e,f,h⟩=>WA d hu g s i H b a Q I j ⟨p,L,e,.inl (.inl f),h⟩
end
abbrev QK:=Option (List Key×A4)
def kvV:QK->A1
 |A5=>.none
 |A0 q=>.ref q.2
section
variable{prog:AA}{w:AK}{A:AL}{R:Result->A3->Prop}{I:A4}{fp wr:List A4}{G:Array GenState->Array GenState->Prop}{n:Nat}{St:Nat->A3->Prop}
def Bk(qk:Nat->QK):Nat->List QK
 |0=>[]
 |i+1=>C9 (Bk qk i) (qk i)
def OkN(prog:AA)(w:AK)(n:Nat)(ps:Nat->A4)(qk:Nat->QK)(h:AJ):Prop:=
 ∀i,i<n->IsTup h (ps i) #[kvV (qk i),.bool A2]/\∀q,qk i=A0 q->(kT prog w).is h q.1 q.2/\(kT prog w).hash q.1≠NH
theorem OkN.at{ps:Nat->A4}{qk:Nat->QK}{h h':AJ}(x:OkN prog w n ps qk h)(k:∀i,i<n->∀b,(b=ps i\/∃q,qk i=A0 q/\b=q.2)->∀o,h.get? b=A0 o->h'.get? b=A0 o):OkN prog w n ps qk h':=λi f=>by obtain⟨⟨o,e,c,m,z⟩,r⟩:=x i f;refine⟨⟨o,k i f _ (.inl rfl) o e,c,m,z⟩,λq g=>?_⟩;obtain⟨⟨j,d,p,l,r2⟩,a⟩:=r q g;exact⟨⟨j,d,p,k i f _ (.inr ⟨q,g,rfl⟩) j l,r2⟩,a⟩
theorem Eu{qk:Nat->QK}:∀{i:Nat}{x:QK},x∈Bk qk i->∃j,j<i/\x=qk j
 |0,x,h=>by cases h
 |i+1,x,h=>by
  have h:x∈C9 (Bk qk i) (qk i):=h;unfold C9 at h;split at h;.obtain⟨j,b,a⟩:=Eu h;exact⟨j,⋯,a⟩
  .rcases aU.mp h with h|h;.obtain⟨j,b,a⟩:=Eu h;exact⟨j,⋯,a⟩
   .exact⟨i,⋯,aO.mp h⟩
theorem JL{qk:Nat->QK}:∀{i:Nat},(Bk qk i).length<=i
 |0=>ag _
 |i+1=>by
  show(C9 (Bk qk i) (qk i)).length<=_;have:=JL (qk:=qk) (i:=i);unfold C9;split;.omega
  .rw[aA];exact Nat.succ_le_succ this
set_option tactic.hygienic true in
theorem GL{qk:Nat->QK}:∀{i:Nat},((Bk qk i).map (aJ Prod.fst)).Nodup
 |0=>cG
 |i+1=>by
  show((C9 (Bk qk i) (qk i)).map (aJ Prod.fst)).Nodup;unfold C9;split;.exact GL
  .rename_i h;rw[aG];exact MQ GL h
def GM(prog:AA)(w:AK)(h:AJ)(d:A4)(b:List QK):Prop:=∃o a e,h.get? d=A0 o/\o.ExactDict/\o.data=.dict a e/\a.toList=b.map (C_ (kT prog w))
theorem WC{ps:Nat->A4}{qk:Nat->QK}(W:WalksS prog w A.in1 I fp wr G n (λi v=>v=.ref (ps i)) St)(d:A4)(U:d∉fp)(hu:A.in1.units<Ao)
  (P:∀i,i<n->ps i∉d::wr)(Q:∀i,i<n->∀q,qk i=A0 q->q.2∉d::wr)(hn:n<=A7):
  ∀(k i:Nat)(s:A3),n-i=k->i<=n->St i s->OkN prog w n ps qk s.heap->GM prog w s.heap d (Bk qk i)->
   (∀g,Moved (d::wr) G s g->GM prog w g.heap d (Bk qk n)->R (.ok (.ret .none)) g)->
   codeAny (AD prog w) A (.builtin "dict.update.loop" ⟨[.ref d,.ref I,AX (i:Int),.none],[]⟩) R s:=by
 have X:d∉wr:=λh=>U (W.sub _ h);have p:∀b∈wr,b∈d::wr:=λb B=>ay _ B;intro k;induction k with
 |zero=>
  intro i s O hi J a1 hD hR;have a4:i=n:=by omega
  subst a4;refine Ae F.GJ ?_;rw[AL.under_plainId F.Dk _];show A8 _ A.in1 (pyNext (.ref I)>>=_) _ _ s;refine aa (W.done s _ _ J λg L=>?_);dsimp only;unfold AB.Dict.addKeywords;refine aa (ab ?_);refine ab (hR g (L.mono p) ?_);obtain⟨o,es,ep,h1,h2⟩:=hD;exact⟨o,es,ep,L.heap _ _ X h1,h2⟩
 |succ k ih=>
  intro i s O hi J a1 hD hR;have E:i<n:=by omega
  refine Ae F.GJ ?_;rw[AL.under_plainId F.Dk _];show A8 _ A.in1 (pyNext (.ref I)>>=_) _ _ s;refine aa (W.item i s _ _ E J λv g hP Y L=>?_);subst hP;dsimp only;have r:OkN prog w n ps qk g.heap:=a1.at λj K b B o e=>L.heap b o (λz=>by
   rcases B with rfl|⟨q,H,rfl⟩;.exact P j K (p _ z)
   .exact Q j K q H (p _ z)) e;obtain⟨a7,a3⟩:=r i E;obtain⟨ot,a0,b0,nt,a5⟩:=a7;have a8:g.TypeIs (.ref (ps i)) "tuple":=⟨ot,a0,b0⟩;refine aa (aC ?_);refine aa (wpAny_tryCatch ?_);unfold AB.Dict.pairItems;refine aa (dw a8 ?_);rw[if_pos (by decide)];refine aa (bQ a0 a5 ?_);refine ab ?_;show A8 _ _ (holding [kvV (qk i),.bool A2] (dictSet d (kvV (qk i)) (.bool A2))) _ _ g;obtain⟨o,es,ep,h1,h2,h3,h4⟩:=hD;have S:=L.heap _ _ X h1;have m:MixO (kT prog w) g.heap es (Bk qk i):=by
   refine⟨h4,λk b O=>?_,λk b O=>?_,GL⟩;.obtain⟨j,K,e⟩:=Eu O;exact((r j ⋯).2 _ e.symm).1
   .obtain⟨j,K,e⟩:=Eu O;exact((r j ⋯).2 _ e.symm).2
  have hz:(Bk qk i).length<=A7:=aF JL ⋯;refine aC ?_;have T:∀(D:AJ)(C:AS)(f:Array AV)(l tk:Nat),D.get? d=A0 C->C.ExactDict->C.data=.dict f l->f.toList=(Bk qk (i+1)).map (C_ (kT prog w))->bB d g.heap D->
    codeAny (AD prog w) A (.builtin "dict.update.loop" ⟨[.ref d,.ref I,AX (((i+1:Nat)):Int),.none],[]⟩) R {g with heap:=D,toks:=g.toks+tk}:=by
   intro D C f l tk t u y x M;have k':∀b o,b∉d::wr->g.heap.get? b=A0 o->D.get? b=A0 o:=λb o B e=>(M.2 b (λz=>B (by rw[z];exact az))).trans e;refine ih (i+1) _ ⋯ E (W.frame _ g _ _ Y (bm _ _) λb B o e=>?_) (r.at λj K b B o e=>k' b o (λz=>?_) e) ⟨C,f,l,t,u,y,x⟩ λa6 Z N=>?_;.exact(M.2 b (λh:b=d=>U (by rw[<-h];exact B))).trans e
   .rcases B with rfl|⟨q,H,rfl⟩;.exact P j K z
    .exact Q j K q H z
   .exact hR a6 (Moved.trans W.gtrans ((L.mono p).then_heap (bm _ _) k') Z) N
  cases H:qk i with
  |none=>refine MP (s:=g) S h2 h3 m hz λD C f l t u y x M=>?_;refine ab ⟨plainId_quiet F.Dk _,?_⟩;rw[show AX ((i:Int)+1)=AX (((i+1:Nat)):Int)by rw[Int.natCast_add];rfl];exact T D C f l 1 t u y (by rw[x,show Bk qk (i+1)=C9 (Bk qk i) (qk i)from rfl,H]) M
  |some q=>obtain⟨a2,a9⟩:=a3 q H;refine MO (s:=g) (k:=q.1) (a:=q.2) hu a2 a9 S h2 h3 m hz λD C f l t u y x M=>?_;refine ab ⟨plainId_quiet F.Dk _,?_⟩;rw[show AX ((i:Int)+1)=AX (((i+1:Nat)):Int)by rw[Int.natCast_add];rfl];exact T D C f l _ t u y (by rw[x,show Bk qk (i+1)=C9 (Bk qk i) (qk i)from rfl,H]) M
end
section
variable{prog:AA}{w:AK}{A:AL}{E:A1->A3->Prop}{s:A3}
set_option maxRecDepth 100000 in
set_option maxHeartbeats 3200000 in
theorem WD{l:A4}{items:Array A1}{ps:Nat->A4}{qk:Nat->QK}{Q:A1->A3->Prop}
  (hh:A.handled=A5)(hu:A.units+64<Ao)(hl:PlainL s.heap l items)(hit:∀i,i<items.size->items[i]?=A0 (.ref (ps i)))(hok:OkN prog w items.size ps qk s.heap)(hsz:items.size<=A7)
  (h:∀(h':AJ)(tk:Nat),GM prog w h' s.heap.objs.size (Bk qk items.size)->(∀b o,s.heap.get? b=A0 o->h'.get? b=A0 o)->s.toks<=tk->Q (.ref s.heap.objs.size) {s with heap:=h',toks:=tk}):
  A8 (AD prog w) A (call (.type "dict") [.ref l]) Q E s:=by
 obtain⟨c,tl,hmro⟩:=F.Br.mro;have hmade:=F.Br.made;have hsub:=F.Br.sub;refine wpAny_call (codeAny_of_tree ?_);show A8 _ _ (callAny (.type "dict") _) _ _ _;refine ab ⟨Code.quiet_builtin _ ⋯,Ae F.entry_type_call ?_⟩;rw[AL.under_plain (weight_type_call_type "dict" [.ref l] []) rfl];have h1:=F.Br.notType;have h2:=F.Br.canCreate;have hct:=F.Mu (.ref l);repeat(any_goals(first|assumption|wp_step))
 refine Ag (Mv (.ref l) (E:=E) (Q₁:=λobj s₁=>obj=.ref s.heap.objs.size/\s₁={s with heap:=s.heap.push {cls:=.type "dict",data:=.dict #[]}}) ⟨rfl,rfl⟩) λr s₁ hr=>?_;cases r with
 |error e=>exact hr
 |ok fl=>
  cases fl with
  |ret obj=>
   obtain⟨rfl,rfl⟩:=hr;have hS:(s.heap.push {cls:=.type "dict",data:=.dict #[]}).get? s.heap.objs.size=A0 {cls:=.type "dict",data:=.dict #[]}:=ai _ rfl;have hT:A3.TypeIs {s with heap:=s.heap.push {cls:=.type "dict",data:=.dict #[]}} (.ref s.heap.objs.size) "dict":=⟨_,hS,rfl⟩;have hli:=F.Br.init.lookup;have hbi:=F.Br.init.bind (.ref s.heap.objs.size);repeat(any_goals(first|assumption|wp_step))
   refine Ag (codeAny_call_builtin (R:=wants (λr s₂=>r=.none/\∃h' tk,s₂={s with heap:=h',toks:=tk}/\GM prog w h' s.heap.objs.size (Bk qk items.size)/\(∀b o,s.heap.get? b=A0 o->h'.get? b=A0 o)/\s.toks<=tk) E) F.Br.init.plain F.entry_dict_init (F.Br.init.check _ _ _ _ _ _ _ _ hT (F.args_dict_init_2 _ _) ?_)) λr₂ s₂ hr₂=>?_
   .obtain⟨⟨ocls,odict,odata,oslots⟩,nl,hol,hcl,hdl,hdd⟩:=hl;simp only at hcl hdl hdd;subst hcl;subst hdl;subst hdd;have hol':(s.heap.push {cls:=.type "dict",data:=.dict #[]}).get? l=A0 {cls:=.type "list",dict:=A5,data:=.seq items nl,slots:=oslots}:=ac _ hol;have hTl:A3.TypeIs {s with heap:=s.heap.push {cls:=.type "dict",data:=.dict #[]}} (.ref l) "list":=⟨_,hol',rfl⟩;unfold AB.«dict.__init__»AB.Dict.selfAndRest AB.Dict.notOrdered AB.Dict.updateCommon AB.Dict.updateFrom;generalize hGA:getAttr?=GA;generalize hPI:pyIter=PI;repeat(any_goals(first|assumption|wp_step))
    subst hGA;have hh2:A.in1.in1.handled=A5:=by simp[hh]
    refine Mq hol' hh2 λh2 tk2 k2 z2 t2=>?_;have hlS:l<s.heap.objs.size:=ak hol;rw[aW]at z2;simp only[Option.isNone_none,if_true];refine aa (bq ?_);subst hPI;have hl2:h2.IsList l items:=⟨_,k2 _ _ hol',rfl,nl,rfl⟩;refine aa (cL (s:=⟨h2,s.gens,s.drawn,tk2,s.os⟩) hl2 ?_);refine ab ⟨Code.quiet_builtin _ ⋯,?_⟩;have hneI:l≠h2.objs.size:=ax (aq hlS ⋯);have hDI:s.heap.objs.size≠h2.objs.size:=by omega
    have hDf:s.heap.objs.size∉[h2.objs.size,l]:=by simp only[ao,aO,av,or_false,not_or];exact⟨hDI,bp hlS⟩
    have hok2:OkN prog w items.size ps qk (h2.push {cls:=.type "list_iterator",data:=.fields #[.ref l,.int 0 0]}):=hok.at λi hi b hb o e=>ac _ (k2 _ _ (ac _ e));have old:∀{b:A4}{o:AS},s.heap.get? b=A0 o->b∉[s.heap.objs.size,h2.objs.size]:=λ{b o}e=>by have:=ak e;simp only[ao,aO,av,or_false,not_or];exact⟨ax this,ax (aq this ⋯)⟩
    have hh3:A.in1.in1.handled=A5:=hh2;refine WC (G:=λa b=>b=a) (fp:=[h2.objs.size,l]) (wr:=[h2.objs.size]) (n:=items.size) (ps:=ps) (qk:=qk) (St:=λi s=>(AJ.IsListIter s.heap h2.objs.size l i)/\s.heap.IsList l items) ?W s.heap.objs.size hDf ?hu (λi hi=>old (hok i hi).1.choose_spec.1) (λi hi q hq=>old ((hok i hi).2 q hq).1.choose_spec.choose_spec.choose_spec.1) hsz (items.size-0) 0 _ ⋯ (aN _) ?hSt hok2 ?hD0 ?hR;case W=>exact Mw ((Walks.list hh3 _ l hneI items).toS) λi v hi hv=>(Option.some.inj ((hit i hi).symm.trans hv)).symm
    case hu=>simp[units_in1];omega
    case hSt=>exact⟨⟨_,ai _ rfl,rfl,rfl⟩,hl2.push _⟩
    case hD0=>exact⟨_,#[],0,ac _ (k2 _ _ hS),⟨rfl,rfl,rfl⟩,rfl,rfl⟩
    case hR=>intro s' hm hD';obtain⟨h',g',d',tk',os'⟩:=s';have eg:g'=s.gens:=hm.gens;have ed:d'=s.drawn:=hm.drawn;have eo:os'=s.os:=hm.os;subst eg;subst ed;subst eo;have htk:tk2<=tk':=hm.toks;have ht2:s.toks<=tk2:=t2;exact⟨rfl,h',tk',rfl,hD',λb o e=>hm.heap b o (old e) (ac _ (k2 _ _ (ac _ e))),⋯⟩
   .cases r₂ with
    |error e=>exact hr₂
    |ok fl₂=>
     cases fl₂ with
     |ret r=>
      obtain⟨rfl,h',tk,rfl,hS',hk',htk⟩:=hr₂;repeat(any_goals(first|assumption|wp_step))
      exact h _ _ hS' hk' htk
     |_=>exact hr₂.elim
  |_=>exact hr.elim
end
def nkV:NK->V
 |A5=>.non
 |A0 q=>.ref q.2
abbrev PN:=List (A4×NK)
def BP(L:PN):List NK:=L.foldl (λl x=>BH l x.2) []
theorem WE{L:PN}{x:A4×NK}:BP (L++[x])=BH (BP L) x.2:=by unfold BP;rw[List.foldl_append];rfl
theorem WF{q:NK}{u:A1}(h:At (nkV q) u):u=kvV (lkN q):=by
 cases q with
 |none=>exact h
 |some q=>exact h
section
variable{X:Cx}
def Mz:List V->Hp->VK->Prop:=λa H Q=>∃(p:A4)(L:PN),a=[.ref p]/\H p=A0 (.lst (L.map λx=>V.ref x.1))/\L.length<=3999/\(∀x∈L,H x.1=A0 (.tup [nkV x.2,.bl A2])/\∀q,x.2=A0 q->H q.2=A0 (.tup (q.1.map V.int))/\hT q.1≠NH)/\∀d,H d=A5->Q (.ref d) (upd H d (B3 d (BP L)))
theorem WG(hc:X.calm=A2)(hu:X.A.units+64<Ao):B7 X (.type "dict") Mz:=by
 intro p_ s σ H xs us Q I G h;obtain⟨p,L,rfl,hs,h4,J,q⟩:=h;cases G with
 |cons r1 G=>
  cases G;cases r1;obtain⟨E,r,R,d⟩:=I.list (.inl (.inl hs));have g:=r.length;rw[af]at g d;have hn:H s.heap.objs.size=A5:=I.hok.fresh (ag _);have f:E.toArray.size=L.length:=by rw[au,<-g]
  refine WD (ps:=λi=>(L[i]?.getD (0,A5)).1) (qk:=λi=>lkN (L[i]?.getD (0,A5)).2) (I.ok.hd hc) hu R (λi l=>?_) (λi l=>?_) (by rw[f];exact d) λh' tk K U P=>?_
  .rw[f]at l;have m:L[i]?.getD (0,A5)=L[i]:=by rw[ae l];rfl
   obtain⟨u,B,Y⟩:=r.get (i:=i) (x:=.ref L[i].1) (by rw[aj,ae l];rfl);cases Y;rw[m];simpa using B
  .rw[f]at l;have m:L[i]?.getD (0,A5)=L[i]:=by rw[ae l];rfl
   obtain⟨g1,g2⟩:=J _ (bR l);show IsTup s.heap (L[i]?.getD (0,A5)).1 #[kvV (lkN (L[i]?.getD (0,A5)).2),.bool A2]/\∀q,lkN (L[i]?.getD (0,A5)).2=A0 q->(kT X.prog X.w).is s.heap q.1 q.2/\(kT X.prog X.w).hash q.1≠NH;rw[m];refine⟨?_,λz d=>?_⟩
   .obtain⟨_,N,r2,S⟩:=(show B0 X.prog X.w H s.heap _ (.tup [nkV L[i].2,.bl A2])from I.hok _ _ g1);cases r2 with
    |cons T r2=>
     cases r2 with
     |cons a2 r2=>cases r2;cases a2;obtain rfl:=WF T;exact S.tup
   .cases e:L[i].2 with
    |none=>rw[e]at d;cases d
    |some q=>rw[e]at d;cases d;obtain⟨g3,g4⟩:=g2 q e;exact⟨CW I.hok (by rw[EB];exact g3),by rw[EC];exact g4⟩
  .rw[f]at K;have n:∀i,i<=L.length->Bk (λi=>lkN (L[i]?.getD (0,A5)).2) i=(BP (L.take i)).map lkN:=by
    intro i;induction i with
    |zero=>intro _;rfl
    |succ i ih=>
     intro l;have m:L[i]?.getD (0,A5)=L[i]:=by rw[ae ⋯];rfl
     rw[bj,ae (show i<L.length by omega),Option.toList_some,WE,<-Iz,<-ih ⋯];show C9 _ (lkN (L[i]?.getD (0,A5)).2)=_;rw[m]
   have y:=n L.length (ag _);rw[aZ]at y;have t:(BP L).length<=L.length:=by have:=JL (qk:=λi=>lkN (L[i]?.getD (0,A5)).2) (i:=L.length);rw[y,af]at this;exact this
   have v:∀z,A0 z∈BP L->hT z.1≠NH:=λz d=>by
    have:lkN (A0 z)∈Bk (λi=>lkN (L[i]?.getD (0,A5)).2) L.length:=by rw[y];exact cU d
    obtain⟨j,O,e⟩:=Eu this;have m:L[j]?.getD (0,A5)=L[j]:=by rw[ae O];rfl
    rw[m]at e;cases C:L[j].2 with
    |none=>rw[C]at e;cases e
    |some q=>rw[C]at e;have e3:q.1.map Key.inl=z.1.map Key.inl:=congrArg Prod.fst (Option.some.inj e).symm;have e4:q.1=z.1:=Option.some.inj (Iy (congrArg A0 e3));rw[<-e4];exact((J _ (bR O)).2 q C).2
   have D:((BP L).map (aJ Prod.fst)).Nodup:=by have:=GL (qk:=λi=>lkN (L[i]?.getD (0,A5)).2) (i:=L.length);rw[y,Ix,List.nodup_iff_pairwise_ne,bM]at this;rw[List.nodup_iff_pairwise_ne];exact this.imp λ{a b}z e=>z (by rw[e])
   obtain⟨o,Z,ep,d1,d2,d3,M⟩:=K;rw[y,Es]at M;have sy:(s.heap.objs.size==AO)=A6:=by have:=I.big;rw[beq_eq_false_iff_ne];exact bp this
   exact⟨.ref s.heap.objs.size,_,I.laid (a:=s.heap.objs.size) (o:=B3 s.heap.objs.size (BP L)) (h':=h') (t':=tk) U (ag _) (G6 sy d1 ⟨aF t ⋯,v,D,Z,ep,d2,d3,M⟩),rfl,q _ hn⟩
end
section
variable{prog:AA}{w:AK}{A:AL}{E:A1->A3->Prop}{s:A3}
theorem M_{q b:A4}{j g:Nat}{m:AS}{es:Array AV}{i:AV}{Q:Option A1->A3->Prop}(a:s.heap.IsKeyIter q b j es.size g)(o:s.heap.get? b=A0 m)(n:m.data=.dict es g)(r:es[j]?=A0 i)
  (p:∀l,l.IsKeyIter q b (j+1) es.size g->bB q s.heap l->Q (A0 i.key) {s with heap:=l}):A8 (AD prog w) A (pyNext (.ref q)) Q E s:=by
 obtain⟨u,h,t,f⟩:=id a;unfold pyNext;refine aa (cm (aS (name:=AM.ofString "__next__") a.typeIs F.slot_dict_keyiterator_next (aP F.slot_dict_keyiterator_next a.typeIs F.entry_dict_keyiterator_next ?_ (F.args_dict_keyiterator_next_1 _))));refine aa (ab (aa (aa ?_)));first|refine aa (cv a.typeIs (ab ?_))|refine aa (cO a.typeIs (ab ?_))
 refine aa (wpAny_fieldsOf h f ?_);have e:AB.Dict_items.ownsTuple "dict_keyiterator"=A6:=by decide
 simp only[e,aV,if_false];show A8 _ _ (if(A1.ref b==A1.none)=A2 then _ else _) _ _ s;rw[if_neg (show¬((A1.ref b==A1.none)=A2)from al)];refine aa (ab (aa (bP o n ?_)));rw[if_neg (by simp)];refine aa (ab (aa (cB o n ?_)));rw[if_neg (by simp)];refine ab ?_;simp only[show¬((j:Int)<0)from by omega,if_false,bb,r];refine aa ?_;first|refine aa (cv a.typeIs (ab ?_))|refine aa (cO a.typeIs (ab ?_))
 refine aa (wpAny_isOneOf_keyiter a.typeIs ?_);show A8 _ _ (setField (.ref q) 1 (AX ((j:Int)+1))>>=_) _ _ s;refine aa (bK h f (by simp) ?_);have d:(s.heap.update q (AS.mapFields (·.setIfInBounds 1 (AX ((j:Int)+1))))).IsKeyIter q b (j+1) es.size g:=
  ⟨_,aM _ h (AS.isFreed_of_fields (AR f _)),(AS.cls_mapFields ..).trans t,by rw[AR f];simp[AX]⟩;refine aa (aC ?_);refine aa (wpAny_isOneOf_keyiter (s:={s with heap:=s.heap.update q (AS.mapFields (·.setIfInBounds 1 (AX ((j:Int)+1))))}) d.typeIs ?_);show A8 _ _ (pure i.key) _ _ _;exact ab (ab ⟨_,rfl,ab (p _ d (AJ.SameBut.update ..))⟩)
theorem N2{q f:A4}{j p:Nat}{g:AS}{es:Array AV}{Q:Option A1->A3->Prop}(u:A.handled=A5)(d:s.heap.IsKeyIter q f j es.size p)(l:s.heap.get? f=A0 g)(i:g.data=.dict es p)(t:es.size<=j)
  (r:∀o,AJ.ExtBut q s.heap o->Q A5 {s with heap:=o}):A8 (AD prog w) A (pyNext (.ref q)) Q E s:=by
 obtain⟨x,h,v,n⟩:=id d;unfold pyNext;refine aa (cm (aS (name:=AM.ofString "__next__") d.typeIs F.slot_dict_keyiterator_next (aP F.slot_dict_keyiterator_next d.typeIs F.entry_dict_keyiterator_next ?_ (F.args_dict_keyiterator_next_1 _))));refine aa (ab (aa (aa ?_)));first|refine aa (cv d.typeIs (ab ?_))|refine aa (cO d.typeIs (ab ?_))
 refine aa (wpAny_fieldsOf h n ?_);have e:AB.Dict_items.ownsTuple "dict_keyiterator"=A6:=by decide
 simp only[e,aV,if_false];show A8 _ _ (if(A1.ref f==A1.none)=A2 then _ else _) _ _ s;rw[if_neg (show¬((A1.ref f==A1.none)=A2)from al)];refine aa (ab (aa (bP l i ?_)));rw[if_neg (by simp)];refine aa (ab (aa (cB l i ?_)));rw[if_neg (by simp)];refine ab ?_;simp only[show¬((j:Int)<0)from by omega,if_false,bb,Array.getElem?_eq_none t];refine aa ?_;first|refine aa (cv d.typeIs (ab ?_))|refine aa (cO d.typeIs (ab ?_))
 show A8 _ _ (setField (.ref q) 0 .none>>=_) _ _ s;refine aa (bK h n (by simp) ?_);show A8 _ _ (newExc (.type "StopIteration") []>>=_) _ _ _;refine aa ?_;simp only[newExc,newTuple];refine aa (aI ?_ (by size_fits));refine aa (m:=Am _ _) (cQ (a:=A1.none) (by first|rfl|(simp only[Am];rfl)) ?_);refine aI ?_ (by size_fits);simp only[raiseNew];refine aa (dy ?_);rw[show A.in1.handled=A5 from u];refine aa (ab (wpAny_throw ?_));refine aa (bT (T:="StopIteration") (b:=A2) ⟨_,ai _ rfl,rfl⟩ isSubtype_stop ?_);exact ab (r _ (((AJ.SameBut.update ..).extBut.push _).push _))
theorem N6{a:A4}{d:Nat}{e:AS}{es:Array AV}{Q:A1->A3->Prop}(g:(a==AO)=A6)(hT:s.TypeIs (.ref a) "dict")(f:s.heap.get? a=A0 e)(b:e.data=.dict es d)
  (h:Q (.ref s.heap.objs.size) {s with heap:=s.heap.push {cls:=.type "dict_keyiterator",data:=.fields #[.ref a,.int 0 0,.int es.size 0,.int d 0]}}):A8 (AD prog w) A (pyIter (.ref a)) Q E s:=by refine wpAny_pyIter_slot hT F.slot_dict_iter (aP F.slot_dict_iter hT F.entry_dict_iter ?_ (F.args_dict_iter_1 _));unfold AB.«dict.__iter__»;refine aa ?_;unfold AB.Dict.dictSlotNone;refine aa (dh hT ?_);show A8 _ _ (pure (A1.ref a)) _ _ s;refine ab ?_;show A8 _ _ (AB.Dict.showsAll a>>=_) _ _ s;unfold AB.Dict.showsAll;rw[if_neg (by rw[g];exact al)];refine aa (ab (aa (bP f b (aa (cB f b ?_)))));refine aa (aI (ab ⟨_,rfl,"dict_keyiterator",_,⟨_,ai _ rfl,rfl⟩,F.slot_dict_keyiterator_next.lookup,?_⟩));simpa[AX]using h
end
def Fz(H:Hp)(d:A4)(o:AS):Prop:=∃u,H d=A0 (.frz o u)
def KsO(o:AS)(ks:List V):Prop:=∃a b,o.data=.dict a b/\Av ks (a.toList.map (·.key))
def Cj(d:A4)(o:AS)(ks:List V):It:=⟨λi H=>i<ks.length/\Fz H d o,λi H x a=>a=H/\ks[i]?=A0 x,λi H=>ks.length<=i/\Fz H d o⟩
theorem Fz.at{P:AA}{w:AK}{H:Hp}{h:AJ}{d:A4}{o:AS}(f:Fz H d o)(x:HOk P w H h):h.get? d=A0 o:=let⟨u,e⟩:=f;(x d _ e).1
theorem WH{P:AA}{w:AK}{K:W.Frag}{Q:A9}(it d:A4){o:AS}{ks:List V}{es:Array AV}{O:Nat}(hd:o.data=.dict es O)(L:Av ks (es.toList.map (·.key))):Turn P w K Q (Cj d o ks) [it] it (λi h=>h.IsKeyIter it d i es.size O)where
 mem:=by simp
 obj:=λi h a b f=>by
  have e:b=it:=by simpa using f
  subst e;obtain⟨j,e,c,x⟩:=a;exact⟨j,e,λv z=>by rw[x]at z;cases z⟩
 keep:=λi h l a k=>a.at λj e=>k it (by simp) j e
 item:=by intro X r hw p J i M s G H E I m a n;subst r hw p;obtain⟨N,C⟩:=n;have D:ks[i]?=A0 ks[i]:=ae N;obtain⟨u,hu,R⟩:=L.get D;rw[aj]at hu;obtain⟨en,T,rfl⟩:=aY.mp hu;obtain⟨t,y,S,A,q,B⟩:=m it (by simp);refine M_ a (C.at I.hok) hd (by simpa using T) λl g sb=>?_;have Z:Inv X M G H {s with heap:=l}:=I.turned (t':=s.toks) (λb o f e=>(sb.2 b f).trans e) t y A q B;obtain⟨j,U,c,x⟩:=id g;exact⟨_,rfl,Dz (s:={s with heap:=l}) U c x (by decide) ⟨_,H,Z,R,⟨rfl,D⟩,g,λb f=>(m b f).1⟩⟩
 done:=by
  intro X r hw p J i M s G H E I m a n;subst r hw p;obtain⟨N,C⟩:=n;obtain⟨t,y,S,A,q,B⟩:=m it (by simp);have hl:ks.length=es.size:=by have:=L.length;simpa using this
  exact N2 (I.ok.hd J) a (C.at I.hok) hd ⋯ λl Y=>⟨rfl,I.turned (t':=s.toks) (λb o f e=>Y b o f e) t y A q B⟩
 self:=λ_ _ _ _ _ a h=>wpAny_pyIter_keyiter a h
theorem WI{P:AA}{w:AK}{K:W.Frag}{R:A9}(it d:A4){o:AS}{ks:List V}{vs:List (Key×A1)}{Q:Nat}(hd:∀h:AJ,h.get? d=A0 o->h.DictAt (B8 P w) d vs Q)(M:Av ks (vs.map (·.2))):Turn P w K R (Cj d o ks) [it] it (λi h=>h.IsValIter it d i vs.length Q)where
 mem:=by simp
 obj:=λi h a b f=>by
  have e:b=it:=by simpa using f
  subst e;obtain⟨D,e,c,x⟩:=a;exact⟨D,e,λv z=>by rw[x]at z;cases z⟩
 keep:=λi h j a k=>let⟨o,U,r⟩:=a;⟨o,k it (by simp) o U,r⟩
 item:=by intro X q hw n L i N s J H E I l a m;subst q hw n;obtain⟨O,C⟩:=m;have G:ks[i]?=A0 ks[i]:=ae O;obtain⟨u,hu,T⟩:=M.get G;rw[aj]at hu;obtain⟨⟨k,u'⟩,Y,rfl⟩:=aY.mp hu;obtain⟨t,y,S,A,p,B⟩:=l it (by simp);refine wpAny_pyNext_values_item a (hd _ (C.at I.hok)) Y λj g sb=>?_;have I1:Inv X N J H {s with heap:=j}:=I.turned (t':=s.toks) (λb o f e=>(sb.2 b f).trans e) t y A p B;obtain⟨D,Z,c,x⟩:=id g;exact⟨_,rfl,Dz (s:={s with heap:=j}) Z c x (by decide) ⟨_,H,I1,T,⟨rfl,G⟩,g,λb f=>(l b f).1⟩⟩
 done:=by
  intro X q hw n L i N s J H E I l a m;subst q hw n;obtain⟨O,C⟩:=m;obtain⟨t,y,S,A,p,B⟩:=l it (by simp);have hl:ks.length=vs.length:=by have:=M.length;simpa using this
  exact wpAny_pyNext_values_end (I.ok.hd L) a (hd _ (C.at I.hok)) (bg ⋯) λj eb=>⟨rfl,I.turned (t':=s.toks) (λb o f e=>eb b o f e) t y A p B⟩
 self:=λ_ _ _ _ _ a h=>wpAny_pyIter_valiter a h
section
variable{X:Cx}{tg:A9}
theorem HOk.freeze{P:AA}{w:AK}{H:Hp}{h:AJ}{d:A4}{u:HO}{o:AS}(x:HOk P w H h)(e:H d=A0 u)(hu:Mut (A0 u))(m:h.get? d=A0 o):HOk P w (upd H d (.frz o u)) h:=λb v q=>by
 have g:∀c i,H c=A0 (.tup i)->c≠d:=λc i r z=>by subst z;rw[r]at e;cases e;exact hu
 have f:∀c y,H c=A0 (.own y)->c≠d:=λc y r z=>by subst z;rw[r]at e;cases e;exact hu
 have l:∀a v,B0 P w H h a v->B0 P w (upd H d (.frz o u)) h a v:=λa v y=>y.stay (λ_ _ _ q=>q) (λc r=>by rw[Au (f c a r)];exact r) λc i r=>by rw[Au (g c i r)];exact r
 by_cases j:b=d;.subst j;rw[Aw]at q;cases q;exact⟨m,l _ _ (x _ _ e)⟩
 .rw[Au j]at q;exact l _ _ (x b v q)
theorem Inv.freeze{a:List (A4×AS)}{σ:St}{H:Hp}{s:A3}{d:A4}{u:HO}{o:AS}(I:Inv X a σ H s)(e:H d=A0 u)(hu:Mut (A0 u))(f:s.heap.get? d=A0 o):Inv X a σ (upd H d (.frz o u)) s:=by
 have:=I.step (h':=s.heap) (g':=s.gens) (d':=s.drawn) (t':=s.toks) (ch:=[]) (H':=upd H d (.frz o u)) (λ_ z=>nomatch z) (λb o _ _ _ q _=>q) (λb o _ _ _ q _=>⟨o.slots,q⟩)
  (λb o _ _ n=>by rw[Au (λz=>by subst z;rw[n]at e;cases e)];exact n) (λb o _ q=>⟨o,q⟩)
  (λb h q=>by rw[Au (λz=>by subst z;rw[q]at e;cases e;exact hu)];exact q)
  (λb o v q=>by rw[Au (λz=>by subst z;rw[q]at e;cases e;exact hu)];exact q)
  (λb g q=>⟨#[],by rw[Au (λz=>by subst z;rw[q]at e;cases e;exact hu),Array.append_empty];exact q⟩)
  (λm n=>n) (I.hok.freeze e hu f) I.bare;exact this
def DkV(x:V)(e:Hp)(R:It->Hp->Prop):Prop:=∃d a,x=.ref d/\Rd e d (.dK a)/\∀o,KsO o (a.map λb=>kV b.1)->R (Cj d o (a.map λb=>kV b.1)) (upd e d (.frz o (.dK a)))
def DtV(x:V)(f:Hp)(R:It->Hp->Prop):Prop:=∃d b,x=.ref d/\Rd f d (.dT b)/\∀o(e:List A4),e.length=b.length->(∀(i:Nat)a g,e[i]?=A0 a->b[i]?=A0 g->f a=A0 (.tup (g.1.map kV)))->KsO o (e.map V.ref)->R (Cj d o (e.map V.ref)) (upd f d (.frz o (.dT b)))
def DnV(x:V)(a:Hp)(R:It->Hp->Prop):Prop:=∃d L,x=.ref d/\a d=A0 (B3 d L)/\Bo a L/\∀o,KsO o (L.map nkV)->R (Cj d o (L.map nkV)) (upd a d (.frz o (B3 d L)))
def DvV(x:V)(b:Hp)(R:It->Hp->Prop):Prop:=∃v d a,x=.ref v/\b v=A0 (VwO v d)/\b d=A0 (.dK a)/\∀o,R (Cj d o (a.map (·.2))) (upd b d (.frz o (.dK a)))
def JM(d:TE):TI:=λb H R=>d b H λx a=>DkV x a R\/DtV x a R\/DnV x a R\/DvV x a R
set_option tactic.hygienic true in
theorem WJ{H:Hp}{d:A4}{u:HO}(e:H d=A0 u):upd H d u=H:=by
 funext b;unfold upd;split;.rename_i z;rw[z,e]
 .rfl
theorem JN{l:List (A4×AS)}{σ:St}{f:Hp}{a:A3}{d:A4}{u:HO}{R:It->Hp->Prop}{ks:List V}{o:AS}{es:Array AV}{n:Nat}(j:Inv X l σ f a)(r:Rd f d u)(hu:Mut (A0 u))(s:(d==AO)=A6)(hT:a.TypeIs (.ref d) "dict")
  (h:a.heap.get? d=A0 o)(g:o.data=.dict es n)(m:Av ks (es.toList.map (·.key)))(q:∀o,KsO o ks->R (Cj d o ks) (upd f d (.frz o u))):A8 (AD X.prog X.w) X.A (pyIter (.ref d)) (PIE X l σ tg R) X.xe a:=by
 have i:Inv X l σ (upd f d (.frz o u)) a:=by
  rcases r with e|⟨t,e⟩;.exact j.freeze e hu h
  .have:=(j.hok d _ e).1;rw[h]at this;cases this;rw[WJ e];exact j
 refine N6 s hT h g ?_;refine⟨a.heap.objs.size,[a.heap.objs.size],_,_,upd f d (.frz o u),rfl,i.kept (t':=a.toks) (λb o e=>ac _ e),WH _ d g m,⟨_,ai _ rfl,rfl,rfl⟩,λb p=>?_,q o ⟨es,n,g,m⟩⟩;have e:b=a.heap.objs.size:=by simpa using p
 subst e;exact i.fpOk (ag _) (i.hok.fresh (ag _))
theorem WK{l:A9}{tl:TE}(S:PE X l tl):PI X tg l (JM tl):=by
 intro p_ s σ H R I h;refine thn (S p_ s σ H _ I h) λv y⟨x,G,D,r1,q1⟩=>?_;rcases q1 with⟨d,t,rfl,E,q⟩|⟨d,t,rfl,E,q⟩|⟨d,L,rfl,hD,ht,q⟩|⟨v,d,t,rfl,hv,E,q⟩
 .cases r1;obtain⟨z,J,O,g,Y⟩:=(show B0 X.prog X.w G y.heap d (.dK t)from E.ok D.hok);obtain⟨o,N,P,A,Q,f,hk,K,hn⟩:=id Y;refine JN D E trivial J Y.typeIs A f (Dj ?_ ?_) q;.have U:=g.length;have h2:=K.length;rw[af,af];omega
  .intro i x u j hu;rw[aj]at j hu;obtain⟨B,n,rfl⟩:=aY.mp j;obtain⟨en,a4,rfl⟩:=aY.mp hu;obtain⟨p,C⟩:∃p,O[i]?=A0 p:=by have U:=g.length;obtain⟨S,_⟩:=aK.mp n;exact⟨O[i]'⋯,ae _⟩
   have e:=(JH g n C).1;rw[e];exact Mn (K.get? a4 C).1
 .cases r1;obtain⟨z,J,T,g,o,N,P,A,Q,f,he,hn⟩:=(show B0 X.prog X.w G y.heap d (.dT t)from E.ok D.hok);have hT:y.TypeIs (.ref d) "dict":=⟨o,A,Q.1⟩;have S:T.length=t.length:=g.length.symm;refine JN D E trivial J hT A f (ks:=(T.map λx=>x.2.1).map V.ref) (Dj ?_ ?_) λo' a1=>q o' (T.map λx=>x.2.1) (by rw[af];exact S) (λi a B ha n=>?_) a1;.rw[he];simp
  .intro i x u j hu;rw[he,aj,aj]at hu;rw[aj,aj]at j;cases e:T[i]? with
   |none=>rw[e]at j;simp at j
   |some p=>rw[e]at j hu;simp at j hu;rw[<-j,<-hu];rfl
  .rw[aj]at ha;obtain⟨p,K,rfl⟩:=aY.mp ha;have a0:∀{l:List (List Key×V)}{m:List (List Key×A4×A1)},An (λ(p:List Key×V)(q:List Key×A4×A1)=>p.1=q.1/\G q.2.1=A0 (.tup (p.1.map kV))/\At p.2 q.2.2) l m->∀(i:Nat)B p,l[i]?=A0 B->m[i]?=A0 p->G p.2.1=A0 (.tup (B.1.map kV)):=by
    intro l m r;induction r with
    |nil=>intro i B p h;simp at h
    |cons h r ih=>
     intro i B p U h2;cases i with
     |zero=>cases U;cases h2;exact h.2.1
     |succ i=>exact ih i B p (by simpa using U) (by simpa using h2)
   exact a0 g i B p n K
 .cases r1;obtain⟨J,_,_,_,o,N,P,A,a2,f,m⟩:=I_ D hD ht;have M:N.toList=L.map G5:=m.its.trans Es;refine JN D (.inl hD) True.intro J (J6 A a2) A f (ks:=L.map nkV) (Dj (by rw[M];simp) λi x u j hu=>?_) q;rw[M,aj,aj]at hu;rw[aj]at j;cases e:L[i]? with
  |none=>rw[e]at j;cases j
  |some z=>rw[e]at j hu;cases j;cases hu;cases z<;>rfl
 .cases r1;have a3:y.heap.IsValuesView v d:=(show B0 X.prog X.w G y.heap v (VwO v d)from D.hok v _ hv).1;obtain⟨z,J,O,g,Y⟩:=Fx D.hok E;obtain⟨o,N,P,A,Q,f,hk,K,hn⟩:=id Y;have hat:∀h:AJ,h.get? d=A0 o->h.DictAt (B8 X.prog X.w) d O P:=λh e=>⟨o,N,e,Q,f,hk,K,hn⟩;have Z:Inv X p_ σ (upd G d (.frz o (.dK t))) y:=D.freeze E trivial A;refine wpAny_pyIter_values a3 (hat _ A) ?_;refine⟨y.heap.objs.size,[y.heap.objs.size],_,_,_,rfl,Z.kept (t':=y.toks) (λb o e=>ac _ e),WI _ d hat (Dj ?_ ?_),⟨_,ai _ rfl,rfl,rfl⟩,λb hb=>?_,q o⟩;.rw[af,af];exact g.length
  .intro i x u j hu;rw[aj]at j hu;obtain⟨B,n,rfl⟩:=aY.mp j;obtain⟨p,C,rfl⟩:=aY.mp hu;exact(JH g n C).2
  .have e:b=y.heap.objs.size:=by simpa using hb
   subst e;exact Z.fpOk (ag _) (Z.hok.fresh (ag _))
end
section
variable{X:Cx}{pos:Pos}
def JO(K:W.Frag)(n:Nat)(t:TGs):TG:=λv d H Q=>∃a b,v=.ref a/\(SqT K H a b\/SqL K H a b)/\b.length=n/\t b d H Q
theorem WL{es:List A9}{k:Nat}{t:TGs}{n:Nat}(p:X.calm=A2)(h:PGs X es t)
  (w:(Al es X.env).length=n:=by rfl)(f:(Al es X.env).findIdx? (·.1)=A5:=by rfl):PG X (.Tuple es k pos) (JO X.K n t):=by
 intro j s g H v u Q I r hw;obtain⟨a,q,l,d,m,hw⟩:=hw;rcases d with d|d;.exact RR p h w f j s g H v u Q I r ⟨a,q,l,d,m,hw⟩
 .subst l;cases r;obtain⟨i,x,y,D⟩:=I.list d;rw[assign_Tuple];refine aa (ck ?_);unfold unpack;rw[w,f];have e:n=i.toArray.size:=by simp[<-m,x.length]
  rw[e];refine aa (aC (W.kun_itemsOf (I.ok.hd p) y.isList λB A=>?_));have C:Inv X j g H {s with heap:=B}:=I.kept (t':=s.toks) λb o e=>A b o (ax (ak e)) e;exact h j _ g H q _ Q C (by simpa using x) hw
end
section
variable{prog:AA}{w:AK}{A:AL}{E:A1->A3->Prop}{s:A3}{K:Type} [DecidableEq K]{knd:HeapKind prog w K}{d:A4}
theorem WM(knd:HeapKind prog w K)(e:(d==AO)=A6):MeetsIn prog w (AB.«dict.__len__» ⟨[.ref d],[]⟩) (λ_ R s=>∃b,s.heap.DictOfH knd d b/\R (.ok (.ret (.int b.length s.toks))) {s with toks:=s.toks+1}):=
 .of_wp λA R s⟨b,f,h⟩=>by obtain⟨o,l,m,i,j,a,g,_⟩:=f;show A8 _ _ (dictSize d>>=_) _ _ s;unfold dictSize;refine aa (aa (bP i a (ab ?_)));show A8 _ _ (AB.Dict.pendingCount d>>=_) _ _ s;refine aa (wpAny_pendingCount_other e ?_);refine wpAny_ret_mkInt ?_;rw[Nat.add_zero,size_of_entries g];exact h
theorem WN{xs:List (K×A4×A1)}{Q:A1->A3->Prop}(e:(d==AO)=A6)(a:s.heap.DictOfH knd d xs)(b:(xs.length:Int)<2^63)
  (h:Q (.int xs.length (s.toks+1)) {s with toks:=s.toks+1+1}):A8 (AD prog w) A (call (.builtin "len") [.ref d]) Q E s:=by
 refine Calls.call_function_entry kind_len plain_len entry_len (args_len1 _) ?_;unfold AB.«len»;refine aa (m:=oneArg "len" _) (ab ?_);refine aa (m:=callSpecial? (.ref d) (AM.ofString "__len__")) (aS (name:=AM.ofString "__len__") a.typeIs F.slot_dict_len
  (call_meetsIn F.slot_dict_len a.typeIs F.entry_dict_len (F.args_dict_len_1 _) (WM knd e) ⟨xs,a,?_⟩));show A8 _ _ _ _ _ {s with toks:=s.toks+1};refine aa (aC (ab ?_));refine aa (wpAny_letGo ?_);show A8 _ _ (if((xs.length:Nat):Int)<0 then _ else _) _ _ _;rw[if_neg ⋯];show A8 _ _ (if((xs.length:Nat):Int)≥2^63 then _ else _) _ _ _;rw[if_neg ⋯];exact aa (wpAny_mkInt (ab ⟨_,rfl,h⟩))
end
section
variable{X:Cx}
def N7:List V->Hp->VK->Prop:=λd H Q=>Mp d H Q\/∃a b,d=[V.ref a]/\Rd H a (.dT b)/\Q (.int b.length) H
theorem WO:B7 X (.builtin "len") N7:=by
 intro o s j H n f Q I r h;rcases h with h|⟨a,d,rfl,m,q⟩;.exact Vy o s j H n f Q I r h
 .obtain⟨u,rfl,i⟩:=C6 r;cases i;obtain⟨z,g,p,b,l⟩:=Cy I.hok m;have e:=Aj b;exact WN g l (by rw[<-e];rw[sizeLine_eq]at z;omega) ⟨.int d.length,H,I.tok _,⟨_,by rw[e]⟩,q⟩
end
open PySem.SeqAt
section
variable{prog:AA}{w:AK}{d:A4}{o:AS}{es:Array AV}{ep:Nat}
theorem WP{A:AL}(x:A.handled=A5)(I:A4)(m:d≠I)(q:o.data=.dict es ep):
  Walks prog w A I [I,d] [I] es.size (λi v=>∃u,es[i]?=A0 u/\v=u.key) (λi h=>h.IsKeyIter I d i es.size ep/\h.get? d=A0 o)where
 sub:=λb f=>by simp at f;simp[f]
 frame:=λ_ _ _ a r=>⟨a.1.at λo e=>r I (by simp) o e,r d (by simp) _ a.2⟩
 item:=λi s Q E y a g=>by
  have t:es[i]?=A0 es[i]:=by simp[y]
  refine M_ a.1 a.2 q t λp l j=>?_;exact g _ p s.toks ⟨_,t,rfl⟩ ⟨l,j.extBut d _ m a.2⟩ λb o f e=>j.extBut b o (λh=>f (by simp[h])) e
 done:=λs Q E a g=>N2 x a.1 a.2 q (ag _) λp n=>g p s.toks λb o f e=>n b o (λh=>f (by simp[h])) e
 self:=λ_ _ _ _ a g=>wpAny_pyIter_keyiter a.1 g
theorem N8(l:(d==AO)=A6)(e:o.cls=.type "dict")(f:o.data=.dict es ep):W.KdlSrc prog w "dict" d d es.size (λi v=>∃g,es[i]?=A0 g/\v=g.key) (λh=>h.get? d=A0 o)where
 type:=λ_ a=>⟨o,a,e⟩
 there:=λ_ a=>⟨ak a,ak a⟩
 keep:=λ_ _ a m=>m d (.inl rfl) _ a
 notList:=by decide
 notTuple:=by decide
 hint:=λ_ _ _ _ a b=>W.kdl_hint_dict ⟨o,a,e⟩ b
 iter:=λ_ _ j a=>⟨_,_,(λ_ _ b=>N6 l ⟨o,a,e⟩ a f b),WP j _ (ax (ak a)) f,⟨⟨_,ai _ rfl,rfl,rfl⟩,ac _ a⟩⟩
end
section
variable{X:Cx}
def KsA(H:Hp)(e:List A4)(b:List (List Key×V)):Prop:=e.length=b.length/\∀(i:Nat)a d,e[i]?=A0 a->b[i]?=A0 d->H a=A0 (.tup (d.1.map kV))
def N9:List V->Hp->VK->Prop:=λd H Q=>Mo d H Q\/∃(a:A4)(b:List (List Key×V)),d=[.ref a]/\Rd H a (.dT b)/\∀l(e:List A4),H l=A5->KsA H e b->Q (.ref l) (upd H l (.lst (e.map V.ref)))
theorem WQ{H:Hp}{l:List (List Key×V)}{m:List (List Key×A4×A1)}(r:KT H l m):∀(i:Nat)a p,l[i]?=A0 a->m[i]?=A0 p->H p.2.1=A0 (.tup (a.1.map kV)):=by
 induction r with
 |nil=>intro i a p h;simp at h
 |cons h r e=>
  intro i a p d b;cases i with
  |zero=>cases d;cases b;exact h.2.1
  |succ i=>exact e i a p (by simpa using d) (by simpa using b)
theorem WR(E:X.calm=A2):B7 X (.type "list") N9:=by
 intro U s N H j J Q I G h;rcases h with h|⟨a,A,rfl,R,q⟩;.exact Vx E U s N H j J Q I G h
 obtain⟨u,rfl,r1⟩:=C6 G;cases r1;obtain⟨z,hd,j,m,o,M,ep,O,B,r,D,_⟩:=Cy I.hok R;have d:A.length=j.length:=Aj m;have n:M.size=j.length:=size_of_entries D;refine W.kdl_call (N8 hd B.1 r) (I.ok.hd E) O (by rw[n,<-d];exact z) λh' T t c L Y g=>?_;have Z:H s.heap.objs.size=A5:=I.hok.fresh (ag _);have y:t.toList.length=j.length:=by rw[am,g.1,n]
 refine⟨.ref s.heap.objs.size,_,I.laid (a:=s.heap.objs.size) (o:=.lst ((j.map λx=>x.2.1).map V.ref)) (h':=h') (t':=T) (λb o e=>L b o e) (ag _) ⟨by rw[af,af,<-d];exact z,t.toList,c,Dj (by rw[af,af,y]) λi x v l P=>?_,by rw[Y]⟩,rfl,q _ _ Z ⟨by rw[af,d],λi b K C w=>?_⟩⟩
 .obtain⟨en,f,rfl⟩:=g.2 i v (by rw[<-bX];exact P);rw[entry_at D]at f;rw[aj,aj]at l;cases e:j[i]? with
  |none=>rw[e]at l;simp at l
  |some p=>rw[e]at l f;simp at l f;rw[<-l,<-f];rfl
 .rw[aj]at C;obtain⟨p,S,rfl⟩:=aY.mp C;exact WQ m i K p w S
end
open PySem.Ts
def unK(ks:List Key):List Int:=ks.map λk=>match k with
 | .inl i=>i
 |_=>0
theorem NA{a:List Int}:unK (a.map Key.inl)=a:=by
 unfold unK;rw[bn];conv=>rhs;rw[<-List.map_id a]
 rfl
section
variable{prog:AA}{w:AK}{A:AL}{E:A1->A3->Prop}{s:A3}{T:String}{r d:A4}{n:Nat}{P:Nat->A1->Prop}{OK:AJ->Prop}
theorem WS{R:List A1->A3->Prop}(K:W.KdlSrc prog w T r d n P OK)(G:A.handled=A5)(p:OK s.heap)(I:n<=A7)
  (h:∀(h':AJ)(i:Nat)(acc:Array A1),(∀b o,s.heap.get? b=A0 o->h'.get? b=A0 o)->s.heap.objs.size<=h'.objs.size->ItemsOf P acc n->R acc.toList {s with heap:=h',toks:=i}):A8 (AD prog w) A (collect (.ref r)) R E s:=by
 obtain⟨B,D⟩:=K.there _ p;unfold collect;refine aa (wpAny_runValue (Ae F.entry_proto_collect ?_));rw[AL.under_plainId F.plain_proto_collect _];show A8 _ A.in1 (newList []>>=λl=>again (.builtin "list.__iadd__" ⟨[l,.ref r],[]⟩)) _ _ s;refine aa (aI ?_);refine ab ⟨plainId_quiet F.plain_list_iadd _,Ae F.entry_list_iadd ?_⟩;rw[AL.under_plainId F.plain_list_iadd _];generalize m:({cls:=.type "list",data:=.seq ([]:List A1).toArray}:AS)=v;have H:(s.heap.push v).get? s.heap.objs.size=A0 v:=ai _ (by rw[<-m];rfl);show A8 _ A.in1 (AB.List.listExtendWith (.ref s.heap.objs.size) (.ref r) (.ref s.heap.objs.size)) _ _ _;refine cY (W.kdl_extend (A:=A) (s:={s with heap:=s.heap.push v})
  (R:=λq u=>∃h' i acc,q=.ok (.ret (.ref s.heap.objs.size))/\u={s with heap:=h',toks:=i}/\(∀b o,s.heap.get? b=A0 o->h'.get? b=A0 o)/\(∃c,h'.get? s.heap.objs.size=A0 {cls:=.type "list",dict:=A5,data:=.seq acc c,slots:=#[]})/\ItemsOf P acc n)
  K G (K.keep _ _ p λb _ o e=>ac _ e) s.heap.objs.size (bp B) (bp D) (.ref s.heap.objs.size) 0 (by rw[H,<-m])
  (λh' i acc c j g a=>⟨h',i,acc,rfl,rfl,λb o e=>j b o (ax (ak e)) (ac _ e),⟨c,g⟩,a⟩) I) (λt u x=>?_) λe u x=>?_
 .cases t with
  |done f=>obtain⟨h',i,acc,e,rfl,j,⟨c,g⟩,a⟩:=x;cases e;show A8 _ A (load s.heap.objs.size>>=_) _ _ _;exact aa (wpAny_load g (ab (h h' i acc j (bG (ak g)) a)))
  |again c=>refine⟨x.1,Ag x.2 λq J y=>?_⟩;obtain⟨h',i,acc,rfl,rfl,j,⟨c,g⟩,a⟩:=y;show A8 _ A (load s.heap.objs.size>>=_) _ _ _;exact aa (wpAny_load g (ab (h h' i acc j (bG (ak g)) a)))
 .obtain⟨_,_,_,C,_⟩:=x;cases C
end
section
variable{X:Cx}
theorem NB{b a i:Type}{F:b->a->Prop}{f:b->i}{g:a->i}:∀{d:List b}{e:List a},An F d e->(∀x y,F x y->f x=g y)->d.map f=e.map g
 |_,_,.nil,_=>rfl
 |_,_,.cons h r,k=>by rw[aX,aX,k _ _ h,NB r k]
theorem WT{prog:AA}{w:AK}{h0:AJ}{a:A4}{vs:List A1}{O:KeyOrd}{kv:A1->O.α}(h:JC prog w h0 a vs O kv)(n:vs.Pairwise λx y=>O.kle (kv x) (kv y)):UpV prog w h0 a vs:=by
 intro u;obtain⟨m,f⟩:=h u;refine⟨m,λA s l=>?_⟩;obtain⟨j,t⟩:=f A s l;refine⟨j,λi x y v b e E Q q=>?_⟩;have d:∀{i:Nat}{x:AG},(pairsOf vs)[i]?=A0 x->vs[i]?=A0 x.1:=λ{i x}b=>by rw[<-bX,pairsOf_toList,List.getElem?_zip_eq_some]at b;exact b.1
 have b:=d b;have e:=d e;obtain⟨g,o⟩:=aK.mp b;obtain⟨r,p⟩:=aK.mp e;have:=bF.mp n (i-1) i r g ⋯;rw[o,p]at this;refine t x.1 y.1 (ar b) (ar e) E Q ?_;rw[show O.blt (kv x.1) (kv y.1)=A6 from this];exact q
def NC:List V->Hp->VK->Prop:=λh H Q=>∃(a:A4)(d:List (List Key×V))(n:Nat),h=[.ref a]/\Rd H a (.dT d)/\(∀e∈d,∃g:List Int,e.1=g.map Key.inl/\g.length=n+1)/\((d.map λe=>unK e.1).Pairwise λx y=>BI (kI y) (kI x)=A6)/\
 ∀(l:A4)(f:List A4),H l=A5->f.length=d.length->(∀(i:Nat)b e,f[i]?=A0 b->d[i]?=A0 e->H b=A0 (.tup (e.1.map kV)))->Q (.ref l) (upd H l (.lst (f.map V.ref)))
theorem WU(hc:X.calm=A2):B7 X (.builtin "sorted") NC:=by
 intro p_ s σ H g us Q I rv h;obtain⟨a,a5,n,rfl,hH,hk,S,q⟩:=h;obtain⟨u,rfl,r1⟩:=C6 rv;cases r1;obtain⟨z,hd,g,M,o,es,ep,ho,b3,Z,he,_⟩:=Cy I.hok hH;have f:a5.length=g.length:=Aj M;have l:es.size=g.length:=size_of_entries he;have hz:es.size<=A7:=by rw[l,<-f];exact z
 have N:∀x∈g,∃E:List Int,x.1=E.map Key.inl/\E.length=n+1/\H x.2.1=A0 (.tup (E.map V.int)):=λx N=>by obtain⟨R,t,e1,e2,_⟩:=EA M N;obtain⟨E,G,e4⟩:=hk R t;refine⟨E,by rw[<-e1,G],e4,?_⟩;rw[e2,G,EB]
 generalize hL:(g.map λx=>(unK x.1,x.2.1))=L;have O:∀p∈L,H p.2=A0 (.tup (p.1.map V.int))/\p.1.length=n+1:=λp hp=>by rw[<-hL]at hp;obtain⟨x,b0,rfl⟩:=aB.mp hp;obtain⟨E,e1,e2,G⟩:=N x b0;show H x.2.1=A0 (.tup ((unK x.1).map V.int))/\(unK x.1).length=n+1;rw[e1,NA];exact⟨G,e2⟩
 have j:L.length=g.length:=by rw[<-hL,af]
 have a3:L.map Prod.fst=a5.map λR=>unK R.1:=by rw[<-hL,bn];exact(NB M λx y h=>by show unK x.1=unK y.1;rw[h.1]).symm
 refine Calls.call_function_entry kind_sorted plain_sorted entry_sorted (args_sorted1 _) ?_;unfold AB.«sorted»;refine aa (m:=checkCount "sorted" 1 1 _) (ab (aa (WS (N8 hd b3.1 Z) (I.ok.hd hc) ho hz λA tk B k1 U C=>?_)));have a1:B.toList.length=g.length:=by rw[am,C.1,l]
 have a2:B.toList=L.map λq=>A1.ref q.2:=by
  apply bO;intro i;rw[<-hL,bn,aj];cases e:g[i]? with
  |none=>rw[bg (by rw[a1];exact bf.mp e)];rfl
  |some p=>
   have hi:i<B.toList.length:=by rw[a1];exact ltG e
   obtain⟨en,a6,ev⟩:=C.2 i B.toList[i] (by rw[<-bX];exact ae hi);rw[entry_at he,e]at a6;cases a6;rw[ae hi,ev];rfl
 rw[a2];refine aa (wpAny_newList ?_ (by rw[af,j,<-l];exact hz));have a9:∀q∈L,Tps A (q.2,kI q.1):=λq d=>by obtain⟨o,K,n,Y,g2,g3,g4⟩:=Vu (q:=q) I.hok (O q d).1;exact⟨o,K,n,k1 _ _ Y,g2,g3,Vv g4⟩
 generalize v:L.map (λq=>(q.2,kI q.1))=D;have a7:(L.map λq=>A1.ref q.2)=D.map λq=>A1.ref q.1:=by rw[<-v,bn];rfl
 have hP:∀q∈D,Tps A q:=λq d=>by rw[<-v]at d;obtain⟨p,J,rfl⟩:=aB.mp d;exact a9 p J
 have b4:∀q∈D,shp q.2=A2::aL n A2:=λq d=>by rw[<-v]at d;obtain⟨p,J,rfl⟩:=aB.mp d;show shp (kI p.1)=_;rw[Vw,(O p J).2];rfl
 have P:(A.push (Ai "list" (L.map λq=>A1.ref q.2).toArray 0)).get? A.objs.size=A0 (Ai "list" (L.map λq=>A1.ref q.2).toArray 0):=ai _ rfl;have T:JC X.prog X.w (A.push (Ai "list" (L.map λq=>A1.ref q.2).toArray 0)) A.objs.size (L.map λq=>A1.ref q.2) JF (EE D):=by
  rw[a7];refine Vt (λq d=>?_) (λq d=>?_) b4;.obtain⟨o,g,n,Y,r⟩:=hP q d;exact⟨o,g,n,ac _ Y,r⟩
  .obtain⟨o,g,n,Y,r⟩:=hP q d;exact ax (ak Y)
 have b2:L.Pairwise λx y=>BI (kI y.1) (kI x.1)=A6:=by rw[<-a3,bM]at S;exact S
 have b1:(L.map λq=>A1.ref q.2).Pairwise λx y=>JF.kle (EE D x) (EE D y):=by
  rw[bM];refine List.Pairwise.imp_of_mem (λ{x y}N hy z=>?_) b2;have a4:∀x∈L,EE D (.ref x.2)=kI x.1:=λx N=>by
   have:(x.2,kI x.1)∈D:=by rw[<-v];exact aB.mpr ⟨x,N,rfl⟩
   exact JG hP this
  unfold KeyOrd.kle;rw[a4 x N,a4 y hy];exact z
 refine aa (aC (aP slot_list_sort ⟨_,P,rfl⟩ entry_list_sort (Va P (WT T b1) (by rw[af,j,<-l];exact hz) ⟨_,rfl,ab ⟨_,rfl,?_⟩⟩) (args_list_sort _)));obtain⟨e',a8⟩:=sortedHeap_at (out:=(L.map λq=>A1.ref q.2).toArray) P;have hn:H A.objs.size=A5:=I.hok.fresh U;refine⟨.ref A.objs.size,_,I.laid (a:=A.objs.size) (o:=.lst ((L.map λq=>q.2).map V.ref)) (λb o eb=>?_) U ⟨by rw[af,af,j,<-f];exact z,_,e',by rw[bn];exact Mm L,a8⟩,rfl,q _ (L.map λq=>q.2) hn (by rw[af,j,f]) λi b R hb t=>?_⟩;.have a0:=ak (k1 b o eb);rw[sortedHeap_old (ax a0) (by rw[size_push'];exact bv a0)];exact ac _ (k1 b o eb)
 .rw[aj]at hb;cases e:L[i]? with
  |none=>rw[e]at hb;cases hb
  |some p=>
   rw[e]at hb;cases hb;obtain⟨E,G,_⟩:=hk R (ar t);have e4:(L.map Prod.fst)[i]?=A0 p.1:=by rw[aj,e];rfl
   rw[a3,aj,t]at e4;have e5:unK R.1=p.1:=Option.some.inj e4;rw[G,NA]at e5;have:=(O p (ar e)).1;rw[<-e5]at this;rw[G,EB];exact this
end
end L2
namespace So
open PySem PySem.Spec PyProof.Rows
section
variable{M:Model}{A:AL}{E:A1->A3->Prop}{s:A3}{P:AG->Prop}{kd:SortKind}
structure CmpP(M:Model)(A:AL)(E:A1->A3->Prop)(s:A3)(P:AG->Prop)(kd:SortKind):Prop where
 lt:∀{x y:AG}{st:AF}{Q:Option Bool->AF->Prop},P x->P y->kindOf st=kd->(∀b,Q (A0 b) st)->wpS M A E s (lt' x y) Q st
theorem WV(C:CmpP M A E s P kd){a:Bool}{key x:AG}{d:Array AG}{i:Nat}{st:AF}{Q:Option Bool->AF->Prop}(f:P key)(g:P x)(e:d[i]?=A0 x)(k:kindOf st=kd)(h:∀b,Q (A0 b) st):wpS M A E s (bey a key d i) Q st:=by
 unfold bey;refine AC (Bc e ?_);cases a;.exact AC (C.lt f g k λb=>AE (h _))
 .exact C.lt g f k h
theorem EF(C:CmpP M A E s P kd){t:Bool}{key:AG}{j:Array AG}{base n f:Nat}{st:AF}{Q:Option Nat->AF->Prop}(H:P key)(k:kindOf st=kd)(J:f<n)(K:base+n<=j.size)(I:∀p∈j.toList,P p)
  (h:∀m,m<=n->Q (A0 m) st):wpS M A E s (CY t key j base n f) Q st:=by
 have v:∀i,i<n->∀{Q:Option Bool->AF->Prop},(∀b,Q (A0 b) st)->wpS M A E s (bey t key j (base+i)) Q st:=λi u Q q=>by obtain⟨p,e,m⟩:=Bp (a:=j) (i:=base+i) ⋯;exact WV C H (I p m) e k q
 have D:∀B u,u<=n->wpS M A E s (GF t key j base n B u) Q st:=λB u y=>by
  unfold GF;refine C3 (λ_ c d=>st=d/\∃l r,c=(A5,l,r)/\r<=n) (λc d=>st=d/\∃l r,c=(A5,l,r)/\r<=n) ⟨rfl,B,u,rfl,y⟩ ?_ (λ_ _ z=>z) ?_
  .rintro x c d _ G⟨rfl,l,r,rfl,w⟩;dsimp only;by_cases g:l≥r;.rw[if_pos g];exact AE ⟨rfl,l,r,rfl,w⟩
   .rw[if_neg g];refine AC (v _ ⋯ λb=>?_);cases b;.exact AE ⟨rfl,l,_,rfl,⋯⟩
    .exact AE ⟨rfl,_,r,rfl,w⟩
  .rintro c d⟨rfl,l,r,rfl,w⟩;exact AE (h r w)
 rw[Vb];refine AC (v f J λb=>?_);cases b
 .refine C3 (λ_ c d=>st=d/\∃l o,c=(A5,l,o)) (λc d=>st=d/\∃l o,c=(A5,l,o)) ⟨rfl,0,1,rfl⟩ ?_ (λ_ _ z=>z) ?_
  .rintro x c d _ G⟨rfl,l,o,rfl⟩;dsimp only;by_cases g:o≥f+1;.rw[if_pos g];exact AE ⟨rfl,l,o,rfl⟩
   .rw[if_neg g];refine AC (v _ ⋯ λb=>?_);cases b<;>exact AE ⟨rfl,_,_,rfl⟩
  .rintro c d⟨rfl,l,o,rfl⟩;exact D _ _ ⋯
 .refine C3 (λ_ c d=>st=d/\∃l o,c=(A5,l,o)) (λc d=>st=d/\∃l o,c=(A5,l,o)) ⟨rfl,0,1,rfl⟩ ?_ (λ_ _ z=>z) ?_
  .rintro x c d _ G⟨rfl,l,o,rfl⟩;dsimp only;by_cases g:o≥n-f;.rw[if_pos g];exact AE ⟨rfl,l,o,rfl⟩
   .rw[if_neg g];refine AC (v _ ⋯ λb=>?_);cases b<;>exact AE ⟨rfl,_,_,rfl⟩
  .rintro c d⟨rfl,l,o,rfl⟩;exact D _ _ ⋯
section
variable{x y:Array AG}
def Bz(x y r:Array AG):Prop:=r.toList.Perm (x.toList++y.toList)
def Wp(x y o:Array AG)(i j:Nat):Prop:=(o.toList++(x.toList.drop i++y.toList.drop j)).Perm (x.toList++y.toList)/\i<=x.size/\j<=y.size
theorem Wp.dn{o:Array AG}{i j:Nat}(w:Wp x y o i j):Bz x y (dnL x y o i j):=by unfold Bz dnL;rw[bc,bc,GG,GG,aQ];exact w.1
theorem Wp.la{o:Array AG}{i j:Nat}(w:Wp x y o i j):Bz x y (laL x y o i j):=by unfold Bz laL;rw[bc,bc,GG,GG,aQ];exact(List.Perm.append_left _ List.perm_append_comm).trans w.1
theorem Wp.manyA{o:Array AG}{i j k:Nat}(w:Wp x y o i j)(hi:i+k<=x.size):Wp x y (o++x.extract i (i+k)) (i+k) j:=by refine⟨?_,hi,w.2.2⟩;have m:=w.1;rw[GH _ i k]at m;rw[bc,D1,cw];simpa only[aQ]using m
theorem Wp.manyB{o:Array AG}{i j k:Nat}(w:Wp x y o i j)(hj:j+k<=y.size):Wp x y (o++y.extract j (j+k)) i (j+k):=by refine⟨?_,w.2.1,hj⟩;have m:=w.1;rw[GH _ j k]at m;rw[bc,D1,cw,aQ];refine(List.Perm.append_left _ ?_).trans m;exact List.perm_append_comm_assoc _ _ _
theorem ND{o a:Array AG}{i:Nat}{p:AG}(e:a[i]?=A0 p):o.push p=o++a.extract i (i+1):=by apply cX.mp;rw[cy,bc,D1,cw,Me e];rfl
theorem Wp.putA{o:Array AG}{i j:Nat}{p:AG}(w:Wp x y o i j)(e:x[i]?=A0 p)(hi:i+1<=x.size):Wp x y (o.push p) (i+1) j:=by rw[ND e];exact w.manyA hi
theorem Wp.putB{o:Array AG}{i j:Nat}{p:AG}(w:Wp x y o i j)(e:y[j]?=A0 p)(hj:j+1<=y.size):Wp x y (o.push p) i (j+1):=by rw[ND e];exact w.manyB hj
def PtG(st:AF)(x y:Array AG)(b:Nat):ForInStep SG->AF->Prop:=λr a=>match r with
 | .done c=>B6 st a/\((∃r,c.1=A0 r/\Bz x y r)\/∃o i j e d cb,c=(A5,o,i,j,e,d,cb)/\Wp x y o i j/\i+1<x.size/\j<y.size/\b<=i+j)
 | .yield c=>B6 st a/\∃o i j e d cb,c=(A5,o,i,j,e,d,cb)/\Wp x y o i j/\i+1<x.size/\j<y.size/\b<=i+j
theorem NE{st d:AF}{o:Array AG}{i j mg ca cb b:Nat}(e:B6 st d)(w:Wp x y o i j)(hi:i+1<x.size)(hj:j<y.size)(l:b<=i+j):wpS M A E s (lo3 x y o i j mg ca cb) (PtG st x y b) d:=by
 obtain⟨p,g,_⟩:=Bp (a:=x) (i:=i) ⋯;have f:=w.putA g ⋯;refine AC (Bc g ?_);by_cases h:i+1+1=x.size;.rw[if_pos (by simpa using h)];exact AE ⟨e,.inl ⟨_,rfl,f.la⟩⟩
 rw[if_neg (by simpa using h)];split;.exact AE ⟨e,.inr ⟨_,_,_,_,_,_,rfl,f,⋯,⋯,⋯⟩⟩
 .exact AE ⟨e,_,_,_,_,_,_,rfl,f,⋯,⋯,⋯⟩
theorem NF(C:CmpP M A E s P kd){st d:AF}{o:Array AG}{i j mg ca cb b:Nat}(e:B6 st d)(w:Wp x y o i j)(g:kindOf st=kd)(u:∀p∈x.toList,P p)(v:∀p∈y.toList,P p)(hi:i+1<x.size)(hj:j<y.size)(G:b<=i+j):wpS M A E s (lo2 x y o i j mg ca cb) (PtG st x y b) d:=by
 obtain⟨p,D,mp⟩:=Bp (a:=x) (i:=i) ⋯;obtain⟨q,n,_⟩:=Bp hj;refine AC (Bc n ?_);have h:=w.putB n hj;by_cases t:j+1=y.size;.rw[if_pos (by simpa using t)];exact AE ⟨e,.inl ⟨_,rfl,h.dn⟩⟩
 rw[if_neg (by simpa using t)];refine AC (Bc D (AC (EF C (u p mp) (e.1.trans g) ⋯ ⋯ v λl B=>?_)));dsimp only;by_cases f:l>0
 .have r:=h.manyB (k:=l) ⋯;rw[if_pos f];by_cases m:j+1+l=y.size;.rw[if_pos (by simpa using m)];exact AE ⟨e,.inl ⟨_,rfl,r.dn⟩⟩
  rw[if_neg (by simpa using m)];exact NE e r hi ⋯ ⋯
 .rw[if_neg f];exact NE e h hi ⋯ ⋯
theorem WW(C:CmpP M A E s P kd){st d:AF}{o:Array AG}{i j mg ca cb b:Nat}(B:B6 st d)(w:Wp x y o i j)(a:kindOf st=kd)(h:∀p∈x.toList,P p)(l:∀p∈y.toList,P p)(hi:i+1<x.size)(hj:j<y.size)(H:b<=i+j):wpS M A E s (lo1 x y o i j mg ca cb) (PtG st x y b) d:=by
 obtain⟨q,u,v⟩:=Bp hj;refine AC (Mg λD G=>?_);have e:=B.trans G;refine AC (Bc u (AC (EF C (l q v) (e.1.trans a) ⋯ ⋯ h λg t=>?_)));dsimp only;by_cases f:g>0
 .have m:=w.manyA (k:=g) ⋯;rw[if_pos f];by_cases n:i+g+1=x.size;.rw[if_pos (by simpa using n)];exact AE ⟨e,.inl ⟨_,rfl,m.la⟩⟩
  rw[if_neg (by simpa using n)];by_cases r:i+g=x.size;.rw[if_pos (by simpa using r)];exact AE ⟨e,.inl ⟨_,rfl,m.dn⟩⟩
  rw[if_neg (by simpa using r)];exact NF C e m a h l ⋯ hj ⋯
 .rw[if_neg f];exact NF C e w a h l ⋯ hj ⋯
def PtI(st:AF)(x y:Array AG)(n:Nat):ForInStep SI->AF->Prop:=λr a=>match r with
 | .done c=>B6 st a/\((∃r,c.1=A0 r/\Bz x y r)\/∃o i j b cb,c=(A5,o,i,j,b,cb)/\Wp x y o i j/\i+1<x.size/\j<y.size/\n+2<=i+j)
 | .yield c=>B6 st a/\∃o i j b cb,c=(A5,o,i,j,b,cb)/\Wp x y o i j/\i+1<x.size/\j<y.size/\n+2<=i+j
theorem WX(C:CmpP M A E s P kd){st st2:AF}{o:Array AG}{i j mg ca cb n:Nat}(d:B6 st st2)(w:Wp x y o i j)(h:kindOf st=kd)(m:∀p∈x.toList,P p)(t:∀p∈y.toList,P p)(hi:i+1<x.size)(hj:j<y.size)(u:n+1<=i+j):wpS M A E s (loI x y o i j mg ca cb) (PtI st x y n) st2:=by
 obtain⟨q,g,r⟩:=Bp hj;obtain⟨p,l,mp⟩:=Bp (a:=x) (i:=i) ⋯;refine AC (Bc g (AC (Bc l (AC (C.lt (t q r) (m p mp) (d.1.trans h) λb=>?_)))));cases b
 .have e:=w.putA l ⋯;refine AC (Bc l ?_);by_cases f:i+1+1=x.size;.rw[if_pos (by simpa using f)];exact AE ⟨d,.inl ⟨_,rfl,e.la⟩⟩
  .rw[if_neg (by simpa using f)];split;.exact AE ⟨d,.inr ⟨_,_,_,_,_,rfl,e,⋯,hj,⋯⟩⟩
   .exact AE ⟨d,_,_,_,_,_,rfl,e,⋯,hj,⋯⟩
 .have e:=w.putB g hj;refine AC (Bc g ?_);by_cases f:j+1=y.size;.rw[if_pos (by simpa using f)];exact AE ⟨d,.inl ⟨_,rfl,e.dn⟩⟩
  .rw[if_neg (by simpa using f)];split;.exact AE ⟨d,.inr ⟨_,_,_,_,_,rfl,e,hi,⋯,⋯⟩⟩
   .exact AE ⟨d,_,_,_,_,_,rfl,e,hi,⋯,⋯⟩
theorem WY(C:CmpP M A E s P kd){st:AF}{Q:Array AG->AF->Prop}(v:kindOf st=kd)(J:∀p∈x.toList,P p)(N:∀p∈y.toList,P p)(Z:0<x.size)(I:0<y.size)
  (h:∀r a,Bz x y r->B6 st a->Q r a):wpS M A E s (GD x y) Q st:=by
 rw[Vd];refine AC (wpS_lift (bq ⟨rfl,?_⟩));obtain⟨X,O,m0⟩:=Bp I;have R:Wp x y #[] 0 0:=⟨List.Perm.refl _,aN _,aN _⟩;have H:Wp x y #[X] 0 1:=R.putB O I;refine AC (Bc O ?_);by_cases u:1=y.size;.rw[if_pos (by simpa using u)];exact AE (h _ _ H.dn (B6.rfl' _))
 rw[if_neg (by simpa using u)];by_cases L:0+1=x.size;.rw[if_pos (by simpa using L)];exact AE (h _ _ H.la (B6.rfl' _))
 rw[if_neg (by simpa using L)];refine AC (wpS_get ?_);refine C3 (λn c a=>B6 st a/\∃o i j mg,c=(A5,o,i,j,mg)/\Wp x y o i j/\i+1<x.size/\j<y.size/\n+1<=i+j)
  (λc a=>B6 st a/\∃r,c.1=A0 r/\Bz x y r) ⟨B6.rfl' _,_,_,_,_,rfl,H,⋯,⋯,⋯⟩ ?_ ?_ ?_
 .rintro n c l _ hn⟨B,o,i,j,mg,rfl,w,d,b,f⟩;refine C3 (λk c a=>B6 st a/\∃o i j ca cb,c=(A5,o,i,j,ca,cb)/\Wp x y o i j/\i+1<x.size/\j<y.size/\n+1+min k 1<=i+j)
   (λc a=>PtI st x y n (.done c) a) ⟨B,o,i,j,0,0,rfl,w,d,b,⋯⟩ ?_ ?_ ?_
  .rintro k c st2 _ T⟨m,o,i,j,ca,cb,rfl,w,d,b,f⟩;refine wpS_mono (WX (o:=o) (i:=i) (j:=j) (mg:=mg) (ca:=ca) (cb:=cb) (n:=n) C m w v J N d b ⋯) λr a D=>?_;cases r with
   |done c=>exact D
   |yield c=>obtain⟨g,o,i,j,ca,cb,e,S,U,Y,a4⟩:=D;exact⟨g,o,i,j,ca,cb,e,S,U,Y,⋯⟩
  .rintro c st2⟨m,o,i,j,ca,cb,rfl,w,d,b,f⟩;exact⟨m,.inr ⟨_,_,_,_,_,rfl,w,d,b,⋯⟩⟩
  .rintro⟨K,u⟩st2⟨m,⟨r,e,G⟩|⟨o,i,j,ca,cb,e,w,d,b,f⟩⟩;.cases e;exact AE ⟨m,r,rfl,G⟩
   cases e;refine AC (wpS_lift (bq ⟨rfl,?_⟩));refine C3 (λk c a=>PtG st x y (n+2) (.yield c) a) (λc a=>PtG st x y (n+2) (.done c) a) ⟨m,o,i,j,_,_,_,rfl,w,d,b,f⟩ ?_ ?_ ?_
   .rintro k c t _ T⟨q,o,i,j,mg,ca,cb,rfl,w,d,b,f⟩;refine wpS_mono (Q:=PtG st x y (n+2)) ?_ λr a D=>by cases r<;>exact D
    unfold loG;split<;>exact WW C q w v J N d b f
   .rintro c t⟨q,o,i,j,mg,ca,cb,rfl,w,d,b,f⟩;exact⟨q,.inr ⟨_,_,_,_,_,_,rfl,w,d,b,f⟩⟩
   .rintro⟨K,u⟩t⟨q,⟨r,e,G⟩|⟨o,i,j,mg,ca,cb,e,w,d,b,f⟩⟩;.cases e;exact AE ⟨q,r,rfl,G⟩
    cases e;exact AC (wpS_modify (AE ⟨q.trans (B6.set _ _),_,_,_,_,rfl,w,d,b,⋯⟩))
 .rintro c l⟨B,o,i,j,mg,rfl,w,d,b,f⟩;omega
 .rintro⟨K,u⟩l⟨B,r,e,G⟩;cases e;exact AE (h r l G B)
end
section
variable{x y:Array AG}
def Wq(x y o:Array AG)(i j:Nat):Prop:=(x.toList.take i++(y.toList.take j++o.toList.reverse)).Perm (x.toList++y.toList)/\i<=x.size/\j<=y.size
theorem Wq.dn{o:Array AG}{i j:Nat}(w:Wq x y o i j):Bz x y (dnH x y o i j):=by unfold Bz dnH;rw[bc,bc,GI,GI,cJ,aQ];exact w.1
theorem Wq.fb{o:Array AG}{i j:Nat}(w:Wq x y o i j):Bz x y (fbH x y o i j):=by unfold Bz fbH;rw[bc,bc,GI,GI,cJ,aQ];exact(List.perm_append_comm_assoc _ _ _).trans w.1
theorem NG(l:List AG){z i:Nat}(h:z<=i):l.take i=l.take z++(l.drop z).take (i-z):=by have:=Vg l h;rw[<-List.reverse_append]at this;exact List.reverse_inj.mp this
theorem Wq.manyA{o:Array AG}{i j z:Nat}(w:Wq x y o i j)(hz:z<=i):Wq x y (o++(x.extract z i).reverse) z j:=by refine⟨?_,by have:=w.2.1;omega,w.2.2⟩;have m:=w.1;rw[NG _ hz,aQ]at m;rw[bc,cJ,D1,List.reverse_append,List.reverse_reverse];exact(List.Perm.append_left _ (List.perm_append_comm_assoc _ _ _)).trans m
theorem Wq.manyB{o:Array AG}{i j z:Nat}(w:Wq x y o i j)(hz:z<=j):Wq x y (o++(y.extract z j).reverse) i z:=by refine⟨?_,w.2.1,by have:=w.2.2;omega⟩;have m:=w.1;rw[NG _ hz,aQ]at m;rw[bc,cJ,D1,List.reverse_append,List.reverse_reverse];exact m
theorem NI{o a:Array AG}{i:Nat}{p:AG}(e:a[i]?=A0 p):o.push p=o++(a.extract i (i+1)).reverse:=by apply cX.mp;rw[cy,bc,cJ,D1,cw,Me e];rfl
theorem Wq.putA{o:Array AG}{i j:Nat}{p:AG}(w:Wq x y o (i+1) j)(e:x[i]?=A0 p):Wq x y (o.push p) i j:=by rw[NI e];exact w.manyA (Nat.le_succ _)
theorem Wq.putB{o:Array AG}{i j:Nat}{p:AG}(w:Wq x y o i (j+1))(e:y[j]?=A0 p):Wq x y (o.push p) i j:=by rw[NI e];exact w.manyB (Nat.le_succ _)
def QtG(st:AF)(x y:Array AG)(b:Nat):ForInStep TG->AF->Prop:=λr a=>match r with
 | .done c=>B6 st a/\((∃r,c.1=A0 r/\Bz x y r)\/∃o i j e d cb,c=(A5,i,j,o,e,d,cb)/\Wq x y o i j/\1<=i/\2<=j/\b+i+j<=x.size+y.size)
 | .yield c=>B6 st a/\∃o i j e d cb,c=(A5,i,j,o,e,d,cb)/\Wq x y o i j/\1<=i/\2<=j/\b+i+j<=x.size+y.size
theorem NJ{st d:AF}{o:Array AG}{i j mg ca cb b:Nat}(e:B6 st d)(w:Wq x y o (i+1) j)(hj:2<=j)(g:b+i+j<=x.size+y.size):wpS M A E s (hi3 x y (i+1) j o mg ca cb) (QtG st x y b) d:=by
 obtain⟨p,h,_⟩:=Bp (a:=x) (i:=i) (by have:=w.2.1;omega);have f:=w.putA h;unfold hi3;simp only[db];refine AC (Bc h ?_);by_cases l:i=0;.rw[if_pos (by simpa using l)];exact AE ⟨e,.inl ⟨_,rfl,f.dn⟩⟩
 rw[if_neg (by simpa using l)];split;.exact AE ⟨e,.inr ⟨_,_,_,_,_,_,rfl,f,⋯,hj,g⟩⟩
 .exact AE ⟨e,_,_,_,_,_,_,rfl,f,⋯,hj,g⟩
theorem NL(C:CmpP M A E s P kd){st e:AF}{o:Array AG}{i j mg ca cb b:Nat}(d:B6 st e)(w:Wq x y o (i+1) (j+1))(h:kindOf st=kd)(u:∀p∈x.toList,P p)(v:∀p∈y.toList,P p)(hj:1<=j)(I:b+(i+1)+(j+1)<=x.size+y.size):wpS M A E s (hi2 x y (i+1) (j+1) o mg ca cb) (QtG st x y b) e:=by
 have G:=w.2.1;have H:=w.2.2;obtain⟨q,r,_⟩:=Bp (a:=y) (i:=j) ⋯;obtain⟨p,B,mp⟩:=Bp (a:=x) (i:=i) ⋯;have l:=w.putB r;unfold hi2;simp only[db];refine AC (Bc r ?_);by_cases t:j=1;.rw[if_pos (by simpa using t)];exact AE ⟨d,.inl ⟨_,rfl,l.fb⟩⟩
 rw[if_neg (by simpa using t)];refine AC (Bc B (AC (EF C (u p mp) (d.1.trans h) ⋯ ⋯ v λz D=>?_)));dsimp only;by_cases f:j-z>0
 .have g:=l.manyB D;rw[if_pos f];by_cases n:z=1;.rw[if_pos (by simpa using n)];exact AE ⟨d,.inl ⟨_,rfl,g.fb⟩⟩
  rw[if_neg (by simpa using n)];by_cases m:z=0;.rw[if_pos (by simpa using m)];exact AE ⟨d,.inl ⟨_,rfl,g.dn⟩⟩
  rw[if_neg (by simpa using m)];exact NJ d g ⋯ ⋯
 .rw[if_neg f];exact NJ d l ⋯ ⋯
theorem WZ(C:CmpP M A E s P kd){st e:AF}{o:Array AG}{i j mg ca cb b:Nat}(B:B6 st e)(w:Wq x y o i (j+1))(d:kindOf st=kd)(h:∀p∈x.toList,P p)(l:∀p∈y.toList,P p)(hi:1<=i)(hj:1<=j)(D:b+i+(j+1)<=x.size+y.size):wpS M A E s (hi1 x y i (j+1) o mg ca cb) (QtG st x y b) e:=by
 have J:=w.2.1;have K:=w.2.2;obtain⟨q,r,t⟩:=Bp (a:=y) (i:=j) ⋯;unfold hi1;simp only[db];refine AC (Mg λG H=>?_);have g:=B.trans H;refine AC (Bc r (AC (EF C (l q t) (g.1.trans d) ⋯ ⋯ h λz I=>?_)));dsimp only;by_cases f:i-z>0
 .have n:=w.manyA I;rw[if_pos f];by_cases m:z=0;.rw[if_pos (by simpa using m)];exact AE ⟨g,.inl ⟨_,rfl,n.dn⟩⟩
  rw[if_neg (by simpa using m)];obtain⟨z,rfl⟩:∃v,z=v+1:=⟨z-1,⋯⟩;exact NL C g n d h l hj ⋯
 .rw[if_neg f];obtain⟨i,rfl⟩:∃u,i=u+1:=⟨i-1,⋯⟩;exact NL C g w d h l hj D
def QtI(st:AF)(x y:Array AG)(n:Nat):ForInStep TI->AF->Prop:=λr a=>match r with
 | .done c=>B6 st a/\((∃r,c.1=A0 r/\Bz x y r)\/∃o i j b cb,c=(A5,i,j,o,b,cb)/\Wq x y o i j/\1<=i/\2<=j/\n+2+i+j<=x.size+y.size)
 | .yield c=>B6 st a/\∃o i j b cb,c=(A5,i,j,o,b,cb)/\Wq x y o i j/\1<=i/\2<=j/\n+2+i+j<=x.size+y.size
theorem Wa(C:CmpP M A E s P kd){st st2:AF}{o:Array AG}{i j mg ca cb n:Nat}(d:B6 st st2)(w:Wq x y o (i+1) (j+1))(h:kindOf st=kd)(m:∀p∈x.toList,P p)(t:∀p∈y.toList,P p)(hj:1<=j)(B:n+1+(i+1)+(j+1)<=x.size+y.size):wpS M A E s (hiI x y (i+1) (j+1) o mg ca cb) (QtI st x y n) st2:=by
 have u:=w.2.1;have v:=w.2.2;obtain⟨q,g,r⟩:=Bp (a:=y) (i:=j) ⋯;obtain⟨p,l,mp⟩:=Bp (a:=x) (i:=i) ⋯;unfold hiI;simp only[db];refine AC (Bc g (AC (Bc l (AC (C.lt (t q r) (m p mp) (d.1.trans h) λb=>?_)))));cases b
 .have e:=w.putB g;refine AC (Bc g ?_);by_cases f:j=1;.rw[if_pos (by simpa using f)];exact AE ⟨d,.inl ⟨_,rfl,e.fb⟩⟩
  .rw[if_neg (by simpa using f)];split;.exact AE ⟨d,.inr ⟨_,_,_,_,_,rfl,e,⋯,⋯,⋯⟩⟩
   .exact AE ⟨d,_,_,_,_,_,rfl,e,⋯,⋯,⋯⟩
 .have e:=w.putA l;refine AC (Bc l ?_);by_cases f:i=0;.rw[if_pos (by simpa using f)];exact AE ⟨d,.inl ⟨_,rfl,e.dn⟩⟩
  .rw[if_neg (by simpa using f)];split;.exact AE ⟨d,.inr ⟨_,_,_,_,_,rfl,e,⋯,⋯,⋯⟩⟩
   .exact AE ⟨d,_,_,_,_,_,rfl,e,⋯,⋯,⋯⟩
theorem Wb(C:CmpP M A E s P kd){st:AF}{Q:Array AG->AF->Prop}(B:kindOf st=kd)(K:∀p∈x.toList,P p)(S:∀p∈y.toList,P p)(hx:0<x.size)(hy:0<y.size)
  (h:∀r b,Bz x y r->B6 st b->Q r b):wpS M A E s (GE x y) Q st:=by
 rw[Vf];refine AC (wpS_lift (bq ⟨rfl,?_⟩));obtain⟨L,N,n0⟩:=Bp (a:=x) (i:=x.size-1) ⋯;have T:Wq x y #[] (x.size-1+1) y.size:=by have e1:x.toList.take (x.size-1+1)=x.toList:=br (by simp;omega);have e2:y.toList.take y.size=y.toList:=br (by simp);refine⟨?_,⋯,ag _⟩;rw[e1,e2];simp
 have J:Wq x y #[L] (x.size-1) y.size:=T.putA N;refine AC (Bc N ?_);by_cases v:x.size-1=0;.rw[if_pos (by simpa using v)];exact AE (h _ _ J.dn (B6.rfl' _))
 rw[if_neg (by simpa using v)];by_cases R:y.size=1;.rw[if_pos (by simpa using R)];exact AE (h _ _ J.fb (B6.rfl' _))
 rw[if_neg (by simpa using R)];refine AC (wpS_get ?_);refine C3 (λn c b=>B6 st b/\∃o i j mg,c=(A5,i,j,o,mg)/\Wq x y o i j/\1<=i/\2<=j/\n+1+i+j<=x.size+y.size)
  (λc b=>B6 st b/\∃r,c.1=A0 r/\Bz x y r) ⟨B6.rfl' _,#[L],x.size-1,y.size,gallopOf st,rfl,J,⋯,⋯,⋯⟩ ?_ ?_ ?_
 .rintro n c m _ hn⟨D,o,i,j,mg,rfl,w,d,f,l⟩;refine C3 (λk c b=>B6 st b/\∃o i j ca cb,c=(A5,i,j,o,ca,cb)/\Wq x y o i j/\1<=i/\2<=j/\n+1+min k 1+i+j<=x.size+y.size)
   (λc b=>QtI st x y n (.done c) b) ⟨D,o,i,j,0,0,rfl,w,d,f,⋯⟩ ?_ ?_ ?_
  .rintro k c st2 _ X⟨q,o,i,j,ca,cb,rfl,w,d,f,l⟩;obtain⟨i,rfl⟩:∃Y,i=Y+1:=⟨i-1,⋯⟩;obtain⟨j,rfl⟩:∃I,j=I+1:=⟨j-1,⋯⟩;refine wpS_mono (Wa (o:=o) (i:=i) (j:=j) (ca:=ca) (cb:=cb) (mg:=mg) (n:=n) C q w B K S ⋯ ⋯) λr b H=>?_;cases r with
   |done c=>exact H
   |yield c=>obtain⟨g,o,i,j,ca,cb,e,U,Z,a3,a4⟩:=H;exact⟨g,o,i,j,ca,cb,e,U,Z,a3,⋯⟩
  .rintro c st2⟨q,o,i,j,ca,cb,rfl,w,d,f,l⟩;exact⟨q,.inr ⟨_,_,_,_,_,rfl,w,d,f,⋯⟩⟩
  .rintro⟨O,v⟩st2⟨q,⟨r,e,G⟩|⟨o,i,j,ca,cb,e,w,d,f,l⟩⟩;.cases e;exact AE ⟨q,r,rfl,G⟩
   cases e;refine AC (wpS_lift (bq ⟨rfl,?_⟩));refine C3 (λk c b=>QtG st x y (n+2) (.yield c) b) (λc b=>QtG st x y (n+2) (.done c) b) ⟨q,o,i,j,_,_,_,rfl,w,d,f,l⟩ ?_ ?_ ?_
   .rintro k c u _ X⟨t,o,i,j,mg,ca,cb,rfl,w,d,f,l⟩;refine wpS_mono (Q:=QtG st x y (n+2)) ?_ λr b H=>by cases r<;>exact H
    obtain⟨j,rfl⟩:∃I,j=I+1:=⟨j-1,⋯⟩;unfold hiG;split<;>exact WZ C t w B K S d ⋯ l
   .rintro c u⟨t,o,i,j,mg,ca,cb,rfl,w,d,f,l⟩;exact⟨t,.inr ⟨_,_,_,_,_,_,rfl,w,d,f,l⟩⟩
   .rintro⟨O,v⟩u⟨t,⟨r,e,G⟩|⟨o,i,j,mg,ca,cb,e,w,d,f,l⟩⟩;.cases e;exact AE ⟨t,r,rfl,G⟩
    cases e;exact AC (wpS_modify (AE ⟨t.trans (B6.set _ _),_,_,_,_,rfl,w,d,f,⋯⟩))
 .rintro c m⟨D,o,i,j,mg,rfl,w,d,f,l⟩;omega
 .rintro⟨O,v⟩m⟨D,r,e,G⟩;cases e;exact AE (h r m G D)
end
theorem Wc(l:List AG){a b k:Nat}(h:a<=b):l.take a++(((l.drop a).take (b-a)++(l.drop b).take k)++l.drop (b+k))=l:=by have e:=GH l b k;have d:=GH l a (b-a);rw[show a+(b-a)=b by omega]at d;rw[aQ,<-e,<-d,bY]
theorem Wd(C:CmpP M A E s P kd){st:AF}{Q:Bool->AF->Prop}{i e j pw sv nv O:Nat}(d:kindOf st=kd)(m:∀p∈(AQ st).toList,P p)
  (T:(AI st)[i]?=A0 (e,j,pw))(U:(AI st)[i+1]?=A0 (sv,nv,O))(hv:sv=e+j)(h1:0<j)(h2:0<nv)(hz:sv+nv<=(AQ st).size)(B:Aa st=A5)
  (h:∀f,kindOf f=kd->Aa f=A5->AI f=((AI st).setIfInBounds i (e,j+nv,pw)).eraseIdxIfInBounds (i+1)->(AQ f).toList.Perm (AQ st).toList->Q A2 f):
  wpS M A E s (mergeAt' i) Q st:=by
 rw[Vh];refine AC (wpS_get ?_);rw[T,U];refine AC (Vi ?_);obtain⟨S,u,w⟩:=Bp (a:=AQ st) (i:=sv) ⋯;refine AC (Bc u (AC (EF C (m S w) d ⋯ ⋯ m λk hk=>?_)));dsimp only;by_cases J:j-k=0;.rw[if_pos (by simpa using J)];exact AE (h _ d B rfl (List.Perm.refl _))
 rw[if_neg (by simpa using J)];obtain⟨Z,y,H⟩:=Bp (a:=AQ st) (i:=e+k+(j-k)-1) ⋯;refine AC (Bc y (AC (EF C (m Z H) d ⋯ ⋯ m λl a0=>?_)));dsimp only;by_cases q:l=0;.rw[if_pos (by simpa using q)];exact AE (h _ d B rfl (List.Perm.refl _))
 rw[if_neg (by simpa using q)];have D:=D1 (AQ st) (e+k) sv;have v:=D1 (AQ st) sv (sv+l);have zX:((AQ st).extract (e+k) sv).size=j-k:=by simp;omega
 have zY:((AQ st).extract sv (sv+l)).size=l:=by simp;omega
 generalize(AQ st).extract (e+k) sv=X at D zX⊢;generalize(AQ st).extract sv (sv+l)=Y at v zY⊢;have N:∀p∈X.toList,P p:=λp t=>by rw[D]at t;exact m p (List.mem_of_mem_drop (List.mem_of_mem_take t))
 have I:∀p∈Y.toList,P p:=λp t=>by rw[v]at t;exact m p (List.mem_of_mem_drop (List.mem_of_mem_take t))
 have o:∀r st2,Bz X Y r->B6 (AF.mk' (kindOf st) (AQ st) (((AI st).setIfInBounds i (e,j+nv,pw)).eraseIdxIfInBounds (i+1)) (gallopOf st) (Aa st)) st2->
   wpS M A E s (do
    modify λz=>setArr z (r.toList.zipIdx.foldl (λa(x:AG×Nat)=>a.setIfInBounds (e+k+x.2) x.1) (AQ z))
    return(Aa (<-get)).isNone) Q st2:=by
  intro r st2 G g;refine AC (wpS_modify (AC (wpS_get (AE ?_))));have n:Aa st2=A5:=g.2.2.2.trans B;show Q (Aa st2).isNone _;rw[n];have hl:(AQ st).toList.length=(AQ st).size:=am;have K:(AQ st).toList=(AQ st).toList.take (e+k)++((X.toList++Y.toList)++(AQ st).toList.drop (sv+l)):=by rw[D,v,cw];exact(Wc _ ⋯).symm
  have R:(AQ st2).toList=_:=(congrArg Array.toList g.2.1).trans K;have lr:=G.length_eq;have L:=Mh (b:=e+k) (C:=(AQ st).toList.drop (sv+l)) r.toList (X.toList++Y.toList) ((AQ st).toList.take (e+k)) 0 (AQ st2) R lr.symm (by rw[aH];omega);refine h _ (g.1.trans d) n g.2.2.1 ?_;refine(List.Perm.of_eq L).trans ?_;refine(List.Perm.append_left _ (List.Perm.append_right _ G)).trans (List.Perm.of_eq K.symm)
 by_cases q:j-k<=l;.rw[if_pos q];exact AC (WY C d N I ⋯ ⋯ o)
 .rw[if_neg q];exact AC (Wb C d N I ⋯ ⋯ o)
structure Sv(st0:AF)(st:AF):Prop where
 perm:(AQ st).Perm (AQ st0)
 kind:kindOf st=kindOf st0
 fail:Aa st=Aa st0
 pend:AI st=AI st0
section
variable{st0:AF}{lo nrem:Nat}
theorem Sv.size{st:AF}(B:Sv st0 st):(AQ st).size=(AQ st0).size:=B.perm.size_eq
theorem Sv.rev{st:AF}(B:Sv st0 st){i j:Nat}{Q:Unit->AF->Prop}(h:∀a,Sv st0 a->Q () a):wpS M A E s (reverseSlice' i j) Q st:=by rw[reverseSlice'_eq];exact wpS_modify (h _ ⟨(mirror_perm _ _ _ _).trans B.perm,B.kind,B.fail,B.pend⟩)
theorem Sv.lt(C:CmpP M A E s P kd){st:AF}{i j:Nat}{Q:Option Bool->AF->Prop}(d:kindOf st0=kd)(f:∀p∈(AQ st0).toList,P p)(B:Sv st0 st)(hi:i<(AQ st0).size)(hj:j<(AQ st0).size)
  (h:∀b,Q (A0 b) st):wpS M A E s (ltAt' i j) Q st:=by obtain⟨p,m,mp⟩:=Bp (a:=AQ st) (i:=i) (by rw[B.size];exact hi);obtain⟨q,g,l⟩:=Bp (a:=AQ st) (i:=j) (by rw[B.size];exact hj);have e:=Array.perm_iff_toList_perm.mp B.perm;rw[ltAt'_eq];exact AC (wpS_get (AC (Bc m (AC (Bc g (C.lt (f p (e.mem_iff.mp mp)) (f q (e.mem_iff.mp l)) (B.kind.trans d) h))))))
theorem NM(C:CmpP M A E s P kd){st:AF}{n:Nat}{f:Type}{Q:f->AF->Prop}{g:Option (Option Nat)×Nat->StateT AF Sem f}(d:kindOf st0=kd)(o:∀p∈(AQ st0).toList,P p)(t:lo+nrem<=(AQ st0).size)(h1:1<=n)(q:n<=nrem)(B:Sv st0 st)
  (h:∀m,n<=m->m<=nrem->wpS M A E s (g (A5,m)) Q st):
  wpS M A E s (forIn [n:nrem] (A5,n) (λ_ r=>do
   let x<-ltAt' (lo+r.2) (lo+r.2-1)
   match x with
   |A0 b=>if b=A2 then pure (ForInStep.done (A5,r.2))else pure (ForInStep.yield (A5,r.2+1))
   |_=>pure (ForInStep.done (A0 A5,r.2)))>>=g) Q st:=by
 refine C3 (λx c a=>st=a/\c=(A5,x)) (λc a=>st=a/\∃m,c=(A5,m)/\n<=m/\m<=nrem) ⟨rfl,rfl⟩ ?_ ?_ ?_
 .rintro x c a e i⟨rfl,rfl⟩;refine AC (B.lt C d o ⋯ ⋯ λb=>?_);cases b;.exact AE ⟨rfl,rfl⟩
  .exact AE ⟨rfl,x,rfl,e,⋯⟩
 .rintro c a⟨rfl,rfl⟩;exact⟨rfl,_,rfl,⋯,⋯⟩
 .rintro c a⟨rfl,m,rfl,j,l⟩;exact h m j l
theorem NN(C:CmpP M A E s P kd){Q:Option Nat->AF->Prop}{a:AF}{x:Nat}(d:kindOf st0=kd)(n:∀p∈(AQ st0).toList,P p)(o:lo+nrem<=(AQ st0).size)(h:∀m b,Sv st0 b->1<=m->m<=nrem->Q (A0 m) b)
  (q:Sv st0 a)(j:1<=x)(e:x<=nrem):wpS M A E s (cT lo x nrem) Q a:=
 AC (q.rev λl g=>NM C d n o ⋯ e g λm i f=>AE (h m _ g ⋯ f))
theorem We(C:CmpP M A E s P kd){d:AF}{x e:Nat}(f:kindOf st0=kd)(h:∀p∈(AQ st0).toList,P p)(n:lo+nrem<=(AQ st0).size)(m:1<=x)(i:x<nrem)(a:Sv st0 d):
  wpS M A E s (cS lo x e) (λr g=>Sv st0 g/\match r with| .done c=>∃e,c=(A5,x,e)| .yield c=>∃e,c=(A5,x+1,e)) d:=by
 refine AC (a.lt C f h ⋯ ⋯ λb=>?_);cases b
 .refine AC (a.lt C f h ⋯ ⋯ λb=>?_);cases b;.exact AE ⟨a,_,rfl⟩
  .exact AE ⟨a,_,rfl⟩
 .show wpS M A E s (if e>0 then _ else _) _ _;split;.exact AC (a.rev λj l=>AE ⟨l,_,rfl⟩)
  .exact AE ⟨a,_,rfl⟩
theorem NO(C:CmpP M A E s P kd){Q:Option Nat->AF->Prop}{st2:AF}{n:Nat}(f:kindOf st0=kd)(l:∀p∈(AQ st0).toList,P p)(o:lo+nrem<=(AQ st0).size)(h:∀m a,Sv st0 a->1<=m->m<=nrem->Q (A0 m) a)
  (B2:Sv st0 st2)(u:n+1<=nrem):wpS M A E s (cD lo n nrem) Q st2:=by
 refine AC (wpS_lift (bq ⟨rfl,?_⟩));refine C3 (λx c a=>Sv st0 a/\∃e,c=(A5,x,e)) (λc a=>Sv st0 a/\∃x e,c=(A5,x,e)/\1<=x/\x<=nrem) ⟨B2,0,rfl⟩ ?_ ?_ ?_
 .rintro x c j g d⟨i,e,rfl⟩;refine wpS_mono (We (x:=x) (e:=e) C f l o ⋯ d i) λr a⟨b,q⟩=>?_;cases r with
  |done c=>obtain⟨e,z⟩:=q;exact⟨b,x,e,z,⋯,⋯⟩
  |yield c=>exact⟨b,q⟩
 .rintro c j⟨i,e,rfl⟩;exact⟨i,_,e,rfl,⋯,⋯⟩
 .rintro c j⟨i,x,e,rfl,g,d⟩;show wpS M A E s (if e>0 then _ else _) _ _;split;.exact AC (i.rev λt v=>NN C f l o h v g d)
  .exact NN C f l o h i g d
theorem Wf(C:CmpP M A E s P kd){Q:Option Nat->AF->Prop}(a:kindOf st0=kd)(i:∀p∈(AQ st0).toList,P p)(j:lo+nrem<=(AQ st0).size)(h1:1<=nrem)
  (h:∀m g,Sv st0 g->1<=m->m<=nrem->Q (A0 m) g):wpS M A E s (countRun' lo nrem) Q st0:=by
 rw[Vj];have d:Sv st0 st0:=⟨Array.Perm.refl _,rfl,rfl,rfl⟩;refine NM C a i j (ag 1) h1 d λn f e=>?_;dsimp only;by_cases l:n=nrem;.rw[if_pos (by simpa using l)];exact AE (h n st0 d f e)
 rw[if_neg (by simpa using l)];split
 .refine AC (d.lt C a i ⋯ ⋯ λb=>?_);cases b;.exact AC (d.rev λq o=>NO C a i j h o ⋯)
  .exact AE (h n st0 d f e)
 .exact NO C a i j h d ⋯
theorem Wg(C:CmpP M A E s P kd){st:AF}{n ok:Nat}{Q:Bool->AF->Prop}(i:kindOf st0=kd)(q:∀p∈(AQ st0).toList,P p)(u:lo+n<=(AQ st0).size)(B:Sv st0 st)
  (h:∀d,Sv st0 d->Q A2 d):wpS M A E s (binarySort' lo n ok) Q st:=by
 rw[binarySort'_eq];refine C3 (λk c d=>c=(A5,())/\Sv st0 d) (λc d=>c=(A5,())/\Sv st0 d) ⟨rfl,B⟩ ?_ (λ_ _ z=>z) ?_
 .rintro k c e j o⟨rfl,f⟩;refine C3 (λx c d=>e=d/\∃l r,c=(A5,l,r)/\r<=k) (λc d=>e=d/\∃l r,c=(A5,l,r)) ⟨rfl,0,k,rfl,ag _⟩ ?_ (λ_ _⟨a,l,r,b,_⟩=>⟨a,l,r,b⟩) ?_
  .rintro x c st2 _ t⟨rfl,l,r,rfl,m⟩;dsimp only;by_cases g:l≥r;.rw[if_pos g];exact AE ⟨rfl,l,r,rfl⟩
   .rw[if_neg g];refine AC (f.lt C i q ⋯ ⋯ λb=>?_);cases b;.exact AE ⟨rfl,_,r,rfl,m⟩
    .exact AE ⟨rfl,l,_,rfl,⋯⟩
  .rintro c st2⟨rfl,l,r,rfl⟩;dsimp only;rw[moveDown'_eq];exact AC (wpS_modify (AE ⟨rfl,(bubble_perm _ _ _).trans f.perm,f.kind,f.fail,f.pend⟩))
 .rintro c e⟨rfl,f⟩;exact AE (h e f)
end
inductive Rq:List (Nat×Nat×Nat)->Nat->Nat->Prop
 |nil(a:Nat):Rq [] a a
 |cons{a b n:Nat}(w:Nat){p:List (Nat×Nat×Nat)}:0<n->Rq p (a+n) b->Rq ((a,n,w)::p) a b
theorem Rq.len:∀{p:List (Nat×Nat×Nat)}{a b:Nat},Rq p a b->a+p.length<=b
 |_,_,_,.nil _=>ag _
 |_,_,_,.cons w d r=>by have:=r.len;rw[bD];omega
theorem Rq.push{n:Nat}(h0:0<n):∀{p:List (Nat×Nat×Nat)}{a b:Nat},Rq p a b->Rq (p++[(b,n,0)]) a (b+n)
 |_,_,_,.nil _=>.cons 0 h0 (.nil _)
 |_,_,_,.cons w d r=>.cons w d (r.push h0)
theorem Rq.power{w:Nat}:∀{p:List (Nat×Nat×Nat)}{a b:Nat},Rq p a b->∀i,Rq (p.modify i λx=>(x.1,x.2.1,w)) a b
 |_,_,_,.nil _,i=>by cases i<;>exact .nil _
 |_,_,_,.cons v d r,0=>.cons w d r
 |_,_,_,.cons v d r,i+1=>by rw[List.modify_succ_cons];exact .cons v d (r.power i)
theorem Rq.merge{g d pw sv nv h:Nat}:∀{p:List (Nat×Nat×Nat)}{a b i:Nat},Rq p a b->p[i]?=A0 (g,d,pw)->p[i+1]?=A0 (sv,nv,h)->
  sv=g+d/\0<d/\0<nv/\sv+nv<=b/\Rq ((p.set i (g,d+nv,pw)).eraseIdx (i+1)) a b
 |_,_,_,i,.nil _,e,_=>by simp at e
 |_,_,_,0,@Rq.cons a b n w p l r,e,j=>by
  have q:(a,n,w)=(g,d,pw):=by simpa using e
  have f:p[0]?=A0 (sv,nv,h):=by simpa using j
  cases q;cases r with
  |nil _=>simp at f
  | @cons _ _ m C D x r2=>
   have v:(g+d,m,C)=(sv,nv,h):=by simpa using f
   cases v;refine⟨rfl,l,x,by have:=r2.len;omega,?_⟩;exact .cons _ ⋯ (by rw[<-Nat.add_assoc];exact r2)
 |_,_,_,i+1,@Rq.cons a b n w p l r,e,j=>by obtain⟨o,t,B,u,y⟩:=r.merge (i:=i) (by simpa using e) (by simpa using j);exact⟨o,t,B,u,.cons w l y⟩
structure Wv(kd:SortKind)(a0:Array AG)(st:AF)(b:Nat):Prop where
 rn:Rq (AI st).toList 0 b
 pm:(AQ st).toList.Perm a0.toList
 kd:kindOf st=kd
 fl:Aa st=A5
theorem Wv.size{a0:Array AG}{st:AF}{b:Nat}(w:Wv kd a0 st b):(AQ st).size=a0.size:=by have:=w.pm.length_eq;simpa using this
theorem Wv.pa{a0:Array AG}{st:AF}{b:Nat}(w:Wv kd a0 st b)(pa:∀p∈a0.toList,P p):∀p∈(AQ st).toList,P p:=λp a=>pa p (w.pm.mem_iff.mp a)
theorem Wv.mergeAt(C:CmpP M A E s P kd){a0:Array AG}{st:AF}{b:Nat}{i:Nat}{Q:Bool->AF->Prop}(w:Wv kd a0 st b)(pa:∀p∈a0.toList,P p)(hi:i+1<(AI st).size)(u:b<=a0.size)
  (h:∀a,Wv kd a0 a b->(AI a).size+1=(AI st).size->Q A2 a):wpS M A E s (mergeAt' i) Q st:=by
 obtain⟨⟨t,y,pw⟩,d⟩:∃x,(AI st)[i]?=A0 x:=⟨_,aD ⋯⟩;obtain⟨⟨sv,nv,r⟩,e⟩:∃x,(AI st)[i+1]?=A0 x:=⟨_,aD hi⟩;obtain⟨g,j,q,v,o⟩:=w.rn.merge (by simpa using d) (by simpa using e);refine Wd C w.kd (w.pa pa) d e g j q (by rw[w.size];omega) w.fl λa m l f n=>?_;refine h a ⟨?_,n.trans w.pm,m,l⟩ ?_;.rw[f];simpa using o
 .rw[f];simp[Array.eraseIdxIfInBounds,hi];omega
def SvP(kd:SortKind)(a0:Array AG)(x:Nat):ForInStep (Option Unit×Nat)->AF->Prop:=λr a=>match r with
 | .done c=>c.1=A5/\Wv kd a0 a a0.size
 | .yield c=>∃b,c=(A5,b)/\Wv kd a0 a b/\b<=a0.size/\(x<=b\/b=a0.size)
theorem NP{a0:Array AG}{a:AF}{n x b:Nat}(h1:1<=n)(d:Wv kd a0 a b)(f:x<=b)(e:b+n<=a0.size):wpS M A E s (sP b n) (SvP kd a0 (x+1)) a:=by refine AC (wpS_modify (AE ⟨b+n,rfl,⟨?_,d.pm,d.kd,d.fl⟩,e,.inl ⋯⟩));show Rq ((AI a).push _).toList _ _;rw[cy];exact d.rn.push h1
set_option tactic.hygienic true in
theorem Wh(C:CmpP M A E s P kd){a0:Array AG}{st3:AF}{n x lo:Nat}(pa:∀p∈a0.toList,P p)(h1:1<=n)(w3:Wv kd a0 st3 lo)(hx:x<=lo)(hn:lo+n<=a0.size):
  wpS M A E s (sT a0.size lo n) (SvP kd a0 (x+1)) st3:=by
 unfold sT;refine AC (wpS_get ?_);split
 .rename_i s1 n1 _ _;refine C3 (λ_ c st'=>c=(A5,())/\Wv kd a0 st' lo) (λc st'=>c=(A5,())/\Wv kd a0 st' lo) ⟨rfl,w3⟩ ?_ (λ_ _ hh=>hh) ?_
  .rintro y c st4 _ _⟨rfl,w4⟩;refine AC (wpS_get ?_);by_cases c5:(AI st4).size>1
   .rw[if_pos c5];split
    .split;.exact AE ⟨rfl,w4⟩
     .exact AC (w4.mergeAt C pa ⋯ ⋯ λst5 w5 _=>AE ⟨rfl,w5⟩)
    .exact AE ⟨rfl,w4⟩
   .rw[if_neg c5];exact AE ⟨rfl,w4⟩
  .rintro c st4⟨rfl,w4⟩;refine AC (wpS_modify (NP h1 ⟨?_,w4.pm,w4.kd,w4.fl⟩ hx hn));show Rq (Array.modify _ _ _).toList _ _;rw[Array.toList_modify];exact w4.rn.power _
 .exact NP h1 w3 hx hn
theorem Wi(C:CmpP M A E s P kd){a0:Array AG}{d:AF}{x h b:Nat}(pa:∀p∈a0.toList,P p)(w:Wv kd a0 d b)(t:b<=a0.size)(r:x<=b\/b=a0.size):
  wpS M A E s (sB a0.size h b) (SvP kd a0 (x+1)) d:=by
 unfold sB;by_cases l:b≥a0.size
 .rw[if_pos l];have e:b=a0.size:=by omega
  exact AE ⟨rfl,e▸w⟩
 rw[if_neg l];have g:∀{a:AF}{n:Nat},Sv d a->1<=n->n<=a0.size-b->wpS M A E s (sT a0.size b n) (SvP kd a0 (x+1)) a:=λ{a n}f q u=>
  Wh C pa q ⟨by rw[f.pend];exact w.rn,(Array.perm_iff_toList_perm.mp f.perm).trans w.pm,f.kind.trans w.kd,f.fail.trans w.fl⟩ ⋯ ⋯;refine AC (Wf C w.kd (w.pa pa) (by rw[w.size];omega) ⋯ λm st2 B2 j i=>?_);show wpS M A E s (if m<h then _ else _) _ _;by_cases o:m<h;.rw[if_pos o];refine AC (wpS_lift (bq ⟨rfl,?_⟩));exact AC (Wg C w.kd (w.pa pa) (by rw[w.size];omega) B2 λa f=>g f ⋯ ⋯)
 .rw[if_neg o];exact g B2 j i
theorem Wj(C:CmpP M A E s P kd){a0:Array AG}{st:AF}{Q:Unit->AF->Prop}(j:AQ st=a0)(m:kindOf st=kd)(u:Aa st=A5)(v:AI st=#[])(l:∀p∈a0.toList,P p)
  (h:∀a,(AQ a).toList.Perm a0.toList->Aa a=A5->Q () a):wpS M A E s sortRuns' Q st:=by
 rw[Vk];refine AC (wpS_get ?_);rw[j];refine C3 (λx c a=>SvP kd a0 x (.yield c) a) (λc a=>c.1=A5/\Wv kd a0 a a0.size) ⟨0,rfl,⟨by rw[v];exact .nil _,by rw[j],m,u⟩,aN _,.inl (ag _)⟩ ?_ ?_ ?_;.rintro x c f _ n⟨b,rfl,w,i,d⟩;exact wpS_mono (Wi C l w i d) λr a y=>by cases r<;>exact y
 .rintro c f⟨b,rfl,w,i,d⟩;have e:b=a0.size:=by omega
  exact⟨rfl,e▸w⟩
 .rintro⟨B,g⟩f⟨t,w⟩;cases t;refine C3 (λx c a=>c=(A5,())/\Wv kd a0 a a0.size) (λc a=>c=(A5,())/\Wv kd a0 a a0.size) ⟨rfl,w⟩ ?_ (λ_ _ z=>z) ?_
  .rintro x c st2 _ n⟨rfl,w⟩;unfold sC;refine AC (wpS_get ?_);by_cases g:(AI st2).size<=1;.rw[if_pos g];exact AE ⟨rfl,w⟩
   rw[if_neg g];refine AC (w.mergeAt C l ?_ (ag _) λo q D=>AE ⟨rfl,q⟩);repeat' split
   all_goals omega
  .rintro c st2⟨rfl,w⟩;exact AE (h st2 w.pm w.fl)
end
end So
namespace L2
open PySem PySem.Spec PyProof.Rows So
def NQ(prog:AA)(w:AK)(h0:AJ)(a:A4)(vs:List A1):Prop:=
 2<=vs.length->∃d:SortKind,∀(A:AL)(s:A3),(∀b o,b≠a->h0.get? b=A0 o->s.heap.get? b=A0 o)->
  (∀(E:A1->A3->Prop)(Q:SortKind->A3->Prop),Q d s->A8 (AD prog w) A (keyKind' vs.toArray) Q E s)/\
  ∀x y,x∈vs->y∈vs->∀(E:A1->A3->Prop)(Q:Bool->A3->Prop),(∀b,Q b s)->A8 (AD prog w) A (keyLt' d x y) Q E s
theorem Wk{prog:AA}{w:AK}{h0:AJ}{a:A4}{vs:List A1}(d:∀v∈vs,∃i t,v=.int i t):NQ prog w h0 a vs:=by
 intro b;refine⟨oneType',λA s _=>⟨λE Q h=>?_,λx y f e E Q h=>?_⟩⟩
 .obtain⟨x,y,r,rfl⟩:∃x y r,vs=x::y::r:=by
   match vs,b with
   | [],b=>simp at b
   | [_],b=>simp at b
   |x::y::r,_=>exact⟨x,y,r,rfl⟩
  rw[keyKind_ints (G9 d)];exact ab h
 .obtain⟨p,t,rfl⟩:=d x f;obtain⟨q,u,rfl⟩:=d y e;rw[keyLt'_oneType];exact oneLt_int (h _)
section
variable{prog:AA}{w:AK}{A:AL}{E:A1->A3->Prop}{s:A3}
theorem Wl{a:A4}{vs:List A1}{n:Nat}{P:Fin->A3->Prop}(t:s.heap.get? a=A0 (Ai "list" vs.toArray n))(hu:NQ prog w s.heap a vs)(hz:vs.length<=A7)
  (h:∀out:List A1,out.Perm vs->P (.done (.ret .none)) {s with heap:=sortedHeap s.heap a vs out.toArray}):A8 (AD prog w) A (AB.«list.sort» ⟨[.ref a],[]⟩) P E s:=by
 rw[list_sort_plain];have G:a<s.heap.objs.size:=ak t;refine aa (listItems_at t rfl (aa (listUpdate_at t rfl ?_)));obtain⟨u,j⟩:∃u,(s.heap.update a (AS.mapSeq λ_=>#[])).get? a=A0 (Ai "list" #[] u):=⟨_,get?_update_seq t (λ_=>#[])⟩;refine aa (seqEpoch_at j rfl (aa (wpAny_newTuple (aa (wpAny_newList (aC ?_))))));have g:(((s.heap.update a (AS.mapSeq λ_=>#[])).push (Ai "tuple" vs.toArray 0)).push (Ai "list" #[] 0)).get? a=A0 (Ai "list" #[] u):=by rw[cj _ _ _ (by rw[size_push',cr];exact ax (bv G)),cj _ _ _ (by rw[cr];exact ax G)];exact j
 have m:∀b o,b≠a->s.heap.get? b=A0 o->(((s.heap.update a (AS.mapSeq λ_=>#[])).push (Ai "tuple" vs.toArray 0)).push (Ai "list" #[] 0)).get? b=A0 o:=λb o I q=>by have i:b<s.heap.objs.size:=ak q;rw[cj _ _ _ (by rw[size_push',cr];exact ax (bv i)),cj _ _ _ (by rw[cr];exact ax i),AJ.get?_update_ne _ _ _ _ I];exact q
 show A8 (AD prog w) A _ P E {s with heap:=((s.heap.update a (AS.mapSeq λ_=>#[])).push (Ai "tuple" vs.toArray 0)).push (Ai "list" #[] 0)};dsimp only;by_cases r:vs.toArray.size<2
 .rw[if_pos r,if_pos r];refine aa (ab ?_);rw[StateT.run_pure];refine aa (ab ?_);dsimp only;refine aa (seqEpoch_at g rfl (aa (listUpdate_at g rfl ?_ (hsz2:=by rw[cx];show(pairsOf vs).size<=_;rw[pairsOf_size];exact dm hz))));simp only[bne_self_eq_false,aV,if_false];refine ab ?_;have N:(pairsOf vs).map (·.2)=vs.toArray:=by apply cX.mp;rw[du,pairsOf_toList,List.map_snd_zip (ag _)]
  have f:=h vs (List.Perm.refl _);rw[<-N]at f;exact f
 .rw[if_neg r,if_neg r];have v:2<=vs.length:=by rw[au]at r;omega
  obtain⟨D,B⟩:=hu v;obtain⟨J,T⟩:=B A {s with heap:=((s.heap.update a (AS.mapSeq λ_=>#[])).push (Ai "tuple" vs.toArray 0)).push (Ai "list" #[] 0)} m;refine aa (J _ _ ?_);have C:CmpP (AD prog w) A E {s with heap:=((s.heap.update a (AS.mapSeq λ_=>#[])).push (Ai "tuple" vs.toArray 0)).push (Ai "list" #[] 0)} (λp=>p.1∈vs) D:=⟨λ{x y st Q}L H M q=>by rw[lt'_eq];refine AC (wpS_get ?_);rw[M];exact AC (wpS_lift (cm (T x.1 y.1 L H _ _ λb=>⟨rfl,AE (q b)⟩)))⟩;refine aa (cY (Wj C (a0:=pairsOf vs) (st:=AF.mk' D (pairsOf vs) #[] 7 A5) (Q:=λ_ d=>(AQ d).toList.Perm (pairsOf vs).toList/\Aa d=A5) rfl rfl rfl rfl (λp l=>by rw[pairsOf_toList]at l;exact(mem_zip_self l).2) λd K U=>⟨K,U⟩) ?_ λ_ _ e=>e);rintro⟨⟨⟩,d⟩X⟨rfl,l,S⟩;dsimp only;have O:(AQ d).size=vs.length:=by have:=l.length_eq;rw[am,am,pairsOf_size]at this;exact this
  refine aa (seqEpoch_at g rfl (aa (listUpdate_at g rfl ?_ (hsz2:=by rw[cx];show(AQ d).size<=_;rw[O];exact dm hz))));rw[S];simp only[bne_self_eq_false,aV,if_false];refine ab ?_;have f:=h ((AQ d).toList.map (·.2)) (by have:=l.map (·.2);rw[pairsOf_toList,List.map_snd_zip (ag _)]at this;exact this);have R:((AQ d).toList.map (·.2)).toArray=(AQ d).map (·.2):=by apply cX.mp;rw[du]
  rw[R]at f;exact f
theorem Wm{D:A4}{o:AS}{S:Option Int->Bool}{n:Nat}{Q:A1->A3->Prop}(hh:A.handled=A5)(ho:s.heap.get? D=A0 o)(hS:o.SetIt (DO prog w) S n)(U:S A5=A6)
  (h:∀(s':A3)(l:A4)(J:List Int)(vs:Array A1)(e:Nat),(∀b o,s.heap.get? b=A0 o->s'.heap.get? b=A0 o)->s'.gens=s.gens->s'.os=s.os->s.heap.objs.size<=l->s'.heap.get? l=A0 (Ai "list" vs e)->IntsAre vs.toList J->J.Nodup->(∀i,i∈J↔S (A0 i)=A2)->J.length=n->Q (.ref l) s'):
  A8 (AD prog w) A (call (.builtin "sorted") [.ref D]) Q E s:=by
 obtain⟨es,ep,t,X,hd,P,g,N,hf,hn,I,L⟩:=hS;refine Calls.call_function_entry kind_sorted plain_sorted entry_sorted (args_sorted1 _) ?_;unfold AB.«sorted»;refine aa (m:=checkCount "sorted" 1 1 _) (ab (aa (U_ (A:=A.in1) hh ho X hd hf L (fits_of_scanBound N) λY C k1 k2 k3 k4 k5 r=>aa (wpAny_newList ?_ (by rw[r.length_eq,af,am];exact fits_of_scanBound N)))));have d:∀e∈es.toList,∃i t,e.2=.int i t/\S (A0 i)=A2:=by
  intro e f;obtain⟨⟨k,K,_⟩,_⟩:=P e f;have p:=(g k).mpr ⟨e,f,K⟩;rcases Cz K with⟨i,t,rfl,q⟩|⟨rfl,_⟩;.exact⟨i,t,q,p⟩
  .rw[U]at p;cases p
 have x:∀v∈C,∃i t,v=.int i t:=by intro v H;obtain⟨e,f,rfl⟩:=aB.mp (r.mem_iff.mp H);obtain⟨i,t,q,_⟩:=d e f;exact⟨i,t,q⟩
 have hI:=G9 x;have M:C.length=n:=by rw[r.length_eq,af,am,hn]
 have Z:(C.map iOf).Nodup:=by
  have h1:(es.toList.map (·.2)).Pairwise λa b=>iOf a≠iOf b:=by rw[bM];refine List.Pairwise.imp_of_mem (λ{a b}ha a0 z q=>?_) I;obtain⟨i,t,e1,_⟩:=d a ha;obtain⟨j,u,e2,_⟩:=d b a0;rw[e1,e2]at q;have q':i=j:=q;subst q';exact z (A0 i) (by rw[e1];show A1.isInt i (.int i t)=A2;simp[A1.isInt]) (by rw[e2];show A1.isInt i (.int i u)=A2;simp[A1.isInt])
  rw[List.Nodup,bM];exact(List.Perm.pairwise_iff (λ{a b}z=>Ne.symm z) r).mpr h1
 have O:C.length<=A7:=by rw[r.length_eq,af,am];exact fits_of_scanBound N
 have y:(Y.heap.push (Ai "list" C.toArray 0)).get? Y.heap.objs.size=A0 (Ai "list" C.toArray 0):=ai _ rfl;refine aa (aC (aP slot_list_sort ⟨_,y,rfl⟩ entry_list_sort (Wl y (Wk x) O λout a2=>⟨_,rfl,ab ⟨_,rfl,?_⟩⟩) (args_list_sort _)));obtain⟨e',T⟩:=sortedHeap_at (out:=out.toArray) y;have R:∀v∈out,∃i t,v=.int i t:=λv H=>x v (a2.mem_iff.mp H);have B:(out.map iOf).Perm (C.map iOf):=a2.map _;refine h _ Y.heap.objs.size (out.map iOf) out.toArray e' (λb o eb=>?_) k2 k3 k5 T (G9 R) ?_ (λi=>?_) (by rw[B.length_eq,af,M]);.have G:=ak (k1 b o eb);rw[sortedHeap_old (ax G) (by rw[size_push'];exact bv G)];exact ac _ (k1 b o eb)
 .exact B.nodup_iff.mpr Z
 .rw[B.mem_iff,aB];constructor;.rintro⟨v,H,rfl⟩;obtain⟨e,f,rfl⟩:=aB.mp (r.mem_iff.mp H);obtain⟨i,t,q,z⟩:=d e f;rw[q];exact z
  .intro z;obtain⟨e,f,K⟩:=(g (A0 i)).mp z;obtain⟨u,eu⟩:=A1.isInt_shape K;exact⟨e.2,r.mem_iff.mpr (cU f),by rw[eu];rfl⟩
end
section
variable{X:Cx}
def JP(Q:VK)(a:(Option Int->Bool)×Nat)(d:Hp):Prop:=a.1 A5=A6/\∀(l:A4)(b:List Int),d l=A5->b.Nodup->(∀i:Int,i∈b↔a.1 (A0 i)=A2)->Q (.ref l) (upd d l (.lst (b.map V.int)))
def JQ(own:List Nat)(e:TI)(g:TG)(b:TT)(Ar:TL ((Option Int->Bool)×Nat)):TE:=λd H Q=>DQ own e g b Ar (λ_=>A6,0) (λp a=>Bh p a.1 a.2) (JP Q) d H λ_ _=>True
variable{e:A9}{scope:AY}{tg iter:A9}{ifs:List A9}{nx:A4->Env->Sem Unit}{g:TG}{tc:TT}{Ar:TL ((Option Int->Bool)×Nat)}{own:List Nat}{wi:TI}
theorem Wn{p pos f:Pos}(n:Gl X "sorted")(q:X.mg "sorted"=A5)(C:CompInG (GB X.prog X.w) X e scope tg iter ifs nx g tc Ar own)(hi:PI X tg iter wi)(T:Ac e X.env=Ak e scope X.env f (newSet (.type "set")) A6 (Ac iter X.env))(i:AZ [e] X.env=[(A6,Ac e X.env)]):
  PE X (.Call (.Name "sorted" p) [e] [] pos) (JQ own wi g tc Ar):=by
 intro p_ s P H Q I hw;refine wpAny_Call_Name_kw (DK I n q (u:=.builtin "sorted") rfl ?_);refine PyProof.Rows.callWith_builtin1 ?_ (by rw[i];rfl) rfl;rw[i];show A8 _ _ (spliced [(A6,Ac e X.env)]) _ _ s;refine Calls.spliced_cons ?_;rw[T];refine thn (Ip (o0:=λ_=>Il (!(X.w.params.followText "set-order"))) (Q:=λv s'=>∃D a o d,v=.ref D/\Inv X p_ P d s'/\s'.heap.get? D=A0 o/\GB X.prog X.w a o/\JP Q a d) (λs Q h=>Ud (h A2)) (λ_=>rfl) (λ_=>⟨aN _,0,ag _,Uc⟩) Mb C hi I hw λZ s' H0 d ex D xs o a0 Y x J E j h0 fD sy A n' b hR=>?_) λv s'⟨D,a,o,d,ev,J,R,y,hok⟩=>Calls.spliced_nil ?_;.obtain⟨m,B,_⟩:=J.loc;refine⟨m,B,λh' i=>?_⟩;have t:D≠Z.heap.objs.size:=ax j;exact⟨D,xs,o,d,rfl,Ek Y x J i,(i.2 D t).trans E,A,b⟩
 .subst ev;obtain⟨B,m,O,hS⟩:=y;obtain⟨q1,q3⟩:=hok;refine Wm (I.ok.hd C.calm) R hS q1 λr l K vs E N k2 M G k5 U k7 S L=>?_;exact⟨.ref l,_,J.ints (s':=r) N k2 M G k5 U (by rw[L];exact aF O (aF B (by decide))),rfl,q3 l K (J.hok.fresh G) k7 S⟩
end
open PySem.Ts PySem.SeqAt
def GN(e d:TE):TE:=λb H Q=>e b H λx a=>(x=.non/\d b a Q)\/∃i:Int,x=.int i/\if i=0 then d b a Q else Q (.int i) a
section
variable{X:Cx}{a b:A9}{Ar:List A9}{pos:Pos}{ta tb:TE}
theorem NR(o:PE X a ta)(m:PE X (.BoolOp .Or (b::Ar) pos) tb):PE X (.BoolOp .Or (a::b::Ar) pos) (GN ta tb):=by
 intro l s f H Q I h;refine BoolOp_or (thn (o l s f H _ I h) λv n⟨x,g,j,r1,d⟩=>?_);rcases d with⟨rfl,d⟩|⟨i,rfl,d⟩;.cases r1;exact truthy_none (m l n f g Q j d)
 .obtain⟨t,rfl⟩:=r1;refine PySem.P.truthy_int ?_;by_cases e:i=0;.rw[if_pos e]at d;subst e;exact m l n f g Q j d
  .rw[if_neg e]at d;rw[show(i !=0)=A2 by simpa using e];exact⟨.int i,g,j,⟨t,rfl⟩,d⟩
end
section
variable{prog:AA}{w:AK}{A:AL}{E:A1->A3->Prop}{s:A3}
theorem Wo{o:String}{a b:A4}{m ob:AS}{es f:Array AV}{q j:Nat}{Q:Bool->A3->Prop}(p:(a==AO)=A6)(n:(b==AO)=A6)
  (e:s.heap.get? a=A0 m)(g:m.data=.dict es q)(l:s.heap.get? b=A0 ob)(i:ob.data=.dict f j)(h0:f.size=0)(h:Q (decide (es.size=0)) s):A8 (AD prog w) A (AB.Dict.samePairs o a b) Q E s:=by
 unfold AB.Dict.samePairs AB.Dict.showsAll;rw[if_neg (show¬(a==AO)=A2 by rw[p];exact al),if_neg (show¬(b==AO)=A2 by rw[n];exact al)];refine aa (ab (aa (ab ?_)));refine aa (bP e g ?_);dsimp only;refine aa (bP l i ?_);by_cases d:es.size=0;case neg=>rw[if_pos (by rw[h0];simpa using d)];rw[decide_eq_false d]at h;exact aa (bq (ab h))
 case pos=>rw[decide_eq_true d]at h;rw[if_neg (by rw[h0,d];simp)];refine aa (cB e g ?_);refine aa ?_;rw[Std.Legacy.Range.forIn_eq_forIn_range'];simp only[Std.Legacy.Range.size,Nat.sub_zero,db,Nat.div_one];rw[d];exact ab (ab h)
theorem Wr{a b:A4}{m ob:AS}{es d:Array AV}{q i:Nat}{Q:A1->A3->Prop}(p:(a==AO)=A6)(o:(b==AO)=A6)(f:s.TypeIs (.ref a) "dict")(n:s.TypeIs (.ref b) "dict")
  (e:s.heap.get? a=A0 m)(j:m.data=.dict es q)(l:s.heap.get? b=A0 ob)(g:ob.data=.dict d i)(h0:d.size=0)(hu:A.units<Ao)(h:Q (.bool (!decide (es.size=0))) s):A8 (AD prog w) A (AU .NotEq (.ref a) (.ref b)) Q E s:=by
 refine wpAny_richCompare_same_room (op:=.NotEq) f n PySem.F.slot_dict_ne (aP PySem.F.slot_dict_ne f PySem.F.entry_dict_ne ?_ (PySem.F.args_dict_ne_2 _ _)) hu;show A8 _ _ (AB.Dict.dictSlotArgs "__ne__" ⟨[.ref a,.ref b],[]⟩>>=_) _ _ s;refine aa ?_;unfold AB.Dict.dictSlotArgs;refine aa (dh f ?_);show A8 _ _ (pure (A1.ref a,A1.ref b)) _ _ s;refine ab ?_;refine aa (bT (T:="dict") n PySem.F.sub_dict_dict ?_);simp only[Bool.not_true,aV,if_false];refine aa (ab (aa (ab ?_)));refine aa (Wo p o e j l g h0 ?_);refine ab ⟨_,rfl,?_,?_⟩;.exact λx=>nomatch x
 .simpa using h
end
section
variable{X:Cx}
def NS:R2:=λx y H Q=>∃a b d,x=.ref a/\y=.ref b/\Rd H a (.dT d)/\H b=A0 (.dK [])/\Q (.bl (!decide (d=[]))) H
theorem Ws(hu:X.A.units+64<Ao):OpR X (AU .NotEq) NS:=by
 intro T s R H x y v u Q I t M h;obtain⟨a,b,f,rfl,rfl,C,O,k⟩:=h;cases t;cases M;obtain⟨z,E,S,j,o,r,U,p,G,i,w,_⟩:=Cy I.hok C;obtain⟨_,q,P,e,L,n,D,g,m,d,J,l,_⟩:=Di I.hok (.inl O);have K:P=[]:=cu (by have:=Aj e;simpa using this.symm);subst K;have N:n.size=0:=by rw[<-am,l.length];rfl
 have B:decide (r.size=0)=decide (f=[]):=by rw[<-am,w,af,<-Aj j];cases f<;>simp
 refine Wr E q ⟨o,p,G.1⟩ ⟨L,g,m.1⟩ p i g d N ⋯ ?_;rw[B];exact⟨.bl _,H,I,rfl,k⟩
end
abbrev sH1(h:AJ)(x:AM)(t:Tok):AJ:=h.push {cls:=.type "str_ascii_iterator",data:=.fields #[.str x t,.int 0 0]}
end L2
namespace R3
open PySem PySem.Spec PyProof.Rows L2
inductive Bf where
 |len|abs|int|isinstance|all|max|min|list|tuple|range|set|sortU|listD|lenD
 deriving DecidableEq
inductive Mf where
 |append|join
 deriving DecidableEq
inductive Zf where
 |neD0
 deriving DecidableEq
inductive Yf where
 |dct|dcn
 deriving DecidableEq
set_option genInjectivity false
mutual
inductive Ce where
 |var(i:Nat)|int(n:Int)|bl(b:Bool)|non|str(x:AM)|ty(n:String)
 |bin(op:Operator)(a b:Ce)
 |neg(a:Ce)|not(a:Ce)
 |and(a b:Ce)|or(a b:Ce)
 |cmp(op:CmpOp)(a b:Ce)
 |ife(q:Cq)(a b:Ce)
 |tup(es:Ces)|lst(es:Ces)
 |idx(a b:Ce)
 |cut(a:Ce)(lo hi:Co)
 |call(f:AM)(es:Ces)
 |blt(f:Bf)(es:Ces)
 |met(m:Mf)(o:Ce)(es:Ces)
 |comp(elt:Ce)(own:List Nat)(t:Ct)(it:Ci)(q:Cqo)(r:Cc)
 |dnew|dnt|dnn|orv(a b:Ce)|din(neg:Bool)(a b:Ce)|dgt(a b:Ce)|cal(f:Yf)(a:Ce)
 |ssa(elt:Ce)(own:List Nat)(t:Ct)(it:Ci)(q:Cqo)
inductive Ces where
 |nil|cons(e:Ce)(r:Ces)
inductive Cq where
 |val(e:Ce)|not(q:Cq)|and(a b:Cq)|or(a b:Cq)|cmp(op:CmpOp)(a b:Ce)|din(neg:Bool)(a b:Ce)|cmw(k:Zf)(a b:Ce)
inductive Cqo where
 |none|some(q:Cq)
inductive Co where
 |none|some(e:Ce)
inductive Ci where
 |val(e:Ce)|range1(a:Ce)|range2(a b:Ce)|zip(a b:Ce)|enum(a:Ce)|dk(e:Ce)
inductive Ct where
 |name(i:Nat)|tup(ts:Cts)|sub(o i:Ce)
inductive Cts where
 |nil|cons(t:Ct)(r:Cts)
inductive Cc where
 |nil|cons(ws:List Nat)(t:Ct)(it:Ci)(q:Cqo)(r:Cc)
end
mutual
inductive Cs where
 |expr(e:Ce)|ret(e:Ce)|asg(t:Ct)(e:Ce)|aug(i:Nat)(sub:Bool)(e:Ce)
 |ite(q:Cq)(a b:Css)|whl(q:Cq)(b:Css)|for_(t:Ct)(it:Ci)(b:Css)|dput(o i e:Ce)
 |setc2(i:Nat)(elt:Ce)(own:List Nat)(t:Ct)(it:Ci)(q:Cqo)(ws:List Nat)(t2:Ct)(it2:Ci)(q2:Cqo)|dctc(tup:Bool)(i:Nat)(k v:Ce)(own:List Nat)(t:Ct)(it:Ci)(q:Cqo)
inductive Css where
 |nil|cons(s:Cs)(r:Css)
end
set_option genInjectivity true
def NT(i j:Int):Prop:=0<=j/\j<=1000000/\i.natAbs<2^250*2^250*2^250
def NU(_ j:Int):Prop:=0<j/\(j<1073741824\/j.natAbs.log2<9000)
def NV(i j:Int):Prop:=(-(2^64)<i/\i<2^64)\/(-(2^64)<j/\j<2^64)\/IntMulOk i j
section
variable(K:W.Frag)
def Bs:Operator->R2
 | .Add=>λx y H Q=>match x,y with
  | .int i,.int j=>Q (.int (i+j)) H
  | .str i,.str j=>i.length+j.length<=A7/\Q (.str (i++j)) H
  |x,y=>LR x y H Q\/LJ K x y H Q\/L_ K x y H Q
 | .Sub=>rI0 λi j=>.int (i-j)
 | .Mult=>λx y H Q=>match x,y with
  | .int i,.int j=>NV i j/\Q (.int (i*j)) H
  | .str a,.int n=>-1000000<=n/\n<=1000000/\a.length*n.toNat<=1000000/\Q (.str (Txt.mul a n)) H
  |x,y=>LS x y H Q
 | .Mod=>rI (λ_ j=>0<j) λi j=>.int (i%j)
 | .FloorDiv=>rI NU λi j=>.int (i/j)
 | .Pow=>rI I0 λi j=>.int (i^j.toNat)
 | .LShift=>rI NT λi j=>.int (i*2^j.toNat)
 | .RShift=>rI (λ_ j=>0<=j) λi j=>.int (i/2^j.toNat)
 | .BitAnd=>rI (λi j=>0<=i/\j=1) λi _=>.int (i%2)
 |_=>λ_ _ _ _=>False
def BG:CmpOp->R2
 | .Eq=>λx y H Q=>match x,y with
  | .ref a,.ref b=>Fv K A6 (.ref a) (.ref b) H Q\/G1 A6 (.ref a) (.ref b) H Q
  |x,y=>rEq x y H Q
 | .NotEq=>λx y H Q=>match x,y with
  | .ref a,.ref b=>Fv K A2 (.ref a) (.ref b) H Q\/G1 A2 (.ref a) (.ref b) H Q
  |x,y=>rNe x y H Q
 | .Lt=>rI0 λi j=>.bl (decide (i<j))
 | .LtE=>rI0 λi j=>.bl (decide (i<=j))
 | .Gt=>λx y H Q=>match x with
  | .str a=>Lw (.str a) y H Q
  |x=>rI0 (λi j=>.bl (decide (j<i))) x y H Q
 | .GtE=>rI0 λi j=>.bl (decide (j<=i))
 | .Is=>λx y H Q=>match y with
  | .bl b=>Fw A6 x (.bl b) H Q
  |y=>y=.non/\Q (.bl (decide (x=.non))) H
 | .IsNot=>λx y H Q=>match y with
  | .bl b=>Fw A2 x (.bl b) H Q
  |y=>y=.non/\Q (.bl (!decide (x=.non))) H
 | .In=>λx y H Q=>match y with
  | .str b=>F_ A6 x (.str b) H Q
  |y=>rIn K A6 x y H Q
 | .NotIn=>λx y H Q=>match y with
  | .str b=>F_ A2 x (.str b) H Q
  |y=>rIn K A2 x y H Q
def BJ:Bf->List V->Hp->VK->Prop
 | .len=>λa H Q=>∃x n,a=[x]/\L9 K x H n/\Q (.int n) H
 | .abs=>λa H Q=>∃i,a=[.int i]/\Q (.int (if i<0 then -i else i)) H
 | .int=>λa H Q=>match a with
  | [.int i]=>Q (.int i) H
  | [.bl k]=>Q (.int (if k then 1 else 0)) H
  | [.str x]=>∃n,PySem.intText? x=A0 n/\x.length<=640/\Q (.int n) H
  | [.str x,.int j]=>j=2/\∃n,B2 x n/\Q (.int n) H
  |_=>False
 | .isinstance=>λa H Q=>Li a H Q\/False
 | .all=>Ll K A6
 | .max=>λa H Q=>match a with
  | [.int i,.int j]=>Q (.int (if j>i then j else i)) H
  |a=>Ft K A2 a H Q
 | .min=>λa H Q=>match a with
  | [.int i,.int j]=>Q (.int (if j<i then j else i)) H
  |a=>Ft K A6 a H Q
 | .list=>λa H Q=>(∃p b,a=[.ref p]/\(SqL K H p b\/SqT K H p b)/\∀l,H l=A5->Q (.ref l) (upd H l (.lst b)))\/Lo a H Q
 | .range=>Ln
 | .set=>MF K
 | .sortU=>NC
 | .listD=>N9
 | .lenD=>N7
 | .tuple=>λa H Q=>∃p b,a=[.ref p]/\((SqL K H p b/\∀l,H l=A5->Q (.ref l) (upd H l (.tup b)))\/(SqT K H p b/\Q (.ref p) H))
def D3:Mf->V->List V->Hp->VK->Prop
 | .append=>LQ
 | .join=>Lg K
def DS:Mf->String
 | .join=>"str"
 |_=>"list"
def NW:Mf->AM
 | .append=>"append"
 | .join=>"join"
def Ev:Bf->AM
 | .len=>"len"
 | .abs=>"abs"
 | .int=>"int"
 | .isinstance=>"isinstance"
 | .all=>"all"
 | .max=>"max"
 | .min=>"min"
 | .list=>"list"
 | .tuple=>"tuple"
 | .range=>"range"
 | .set=>"set"
 | .sortU=>"sorted"
 | .listD=>"list"
 | .lenD=>"len"
def DC:R2:=λx y H Q=>match x,y with
 | .str z,.int i=>z.length<=A7/\∃c,atI z.cps.toList i=A0 c/\Q (.str ⟨#[c]⟩) H
 |x,y=>CI K x y H Q\/CJ K x y H Q
def rSl:V->Option Int->Option Int->Hp->VK->Prop:=λx b d H Q=>match x with
 | .str a=>a.length<=A7/\Q (.str (Txt.slice a b d)) H
 |x=>Fl K x b d H Q\/Fk K x b d H Q\/GC K x b d H Q
end
def NX:Zf->CmpOp
 | .neD0=>.NotEq
def rZf:Zf->R2
 | .neD0=>NS
def Wt:Yf->AM
 | .dct=>"dict"
 | .dcn=>"dict"
def rYf:Yf->List V->Hp->VK->Prop
 | .dct=>My
 | .dcn=>Mz
structure Rc where
 N:List AM
 B:List AM
 K:W.Frag
 fs:AM->Option Sp
 xk:L2.St->XK:=λ_=>E0
 cl:AM->Option A4:=λ_=>A5
def GO(neg:Bool)(ty a:TE):TE:=J9 neg ty a
def GP:Cts->Nat
 | .nil=>0
 | .cons _ r=>GP r+1
mutual
def tE(C:Rc):Ce->TE
 | .var i=>He i
 | .int n=>tC (.int n)
 | .bl b=>tC (.bl b)
 | .non=>tC .non
 | .str x=>tC (.str x)
 | .ty n=>tC (.ty n)
 | .bin op a b=>tOp (Bs C.K op) (tE C a) (tE C b)
 | .neg a=>tUn (rU λi=>.int (-i)) (tE C a)
 | .not a=>Hg (tE C a)
 | .and a b=>Fe (tE C a) (tE C b)
 | .or a b=>Ff (tE C a) (tE C b)
 | .orv a b=>GN (tE C a) (tE C b)
 | .cmp op a b=>tOp (BG C.K op) (tE C a) (tE C b)
 | .ife q a b=>tIf (tQ C q) (tE C a) (tE C b)
 | .tup es=>IA (tA C es)
 | .lst es=>IB (tA C es)
 | .idx a b=>tOp (DC C.K) (tE C a) (tE C b)
 | .cut a lo hi=>tSl (rSl C.K) (tE C a) (tO C lo) (tO C hi)
 | .call f es=>λσ H Q=>match C.fs f with
  |A0 sp=>Fj sp [] (C.xk σ) (tA C es) σ H Q
  |A5=>False
 | .blt f es=>tCB (BJ C.K f) (tA C es)
 | .met m o es=>tBM C.K (DS m) (D3 C.K m) (tE C o) (tA C es)
 | .dnew=>Ij
 | .dnt=>Ik
 | .dnn=>J7
 | .din neg a b=>GO neg (tE C a) (tE C b)
 | .dgt a b=>JA (tE C a) (tE C b)
 | .cal f a=>tCB (rYf f) (Bq (tE C a) CD)
 | .ssa elt own t it q=>JQ own (tI C it) (tG C t) (tQo C q) (DB (tE C elt))
 | .comp elt own t it q r=>Dh own (tI C it) (tG C t) (tQo C q) (tR C r (Cw (tE C elt)))
def tA(C:Rc):Ces->TA
 | .nil=>CD
 | .cons e r=>Bq (tE C e) (tA C r)
def tQ(C:Rc):Cq->TT
 | .val e=>λσ H Q=>tE C e σ H λx H'=>∃k,Ed C.K x H' k/\Q k H'
 | .not q=>Hf (tQ C q)
 | .and a b=>Ec (tQ C a) (tQ C b)
 | .or a b=>tOr (tQ C a) (tQ C b)
 | .cmp op a b=>Dc (tOp (BG C.K op) (tE C a) (tE C b))
 | .din neg a b=>Dc (GO neg (tE C a) (tE C b))
 | .cmw k a b=>Dc (tOp (rZf k) (tE C a) (tE C b))
def tQo(C:Rc):Cqo->TT
 | .none=>λ_ H Q=>Q A2 H
 | .some q=>tQ C q
def tO(C:Rc):Co->TO
 | .none=>IE
 | .some e=>IF (tE C e)
def tI(C:Rc):Ci->TI
 | .val e=>IY C.K (tE C e)
 | .range1 a=>Hu (Bq (tE C a) CD)
 | .range2 a b=>Hv (Bq (tE C a) (Bq (tE C b) CD))
 | .zip a b=>IZ C.K (Bq (tE C a) (Bq (tE C b) CD))
 | .enum a=>Ib C.K (tE C a)
 | .dk e=>JM (tE C e)
def tG(C:Rc):Ct->TG
 | .name i=>CC i
 | .tup ts=>JO C.K (GP ts) (tGs C ts)
 | .sub o i=>Hr (tE C o) (tE C i) D9
def tGs(C:Rc):Cts->TGs
 | .nil=>Ho
 | .cons t r=>Hq (tG C t) (tGs C r)
def tR(C:Rc):Cc->TL (List V)->TL (List V)
 | .nil,em=>em
 | .cons ws t it q r,em=>Dg (tI C it) (C7 ws (tG C t) (tQo C q) (tR C r em))
end
mutual
def tS(C:Rc):Cs->TS
 | .expr e=>Hk (tE C e)
 | .ret e=>Hl (tE C e)
 | .asg t e=>CT (tE C e) (tG C t)
 | .aug i sub e=>Hs i (tE C e) (ipI λi j=>if sub then i-j else i+j)
 | .ite q a b=>Hm (tQ C q) (tSs C a) (tSs C b)
 | .whl q b=>Ht (tQ C q) (tSs C b)
 | .for_ t it b=>Hw (tI C it) (tG C t) (tSs C b)
 | .dput o i e=>J8 (tE C o) (tE C i) (tE C e)
 | .setc2 i elt own t it q ws t2 it2 q2=>CT (MW own (tI C it) (tG C t) (tQo C q) (Dg (tI C it2) (C7 ws (tG C t2) (tQo C q2) (DB (tE C elt))))) (CC i)
 | .dctc tup i k v own t it q=>if tup then CT (MY own (tI C it) (tG C t) (tQo C q) (tE C k) (tE C v)) (CC i)else CT (MX own (tI C it) (tG C t) (tQo C q) (tE C k) (tE C v)) (CC i)
def tSs(C:Rc):Css->TS
 | .nil=>Hi
 | .cons s r=>Hj (tS C s) (tSs C r)
end
def vis(sc:AY)(x:AM):Bool:=match sc.names.lookup x with
 |A0 .local=>A2
 |A0 .cell=>A2
 |A0 .free=>A2
 |_=>A6
def locb(sc:AY)(x:AM):Bool:=match sc.names.lookup x with
 |A0 .local=>A2
 |A0 .cell=>A2
 |_=>A6
def glb(sc:AY)(x:AM):Bool:=decide (sc.names.lookup x=A0 .globalImplicit)
def Ew(N:List AM)(i:Nat)(x:AM):Bool:=decide (N[i]?=A0 x)&&!(x==("__debug__":AM))&&!(x==("__classdict__":AM))
def B_:A9->Bool
 | .Starred ..=>A6
 |_=>A2
def Ba:A9->Bool
 | .Set ..=>A6
 |_=>A2
def Ex:A9->Bool
 | .Slice ..=>A6
 |_=>A2
def JR:A9->Bool
 | .Call _ [] _ _=>A6
 |_=>A2
def NZ:A9->Bool
 | .UnaryOp .Not _ _=>A6
 | .BoolOp ..=>A6
 | .IfExp ..=>A6
 | .Compare ..=>A6
 |_=>A2
def Na:List String:=["list","tuple","str","bool","int","dict","ValueError"]
def CM(N:List AM)(sc a:AY)(own:List Nat):Bool:=
 decide (a.kind=.function)&&
 a.names.all (λx=>(decide (x.2≠.local)||decide (a.names.lookup x.1=A0 .local))&&(decide (x.2≠.cell)||decide (a.names.lookup x.1=A0 .cell))&&
  (decide (x.2≠.free)||decide (sc.names.lookup x.1=A0 .cell)||decide (sc.names.lookup x.1=A0 .free)))&&
 (aE N.length).all (λi=>match N[i]? with
  |A0 x=>(decide (a.names.lookup x≠A0 .local)&&decide (a.names.lookup x≠A0 .cell))||decide (i∈own)
  |A5=>A2)
def Bt:Ci->A9->Bool
 | .zip _ _,.Tuple ..=>A2
 | .zip _ _,_=>A6
 | .enum _,.Tuple ..=>A2
 | .enum _,_=>A6
 |_,_=>A2
mutual
def Bl(own:List Nat):Ct->Bool
 | .name i=>decide (i∈own)
 | .tup ts=>Ey own ts
 | .sub _ _=>A6
def Ey(own:List Nat):Cts->Bool
 | .nil=>A2
 | .cons t r=>Bl own t&&Ey own r
end
def tld(B:List AM):Bool:=decide (("~":AM)∈B)
def hat(B:List AM):Bool:=decide (("^":AM)∈B)
def pct(B:List AM):Bool:=decide (("%":AM)∈B)
def EG(x:AM):AM:=⟨#[33]++x.cps⟩
theorem Ay{P:Prop}(h:A6=A2):P:=(al h).elim
theorem C0{a b:Bool}(h:(a&&b)=A2):a=A2/\b=A2:=by grind
def JS(e:A9)(f:A9->A9->Bool):Bool:=match e with
 | .BoolOp .And [x,y] _=>f x y
 | .BoolOp .And (x::y::z::r) pos=>f x (.BoolOp .And (y::z::r) pos)
 |_=>A6
theorem Nb{e:A9}{f:A9->A9->Bool}(h:JS e f=A2):(∃x y pos,e=.BoolOp .And [x,y] pos/\f x y=A2)\/∃x y z r pos,e=.BoolOp .And (x::y::z::r) pos/\f x (.BoolOp .And (y::z::r) pos)=A2:=by
 cases e with
 |BoolOp o a pos=>
  cases o with
  |And=>
   cases a with
   |nil=>exact Ay h
   |cons x r=>
    cases r with
    |nil=>exact Ay h
    |cons y r=>
     cases r with
     |nil=>exact .inl ⟨x,y,pos,rfl,h⟩
     |cons z r=>exact .inr ⟨x,y,z,r,pos,rfl,h⟩
  |_=>exact Ay h
 |_=>exact Ay h
def vOr(e:A9)(f:A9->A9->Bool):Bool:=match e with
 | .BoolOp .Or [x,y] _=>f x y
 | .BoolOp .Or (x::y::z::r) pos=>f x (.BoolOp .Or (y::z::r) pos)
 |_=>A6
theorem JT{e:A9}{f:A9->A9->Bool}(h:vOr e f=A2):(∃x y pos,e=.BoolOp .Or [x,y] pos/\f x y=A2)\/∃x y z r pos,e=.BoolOp .Or (x::y::z::r) pos/\f x (.BoolOp .Or (y::z::r) pos)=A2:=by
 cases e with
 |BoolOp o a pos=>
  cases o with
  |Or=>
   cases a with
   |nil=>exact Ay h
   |cons x r=>
    cases r with
    |nil=>exact Ay h
    |cons y r=>
     cases r with
     |nil=>exact .inl ⟨x,y,pos,rfl,h⟩
     |cons z r=>exact .inr ⟨x,y,z,r,pos,rfl,h⟩
  |_=>exact Ay h
 |_=>exact Ay h
def BM{a:Type}(z:List a)(f:Bool):Bool:=match z with
 | []=>f
 |_=>A6
theorem BN{a:Type}{z:List a}{f:Bool}(h:BM z f=A2):z=[]/\f=A2:=by
 cases z with
 |nil=>exact⟨rfl,h⟩
 |_=>exact Ay h
def BU{a:Type}(z:List a)(f:a->List a->Bool):Bool:=match z with
 |x::r=>f x r
 |_=>A6
theorem BY{a:Type}{z:List a}{f:a->List a->Bool}(h:BU z f=A2):∃x r,z=x::r/\f x r=A2:=by
 cases z with
 |cons x r=>exact⟨x,r,rfl,h⟩
 |_=>exact Ay h
def JU{a:Type}(z:Option a)(f:Bool):Bool:=match z with
 |A5=>f
 |_=>A6
theorem Nc{a:Type}{z:Option a}{f:Bool}(h:JU z f=A2):z=A5/\f=A2:=by
 cases z with
 |none=>exact⟨rfl,h⟩
 |_=>exact Ay h
def JV{a:Type}(z:Option a)(f:a->Bool):Bool:=match z with
 |A0 x=>f x
 |_=>A6
theorem Nd{a:Type}{z:Option a}{f:a->Bool}(h:JV z f=A2):∃x,z=A0 x/\f x=A2:=by
 cases z with
 |some x=>exact⟨x,rfl,h⟩
 |_=>exact Ay h
def Ck(z:Comprehension)(f:A9->A9->List A9->Int->Bool):Bool:=f z.target z.iter z.ifs z.is_async
theorem D4{z:Comprehension}{f:A9->A9->List A9->Int->Bool}(h:Ck z f=A2):∃a b c d,z=⟨a,b,c,d⟩/\f a b c d=A2:=by cases z;exact⟨_,_,_,_,rfl,h⟩
def DD(z:A9)(f:AM->Pos->Bool):Bool:=match z with
 | .Name b a=>f b a
 |_=>A6
theorem DT{z f}(h:DD z f=A2):∃b a,z=.Name b a/\f b a=A2:=by
 cases z with
 |Name b a=>exact⟨b,a,rfl,h⟩
 |_=>exact Ay h
def Ez(z:A9)(f:Const->Nat->Pos->Bool):Bool:=match z with
 | .Constant b a d=>f b a d
 |_=>A6
theorem GQ{z f}(h:Ez z f=A2):∃b a d,z=.Constant b a d/\f b a d=A2:=by
 cases z with
 |Constant b a d=>exact⟨b,a,d,rfl,h⟩
 |_=>exact Ay h
def Nf(z:Const)(f:Int->Bool):Bool:=match z with
 | .int a=>f a
 |_=>A6
theorem Wu{z f}(h:Nf z f=A2):∃a,z=.int a/\f a=A2:=by
 cases z with
 |int a=>exact⟨a,rfl,h⟩
 |_=>exact Ay h
def Ng(z:Const)(f:Bool->Bool):Bool:=match z with
 | .bool a=>f a
 |_=>A6
theorem Ww{z f}(h:Ng z f=A2):∃a,z=.bool a/\f a=A2:=by
 cases z with
 |bool a=>exact⟨a,rfl,h⟩
 |_=>exact Ay h
def Nh(z:Const)(f:Bool):Bool:=match z with
 | .none=>f
 |_=>A6
theorem Wx{z f}(h:Nh z f=A2):z=.none/\f=A2:=by
 cases z with
 |none=>exact⟨rfl,h⟩
 |_=>exact Ay h
def Ni(z:Const)(f:AM->Bool):Bool:=match z with
 | .str a=>f a
 |_=>A6
theorem Wy{z f}(h:Ni z f=A2):∃a,z=.str a/\f a=A2:=by
 cases z with
 |str a=>exact⟨a,rfl,h⟩
 |_=>exact Ay h
def Nj(z:A9)(f:A9->Operator->A9->Pos->Bool):Bool:=match z with
 | .BinOp b a d e=>f b a d e
 |_=>A6
theorem Wz{z f}(h:Nj z f=A2):∃b a d e,z=.BinOp b a d e/\f b a d e=A2:=by
 cases z with
 |BinOp b a d e=>exact⟨b,a,d,e,rfl,h⟩
 |_=>exact Ay h
def JW(z:A9)(f:UnaryOp->A9->Pos->Bool):Bool:=match z with
 | .UnaryOp b a d=>f b a d
 |_=>A6
theorem Nk{z f}(h:JW z f=A2):∃b a d,z=.UnaryOp b a d/\f b a d=A2:=by
 cases z with
 |UnaryOp b a d=>exact⟨b,a,d,rfl,h⟩
 |_=>exact Ay h
def Nl(z:UnaryOp)(f:Bool):Bool:=match z with
 | .USub=>f
 |_=>A6
theorem W_{z f}(h:Nl z f=A2):z=.USub/\f=A2:=by
 cases z with
 |USub=>exact⟨rfl,h⟩
 |_=>exact Ay h
def Nm(z:UnaryOp)(f:Bool):Bool:=match z with
 | .Not=>f
 |_=>A6
theorem X0{z f}(h:Nm z f=A2):z=.Not/\f=A2:=by
 cases z with
 |Not=>exact⟨rfl,h⟩
 |_=>exact Ay h
def Nn(z:A9)(f:A9->List CmpOp->List A9->Pos->Bool):Bool:=match z with
 | .Compare b a d e=>f b a d e
 |_=>A6
theorem X1{z f}(h:Nn z f=A2):∃b a d e,z=.Compare b a d e/\f b a d e=A2:=by
 cases z with
 |Compare b a d e=>exact⟨b,a,d,e,rfl,h⟩
 |_=>exact Ay h
def No(z:A9)(f:A9->A9->A9->Pos->Bool):Bool:=match z with
 | .IfExp b a d e=>f b a d e
 |_=>A6
theorem X2{z f}(h:No z f=A2):∃b a d e,z=.IfExp b a d e/\f b a d e=A2:=by
 cases z with
 |IfExp b a d e=>exact⟨b,a,d,e,rfl,h⟩
 |_=>exact Ay h
def Np(z:A9)(f:List A9->Nat->Pos->Bool):Bool:=match z with
 | .Tuple b a d=>f b a d
 |_=>A6
theorem X3{z f}(h:Np z f=A2):∃b a d,z=.Tuple b a d/\f b a d=A2:=by
 cases z with
 |Tuple b a d=>exact⟨b,a,d,rfl,h⟩
 |_=>exact Ay h
def Nq(z:A9)(f:List A9->Pos->Bool):Bool:=match z with
 | .List b a=>f b a
 |_=>A6
theorem X4{z f}(h:Nq z f=A2):∃b a,z=.List b a/\f b a=A2:=by
 cases z with
 |List b a=>exact⟨b,a,rfl,h⟩
 |_=>exact Ay h
def GR(z:A9)(f:A9->A9->Pos->Bool):Bool:=match z with
 | .Subscript b a d=>f b a d
 |_=>A6
theorem JX{z f}(h:GR z f=A2):∃b a d,z=.Subscript b a d/\f b a d=A2:=by
 cases z with
 |Subscript b a d=>exact⟨b,a,d,rfl,h⟩
 |_=>exact Ay h
def Nr(z:A9)(f:Option A9->Option A9->Option A9->Pos->Bool):Bool:=match z with
 | .Slice b a d e=>f b a d e
 |_=>A6
theorem X5{z f}(h:Nr z f=A2):∃b a d e,z=.Slice b a d e/\f b a d e=A2:=by
 cases z with
 |Slice b a d e=>exact⟨b,a,d,e,rfl,h⟩
 |_=>exact Ay h
def Dl(z:A9)(f:A9->List A9->List Keyword->Pos->Bool):Bool:=match z with
 | .Call b a d e=>f b a d e
 |_=>A6
theorem EH{z f}(h:Dl z f=A2):∃b a d e,z=.Call b a d e/\f b a d e=A2:=by
 cases z with
 |Call b a d e=>exact⟨b,a,d,e,rfl,h⟩
 |_=>exact Ay h
def JY(z:A9)(f:A9->AM->Pos->Bool):Bool:=match z with
 | .Attribute b a d=>f b a d
 |_=>A6
theorem Nt{z f}(h:JY z f=A2):∃b a d,z=.Attribute b a d/\f b a d=A2:=by
 cases z with
 |Attribute b a d=>exact⟨b,a,d,rfl,h⟩
 |_=>exact Ay h
def Nu(z:A9)(f:List (Option A9)->List A9->Pos->Bool):Bool:=match z with
 | .Dict b a d=>f b a d
 |_=>A6
theorem X6{z f}(h:Nu z f=A2):∃b a d,z=.Dict b a d/\f b a d=A2:=by
 cases z with
 |Dict b a d=>exact⟨b,a,d,rfl,h⟩
 |_=>exact Ay h
def Nv(z:A9)(f:A9->A9->List Comprehension->AY->Pos->Bool):Bool:=match z with
 | .DictComp b a d e g=>f b a d e g
 |_=>A6
theorem X7{z f}(h:Nv z f=A2):∃b a d e g,z=.DictComp b a d e g/\f b a d e g=A2:=by
 cases z with
 |DictComp b a d e g=>exact⟨b,a,d,e,g,rfl,h⟩
 |_=>exact Ay h
def GS(z:A9)(f:A9->List Comprehension->AY->Pos->Bool):Bool:=match z with
 | .ListComp b a d e=>f b a d e
 |_=>A6
theorem JZ{z f}(h:GS z f=A2):∃b a d e,z=.ListComp b a d e/\f b a d e=A2:=by
 cases z with
 |ListComp b a d e=>exact⟨b,a,d,e,rfl,h⟩
 |_=>exact Ay h
def Nw(z:Ap)(f:A9->Pos->Bool):Bool:=match z with
 | .Expr b a=>f b a
 |_=>A6
theorem X8{z f}(h:Nw z f=A2):∃b a,z=.Expr b a/\f b a=A2:=by
 cases z with
 |Expr b a=>exact⟨b,a,rfl,h⟩
 |_=>exact Ay h
def Nx(z:Ap)(f:Option A9->Pos->Bool):Bool:=match z with
 | .Return b a=>f b a
 |_=>A6
theorem X9{z f}(h:Nx z f=A2):∃b a,z=.Return b a/\f b a=A2:=by
 cases z with
 |Return b a=>exact⟨b,a,rfl,h⟩
 |_=>exact Ay h
def E_(z:Ap)(f:List A9->A9->Pos->Bool):Bool:=match z with
 | .Assign b a d=>f b a d
 |_=>A6
theorem GT{z f}(h:E_ z f=A2):∃b a d,z=.Assign b a d/\f b a d=A2:=by
 cases z with
 |Assign b a d=>exact⟨b,a,d,rfl,h⟩
 |_=>exact Ay h
def Ja(z:A9)(f:A9->List Comprehension->AY->Pos->Bool):Bool:=match z with
 | .SetComp b a d e=>f b a d e
 |_=>A6
theorem Ny{z f}(h:Ja z f=A2):∃b a d e,z=.SetComp b a d e/\f b a d e=A2:=by
 cases z with
 |SetComp b a d e=>exact⟨b,a,d,e,rfl,h⟩
 |_=>exact Ay h
def Nz(z:Ap)(f:A9->Operator->A9->Pos->Bool):Bool:=match z with
 | .AugAssign b a d e=>f b a d e
 |_=>A6
theorem XA{z f}(h:Nz z f=A2):∃b a d e,z=.AugAssign b a d e/\f b a d e=A2:=by
 cases z with
 |AugAssign b a d e=>exact⟨b,a,d,e,rfl,h⟩
 |_=>exact Ay h
def N_(z:Ap)(f:A9->List Ap->List Ap->Pos->Bool):Bool:=match z with
 | .If b a d e=>f b a d e
 |_=>A6
theorem XB{z f}(h:N_ z f=A2):∃b a d e,z=.If b a d e/\f b a d e=A2:=by
 cases z with
 |If b a d e=>exact⟨b,a,d,e,rfl,h⟩
 |_=>exact Ay h
def O0(z:Ap)(f:A9->List Ap->List Ap->Pos->Bool):Bool:=match z with
 | .While b a d e=>f b a d e
 |_=>A6
theorem XC{z f}(h:O0 z f=A2):∃b a d e,z=.While b a d e/\f b a d e=A2:=by
 cases z with
 |While b a d e=>exact⟨b,a,d,e,rfl,h⟩
 |_=>exact Ay h
def OA(z:Ap)(f:A9->A9->List Ap->List Ap->Pos->Bool):Bool:=match z with
 | .For b a d e g=>f b a d e g
 |_=>A6
theorem XD{z f}(h:OA z f=A2):∃b a d e g,z=.For b a d e g/\f b a d e g=A2:=by
 cases z with
 |For b a d e g=>exact⟨b,a,d,e,g,rfl,h⟩
 |_=>exact Ay h
def v1(b:A9)(f:AM->Bool):Bool:=DD b λa d=>f a
theorem Jb{a f}{P:Prop}(h:v1 a f=A2)(k:∀x e,a=.Name x e->f x=A2->P):P:=by obtain⟨g,d,b,h⟩:=DT h;exact k g d (by rw[b]) h
def v2(b:A9)(f:Int->Bool):Bool:=Ez b λd e g=>Nf d λa=>f a
theorem XE{a f}{P:Prop}(h:v2 a f=A2)(k:∀m i l,a=.Constant (.int m) i l->f m=A2->P):P:=by obtain⟨n,e,b,d,h⟩:=GQ h;obtain⟨j,g,h⟩:=Wu h;exact k j e b (by rw[d,g]) h
def v3(b:A9)(f:Bool->Bool):Bool:=Ez b λd e g=>Ng d λa=>f a
theorem XF{a f}{P:Prop}(h:v3 a f=A2)(k:∀c i l,a=.Constant (.bool c) i l->f c=A2->P):P:=by obtain⟨m,e,b,d,h⟩:=GQ h;obtain⟨j,g,h⟩:=Ww h;exact k j e b (by rw[d,g]) h
def v4(a:A9)(f:Bool):Bool:=Ez a λb d e=>Nh b (f)
theorem XG{a f}{P:Prop}(h:v4 a f=A2)(k:∀i j,a=.Constant .none i j->f=A2->P):P:=by obtain⟨l,e,b,d,h⟩:=GQ h;obtain⟨g,h⟩:=Wx h;exact k e b (by rw[d,g]) h
def v5(b:A9)(f:AM->Bool):Bool:=Ez b λd e g=>Ni d λa=>f a
theorem XH{a f}{P:Prop}(h:v5 a f=A2)(k:∀y i l,a=.Constant (.str y) i l->f y=A2->P):P:=by obtain⟨m,e,b,d,h⟩:=GQ h;obtain⟨j,g,h⟩:=Wy h;exact k j e b (by rw[d,g]) h
def v6(b:A9)(f:A9->Operator->A9->Bool):Bool:=Nj b λe a d g=>f e a d
theorem XI{d f}{P:Prop}(h:v6 d f=A2)(k:∀e a b l,d=.BinOp e a b l->f e a b=A2->P):P:=by obtain⟨n,j,g,m,i,h⟩:=Wz h;exact k n j g m (by rw[i]) h
def v7(b:A9)(f:A9->Bool):Bool:=JW b λd a e=>Nl d (f a)
theorem XJ{a f}{P:Prop}(h:v7 a f=A2)(k:∀b j,a=.UnaryOp .USub b j->f b=A2->P):P:=by obtain⟨l,g,d,e,h⟩:=Nk h;obtain⟨i,h⟩:=W_ h;exact k g d (by rw[e,i]) h
def v8(b:A9)(f:A9->Bool):Bool:=JW b λd a e=>Nm d (f a)
theorem OB{a f}{P:Prop}(h:v8 a f=A2)(k:∀b j,a=.UnaryOp .Not b j->f b=A2->P):P:=by obtain⟨l,g,d,e,h⟩:=Nk h;obtain⟨i,h⟩:=X0 h;exact k g d (by rw[e,i]) h
def v9(g:A9)(f:A9->CmpOp->A9->Bool):Bool:=Nn g λj d h l=>BU d λa e=>BM e (BU h λb i=>BM i (f j a b))
theorem F0{d f}{P:Prop}(h:v9 d f=A2)(k:∀e a b q,d=.Compare e (a:: []) (b:: []) q->f e a b=A2->P):P:=by obtain⟨n,v,s,r,p,h⟩:=X1 h;obtain⟨o,t,g,h⟩:=BY h;obtain⟨i,h⟩:=BN h;obtain⟨m,u,l,h⟩:=BY h;obtain⟨j,h⟩:=BN h;exact k n o m r (by rw[p,g,i,l,j]) h
def v11(b:A9)(f:A9->A9->A9->Bool):Bool:=No b λe a d g=>f e a d
theorem XM{d f}{P:Prop}(h:v11 d f=A2)(k:∀b e a l,d=.IfExp b e a l->f b e a=A2->P):P:=by obtain⟨n,j,g,m,i,h⟩:=X2 h;exact k n j g m (by rw[i]) h
def v12(a:A9)(f:List A9->Bool):Bool:=Np a λb d e=>f b
theorem OC{b f}{P:Prop}(h:v12 b f=A2)(k:∀a i j,b=.Tuple a i j->f a=A2->P):P:=by obtain⟨l,g,d,e,h⟩:=X3 h;exact k l g d (by rw[e]) h
def v13(b:A9)(f:List A9->Bool):Bool:=Nq b λa d=>f a
theorem XN{b f}{P:Prop}(h:v13 b f=A2)(k:∀a g,b=.List a g->f a=A2->P):P:=by obtain⟨i,e,d,h⟩:=X4 h;exact k i e (by rw[d]) h
def v14(b:A9)(f:A9->A9->Bool):Bool:=GR b λd a e=>f d a
theorem OD{b f}{P:Prop}(h:v14 b f=A2)(k:∀d a j,b=.Subscript d a j->f d a=A2->P):P:=by obtain⟨l,i,e,g,h⟩:=JX h;exact k l i e (by rw[g]) h
def v15(g:A9)(f:A9->Option A9->Option A9->Bool):Bool:=GR g λh b j=>Nr b λe a d i=>JU d (f h e a)
theorem XO{a f}{P:Prop}(h:v15 a f=A2)(k:∀b l h o q,a=.Subscript b (.Slice l h A5 o) q->f b l h=A2->P):P:=by obtain⟨j,s,d,n,h⟩:=JX h;obtain⟨p,m,r,i,e,h⟩:=X5 h;obtain⟨g,h⟩:=Nc h;exact k j p m i d (by rw[n,e,g]) h
def v16(e:A9)(f:AM->A9->List A9->Bool):Bool:=Dl e λi d g l=>DD i λa j=>BU d λb h=>BM g (f a b h)
theorem OE{a f}{P:Prop}(h:v16 a f=A2)(k:∀x o e r q,a=.Call (.Name x o) (e::r) [] q->f x e r=A2->P):P:=by obtain⟨t,u,s,p,n,h⟩:=EH h;obtain⟨m,g,b,h⟩:=DT h;obtain⟨l,i,d,h⟩:=BY h;obtain⟨j,h⟩:=BN h;exact k m g l i p (by rw[n,b,d,j]) h
def v17(h:A9)(f:A9->AM->Pos->List A9->Pos->Bool):Bool:=Dl h λj d i g=>JY j λa e b=>BM i (f a e b d g)
theorem XP{g f}{P:Prop}(h:v17 g f=A2)(k:∀d e a b pos,g=.Call (.Attribute d e a) b [] pos->f d e a b pos=A2->P):P:=by obtain⟨s,p,r,q,o,h⟩:=EH h;obtain⟨n,l,m,i,h⟩:=Nt h;obtain⟨j,h⟩:=BN h;exact k n l m p q (by rw[o,i,j]) h
def v18(b:A9)(f:Bool):Bool:=Nu b λd a e=>BM d (BM a (f))
theorem Jc{a f}{P:Prop}(h:v18 a f=A2)(k:∀g,a=.Dict [] [] g->f=A2->P):P:=by obtain⟨l,j,i,b,h⟩:=X6 h;obtain⟨d,h⟩:=BN h;obtain⟨e,h⟩:=BN h;exact k i (by rw[b,d,e]) h
def v20(i:A9)(f:A9->AM->Pos->A9->Pos->Bool):Bool:=Dl i λm d j h=>JY m λa g b=>BU d λl e=>BM e (BM j (f a g b l h))
theorem XQ{e f}{P:Prop}(h:v20 e f=A2)(k:∀b d a y pos,e=.Call (.Attribute b d a) (y:: []) [] pos->f b d a y pos=A2->P):P:=by obtain⟨t,u,s,r,q,h⟩:=EH h;obtain⟨p,j,o,g,h⟩:=Nt h;obtain⟨l,v,i,h⟩:=BY h;obtain⟨n,h⟩:=BN h;obtain⟨m,h⟩:=BN h;exact k p j o l r (by rw[q,g,i,n,m]) h
def v70(t:A9)(f:AM->A9->A9->A9->List A9->Int->AY->Bool):Bool:=Dl t λp r m v=>DD p λq u=>BU r λo n=>BM n (BM m (Ja o λs h a l=>BU h λj b=>Ck j λe i d g=>BM b (f q s e i d g a)))
theorem XR{r f}{P:Prop}(h:v70 r f=A2)(k:∀q I p o d e a b L y,r=.Call (.Name q I) ((.SetComp p (⟨o,d,e,a⟩:: []) b L):: []) [] y->f q p o d e a b=A2->P):P:=by obtain⟨R,S,N,K,E,h⟩:=EH h;obtain⟨D,x,u,h⟩:=DT h;obtain⟨Q,O,w,h⟩:=BY h;obtain⟨C,h⟩:=BN h;obtain⟨A,h⟩:=BN h;obtain⟨H,G,g,i,J,h⟩:=Ny h;obtain⟨M,B,v,h⟩:=BY h;obtain⟨l,m,j,n,t,h⟩:=D4 h;obtain⟨s,h⟩:=BN h;exact k D x H l m j n g i K (by rw[E,u,w,C,A,J,v,t,s]) h
def v23(e:A9)(f:AM->A9->Bool):Bool:=Dl e λi d g l=>DD i λa j=>BU d λb h=>BM h (BM g (f a b))
theorem Jd{a f}{P:Prop}(h:v23 a f=A2)(k:∀x n y p,a=.Call (.Name x n) (y:: []) [] p->f x y=A2->P):P:=by obtain⟨s,t,q,o,m,h⟩:=EH h;obtain⟨l,e,b,h⟩:=DT h;obtain⟨j,r,d,h⟩:=BY h;obtain⟨i,h⟩:=BN h;obtain⟨g,h⟩:=BN h;exact k l e j o (by rw[m,b,d,i,g]) h
def v26(i:A9)(f:A9->A9->A9->List A9->Int->AY->Bool):Bool:=GS i λm e j n=>BU e λb h=>Ck b λd l g a=>BM h (f m d l g a j)
theorem XS{l f}{P:Prop}(h:v26 l f=A2)(k:∀j i d e a b v,l=.ListComp j (⟨i,d,e,a⟩:: []) b v->f j i d e a b=A2->P):P:=by obtain⟨s,A,m,w,t,h⟩:=JZ h;obtain⟨y,x,n,h⟩:=BY h;obtain⟨r,p,u,g,o,h⟩:=D4 h;obtain⟨q,h⟩:=BN h;exact k s r p u g m w (by rw[t,n,o,q]) h
def v27(p:A9)(f:A9->A9->A9->List A9->Int->A9->A9->List A9->Int->AY->Bool):Bool:=GS p λs m q t=>BU m λj o=>Ck j λl r n e=>BU o λd h=>Ck d λi a b g=>BM h (f s l r n e i a b g q)
theorem XT{t f}{P:Prop}(h:v27 t f=A2)(k:∀s q g j a i b e r d I,t=.ListComp s (⟨q,g,j,a⟩::(⟨i,b,e,r⟩:: [])) d I->f s q g j a i b e r d=A2->P):P:=by obtain⟨E,N,w,K,G,h⟩:=JZ h;obtain⟨M,L,x,h⟩:=BY h;obtain⟨D,A,H,n,y,h⟩:=D4 h;obtain⟨u,v,C,h⟩:=BY h;obtain⟨p,l,m,o,B,h⟩:=D4 h;obtain⟨J,h⟩:=BN h;exact k E D A H n p l m o w K (by rw[G,x,y,C,B,J]) h
def v28(y:A9)(f:A9->A9->A9->List A9->Int->A9->A9->List A9->Int->A9->A9->List A9->Int->AY->Bool):Bool:=GS y λu w q A=>BU w λv r=>Ck v λt s x m=>BU r λa d=>Ck a λp h j n=>BU d λi l=>Ck i λo g e b=>BM l (f u t s x m p h j n o g e b q)
theorem XU{C f}{P:Prop}(h:v28 C f=A2)(k:∀A x j n a l b g y m d i B e X,C=.ListComp A (⟨x,j,n,a⟩::(⟨l,b,g,y⟩::(⟨m,d,i,B⟩:: []))) e X->f A x j n a l b g y m d i B e=A2->P):P:=by obtain⟨R,y2,G,Z,S,h⟩:=JZ h;obtain⟨y5,y6,I,h⟩:=BY h;obtain⟨O,L,T,t,K,h⟩:=D4 h;obtain⟨D,E,N,h⟩:=BY h;obtain⟨w,r,s,u,M,h⟩:=D4 h;obtain⟨Q,U,Y,h⟩:=BY h;obtain⟨v,q,p,o,J,h⟩:=D4 h;obtain⟨H,h⟩:=BN h;exact k R O L T t w r s u v q p o G Z (by rw[S,I,K,N,M,Y,J,H]) h
def v29(a:List A9)(f:Bool):Bool:=BM a (f)
theorem FA{a f}{P:Prop}(h:v29 a f=A2)(k:a=[]->f=A2->P):P:=by obtain⟨b,h⟩:=BN h;exact k (by rw[b]) h
def v30(d:List A9)(f:A9->List A9->Bool):Bool:=BU d λb a=>f b a
theorem GU{b f}{P:Prop}(h:v30 b f=A2)(k:∀x a,b=(x::a)->f x a=A2->P):P:=by obtain⟨g,e,d,h⟩:=BY h;exact k g e (by rw[d]) h
def v31(d:List A9)(f:A9->Bool):Bool:=BU d λb a=>BM a (f b)
theorem XV{a f}{P:Prop}(h:v31 a f=A2)(k:∀e,a=(e:: [])->f e=A2->P):P:=by obtain⟨g,i,b,h⟩:=BY h;obtain⟨d,h⟩:=BN h;exact k g (by rw[b,d]) h
def v32(a:Option A9)(f:Bool):Bool:=JU a (f)
theorem XW{a f}{P:Prop}(h:v32 a f=A2)(k:a=A5->f=A2->P):P:=by obtain⟨b,h⟩:=Nc h;exact k (by rw[b]) h
def v33(b:Option A9)(f:A9->Bool):Bool:=JV b λa=>f a
theorem XX{a f}{P:Prop}(h:v33 a f=A2)(k:∀y,a=(A0 y)->f y=A2->P):P:=by obtain⟨d,b,h⟩:=Nd h;exact k d (by rw[b]) h
def v34(h:A9)(f:AM->A9->A9->Bool):Bool:=Dl h λl e i n=>DD l λb m=>BU e λd j=>BU j λg a=>BM a (BM i (f b d g))
theorem OF{a f}{P:Prop}(h:v34 a f=A2)(k:∀n q y z t,a=.Call (.Name n q) (y::(z:: [])) [] t->f n y z=A2->P):P:=by obtain⟨w,x,u,s,m,h⟩:=EH h;obtain⟨l,e,b,h⟩:=DT h;obtain⟨j,v,d,h⟩:=BY h;obtain⟨p,o,i,h⟩:=BY h;obtain⟨g,h⟩:=BN h;obtain⟨r,h⟩:=BN h;exact k l e j p s (by rw[m,b,d,i,g,r]) h
def v36(b:Ap)(f:A9->Bool):Bool:=Nw b λa d=>f a
theorem XY{a f}{P:Prop}(h:v36 a f=A2)(k:∀x e,a=.Expr x e->f x=A2->P):P:=by obtain⟨g,d,b,h⟩:=X8 h;exact k g d (by rw[b]) h
def v37(a:Ap)(f:A9->Bool):Bool:=Nx a λd e=>JV d λb=>f b
theorem XZ{a f}{P:Prop}(h:v37 a f=A2)(k:∀x g,a=.Return (A0 x) g->f x=A2->P):P:=by obtain⟨j,d,b,h⟩:=X9 h;obtain⟨i,e,h⟩:=Nd h;exact k i d (by rw[b,e]) h
def v39(e:Ap)(f:A9->A9->Bool):Bool:=E_ e λg b h=>BU g λd a=>BM a (f d b)
theorem Xa{b f}{P:Prop}(h:v39 b f=A2)(k:∀a x j,b=.Assign (a:: []) x j->f a x=A2->P):P:=by obtain⟨o,e,m,d,h⟩:=GT h;obtain⟨l,n,g,h⟩:=BY h;obtain⟨i,h⟩:=BN h;exact k l e m (by rw[d,g,i]) h
def v41(A:Ap)(f:AM->Pos->A9->A9->A9->List A9->Int->A9->A9->List A9->Int->AY->Bool):Bool:=E_ A λu w B=>BU u λy v=>DD y λr t=>BM v (Ja w λs x m q=>BU x λb p=>Ck b λh j n i=>BU p λl o=>Ck l λe d a g=>BM o (f r t s h j n i e d a g m))
theorem Xb{B f}{P:Prop}(h:v41 B f=A2)(k:∀y A x v g j a i b e w d T X,B=.Assign ((.Name y A):: []) (.SetComp x (⟨v,g,j,a⟩::(⟨i,b,e,w⟩:: [])) d T) X->f y A x v g j a i b e w d=A2->P):P:=by obtain⟨y1,y2,D,R,h⟩:=GT h;obtain⟨y4,y5,H,h⟩:=BY h;obtain⟨K,O,J,h⟩:=DT h;obtain⟨N,h⟩:=BN h;obtain⟨L,y9,t,l,M,h⟩:=Ny h;obtain⟨C,Z,U,h⟩:=BY h;obtain⟨p,s,u,r,I,h⟩:=D4 h;obtain⟨S,Y,G,h⟩:=BY h;obtain⟨o,n,m,q,E,h⟩:=D4 h;obtain⟨Q,h⟩:=BN h;exact k K O L p s u r o n m q t l D (by rw[R,H,J,N,M,U,I,G,E,Q]) h
def v42(u:Ap)(f:AM->Pos->A9->A9->A9->A9->List A9->Int->AY->Bool):Bool:=E_ u λp r v=>BU p λt q=>DD t λm o=>BM q (Nv r λn s h a l=>BU h λj b=>Ck j λe i d g=>BM b (f m o n s e i d g a))
theorem Xc{r f}{P:Prop}(h:v42 r f=A2)(k:∀y q p s o d e a b K M,r=.Assign ((.Name y q):: []) (.DictComp p s (⟨o,d,e,a⟩:: []) b K) M->f y q p s o d e a b=A2->P):P:=by obtain⟨O,R,t,H,h⟩:=GT h;obtain⟨S,Q,v,h⟩:=BY h;obtain⟨A,G,x,h⟩:=DT h;obtain⟨E,h⟩:=BN h;obtain⟨B,J,I,g,i,C,h⟩:=X7 h;obtain⟨N,D,L,h⟩:=BY h;obtain⟨l,m,j,n,w,h⟩:=D4 h;obtain⟨u,h⟩:=BN h;exact k A G B J l m j n g i t (by rw[H,v,x,E,C,L,w,u]) h
def v48(h:Ap)(f:A9->A9->A9->Bool):Bool:=E_ h λi d j=>BU i λg a=>GR g λe b l=>BM a (f e b d)
theorem Xd{e f}{P:Prop}(h:v48 e f=A2)(k:∀d a r b s,e=.Assign ((.Subscript d a r):: []) b s->f d a b=A2->P):P:=by obtain⟨t,q,g,p,h⟩:=GT h;obtain⟨v,u,i,h⟩:=BY h;obtain⟨l,o,m,j,h⟩:=JX h;obtain⟨n,h⟩:=BN h;exact k l o m q g (by rw[p,i,j,n]) h
def v49(d:Ap)(f:AM->Operator->A9->Bool):Bool:=Nz d λg b e i=>DD g λa h=>f a b e
theorem Xe{b f}{P:Prop}(h:v49 b f=A2)(k:∀x m d a p,b=.AugAssign (.Name x m) d a p->f x d a=A2->P):P:=by obtain⟨q,j,g,o,i,h⟩:=XA h;obtain⟨e,n,l,h⟩:=DT h;exact k e n j g o (by rw[i,l]) h
def v50(b:Ap)(f:A9->List Ap->List Ap->Bool):Bool:=N_ b λe a d g=>f e a d
theorem Xf{b f}{P:Prop}(h:v50 b f=A2)(k:∀x d a j,b=.If x d a j->f x d a=A2->P):P:=by obtain⟨m,i,e,l,g,h⟩:=XB h;exact k m i e l (by rw[g]) h
def v51(b:Ap)(f:A9->List Ap->Bool):Bool:=O0 b λe a d g=>BM d (f e a)
theorem Xg{a f}{P:Prop}(h:v51 a f=A2)(k:∀x b i,a=.While x b [] i->f x b=A2->P):P:=by obtain⟨l,e,m,j,d,h⟩:=XC h;obtain⟨g,h⟩:=BN h;exact k l e j (by rw[d,g]) h
def v52(d:Ap)(f:A9->A9->List Ap->Bool):Bool:=OA d λg a e b h=>BM b (f g a e)
theorem Xh{d f}{P:Prop}(h:v52 d f=A2)(k:∀b a e n,d=.For b a e [] n->f b a e=A2->P):P:=by obtain⟨o,l,i,p,g,j,h⟩:=XD h;obtain⟨m,h⟩:=BN h;exact k o l i g (by rw[j,m]) h
def v56(a:List Ap)(f:Bool):Bool:=BM a (f)
theorem Xi{a f}{P:Prop}(h:v56 a f=A2)(k:a=[]->f=A2->P):P:=by obtain⟨b,h⟩:=BN h;exact k (by rw[b]) h
def v57(d:List Ap)(f:Ap->List Ap->Bool):Bool:=BU d λb a=>f b a
theorem Xj{b f}{P:Prop}(h:v57 b f=A2)(k:∀x a,b=(x::a)->f x a=A2->P):P:=by obtain⟨g,e,d,h⟩:=BY h;exact k g e (by rw[d]) h
mutual
def mE(N B:List AM)(sc:AY):Ce->A9->Bool
 | .var i,e=>v1 e λx=>Ew N i x&&vis sc x
 | .int n,e=>v2 e λm=>decide (n=m)
 | .bl b,e=>v3 e λc=>decide (b=c)
 | .non,e=>v4 e (A2)
 | .str x,e=>v5 e λy=>decide (x=y)
 | .ty n,e=>v1 e λx=>decide (x=AM.ofString n)&&glb sc x&&Na.contains n&&decide (x∈B)
 | .bin op a b,e=>v6 e λea op' eb=>decide (op=op')&&mE N B sc a ea&&mE N B sc b eb
 | .neg a,e=>v7 e λea=>mE N B sc a ea
 | .not a,e=>v8 e λea=>mE N B sc a ea
 | .and a b,e=>JS e λx y=>mE N B sc a x&&mE N B sc b y
 | .or a b,e=>vOr e λx y=>mE N B sc a x&&mE N B sc b y
 | .orv a b,e=>vOr e λx y=>mE N B sc a x&&mE N B sc b y
 | .cmp op a b,e=>v9 e λea op' eb=>decide (op=op')&&mE N B sc a ea&&mE N B sc b eb&&Ba eb
 | .ife q a b,e=>v11 e λeq ea eb=>mQ N B sc q eq&&mE N B sc a ea&&mE N B sc b eb
 | .tup es,e=>v12 e λxs=>mA N B sc es xs
 | .lst es,e=>v13 e λxs=>mA N B sc es xs
 | .idx a b,e=>v14 e λea eb=>mE N B sc a ea&&mE N B sc b eb&&Ex eb
 | .cut a lo hi,e=>v15 e λea l h=>mE N B sc a ea&&mO N B sc lo l&&mO N B sc hi h
 | .call f es,e=>v16 e λx e r=>decide (x=f)&&glb sc x&&mA N B sc es (e::r)&&!(x==("__debug__":AM))&&!(hat B)&&!(tld B&&decide (EG x∈B))
 | .blt f es,e=>v16 e λx e r=>decide (x=Ev f)&&glb sc x&&mA N B sc es (e::r)&&decide (x∈B)&&(!(hat B)||decide (f=.isinstance))
 | .met m o es,e=>v17 e λeo nm apos args pos=>decide (nm=NW m)&&mE N B sc o eo&&JR eo&&(apos.endLine==pos.line)&&mA N B sc es args&&decide (args.length<28)
 | .dnew,e=>v18 e (A2)
 | .dnt,e=>v18 e (A2)
 | .dnn,e=>v18 e (A2)
 | .din neg a b,e=>v9 e λea op' eb=>decide (op'=if neg then .NotIn else .In)&&mE N B sc a ea&&mE N B sc b eb&&Ba eb
 | .dgt a b,e=>v20 e λeo nm apos y pos=>decide (nm="get")&&mE N B sc a eo&&JR eo&&(apos.endLine==pos.line)&&mE N B sc b y&&B_ y
 | .cal f a,e=>v23 e λx y=>decide (x=Wt f)&&glb sc x&&decide (x∈B)&&mE N B sc a y&&B_ y&&!(hat B)
 | .ssa elt own t it q,e=>v70 e λn1 ee tg iter ifs a scope=>decide (n1="sorted")&&glb sc n1&&decide (n1∈B)&&!(hat B)&&CM N sc scope own&&mE N ("~"::B) scope elt ee&&Bl own t&&decide (a=0)&&mI N B sc it iter&&Bt it tg&&Ba iter&&mT N ("~"::B) scope t tg&&mQo N ("~"::B) scope q ifs
 | .comp elt own t it q .nil,e=>v26 e λee tg iter ifs a scope=>!(hat B)&&CM N sc scope own&&mE N ("~"::B) scope elt ee&&Bl own t&&decide (a=0)&&mI N B sc it iter&&Bt it tg&&Ba iter&&mT N ("~"::B) scope t tg&&mQo N ("~"::B) scope q ifs
 | .comp elt own t it q (.cons ws t2 it2 q2 .nil),e=>v27 e λee tg iter ifs a tg2 iter2 ifs2 a2 scope=>!(hat B)&&CM N sc scope own&&mE N ("~"::B) scope elt ee&&Bl own t&&decide (a=0)&&mI N B sc it iter&&Bt it tg&&Ba iter&&mT N ("~"::B) scope t tg&&mQo N ("~"::B) scope q ifs&&
    decide (a2=0)&&mI N ("~"::B) scope it2 iter2&&Bt it2 tg2&&Ba iter2&&mT N ("~"::B) scope t2 tg2&&mQo N ("~"::B) scope q2 ifs2&&Bl ws t2&&ws.all (λj=>decide (j∈own))
 | .comp elt own t it q (.cons ws t2 it2 q2 (.cons ws3 t3 it3 q3 .nil)),e=>v28 e λee tg iter ifs a tg2 iter2 ifs2 a2 tg3 iter3 ifs3 a3 scope=>!(hat B)&&CM N sc scope own&&mE N ("~"::B) scope elt ee&&Bl own t&&decide (a=0)&&mI N B sc it iter&&Bt it tg&&Ba iter&&mT N ("~"::B) scope t tg&&mQo N ("~"::B) scope q ifs&&
    decide (a2=0)&&mI N ("~"::B) scope it2 iter2&&Bt it2 tg2&&Ba iter2&&mT N ("~"::B) scope t2 tg2&&mQo N ("~"::B) scope q2 ifs2&&Bl ws t2&&ws.all (λj=>decide (j∈own))&&
    decide (a3=0)&&mI N ("~"::B) scope it3 iter3&&Bt it3 tg3&&Ba iter3&&mT N ("~"::B) scope t3 tg3&&mQo N ("~"::B) scope q3 ifs3&&Bl ws3 t3&&ws3.all (λj=>decide (j∈ws))
 | .comp _ _ _ _ _ (.cons _ _ _ _ (.cons _ _ _ _ (.cons _ _ _ _ _))),_=>A6
def mA(N B:List AM)(sc:AY):Ces->List A9->Bool
 | .nil,es=>v29 es (A2)
 | .cons e r,es=>v30 es λx xs=>mE N B sc e x&&B_ x&&mA N B sc r xs
def mQ(N B:List AM)(sc:AY):Cq->A9->Bool
 | .val e,x=>mE N B sc e x&&NZ x
 | .not q,x=>v8 x λy=>mQ N B sc q y
 | .and a b,e=>JS e λx y=>mQ N B sc a x&&mQ N B sc b y
 | .or a b,e=>vOr e λx y=>mQ N B sc a x&&mQ N B sc b y
 | .cmp op a b,e=>v9 e λea op' eb=>decide (op=op')&&mE N B sc a ea&&mE N B sc b eb&&Ba eb
 | .din neg a b,e=>v9 e λea op' eb=>decide (op'=if neg then .NotIn else .In)&&mE N B sc a ea&&mE N B sc b eb&&Ba eb
 | .cmw k a b,e=>v9 e λea op' eb=>decide (op'=NX k)&&mE N B sc a ea&&mE N B sc b eb&&Ba eb
def mQo(N B:List AM)(sc:AY):Cqo->List A9->Bool
 | .none,es=>v29 es (A2)
 | .some q,es=>v31 es λe=>mQ N B sc q e
def mO(N B:List AM)(sc:AY):Co->Option A9->Bool
 | .none,x=>v32 x (A2)
 | .some e,x=>v33 x λy=>mE N B sc e y
def mI(N B:List AM)(sc:AY):Ci->A9->Bool
 | .val e,x=>mE N B sc e x
 | .range1 a,x=>v23 x λn y=>decide (n="range")&&glb sc n&&decide (n∈B)&&mE N B sc a y&&B_ y
 | .range2 a b,x=>v34 x λn y z=>decide (n="range")&&glb sc n&&decide (n∈B)&&mE N B sc a y&&B_ y&&mE N B sc b z&&B_ z
 | .zip a b,x=>v34 x λn y z=>decide (n="zip")&&glb sc n&&decide (n∈B)&&mE N B sc a y&&B_ y&&mE N B sc b z&&B_ z
 | .enum a,x=>v23 x λn y=>decide (n="enumerate")&&glb sc n&&decide (n∈B)&&mE N B sc a y&&B_ y
 | .dk e,x=>mE N B sc e x
def mT(N B:List AM)(sc:AY):Ct->A9->Bool
 | .name i,e=>v1 e λx=>Ew N i x&&locb sc x
 | .tup ts,e=>v12 e λes=>mTs N B sc ts es&&!(hat B)
 | .sub o i,e=>v14 e λeo ei=>mE N B sc o eo&&mE N B sc i ei&&Ex ei
def mTs(N B:List AM)(sc:AY):Cts->List A9->Bool
 | .nil,es=>v29 es (A2)
 | .cons t r,es=>v30 es λx xs=>mT N B sc t x&&B_ x&&mTs N B sc r xs
end
def Dm:Ce->Bool
 |_=>A6
mutual
def mS(N B:List AM)(sc:AY):Cs->Ap->Bool
 | .expr e,s=>v36 s λx=>mE N B sc e x&&(match e with| .comp ..=>A6|_=>A2)&&!Dm e
 | .ret e,s=>v37 s λx=>mE N B sc e x
 | .asg t e,s=>v39 s λtg x=>mE N B sc e x&&!Dm e&&mT N B sc t tg&&B_ tg&&(match tg,x with
   | .Tuple ..,.Tuple vs _ _=>vs.all (foldedForSure 8)
   | .Tuple ..,.ListComp ..=>A6
   |_,_=>A2)
 | .setc2 i elt own t it q ws t2 it2 q2,s=>v41 s λy py ee tg iter ifs a tg2 iter2 ifs2 a2 scope=>!(hat B)&&mT N B sc (.name i) (.Name y py)&&CM N sc scope own&&mE N ("~"::B) scope elt ee&&Bl own t&&decide (a=0)&&mI N B sc it iter&&Bt it tg&&Ba iter&&mT N ("~"::B) scope t tg&&mQo N ("~"::B) scope q ifs&&
    decide (a2=0)&&mI N ("~"::B) scope it2 iter2&&Bt it2 tg2&&Ba iter2&&mT N ("~"::B) scope t2 tg2&&mQo N ("~"::B) scope q2 ifs2&&Bl ws t2&&ws.all (λj=>decide (j∈own))
 | .dctc _ i k v own t it q,s=>v42 s λy py ke ve tg iter ifs a scope=>!(hat B)&&mT N B sc (.name i) (.Name y py)&&CM N sc scope own&&mE N ("~"::B) scope k ke&&mE N ("~"::B) scope v ve&&Bl own t&&decide (a=0)&&mI N B sc it iter&&Bt it tg&&Ba iter&&mT N ("~"::B) scope t tg&&mQo N ("~"::B) scope q ifs
 | .dput o i e,s=>v48 s λeo ei ee=>mE N B sc o eo&&mE N B sc i ei&&Ex ei&&mE N B sc e ee&&(match ee with
   | .ListComp ..=>A6
   | .SetComp ..=>A6
   | .DictComp ..=>A6
   |_=>A2)
 | .aug i sub e,s=>v49 s λx op ee=>Ew N i x&&locb sc x&&mE N B sc e ee&&decide (op=if sub then .Sub else .Add)
 | .ite q a b,s=>v50 s λx ss rs=>mQ N B sc q x&&mSs N B sc a ss&&mSs N B sc b rs
 | .whl q b,s=>v51 s λx ss=>mQ N B sc q x&&mSs N B sc b ss
 | .for_ t it b,s=>v52 s λtg iter ss=>mI N B sc it iter&&Bt it tg&&Ba iter&&mT N B sc t tg&&mSs N B sc b ss&&!(hat B)
def mSs(N B:List AM)(sc:AY):Css->List Ap->Bool
 | .nil,ss=>v56 ss (A2)
 | .cons s r,ss=>v57 ss λx xs=>mS N B sc s x&&mSs N B sc r xs
end
def Je(CX:CXT)(X:Cx)(f:L2.St->XK):Prop:=∀(d:List (A4×AS))(b:L2.St)(H:Hp)(s:A3)(e:A1)(a:A3),Inv X d b H s->CX X.stack H s (f b) e a->X.xe e a
theorem OG{X:Cx}{a:L2.St->XK}:Je CX0 X a:=λ_ _ _ _ _ _ _ h=>h.elim
structure Rok(C:Rc)(B:List AM)(X:Cx)(sc:AY):Prop where
 hN:X.N=C.N
 nd:C.N.Nodup
 hK:X.K=C.K
 own:PassesOwn (AD X.prog X.w) X.A X.env X.xe
 calm:hat B=A6->X.calm=A2
 hu:X.A.units+64<Ao
 gd:X.A.guards=A0 []
 loc:∀x,sc.names.lookup x=A0 .local->X.env.scope.names.lookup x=A0 .local
 cel:∀x,sc.names.lookup x=A0 .cell->X.env.scope.names.lookup x=A0 .cell/\X.fn x=A2
 fre:∀x,sc.names.lookup x=A0 .free->X.env.scope.names.lookup x=A0 .cell\/X.env.scope.names.lookup x=A0 .free
 glo:∀x,sc.names.lookup x=A0 .globalImplicit->X.env.kindOf x=A0 .globalImplicit
 fn:∀x sp,C.fs x=A0 sp->hat B=A6->(tld B=A2->EG x∉B)->∃f fd ps k CX,FnOk X.prog X.w X.K X.mg X.base CX k f fd ps sp/\Room k X.A/\X.mg x=A0 (.ref f)/\W.keepIn X.K (.ref f)=A2/\Cu X.K fd ps []/\(CX=CX0\/CX=CX1 X.prog X.w X.mg/\EG x∈B)/\Je CX X C.xk
 blt:∀x∈B,X.mg x=A5
 mrk:X.mg "~"=A5/\X.mg "^"=A5/\X.mg "%"=A5
 cls:∀c Ca,C.cl c=A0 Ca->X.mg c=A0 (.ref Ca)/\W.nsIn X.K AN c=A0 (A0 (.ref Ca))
 fx:tld B=A6->FnCx X
 nohat:tld B=A6->hat B=A6
 xr:tld B=A6->pct B=A6->∀nm Ca p_ σ H s e t,C.cl nm=A0 Ca->Inv X p_ σ H s->H e=A5->X.s₀.heap.get? e=A5->(∀p∈X.pn++p_,p.1≠e)->s.heap.get? e=A0 {cls:=.ref Ca,data:=.fields #[.ref t,.none,.none,.none,.bool A6,.none]}->C.xk σ (.str nm 0) A5 H->X.xe (.ref e) s
theorem Rok.hu1{C:Rc}{B:List AM}{X:Cx}{sc:AY}(R:Rok C B X sc):X.A.units+1<Ao:=by have:=R.hu;omega
section
variable{C:Rc}{B:List AM}{X:Cx}{sc:AY}
set_option tactic.hygienic true in
theorem Rok.vis(R:Rok C B X sc){x:AM}(h:R3.vis sc x=A2):Vis X.env.scope x:=by
 unfold R3.vis at h;split at h;.rename_i e;exact .inl (R.loc x e)
 .rename_i e;exact .inr (.inl (R.cel x e).1)
 .rename_i e;rcases R.fre x e with q|q;.exact .inr (.inl q)
  .exact .inr (.inr q)
 .cases h
set_option tactic.hygienic true in
theorem Rok.locb(R:Rok C B X sc){x:AM}(h:R3.locb sc x=A2):Loc X.env.scope x/\(X.fn x=A2\/X.env.scope.names.lookup x=A0 .local):=by
 unfold R3.locb at h;split at h;.rename_i e;exact⟨.inl (R.loc x e),.inr (R.loc x e)⟩
 .rename_i e;exact⟨.inr (R.cel x e).1,.inl (R.cel x e).2⟩
 .cases h
theorem Rok.glb(R:Rok C B X sc){x:AM}(h:R3.glb sc x=A2):Gl X x:=R.glo x (of_decide_eq_true h)
theorem EI{N:List AM}{i:Nat}{x:AM}(h:Ew N i x=A2):N[i]?=A0 x/\(x==("__debug__":AM))=A6/\(x==("__classdict__":AM))=A6:=by unfold Ew at h;simp only[ah,decide_eq_true_eq,bA]at h;exact⟨h.1.1,h.1.2,h.2⟩
theorem Bd{e:A9}{es:List A9}{env:Env}(h:B_ e=A2):AZ (e::es) env=(A6,Ac e env)::AZ es env:=by cases e<;>first|rfl|cases h
theorem GV{N B:List AM}{sc:AY}{env:Env}{pos:Pos}:∀{es:Ces}{a:List A9},mA N B sc es a=A2->(backTo pos (AZ a env)).any (·.1)=A6
 | .nil,a,h=>by refine FA h λb g=>?_;clear h;subst b;revert g;intro h;rfl
 | .cons e r,a,h=>by refine GU h λx a b g=>?_;clear h;subst b;revert g;intro h;simp only[ah]at h;rw[Bd h.1.2];have d:=GV (env:=env) (pos:=pos) (es:=r) h.2;exact d
theorem CZ{e:A9}{env:Env}(h:Ba e=A2)(x:A1):foldedSetIterable e env x=pure x:=by cases e<;>first|rfl|cases h
theorem Dn{op:CmpOp}{e:A9}(h:Ba e=A2):behindInMarks op e=A6:=by cases e<;>first|rfl|cases h
theorem Xk{e:A9}(h:Ex e=A2):LL e:=by intro o i;cases e<;>first|rfl|cases h
theorem Jf{e:A9}{f:AM}{env:Env}{w:Sem A1}(h:JR e=A2):attributeBase e f env w=w:=by
 cases e with
 |Call g b d pos=>
  cases b with
  |nil=>cases h
  |cons a r=>cases g<;>rfl
 |_=>rfl
theorem Xl{e:A9}{env:Env}(h:NZ e=A2)(w:Sem A1):isTrue e env w=(do let v<-w;standAt e.pos;holding [v] (truthy v)):=by
 cases e with
 |UnaryOp b a p=>cases b<;>first|rfl|cases h
 |_=>first|rfl|cases h
theorem OpR.imp{f:A1->A1->Sem A1}{r a:R2}(h:OpR X f r)(i:∀x y H Q,a x y H Q->r x y H Q):OpR X f a:=λe s d H x y v u Q I g b q=>h e s d H x y v u Q I g b (i _ _ _ _ q)
theorem B7.imp{f:A1}{r b:List V->Hp->VK->Prop}(h:B7 X f r)(i:∀a H Q,b a H Q->r a H Q):B7 X f b:=λg s e H a d Q I j q=>h g s e H a d Q I j (i _ _ _ q)
theorem ixM:IxR X (DC X.K):=by
 intro a b i s d H x y v u Q I e h q g;refine Sk a b i s d H x y v u Q I e h ?_ g;unfold DC at q;split at q;.obtain⟨z,c,f,q⟩:=q;exact .inr (.inr ⟨_,_,c,rfl,rfl,z,f,q⟩)
 .rcases q with q|q;.exact .inl q
  .exact .inr (.inl q)
theorem Xm{CX:CXT}{k:Nat}{f:A4}{j:Aq}{ps:List AM}{sp:Sp}{a:List V}{g:List A1}{E:XK}{l:List (A4×AS)}{σ:L2.St}{H:Hp}{s:A3}{Q:VK}{b:List A1}{vs:List V}(F:FnOk X.prog X.w X.K X.mg X.base CX k f j ps sp)(q:Room k X.A)(n:Cu X.K j ps g)(m:Av a g)
  (o:∀e i,CX X.stack H s E e i->X.xe e i)(I:Inv X l σ H s)(r:Av vs b)(h:sp (vs++a) H Q E):A8 (AD X.prog X.w) X.A (call (.ref f) b) (EP X l σ Q) X.xe s:=by
 have r2:=r.append m;have p:(b++g).length=ps.length:=r2.length▸F.len _ _ _ _ h;have go:=F.run X.A X.stack s H ⟨b,[]⟩ (b++g) (vs++a) Q E q I.env0 (n s b I.kIn p) r2 h;refine wpAny_call (Ag go λr i d=>?_);match r,d with
 | .error e,d=>exact o e i d
 | .ok (.ret u),d=>exact I.after d
theorem Xn{CX:CXT}{k:Nat}{f:A4}{m:Aq}{ps:List AM}{sp:Sp}{b:List V}{l:List A1}{j:L2.St->XK}{x:AM}{p pos:Pos}{e:A9}{es:List A9}{t:TA}(F:FnOk X.prog X.w X.K X.mg X.base CX k f m ps sp)(L:Room k X.A)(o:Gl X x)(y:X.mg x=A0 (.ref f))(D:W.keepIn X.K (.ref f)=A2)(v:Cu X.K m ps l)(u:Av b l)(E:Je CX X j)
  (J:PA X (e::es) t)(g:(x==("__debug__":AM))=A6)(G:AZ (e::es) X.env=(A6,Ac e X.env)::AZ es X.env)(d:(backTo pos (AZ es X.env)).any (·.1)=A6):
  PE X (.Call (.Name x p) (e::es) [] pos) (λa H Q=>Fj sp b (j a) t a H Q):=by intro n s a H Q I h;refine wpAny_Call_Name_kw (RA I o y ?_ g);exact W.callWith_K (h₀:=X.base) I.ok.mod.kin D (thn (J pos n s a H _ I h) λP N⟨R,O,i,r,q⟩=>⟨i.kIn,Xm F L v u (λe M c=>E n a O N e M i c) i r q⟩) G d
theorem Xo{a:Int}(h:a.natAbs<2^250*2^250*2^250):(AB.Int.intBits a:Int)<=750:=by
 rw[<-Nat.pow_add,<-Nat.pow_add]at h;unfold AB.Int.intBits;by_cases b:a.natAbs=0;.rw[if_pos (by simpa using b)];decide
 .rw[if_neg (by simpa using b)];have:=(Nat.log2_lt b).mpr h;omega
theorem Xp{X:Cx}:OpR X (Ah .LShift) (rI NT λi j=>.int (i*2^j.toNat)):=opI λ_ _ _ _ _ _ _ a q=>lshift_int a.1 (by have:=Xo a.2.2;have:=a.2.1;omega) q
theorem Xq(op:Operator):OpR X (Ah op) (Bs X.K op):=by
 cases op with
 |Add=>
  refine OpR.imp ((Rn.or S8).or (T5.or (Sf.or Uk))) λx y H Q q=>?_;unfold Bs at q;dsimp only at q;split at q;.exact .inl (.inl ⟨_,_,rfl,rfl,q⟩)
  .exact .inl (.inr ⟨_,_,rfl,rfl,q.1,q.2⟩)
  .exact .inr q
 |Sub=>exact Ro
 |Mult=>
  refine OpR.imp (UG.or (U1.or T7)) λx y H Q q=>?_;unfold Bs at q;dsimp only at q;split at q
  .refine .inl ⟨_,_,rfl,rfl,?_,q.2⟩;rcases q.1 with h|h|h;.exact Fi.ok (.inl h)
   .exact Fi.ok (.inr h)
   .exact h
  .exact .inr (.inl ⟨_,_,rfl,rfl,q.1,q.2.1,q.2.2.1,q.2.2.2⟩)
  .exact .inr (.inr q)
 |Mod=>exact Rr
 |FloorDiv=>
  refine OpR.imp (Rp.or UJ) λx y H Q q=>?_;obtain⟨i,j,e,d,⟨b,a⟩,q⟩:=q;rcases a with a|a;.exact .inl ⟨i,j,e,d,⟨b,a⟩,q⟩
  .exact .inr ⟨i,j,e,d,⟨b,a⟩,q⟩
 |Pow=>exact Rt
 |LShift=>exact Xp
 |RShift=>exact Ru
 |MatMult=>exact λ_ _ _ _ _ _ _ _ _ _ _ _ h=>h.elim
 |Div=>exact λ_ _ _ _ _ _ _ _ _ _ _ _ h=>h.elim
 |BitOr=>exact λ_ _ _ _ _ _ _ _ _ _ _ _ h=>h.elim
 |BitXor=>exact λ_ _ _ _ _ _ _ _ _ _ _ _ h=>h.elim
 |BitAnd=>exact UX
theorem OH(a:X.A.units+64<Ao)(op:CmpOp):OpR X (AU op) (BG X.K op):=by
 cases op with
 |Eq=>
  refine OpR.imp (Rx.or ((UC ⋯).or (Uh a))) λx y H Q q=>?_;unfold BG at q;dsimp only at q;split at q;.exact .inr q
  .exact .inl q
 |NotEq=>
  refine OpR.imp (Ry.or ((UD ⋯).or (Ui a))) λx y H Q q=>?_;unfold BG at q;dsimp only at q;split at q;.exact .inr q
  .exact .inl q
 |Lt=>exact Rz
 |LtE=>exact R_
 |Gt=>
  refine OpR.imp (S0.or Uf) λx y H Q q=>?_;unfold BG at q;dsimp only at q;split at q;.exact .inr q
  .exact .inl q
 |GtE=>exact S1
 |Is=>
  refine OpR.imp (S2.or UH) λx y H Q q=>?_;unfold BG at q;dsimp only at q;split at q;.exact .inr q
  .exact .inl q
 |IsNot=>
  refine OpR.imp (S3.or UI) λx y H Q q=>?_;unfold BG at q;dsimp only at q;split at q;.exact .inr q
  .exact .inl q
 |In=>
  refine OpR.imp (UY.or Sw) λx y H Q q=>?_;unfold BG at q;dsimp only at q;split at q;.exact .inl q
  .exact .inr q
 |NotIn=>
  refine OpR.imp (UZ.or Sy) λx y H Q q=>?_;unfold BG at q;dsimp only at q;split at q;.exact .inl q
  .exact .inr q
theorem Xr(a:X.A.units+64<Ao)(k:Zf):OpR X (AU (NX k)) (rZf k):=by
 cases k with
 |neD0=>exact Ws a
theorem Xs:SlR X (rSl X.K):=by
 intro e s j H x v f d b h l Q I m i a g q;refine(Ss.or (Se.or (VU.or U4))) e s j H x v f d b h l Q I m i a g ?_;unfold rSl at q;split at q;.exact .inr (.inr (.inr ⟨_,rfl,q.1,q.2⟩))
 .rcases q with q|q|q;.exact .inl q
  .exact .inr (.inl q)
  .exact .inr (.inr (.inl q))
inductive BltIs:Bf->Prop where
 |fn(f:Bf)(id:String)(hv:bootBuiltins (Ev f)=A0 (.builtin id))(h:∀X:Cx,(X.calm=A2\/f=.isinstance)->B7 X (.builtin id) (BJ X.K f)):BltIs f
 |ty(f:Bf)(T:String)(hv:bootBuiltins (Ev f)=A0 (.type T))(h:∀X:Cx,(X.calm=A2\/f=.isinstance)->B7 X (.type T) (BJ X.K f)):BltIs f
theorem Xt(f:Bf):BltIs f:=by
 cases f with
 |len=>exact .fn _ "len" ⋯ λX _=>SE
 |abs=>exact .fn _ "abs" ⋯ λX _=>S9
 |int=>
  refine .ty _ "int" ⋯ λX _=>B7.imp Ur λd H Q q=>?_;unfold BJ at q;dsimp only at q;split at q;.exact .inl (.inl (.inl ⟨_,rfl,q⟩))
  .exact .inl (.inl (.inr ⟨_,rfl,q⟩))
  .obtain⟨n,b,e,q⟩:=q;exact .inl (.inr ⟨_,n,rfl,b,e,q⟩)
  .obtain⟨rfl,n,b,q⟩:=q;exact .inr ⟨_,n,rfl,b,q⟩
  .exact q.elim
 |set=>exact .ty _ "set" ⋯ λX a=>have c:X.calm=A2:=a.resolve_right (λz=>by cases z);V4 c
 |sortU=>exact .fn _ "sorted" ⋯ λX a=>have c:X.calm=A2:=a.resolve_right (λz=>by cases z);WU c
 |listD=>exact .ty _ "list" ⋯ λX a=>have c:X.calm=A2:=a.resolve_right (λz=>by cases z);WR c
 |lenD=>exact .fn _ "len" ⋯ λX _=>WO
 |isinstance=>exact .fn _ "isinstance" ⋯ λX _=>B7.imp U7 λ_ _ _ q=>q.resolve_right id
 |all=>exact .fn _ "all" ⋯ λX a=>have c:X.calm=A2:=a.resolve_right (λz=>by cases z);U9 c
 |max=>
  refine .fn _ "max" ⋯ λX a=>have c:X.calm=A2:=a.resolve_right (λz=>by cases z);B7.imp ((SA c).or (UA c)) λd H Q q=>?_;unfold BJ at q;dsimp only at q;split at q;.exact .inl ⟨_,_,rfl,q⟩
  .exact .inr q
 |min=>
  refine .fn _ "min" ⋯ λX a=>have c:X.calm=A2:=a.resolve_right (λz=>by cases z);B7.imp ((SC c).or (UB c)) λd H Q q=>?_;unfold BJ at q;dsimp only at q;split at q;.exact .inl ⟨_,_,rfl,q⟩
  .exact .inr q
 |list=>exact .ty _ "list" ⋯ λX a=>have c:X.calm=A2:=a.resolve_right (λz=>by cases z);Sz.or (UF c)
 |range=>exact .ty _ "range" ⋯ λX _=>UE
 |tuple=>exact .ty _ "tuple" ⋯ λX _=>S_
structure MetIs(m:Mf)(id:String):Prop where
 pa:PlainAttrs (DS m)
 slot:Slot (DS m) (NW m) id
 ty:typeOf (.builtin id)=pure (.type "method_descriptor")
 h:∀X:Cx,MtR X id (D3 X.K m)
theorem Xu(m:Mf):∃id,MetIs m id:=by
 cases m with
 |append=>exact⟨_,F.plainAttrs_list,F.slot_list_append,F.type_list_append,λ_=>T4⟩
 |join=>exact⟨_,F.plainAttrs_str,F.slot_str_join,F.type_str_join,λ_=>U2⟩
end
theorem DU{N:List AM}{sc a:AY}{own:List Nat}(h:CM N sc a own=A2):a.kind=.function/\(∀x∈a.names,x.2=.local->a.names.lookup x.1=A0 .local)/\(∀n,(n,AT.cell)∈a.names->a.names.lookup n=A0 .cell)/\
  (∀n,(n,AT.free)∈a.names->sc.names.lookup n=A0 .cell\/sc.names.lookup n=A0 .free)/\∀(i:Nat)(x:AM),N[i]?=A0 x->(a.names.lookup x=A0 .local\/a.names.lookup x=A0 .cell)->i∈own:=by
 unfold CM at h;simp only[ah,decide_eq_true_eq,cf,aR]at h;obtain⟨⟨l,d⟩,m⟩:=h;refine⟨l,λx f e=>?_,λn b=>?_,λn b=>?_,λi x e f=>?_⟩;.exact(d x f).1.1.resolve_left λq=>q e
 .exact(d _ b).1.2.resolve_left λq=>q rfl
 .rcases(d _ b).2 with(q|q)|q;.exact absurd rfl q
  .exact .inl q
  .exact .inr q
 .have:=m i (ba.mpr (aK.mp e).1);rw[e]at this;simp only[aR,ah,decide_eq_true_eq]at this;rcases this with⟨j,g⟩|q
  .rcases f with z|z;.exact absurd z j
   .exact absurd z g
  .exact q
theorem Rok.compSc{C:Rc}{B:List AM}{X:Cx}{sc a:AY}{own:List Nat}(R:Rok C B X sc)(h:CM C.N sc a own=A2):CompSc X a:=by
 obtain⟨d,f,b,e,i⟩:=DU h;refine⟨d,f,b,λn g=>?_⟩;rcases e n g with q|q;.exact .inl (R.cel n q).1
 .exact R.fre n q
theorem GW{B:List AM}:tld ("~"::B)=A2:=decide_eq_true (az)
theorem Rok.comp{C:Rc}{B:List AM}{X:Cx}{sc a:AY}{own:List Nat}(R:Rok C B X sc)(j:hat B=A6)(h:CM C.N sc a own=A2)(p:A3)(r:Hp)(w:List A4):Rok C ("~"::B) (X.comp a p r w) a:=by
 refine⟨R.hN,R.nd,R.hK,PassesOwn.never,λ_=>R.calm j,R.hu,R.gd,λx e=>lookup_relabel_local e,λx e=>⟨?_,?_⟩,λx e=>?_,λx e=>?_,λx o e _ y=>?_,λx g=>?_,R.mrk,R.cls,(λz=>by rw[GW]at z;cases z),(λz=>by rw[GW]at z;cases z),(λz=>by rw[GW]at z;cases z)⟩
 .obtain⟨l,b,d⟩:=IQ (env:=X.env) e;rcases d with rfl|⟨q,_⟩;.exact b
  .cases q
 .exact W.cellsFrom_some _ _ _ (.inl e)
 .obtain⟨l,b,d⟩:=IQ (env:=X.env) e;rcases d with rfl|⟨_,rfl⟩;.exact .inr b
  .exact .inl b
 .obtain⟨l,b,d⟩:=IQ (env:=X.env) e;rcases d with rfl|⟨q,_⟩;.exact b
  .cases q
 .have i:EG x∉B:=λz=>y GW (ay _ z);obtain⟨f,A,n,k,E,s,D,t,u,m,v,_⟩:=R.fn x o e j λ_=>i;rcases v with rfl|⟨_,z⟩;.exact⟨f,A,n,k,CX0,s,D,t,u,m,.inl rfl,OG⟩
  .exact absurd z i
 .rcases ao.mp g with rfl|g;.exact R.mrk.1
  .exact R.blt x g
mutual
theorem OI(C:Rc)(own:List Nat):∀(t:Ct),Bl own t=A2->∀(x:V)(σ:L2.St)(H:Hp)(Q Q':L2.St->Hp->Prop),tG C t x σ H Q->(∀σ2 H2,Q σ2 H2->Ext own σ σ2->Q' σ2 H2)->tG C t x σ H Q'
 | .name i,h,x,σ,H,Q,Q',q,m=>by obtain⟨q1,q2⟩:=Te (of_decide_eq_true (show decide (i∈own)=A2 from h)) x σ H Q q;exact m _ _ q1 q2
 | .tup ts,h,x,σ,H,Q,Q',q,m=>by replace h:Ey own ts=A2:=h;obtain⟨a,xs,e,hs,hl,q⟩:=q;exact⟨a,xs,e,hs,hl,OJ C own ts h xs σ H Q Q' q m⟩
 | .sub _ _,h,_,_,_,_,_,_,_=>Ay h
theorem OJ(C:Rc)(own:List Nat):∀(ts:Cts),Ey own ts=A2->∀(xs:List V)(σ:L2.St)(H:Hp)(Q Q':L2.St->Hp->Prop),tGs C ts xs σ H Q->(∀σ2 H2,Q σ2 H2->Ext own σ σ2->Q' σ2 H2)->tGs C ts xs σ H Q'
 | .nil,h,xs,σ,H,Q,Q',q,m=>by replace q:xs=[]/\Q σ H:=q;exact And.intro q.1 (m _ _ q.2 Ext.refl)
 | .cons t r,h,xs,σ,H,Q,Q',q,m=>by replace h:=C0 (show(Bl own t&&Ey own r)=A2 from h);replace q:∃v vr,xs=v::vr/\tG C t v σ H λσ' H'=>tGs C r vr σ' H' Q:=q;obtain⟨v,vr,e,q⟩:=q;show∃v vr,xs=v::vr/\tG C t v σ H λσ' H'=>tGs C r vr σ' H' Q';exact⟨v,vr,e,OI C own t h.1 v σ H _ _ q λσ2 H2 q2 x2=>OJ C own r h.2 vr σ2 H2 _ _ q2 λσ3 H3 q3 x3=>m _ _ q3 (x2.trans x3)⟩
end
theorem Cm{C:Rc}{own:List Nat}{t:Ct}(h:Bl own t=A2):E3 own (tG C t):=λx a H Q q=>OI C own t h x a H Q _ q λ_ _ q x=>⟨q,x⟩
theorem Jg:∀{f:Cts}{a:List A9}{N B:List AM}{b:AY}{env:Env},mTs N B b f a=A2->(Al a env).length=GP f/\(Al a env).findIdx? (·.1)=A5
 | .nil,a,N,B,b,env,h=>by refine FA h λd g=>?_;clear h;subst d;revert g;intro h;exact⟨rfl,rfl⟩
 | .cons t r,a,N,B,b,env,h=>by
  refine GU h λx i d g=>?_;clear h;subst d;revert g;intro h;simp only[ah]at h;obtain⟨l,j⟩:=Jg (env:=env) h.2;have e:Al (x::i) env=(A6,assign x env)::Al i env:=by have m:=h.1.2;cases x<;>first|rfl|cases m
  rw[e];refine⟨by rw[bD,l];rfl,?_⟩;rw[List.findIdx?_cons,j];rfl
theorem Xv{x:A9}{xs:List A9}{env:Env}(a:B_ x=A2):(Al (x::xs) env).map (·.2)=assign x env::(Al xs env).map (·.2):=by cases x<;>first|rfl|cases a
theorem Xw{o i:A9}{pos:Pos}{env:Env}(h:Ex i=A2)(v:A1):assign (.Subscript o i pos) env v=(do
   let a<-holding [v] (Ac o env)
   let b<-holding [v,a] (Ac i env)
   standAt pos
   holding [v,a,b] (setItem a b v)
   release [v,a,b] []):=by cases i<;>first|rfl|cases h
def GX(C:Rc)(X:Cx)(e:A9):Ce->Prop
 | .comp g own t m q r=>∃i d h j a pos,CompIn X e a i d h j (tG C t) (tQo C q) (tR C r (Cw (tE C g))) own/\PI X i d (tI C m)/\
   Ac e X.env=Ak e a X.env pos (newList []) A6 (Ac d X.env)/\(∀u,evalThenUse e X.env u=(do let _<-Ak e a X.env pos (newList []) A6 (Ac d X.env) (A0 u)))/\
   ∀y l f,∃b,swapsWith e (A0 (.Name y l)) f X.env=pure b
 |_=>True
theorem Xx(P w it D env i h d f g a e b pos):(AD P w).den (.compLoop (.ListComp i [⟨h,d,f,0⟩,⟨g,a,e,0⟩] b pos) 0 it (.ref D) env)=(CK (.ListComp i [⟨h,d,f,0⟩,⟨g,a,e,0⟩] b pos) 0 h d f (CF (.ListComp i [⟨h,d,f,0⟩,⟨g,a,e,0⟩] b pos) 0 a (.ref D) env) it (.ref D) env).onRaise (λx=>do noteFrame x env;theTreesLotGoes x):=by show(compTurn _ _ _ _ _).onRaise _=_;congr 1;unfold CK CF;simp only[bind_assoc,pure_bind];rfl
def OL(e b:A9)(D:A4)(env:Env):Sem Unit:=do
 let a<-Ac e env
 let f<-holding [a] (Ac b env)
 match A1.ref D with
 | .ref d=>do
  standAt {e.pos with endLine:=b.pos.endLine,endCol:=b.pos.endCol}
  holding [a,f] (dictSet d a f)
 |_=>unsupported "internal:dictcomp"
theorem Xy{N B:List AM}{sc:AY}{i:Ce}{own:List Nat}{t:Ct}{it:Ci}{q:Cqo}{e:A9}(h:mE N B sc (.comp i own t it q .nil) e=A2):∃n m d f b pos,e=.ListComp n [⟨m,d,f,0⟩] b pos/\
  hat B=A6/\CM N sc b own=A2/\mE N ("~"::B) b i n=A2/\Bl own t=A2/\mI N B sc it d=A2/\Bt it m=A2/\Ba d=A2/\mT N ("~"::B) b t m=A2/\mQo N ("~"::B) b q f=A2:=by refine XS h λn m d f a b y w g=>?_;clear h;subst w;revert g;intro h;simp only[ah,decide_eq_true_eq,bA]at h;obtain⟨⟨⟨⟨⟨⟨⟨⟨⟨v,o⟩,j⟩,l⟩,rfl⟩,r⟩,x⟩,s⟩,u⟩,p⟩:=h;exact⟨_,_,_,_,_,_,rfl,v,o,j,l,r,x,s,u,p⟩
theorem Xz{N B:List AM}{sc:AY}{o:Ce}{own:List Nat}{t:Ct}{it:Ci}{q:Cqo}{u:List Nat}{v:Ct}{m:Ci}{y:Cqo}{e:A9}(h:mE N B sc (.comp o own t it q (.cons u v m y .nil)) e=A2):
  ∃w s f n l d i b pos,e=.ListComp w [⟨s,f,n,0⟩,⟨l,d,i,0⟩] b pos/\
  hat B=A6/\CM N sc b own=A2/\mE N ("~"::B) b o w=A2/\Bl own t=A2/\mI N B sc it f=A2/\Bt it s=A2/\Ba f=A2/\mT N ("~"::B) b t s=A2/\mQo N ("~"::B) b q n=A2/\
  mI N ("~"::B) b m d=A2/\Bt m l=A2/\Ba d=A2/\mT N ("~"::B) b v l=A2/\mQo N ("~"::B) b y i=A2/\Bl u v=A2/\∀j∈u,j∈own:=by refine XT h λw s f n a l d i R b S P g=>?_;clear h;subst P;revert g;intro h;simp only[ah,decide_eq_true_eq,cf,bA]at h;obtain⟨⟨⟨⟨⟨⟨⟨⟨⟨⟨⟨⟨⟨⟨⟨⟨⟨O,x⟩,p⟩,r⟩,rfl⟩,H⟩,Q⟩,K⟩,L⟩,C⟩,rfl⟩,I⟩,E⟩,G⟩,M⟩,D⟩,A⟩,J⟩:=h;exact⟨_,_,_,_,_,_,_,_,_,rfl,O,x,p,r,H,Q,K,L,C,I,E,G,M,D,A,J⟩
theorem X_(P w it D env m l e h i a g j b f d pos):(AD P w).den (.compLoop (.ListComp m [⟨l,e,h,0⟩,⟨i,a,g,0⟩,⟨j,b,f,0⟩] d pos) 0 it (.ref D) env)=(CK (.ListComp m [⟨l,e,h,0⟩,⟨i,a,g,0⟩,⟨j,b,f,0⟩] d pos) 0 l e h (CF (.ListComp m [⟨l,e,h,0⟩,⟨i,a,g,0⟩,⟨j,b,f,0⟩] d pos) 0 a (.ref D) env) it (.ref D) env).onRaise (λx=>do noteFrame x env;theTreesLotGoes x):=by show(compTurn _ _ _ _ _).onRaise _=_;congr 1;unfold CK CF;simp only[bind_assoc,pure_bind];rfl
theorem Y0(P w it D env l m g i h a e j b f d pos):(AD P w).den (.compLoop (.ListComp l [⟨m,g,i,0⟩,⟨h,a,e,0⟩,⟨j,b,f,0⟩] d pos) 1 it (.ref D) env)=(CK (.ListComp l [⟨m,g,i,0⟩,⟨h,a,e,0⟩,⟨j,b,f,0⟩] d pos) 1 h a e (CF (.ListComp l [⟨m,g,i,0⟩,⟨h,a,e,0⟩,⟨j,b,f,0⟩] d pos) 1 b (.ref D) env) it (.ref D) env).onRaise (λx=>do noteFrame x env;theTreesLotGoes x):=by show(compTurn _ _ _ _ _).onRaise _=_;congr 1;unfold CK CF;simp only[bind_assoc,pure_bind];rfl
theorem Y1{N B:List AM}{sc:AY}{v:Ce}{own:List Nat}{t:Ct}{it:Ci}{q:Cqo}{y:List Nat}{C:Ct}{s:Ci}{H:Cqo}{r:List Nat}{E:Ct}{u:Ci}{I:Cqo}{e:A9}(h:mE N B sc (.comp v own t it q (.cons y C s H (.cons r E u I .nil))) e=A2):
  ∃D A i p n d l o f m b pos,e=.ListComp D [⟨A,i,p,0⟩,⟨n,d,l,0⟩,⟨o,f,m,0⟩] b pos/\
  hat B=A6/\CM N sc b own=A2/\mE N ("~"::B) b v D=A2/\Bl own t=A2/\mI N B sc it i=A2/\Bt it A=A2/\Ba i=A2/\mT N ("~"::B) b t A=A2/\mQo N ("~"::B) b q p=A2/\
  (mI N ("~"::B) b s d=A2/\Bt s n=A2/\Ba d=A2/\mT N ("~"::B) b C n=A2/\mQo N ("~"::B) b H l=A2/\Bl y C=A2/\∀j∈y,j∈own)/\
  mI N ("~"::B) b u f=A2/\Bt u o=A2/\Ba f=A2/\mT N ("~"::B) b E o=A2/\mQo N ("~"::B) b I m=A2/\Bl r E=A2/\∀j∈r,j∈y:=by refine XU h λD A i p a n d l a2 o f m a3 b w1 e0 g=>?_;clear h;subst e0;revert g;intro h;simp only[ah,decide_eq_true_eq,cf,bA]at h;obtain⟨⟨⟨⟨⟨⟨⟨⟨⟨⟨⟨⟨⟨⟨⟨⟨⟨⟨⟨⟨⟨⟨⟨⟨⟨hh,G⟩,w⟩,x⟩,rfl⟩,S⟩,h2⟩,X⟩,Y⟩,L⟩,rfl⟩,T⟩,Q⟩,R⟩,g4⟩,O⟩,J⟩,U⟩,rfl⟩,K⟩,k2⟩,M⟩,k4⟩,Z⟩,P⟩,k7⟩:=h;exact⟨_,_,_,_,_,_,_,_,_,_,_,_,rfl,hh,G,w,x,S,h2,X,Y,L,⟨T,Q,R,g4,O,J,U⟩,K,k2,M,k4,Z,P,k7⟩
theorem Y2{N B:List AM}{sc:AY}{d:Ce}{own:List Nat}{t:Ct}{it:Ci}{q:Cqo}{j:List Nat}{l:Ct}{f:Ci}{r:Cqo}{a:List Nat}{o:Ct}{i:Ci}{s:Cqo}{g:List Nat}{n:Ct}{b:Ci}{m:Cqo}{p:Cc}{e:A9}(h:mE N B sc (.comp d own t it q (.cons j l f r (.cons a o i s (.cons g n b m p)))) e=A2):False:=by exact Ay h
set_option maxHeartbeats 4000000
theorem Y3(P w it D env i h d f g a e b pos):(AD P w).den (.compLoop (.SetComp i [⟨h,d,f,0⟩,⟨g,a,e,0⟩] b pos) 0 it (.ref D) env)=(CK (.SetComp i [⟨h,d,f,0⟩,⟨g,a,e,0⟩] b pos) 0 h d f (CF (.SetComp i [⟨h,d,f,0⟩,⟨g,a,e,0⟩] b pos) 0 a (.ref D) env) it (.ref D) env).onRaise (λx=>do noteFrame x env;theTreesLotGoes x):=by show(compTurn _ _ _ _ _).onRaise _=_;congr 1;unfold CK CF;simp only[bind_assoc,pure_bind];rfl
mutual
theorem sE0{C:Rc}:∀(c:Ce){B:List AM}{X:Cx}{sc:AY}{e:A9},Rok C B X sc->mE C.N B sc c e=A2->PE X e (tE C c)/\GX C X e c
 | .var i,B,X,sc,e,R,h=>by refine⟨?_,trivial⟩;refine Jb h λx w1 e0 g=>?_;clear h;subst e0;revert g;intro h;simp only[ah]at h;obtain⟨h1,h2,h3⟩:=EI h.1;rw[show tE C (.var i)=(He i)from rfl];exact R5 (by rw[R.hN];exact h1) (R.vis h.2) h2 h3
 | .int n,B,X,sc,e,R,h=>by refine⟨?_,trivial⟩;refine XE h λm w1 w2 e0 g=>?_;clear h;subst e0;revert g;intro h;cases of_decide_eq_true h;rw[show tE C (.int n)=(tC (.int n))from rfl];exact R6
 | .bl n,B,X,sc,e,R,h=>by refine⟨?_,trivial⟩;refine XF h λc w1 w2 e0 g=>?_;clear h;subst e0;revert g;intro h;cases of_decide_eq_true h;rw[show tE C (.bl n)=(tC (.bl n))from rfl];exact R7
 | .non,B,X,sc,e,R,h=>by refine⟨?_,trivial⟩;refine XG h λw1 w2 e0 g=>?_;clear h;subst e0;revert g;intro h;rw[show tE C .non=(tC .non)from rfl];exact R8
 | .str n,B,X,sc,e,R,h=>by refine⟨?_,trivial⟩;refine XH h λy w1 w2 e0 g=>?_;clear h;subst e0;revert g;intro h;cases of_decide_eq_true h;rw[show tE C (.str n)=(tC (.str n))from rfl];exact R9
 | .ty n,B,X,sc,e,R,h=>by
  refine⟨?_,trivial⟩;refine Jb h λx w1 e0 g=>?_;clear h;subst e0;revert g;intro h;simp only[ah,decide_eq_true_eq]at h;obtain⟨⟨⟨rfl,h2⟩,h3⟩,h4⟩:=h;rw[show tE C (.ty n)=(tC (.ty n))from rfl];have hb:bootBuiltins (AM.ofString n)=A0 (.type n)/\AM.ofString n≠"__name__"/\(AM.ofString n==("__debug__":AM))=A6:=by simp only[Na,di,ao,av,or_false]at h3;rcases h3 with rfl|rfl|rfl|rfl|rfl|rfl|rfl<;>decide+kernel
  exact RB (v:=.ty n) (R.glb h2) (R.blt _ h4) hb.1 rfl hb.2.1 hb.2.2
 | .bin op a b,B,X,sc,e,R,h=>by refine⟨?_,trivial⟩;refine XI h λea op' eb w1 e0 g=>?_;clear h;subst e0;revert g;intro h;simp only[ah,decide_eq_true_eq]at h;obtain⟨⟨rfl,h1⟩,h2⟩:=h;rw[show tE C (.bin op a b)=(tOp (Bs C.K op) (tE C a) (tE C b))from rfl];rw[<-R.hK];exact Ri (Xq _) ((sE0 a R h1).1) ((sE0 b R h2).1)
 | .neg a,B,X,sc,e,R,h=>by refine⟨?_,trivial⟩;refine XJ h λea w1 e0 g=>?_;clear h;subst e0;revert g;intro h;rw[show tE C (.neg a)=(tUn (rU λi=>.int (-i)) (tE C a))from rfl];exact Rj Rw ((sE0 a R h).1)
 | .not a,B,X,sc,e,R,h=>by refine⟨?_,trivial⟩;refine OB h λea w1 e0 g=>?_;clear h;subst e0;revert g;intro h;rw[show tE C (.not a)=(Hg (tE C a))from rfl];exact RF ((sE0 a R h).1)
 | .and a b,B,X,sc,e,R,h=>by
  refine⟨?_,trivial⟩;replace h:=Nb h;rcases h with⟨x,y,pos,rfl,h⟩|⟨x,y,z,r,pos,rfl,h⟩;.simp only[ah]at h;rw[show tE C (.and a b)=(Fe (tE C a) (tE C b))from rfl];exact Kz ((sE0 a R h.1).1) (Hh ((sE0 b R h.2).1))
  .simp only[ah]at h;rw[show tE C (.and a b)=(Fe (tE C a) (tE C b))from rfl];exact Kz ((sE0 a R h.1).1) ((sE0 b R h.2).1)
 | .or a b,B,X,sc,e,R,h=>by
  refine⟨?_,trivial⟩;replace h:=JT h;rcases h with⟨x,y,pos,rfl,h⟩|⟨x,y,z,r,pos,rfl,h⟩;.simp only[ah]at h;rw[show tE C (.or a b)=(Ff (tE C a) (tE C b))from rfl];exact K_ ((sE0 a R h.1).1) (Hh ((sE0 b R h.2).1))
  .simp only[ah]at h;rw[show tE C (.or a b)=(Ff (tE C a) (tE C b))from rfl];exact K_ ((sE0 a R h.1).1) ((sE0 b R h.2).1)
 | .orv a b,B,X,sc,e,R,h=>by
  refine⟨?_,trivial⟩;replace h:=JT h;rcases h with⟨x,y,pos,rfl,h⟩|⟨x,y,z,r,pos,rfl,h⟩;.simp only[ah]at h;rw[show tE C (.orv a b)=(GN (tE C a) (tE C b))from rfl];exact NR ((sE0 a R h.1).1) (Hh ((sE0 b R h.2).1))
  .simp only[ah]at h;rw[show tE C (.orv a b)=(GN (tE C a) (tE C b))from rfl];exact NR ((sE0 a R h.1).1) ((sE0 b R h.2).1)
 | .cmp op a b,B,X,sc,e,R,h=>by refine⟨?_,trivial⟩;refine F0 h λea op' eb w1 e0 g=>?_;clear h;subst e0;revert g;intro h;simp only[ah,decide_eq_true_eq]at h;obtain⟨⟨⟨rfl,h1⟩,h2⟩,h3⟩:=h;rw[show tE C (.cmp op a b)=(tOp (BG C.K op) (tE C a) (tE C b))from rfl];rw[<-R.hK];exact S4 (OH R.hu _) ((sE0 a R h1).1) ((sE0 b R h2).1) (Dn h3)
 | .ife q a b,B,X,sc,e,R,h=>by refine⟨?_,trivial⟩;refine XM h λeq ea eb w1 e0 g=>?_;clear h;subst e0;revert g;intro h;simp only[ah]at h;rw[show tE C (.ife q a b)=(tIf (tQ C q) (tE C a) (tE C b))from rfl];exact RG (sQ q R h.1.1).1 ((sE0 a R h.1.2).1) ((sE0 b R h.2).1)
 | .tup es,B,X,sc,e,R,h=>by refine⟨?_,trivial⟩;refine OC h λxs w1 w2 e0 g=>?_;clear h;subst e0;revert g;intro h;rw[show tE C (.tup es)=(IA (tA C es))from rfl];exact SK (sA es R h)
 | .lst es,B,X,sc,e,R,h=>by refine⟨?_,trivial⟩;refine XN h λxs w1 e0 g=>?_;clear h;subst e0;revert g;intro h;rw[show tE C (.lst es)=(IB (tA C es))from rfl];exact SL (sA es R h)
 | .idx a b,B,X,sc,e,R,h=>by refine⟨?_,trivial⟩;refine OD h λea eb w1 e0 g=>?_;clear h;subst e0;revert g;intro h;simp only[ah]at h;rw[show tE C (.idx a b)=(tOp (DC C.K) (tE C a) (tE C b))from rfl];rw[<-R.hK];exact Sg ixM ((sE0 a R h.1.1).1) ((sE0 b R h.1.2).1) (Xk h.2)
 | .cut a lo hi,B,X,sc,e,R,h=>by refine⟨?_,trivial⟩;refine XO h λea l h_ w1 w2 e0 g=>?_;clear h;subst e0;revert g;intro h;simp only[ah]at h;rw[show tE C (.cut a lo hi)=(tSl (rSl C.K) (tE C a) (tO C lo) (tO C hi))from rfl];rw[<-R.hK];exact Sb Xs ((sE0 a R h.1.1).1) (sO lo R h.1.2) (sO hi R h.2)
 | .call f es,B,X,sc,e,R,h=>by
  refine⟨?_,trivial⟩;refine OE h λx w1 e r pos e0 g=>?_;clear h;subst e0;revert g;intro h;simp only[ah,decide_eq_true_eq,bA]at h;obtain⟨⟨⟨⟨⟨rfl,h1⟩,h2⟩,h3⟩,hh⟩,h6⟩:=h;rw[show tE C (.call x es)=(λσ H Q=>match C.fs x with|A0 sp=>Fj sp [] (C.xk σ) (tA C es) σ H Q|A5=>False)from rfl];have ht:tld B=A2->EG x∉B:=λt m=>by rw[t,decide_eq_true m]at h6;cases h6
  cases hf:C.fs x with
  |none=>exact λ_ _ _ _ _ _ q=>q.elim
  |some sp=>
   obtain⟨f,fd,ps,k,CX,F,hr,hm,hk,hb,_,hx⟩:=R.fn x sp hf hh ht;have hs:B_ e=A2:=by
    cases es with
    |nil=>exact Ay h2
    |cons c r=>exact(C0 (C0 h2).1).2
   have hp:(backTo pos (AZ r X.env)).any (·.1)=A6:=by have q:=GV (env:=X.env) (pos:=pos) h2;rw[Bd hs]at q;exact q
   exact Xn F hr (R.glb h1) hm hk hb .nil hx (sA es R h2) h3 (Bd hs) hp
 | .blt f es,B,X,sc,e,R,h=>by
  refine⟨?_,trivial⟩;refine OE h λx w1 e r pos e0 g=>?_;clear h;subst e0;revert g;intro h;simp only[ah,decide_eq_true_eq,aR,bA]at h;obtain⟨⟨⟨⟨rfl,h1⟩,h2⟩,h4⟩,h5⟩:=h;have hcc:X.calm=A2\/f=.isinstance:=h5.imp R.calm id;rw[show tE C (.blt f es)=(tCB (BJ C.K f) (tA C es))from rfl];have hs:B_ e=A2:=by
   cases es with
   |nil=>exact Ay h2
   |cons c r=>exact(C0 (C0 h2).1).2
  have hp:(backTo pos (AZ r X.env)).any (·.1)=A6:=by have q:=GV (env:=X.env) (pos:=pos) h2;rw[Bd hs]at q;exact q
  rw[<-R.hK];have hn:Ev f≠"__name__"/\(Ev f==("__debug__":AM))=A6:=by cases f<;>decide+kernel
  cases Xt f with
  |fn id hv hc=>exact SQ (hc X hcc) (R.glb h1) (R.blt _ h4) hv (sA es R h2) hn.1 hn.2 (Bd hs) hp
  |ty T hv hc=>exact ID (hc X hcc) (R.glb h1) (R.blt _ h4) hv (sA es R h2) hn.1 hn.2 (Bd hs) hp
 | .dnew,B,X,sc,e,R,h=>by refine⟨?_,trivial⟩;refine Jc h λw1 e0 g=>?_;clear h;subst e0;revert g;intro h;rw[show tE C .dnew=(Ij)from rfl];exact UR
 | .dnt,B,X,sc,e,R,h=>by refine⟨?_,trivial⟩;refine Jc h λw1 e0 g=>?_;clear h;subst e0;revert g;intro h;rw[show tE C .dnt=(Ik)from rfl];exact US
 | .dnn,B,X,sc,e,R,h=>by refine⟨?_,trivial⟩;refine Jc h λw1 e0 g=>?_;clear h;subst e0;revert g;intro h;rw[show tE C .dnn=(J7)from rfl];exact VM
 | .din neg a b,B,X,sc,e,R,h=>by
  refine⟨?_,trivial⟩;refine F0 h λea op' eb w1 e0 g=>?_;clear h;subst e0;revert g;intro h;simp only[ah,decide_eq_true_eq]at h;obtain⟨⟨⟨rfl,h1⟩,h2⟩,h3⟩:=h;rw[show tE C (.din neg a b)=(GO neg (tE C a) (tE C b))from rfl];cases neg with
  |true=>exact Kv (MV R.hu1 (sE0 a R h1).1 (sE0 b R h2).1) (Dn h3)
  |false=>exact Kv (MU R.hu1 (sE0 a R h1).1 (sE0 b R h2).1) (Dn h3)
 | .dgt a b,B,X,sc,e,R,h=>by
  refine⟨?_,trivial⟩;refine XQ h λeo nm apos y pos e0 g=>?_;clear h;subst e0;revert g;intro h;simp only[ah,decide_eq_true_eq]at h;obtain⟨⟨⟨⟨⟨rfl,h1⟩,h2⟩,h3⟩,h4⟩,h5⟩:=h;rw[show tE C (.dgt a b)=(JA (tE C a) (tE C b))from rfl];have e2:=Bd (env:=X.env) (es:=[]) h5;refine VQ R.hu1 (sE0 a R h1).1 (sE0 b R h4).1 ⟨Jf h2,?_,h3,?_⟩;.rw[e2];rfl
  .rw[e2];rfl
 | .met m o es,B,X,sc,e,R,h=>by
  refine⟨?_,trivial⟩;refine XP h λeo nm apos args pos e0 g=>?_;clear h;subst e0;revert g;intro h;simp only[ah,decide_eq_true_eq]at h;obtain⟨⟨⟨⟨⟨rfl,h1⟩,h2⟩,h3⟩,h4⟩,h5⟩:=h;rw[show tE C (.met m o es)=(tBM C.K (DS m) (D3 C.K m) (tE C o) (tA C es))from rfl];rw[<-R.hK];obtain⟨id,M⟩:=Xu m;cases args with
  |nil=>
   cases es with
   |cons c r=>exact Ay h4
   |nil=>exact T1 M.pa M.slot M.ty (M.h X) ((sE0 o R h1).1) (Jf h2) h3
  |cons a r=>
   have hs:B_ a=A2:=by
    cases es with
    |nil=>exact Ay h4
    |cons c r=>exact(C0 (C0 h4).1).2
   have hq:=GV (env:=X.env) (pos:=pos) h4;have hp:(backTo pos (AZ r X.env)).any (·.1)=A6:=by rw[Bd hs]at hq;exact hq
   refine T2 M.pa M.slot M.ty (M.h X) ((sE0 o R h1).1) (sA es R h4) (Jf h2) ?_ h3 (Bd hs) hp;have e1:(backTo pos (AZ (a::r) X.env)).all (λx=>!x.1)=A2:=by rw[cf];intro x hx;rw[List.any_eq_false]at hq;simpa using hq x hx
   rw[e1];show(A2&&A2&&decide ((a::r).length+0+0<30))=A2;simp only[Bool.true_and,decide_eq_true_eq];omega
 | .cal f a,B,X,sc,e,R,h=>by
  refine⟨?_,trivial⟩;refine Jd h λx w1 y w2 e0 g=>?_;clear h;subst e0;revert g;intro h;simp only[ah,decide_eq_true_eq,bA]at h;obtain⟨⟨⟨⟨⟨rfl,h1⟩,h2⟩,h3⟩,h4⟩,h5⟩:=h;rw[show tE C (.cal f a)=(tCB (rYf f) (Bq (tE C a) CD))from rfl];have e2:=Bd (env:=X.env) (es:=[]) h4;cases f with
  |dct=>exact ID (WB (R.calm h5) R.hu) (R.glb h1) (R.blt _ h2) ⋯ (D8 (sE0 a R h3).1 Dd e2) (by decide) (by decide) e2
  |dcn=>exact ID (WG (R.calm h5) R.hu) (R.glb h1) (R.blt _ h2) ⋯ (D8 (sE0 a R h3).1 Dd e2) (by decide) (by decide) e2
 | .ssa elt own t it q,B,X,sc,e,R,h=>by
  refine⟨?_,trivial⟩;refine XR h λn1 w1 ee tg iter ifs a scope w2 w3 e0 g=>?_;clear h;subst e0;revert g;intro h;simp only[ah,decide_eq_true_eq,bA]at h;obtain⟨⟨⟨⟨⟨⟨⟨⟨⟨⟨⟨⟨rfl,g1⟩,g2⟩,hh⟩,hsc⟩,helt⟩,hown⟩,rfl⟩,h1⟩,h2⟩,h3⟩,h4⟩,h5⟩:=h;rw[show tE C (.ssa elt own t it q)=(JQ own (tI C it) (tG C t) (tQo C q) (DB (tE C elt)))from rfl];refine Wn (nx:=λD env=>do let v<-Ac ee env;standAt ee.pos;let _<-call (.builtin "set.add") [.ref D,v]) (R.glb g1) (R.blt _ g2) ⟨R.compSc hsc,?_,⟨[],rfl⟩,CZ h3,R.calm hh,λ_ _ _=>⟨rfl,rfl⟩,λ_ _ _ _=>⟨rfl,rfl⟩,λ_ _ _ _ _=>rfl,λ_ _ _ _ _=>rfl,Cm hown,?_⟩ (sI it R h1 h2) rfl rfl;.rw[R.hN];exact(DU hsc).2.2.2.2
  .intro s0 H0 ex D;have R':=R.comp hh hsc s0 H0 ex;exact⟨sG t R' h4,sQo q R' h5,[],by simp,VS rfl (sE0 elt R' helt).1⟩
 | .comp elt own t it q .nil,B,X,sc,e,R,h=>by
  have D:GX C X e (.comp elt own t it q .nil):=by
   obtain⟨ee,tg,iter,ifs,scope,pos,rfl,hh,hsc,helt,hown,h1,h2,h3,h4,h5⟩:=Xy h;refine⟨tg,iter,ifs,λD env=>do let _<-call (.builtin "list.append") [.ref D,<-Ac ee env],scope,_,⟨R.compSc hsc,?_,⟨[],rfl⟩,CZ h3,R.calm hh,λ_ _ _=>⟨rfl,rfl⟩,λ_ _ _ _=>⟨rfl,rfl⟩,λ_ _ _ _ _=>rfl,λ_ _ _ _ _=>rfl,Cm hown,?_⟩,sI it R h1 h2,rfl,λ_=>rfl,λ_ _ _=>⟨_,rfl⟩⟩;.rw[R.hN];exact(DU hsc).2.2.2.2
   .intro s0 H0 ex D;have R':=R.comp hh hsc s0 H0 ex;refine⟨sG t R' h4,sQo q R' h5,[],by simp,?_⟩;exact IU rfl (sE0 elt R' helt).1
  refine⟨?_,D⟩;obtain⟨tg,iter,ifs,nx,scope,pos,D,hi,he,_⟩:=D;rw[show tE C (.comp elt own t it q .nil)=(Dh own (tI C it) (tG C t) (tQo C q) (tR C .nil (Cw (tE C elt))))from rfl];exact IW D hi he
 | .comp elt own t it q (.cons ws t2 it2 q2 .nil),B,X,sc,e,R,h=>by
  have D:GX C X e (.comp elt own t it q (.cons ws t2 it2 q2 .nil)):=by
   obtain⟨ee,tg,iter,ifs,tg2,iter2,ifs2,scope,pos,rfl,hh,hsc,helt,hown,h1,h2,h3,h4,h5,g1,g2,g3,g4,g5,g6,g7⟩:=Xz h;refine⟨tg,iter,ifs,λD env=>CF (.ListComp ee [⟨tg,iter,ifs,0⟩,⟨tg2,iter2,ifs2,0⟩] scope pos) 0 iter2 (.ref D) env,scope,_,⟨R.compSc hsc,?_,⟨_,rfl⟩,CZ h3,R.calm hh,λ_ _ _=>⟨rfl,rfl⟩,λ_ _ _ _=>⟨rfl,rfl⟩,λ_ _ _ _ _=>Xx _ _ _ _ _ _ _ _ _ _ _ _ _ _,λ_ _ _ _ _=>rfl,Cm hown,?_⟩,sI it R h1 h2,rfl,λ_=>rfl,λ_ _ _=>⟨_,rfl⟩⟩;.rw[R.hN];exact(DU hsc).2.2.2.2
   .intro s0 H0 ex D;have R':=R.comp hh hsc s0 H0 ex;refine⟨sG t R' h4,sQo q R' h5,ws,g7,?_⟩;exact Fp (nx:=do let _<-call (.builtin "list.append") [.ref D,<-Ac ee (X.comp scope s0 H0 ex).env]) rfl (R.calm hh) (λ_=>rfl) (λ_=>rfl) (λ_=>rfl) (λ_=>rfl) (λ_=>rfl) (λ_=>rfl) ⟨_,rfl,rfl⟩ (CZ g3) (sI it2 R' g1 g2) (sG t2 R' g4) (Cm g6) (sQo q2 R' g5) (IU rfl (sE0 elt R' helt).1) (by simp) El
  refine⟨?_,D⟩;obtain⟨tg,iter,ifs,nx,scope,pos,D,hi,he,_⟩:=D;rw[show tE C (.comp elt own t it q (.cons ws t2 it2 q2 .nil))=(Dh own (tI C it) (tG C t) (tQo C q) (tR C (.cons ws t2 it2 q2 .nil) (Cw (tE C elt))))from rfl];exact IW D hi he
 | .comp elt own t it q (.cons ws t2 it2 q2 (.cons ws3 t3 it3 q3 .nil)),B,X,sc,e,R,h=>by
  have D:GX C X e (.comp elt own t it q (.cons ws t2 it2 q2 (.cons ws3 t3 it3 q3 .nil))):=by
   obtain⟨ee,tg,iter,ifs,tg2,iter2,ifs2,tg3,iter3,ifs3,scope,pos,rfl,hh,hsc,helt,hown,h1,h2,h3,h4,h5,⟨g1,g2,g3,g4,g5,g6,g7⟩,k1,k2,k3,k4,k5,k6,k7⟩:=Y1 h;refine⟨tg,iter,ifs,λD env=>CF (.ListComp ee [⟨tg,iter,ifs,0⟩,⟨tg2,iter2,ifs2,0⟩,⟨tg3,iter3,ifs3,0⟩] scope pos) 0 iter2 (.ref D) env,scope,_,⟨R.compSc hsc,?_,⟨_,rfl⟩,CZ h3,R.calm hh,λ_ _ _=>⟨rfl,rfl⟩,λ_ _ _ _=>⟨rfl,rfl⟩,λ_ _ _ _ _=>X_ _ _ _ _ _ _ _ _ _ _ _ _ _ _ _ _ _,λ_ _ _ _ _=>rfl,Cm hown,?_⟩,sI it R h1 h2,rfl,λ_=>rfl,λ_ _ _=>⟨_,rfl⟩⟩;.rw[R.hN];exact(DU hsc).2.2.2.2
   .intro s0 H0 ex D;have R':=R.comp hh hsc s0 H0 ex;refine⟨sG t R' h4,sQo q R' h5,ws,g7,?_⟩;exact Fp (d:=0) (nx:=CF (.ListComp ee [⟨tg,iter,ifs,0⟩,⟨tg2,iter2,ifs2,0⟩,⟨tg3,iter3,ifs3,0⟩] scope pos) 1 iter3 (.ref D) (X.comp scope s0 H0 ex).env) rfl (R.calm hh) (λ_=>rfl) (λ_=>rfl) (λ_=>rfl) (λ_=>rfl) (λ_=>Y0 _ _ _ _ _ _ _ _ _ _ _ _ _ _ _ _ _) (λ_=>rfl) ⟨_,rfl,rfl⟩ (CZ g3) (sI it2 R' g1 g2) (sG t2 R' g4) (Cm g6) (sQo q2 R' g5)
     (Fp (d:=1) (nx:=do let _<-call (.builtin "list.append") [.ref D,<-Ac ee (X.comp scope s0 H0 ex).env]) rfl (R.calm hh) (λ_=>rfl) (λ_=>rfl) (λ_=>rfl) (λ_=>rfl) (λ_=>rfl) (λ_=>rfl) ⟨_,rfl,rfl⟩ (CZ k3) (sI it3 R' k1 k2) (sG t3 R' k4) (Cm k6) (sQo q3 R' k5) (IU rfl (sE0 elt R' helt).1) (by simp) El) k7 El
  refine⟨?_,D⟩;obtain⟨tg,iter,ifs,nx,scope,pos,D,hi,he,_⟩:=D;rw[show tE C (.comp elt own t it q (.cons ws t2 it2 q2 (.cons ws3 t3 it3 q3 .nil)))=(Dh own (tI C it) (tG C t) (tQo C q) (tR C (.cons ws t2 it2 q2 (.cons ws3 t3 it3 q3 .nil)) (Cw (tE C elt))))from rfl];exact IW D hi he
 | .comp elt own t it q (.cons ws t2 it2 q2 (.cons _ _ _ _ (.cons _ _ _ _ _))),B,X,sc,e,R,h=>(Y2 h).elim
termination_by structural c=>c
theorem sA{C:Rc}:∀(es:Ces){B:List AM}{X:Cx}{sc:AY}{xs:List A9},Rok C B X sc->mA C.N B sc es xs=A2->PA X xs (tA C es)
 | .nil,B,X,sc,xs,R,h=>by refine FA h λe0 g=>?_;clear h;subst e0;revert g;intro h;rw[show tA C .nil=(CD)from rfl];exact Dd
 | .cons e r,B,X,sc,xs,R,h=>by refine GU h λx xs e0 g=>?_;clear h;subst e0;revert g;intro h;simp only[ah]at h;rw[show tA C (.cons e r)=(Bq (tE C e) (tA C r))from rfl];exact D8 ((sE0 e R h.1.1).1) (sA r R h.2) (Bd h.1.2)
termination_by structural c=>c
theorem sQ{C:Rc}:∀(q:Cq){B:List AM}{X:Cx}{sc:AY}{e:A9},Rok C B X sc->mQ C.N B sc q e=A2->PT X e (tQ C q)/\((∃op vs pos,e=.BoolOp op vs pos)->PW X e (tQ C q))
 | .val c,B,X,sc,e,R,h=>by
  replace h:=C0 h;refine⟨?_,λ⟨op,vs,pos,z⟩=>?_⟩;.rw[show tQ C (.val c)=(λσ H Q=>tE C c σ H λx H'=>∃k,Ed C.K x H' k/\Q k H')from rfl];rw[<-R.hK];exact S7 (sE0 c R h.1).1 (Xl h.2)
  .subst z;exact Ay h.2
 | .din neg a b,B,X,sc,e,R,h=>by
  refine F0 h λea op' eb w1 e0 g=>?_;clear h;subst e0;revert g;intro h;simp only[ah,decide_eq_true_eq]at h;obtain⟨⟨⟨rfl,h1⟩,h2⟩,h3⟩:=h;rw[show tQ C (.din neg a b)=(Dc (GO neg (tE C a) (tE C b)))from rfl];cases neg with
  |true=>exact⟨Kw (MV R.hu1 (sE0 a R h1).1 (sE0 b R h2).1) (Dn h3),λ⟨op,vs,pos,z⟩=>by cases z⟩
  |false=>exact⟨Kw (MU R.hu1 (sE0 a R h1).1 (sE0 b R h2).1) (Dn h3),λ⟨op,vs,pos,z⟩=>by cases z⟩
 | .cmw k a b,B,X,sc,e,R,h=>by refine F0 h λea op' eb w1 e0 g=>?_;clear h;subst e0;revert g;intro h;simp only[ah,decide_eq_true_eq]at h;obtain⟨⟨⟨rfl,h1⟩,h2⟩,h3⟩:=h;rw[show tQ C (.cmw k a b)=(Dc (tOp (rZf k) (tE C a) (tE C b)))from rfl];exact⟨L7 (Xr R.hu _) (sE0 a R h1).1 (sE0 b R h2).1 (Dn h3),λ⟨op,vs,pos,z⟩=>by cases z⟩
 | .not q,B,X,sc,e,R,h=>by refine OB h λy w1 e0 g=>?_;clear h;subst e0;revert g;intro h;rw[show tQ C (.not q)=(Hf (tQ C q))from rfl];exact⟨RE (sQ q R h).1,λ⟨op,vs,pos,z⟩=>by cases z⟩
 | .and a b,B,X,sc,e,R,h=>by
  replace h:=Nb h;rcases h with⟨x,y,pos,rfl,h⟩|⟨x,y,z,r,pos,rfl,h⟩;.simp only[ah]at h;rw[show tQ C (.and a b)=(Ec (tQ C a) (tQ C b))from rfl];have w:PW X (.BoolOp .And [x,y] pos) (Ec (tQ C a) (tQ C b)):=Kx (sQ a R h.1).1 (RC (sQ b R h.2).1);exact⟨w.pt,λ_=>w⟩
  .simp only[ah]at h;rw[show tQ C (.and a b)=(Ec (tQ C a) (tQ C b))from rfl];have w:=Kx (sQ a R h.1).1 ((sQ b R h.2).2 ⟨_,_,_,rfl⟩);exact⟨w.pt,λ_=>w⟩
 | .or a b,B,X,sc,e,R,h=>by
  replace h:=JT h;rcases h with⟨x,y,pos,rfl,h⟩|⟨x,y,z,r,pos,rfl,h⟩;.simp only[ah]at h;rw[show tQ C (.or a b)=(tOr (tQ C a) (tQ C b))from rfl];have w:PW X (.BoolOp .Or [x,y] pos) (tOr (tQ C a) (tQ C b)):=Ky (sQ a R h.1).1 (RD (sQ b R h.2).1);exact⟨w.pt,λ_=>w⟩
  .simp only[ah]at h;rw[show tQ C (.or a b)=(tOr (tQ C a) (tQ C b))from rfl];have w:=Ky (sQ a R h.1).1 ((sQ b R h.2).2 ⟨_,_,_,rfl⟩);exact⟨w.pt,λ_=>w⟩
 | .cmp op a b,B,X,sc,e,R,h=>by refine F0 h λea op' eb w1 e0 g=>?_;clear h;subst e0;revert g;intro h;simp only[ah,decide_eq_true_eq]at h;obtain⟨⟨⟨rfl,h1⟩,h2⟩,h3⟩:=h;rw[show tQ C (.cmp op a b)=(Dc (tOp (BG C.K op) (tE C a) (tE C b)))from rfl];rw[<-R.hK];exact⟨L7 (OH R.hu _) (sE0 a R h1).1 (sE0 b R h2).1 (Dn h3),λ⟨op,vs,pos,z⟩=>by cases z⟩
termination_by structural c=>c
theorem sQo{C:Rc}:∀(q:Cqo){B:List AM}{X:Cx}{sc:AY}{es:List A9},Rok C B X sc->mQo C.N B sc q es=A2->PTs X es (tQo C q)
 | .none,B,X,sc,es,R,h=>by refine FA h λe0 g=>?_;clear h;subst e0;revert g;intro h;rw[show tQo C .none=(λ_ H Q=>Q A2 H)from rfl];exact Tc
 | .some q,B,X,sc,es,R,h=>by refine XV h λe e0 g=>?_;clear h;subst e0;revert g;intro h;rw[show tQo C (.some q)=(tQ C q)from rfl];exact Td (sQ q R h).1
termination_by structural c=>c
theorem sO{C:Rc}:∀(o:Co){B:List AM}{X:Cx}{sc:AY}{e:Option A9},Rok C B X sc->mO C.N B sc o e=A2->PO X e (tO C o)
 | .none,B,X,sc,e,R,h=>by refine XW h λe0 g=>?_;clear h;subst e0;revert g;intro h;rw[show tO C .none=(IE)from rfl];exact SZ
 | .some c,B,X,sc,e,R,h=>by refine XX h λy e0 g=>?_;clear h;subst e0;revert g;intro h;rw[show tO C (.some c)=(IF (tE C c))from rfl];exact Sa (sE0 c R h).1
termination_by structural c=>c
theorem sI{C:Rc}:∀(i:Ci){B:List AM}{X:Cx}{sc:AY}{x tg:A9},Rok C B X sc->mI C.N B sc i x=A2->Bt i tg=A2->PI X tg x (tI C i)
 | .val c,B,X,sc,x,tg,R,h,_=>by rw[show tI C (.val c)=(IY C.K (tE C c))from rfl];rw[<-R.hK];exact Tn (sE0 c R h).1
 | .range1 a,B,X,sc,x,tg,R,h,_=>by refine Jd h λn w1 y w2 e0 g=>?_;clear h;subst e0;revert g;intro h;simp only[ah,decide_eq_true_eq]at h;obtain⟨⟨⟨⟨rfl,h1⟩,h2⟩,h3⟩,h4⟩:=h;rw[show tI C (.range1 a)=(Hu (Bq (tE C a) CD))from rfl];exact RZ (R.glb h1) (R.blt _ h2) (D8 (sE0 a R h3).1 Dd (Bd h4)) (Bd h4)
 | .range2 a b,B,X,sc,x,tg,R,h,_=>by refine OF h λn w1 y z w2 e0 g=>?_;clear h;subst e0;revert g;intro h;simp only[ah,decide_eq_true_eq]at h;obtain⟨⟨⟨⟨⟨⟨rfl,h1⟩,h2⟩,h3⟩,h4⟩,h5⟩,h6⟩:=h;rw[show tI C (.range2 a b)=(Hv (Bq (tE C a) (Bq (tE C b) CD)))from rfl];have e2:AZ [_] X.env=[(A6,Ac _ X.env)]:=Bd (es:=[]) h6;exact Ra (R.glb h1) (R.blt _ h2) (D8 (sE0 a R h3).1 (D8 (sE0 b R h5).1 Dd (Bd h6)) (Bd h4)) (by rw[Bd h4,e2]) e2
 | .zip a b,B,X,sc,x,tg,R,h,hz=>by
  refine OF h λn w1 y z w2 e0 g=>?_;clear h;subst e0;revert g;intro h;simp only[ah,decide_eq_true_eq]at h;obtain⟨⟨⟨⟨⟨⟨rfl,h1⟩,h2⟩,h3⟩,h4⟩,h5⟩,h6⟩:=h;rw[show tI C (.zip a b)=(IZ C.K (Bq (tE C a) (Bq (tE C b) CD)))from rfl];rw[<-R.hK];have e2:AZ [_] X.env=[(A6,Ac _ X.env)]:=Bd (es:=[]) h6;cases tg with
  |Tuple es k p=>exact To (R.glb h1) (R.blt _ h2) (D8 (sE0 a R h3).1 (D8 (sE0 b R h5).1 Dd (Bd h6)) (Bd h4)) (by rw[Bd h4,e2]) e2
  |_=>cases hz
 | .enum a,B,X,sc,x,tg,R,h,hz=>by
  refine Jd h λn w1 y w2 e0 g=>?_;clear h;subst e0;revert g;intro h;simp only[ah,decide_eq_true_eq]at h;obtain⟨⟨⟨⟨rfl,h1⟩,h2⟩,h3⟩,h4⟩:=h;rw[show tI C (.enum a)=(Ib C.K (tE C a))from rfl];rw[<-R.hK];cases tg with
  |Tuple es k p=>exact Tx (R.glb h1) (R.blt _ h2) (D8 (sE0 a R h3).1 Dd (Bd h4)) (Bd h4)
  |_=>cases hz
 | .dk c,B,X,sc,x,tg,R,h,_=>by rw[show tI C (.dk c)=(JM (tE C c))from rfl];exact WK (sE0 c R h).1
termination_by structural c=>c
theorem sG{C:Rc}:∀(t:Ct){B:List AM}{X:Cx}{sc:AY}{e:A9},Rok C B X sc->mT C.N B sc t e=A2->PG X e (tG C t)
 | .name i,B,X,sc,e,R,h=>by refine Jb h λx w1 e0 g=>?_;clear h;subst e0;revert g;intro h;simp only[ah]at h;obtain⟨h1,h2,h3⟩:=EI h.1;obtain⟨h4,h5⟩:=R.locb h.2;rw[show tG C (.name i)=(CC i)from rfl];exact RN (by rw[R.hN];exact R.nd) (by rw[R.hN];exact h1) h4 h5
 | .tup ts,B,X,sc,e,R,h=>by refine OC h λes w1 w2 e0 g=>?_;clear h;subst e0;revert g;intro h;rw[show tG C (.tup ts)=(JO C.K (GP ts) (tGs C ts))from rfl];rw[<-R.hK];simp only[ah,bA]at h;exact WL (R.calm h.2) (sGs ts R h.1) (Jg h.1).1 (Jg h.1).2
 | .sub o i,B,X,sc,e,R,h=>by refine OD h λeo ei w1 e0 g=>?_;clear h;subst e0;revert g;intro h;simp only[ah]at h;rw[show tG C (.sub o i)=(Hr (tE C o) (tE C i) D9)from rfl];exact RS (sE0 o R h.1.1).1 (sE0 i R h.1.2).1 Sm (Xw h.2)
termination_by structural c=>c
theorem sGs{C:Rc}:∀(ts:Cts){B:List AM}{X:Cx}{sc:AY}{es:List A9},Rok C B X sc->mTs C.N B sc ts es=A2->PGs X es (tGs C ts)
 | .nil,B,X,sc,es,R,h=>by refine FA h λe0 g=>?_;clear h;subst e0;revert g;intro h;rw[show tGs C .nil=(Ho)from rfl];exact RO
 | .cons t r,B,X,sc,es,R,h=>by refine GU h λx xs e0 g=>?_;clear h;subst e0;revert g;intro h;simp only[ah]at h;rw[show tGs C (.cons t r)=(Hq (tG C t) (tGs C r))from rfl];exact RP (sG t R h.1.1) (sGs r R h.2) (Xv h.1.2)
termination_by structural c=>c
end
theorem sE{C:Rc}{B:List AM}(c:Ce){X:Cx}{sc:AY}{e:A9}(R:Rok C B X sc)(h:mE C.N B sc c e=A2):PE X e (tE C c):=(sE0 c R h).1
end R3
set_option maxHeartbeats 4000000
namespace R3
open PySem PySem.Spec PyProof.Rows L2
def FB:A9->Bool
 | .ListComp ..=>A6
 | .SetComp ..=>A6
 | .DictComp ..=>A6
 |_=>A2
theorem Y4{x a:A9}{l:Nat}{env:Env}(h:FB x=A2):swapsWithSole [a] x l env=pure A6:=by cases x<;>first|rfl|cases h
theorem Y5{x:A9}{l:Nat}{env:Env}(h:FB x=A2):swapsWith x A5 l env=pure A6:=by cases x<;>first|rfl|cases h
set_option tactic.hygienic true in
theorem OM{N B:List AM}{sc:AY}{c:Ce}{x:A9}(h:mE N B sc c x=A2)(hd:Dm c=A6)(hx:FB x=A6):∃elt own t it q r,c=.comp elt own t it q r/\∃ee gens scope pos,x=.ListComp ee gens scope pos:=by
 cases x<;>first|(cases hx;done)|skip
 .cases c<;>first|(exact Ay h)|(cases hd;done)|exact⟨_,_,_,_,_,_,rfl,_,_,_,_,rfl⟩
 .cases c<;>first|(exact Ay h)|(cases hd;done)|(rename_i r;cases r<;>first|(exact Ay h)|(cases hd;done)|(rename_i r;cases r<;>first|(exact Ay h)|(cases hd;done)|(rename_i r;cases r<;>exact Ay h)))
 .cases c<;>first|(exact Ay h)|(cases hd;done)|(rename_i r;cases r<;>first|(exact Ay h)|(cases hd;done)|(rename_i r;cases r<;>first|(exact Ay h)|(cases hd;done)|(rename_i r;cases r<;>exact Ay h)))
theorem Jh{a:A9}{env:Env}(h:B_ a=A2):(Al [a] env).map (·.2)=[assign a env]:=by cases a<;>first|rfl|cases h
def Y6:A9->A9->Bool
 | .Tuple ..,.Tuple ..=>A6
 | .List ..,.Tuple ..=>A6
 |_,_=>A2
theorem ON{a x:A9}{env:Env}(h:Y6 a x=A2):swappedStores [a] x env=pure A5:=by cases a<;>first|rfl|(cases x<;>first|rfl|cases h)
theorem Y7{b:A9}{vs:List A9}{k:Nat}{pos:Pos}{env:Env}(h:vs.all (foldedForSure 8)=A2):swappedStores [b] (.Tuple vs k pos) env=pure A5:=by
 have a:∀d:List A9,swappedStores [.Tuple d 0 pos] (.Tuple vs k pos) env=pure A5:=by
  intro d;unfold swappedStores;dsimp only;split;.rfl
  .split;.rfl
   .split;.rfl
    .rfl
 cases b<;>first|rfl|exact a _
theorem Y8{N B:List AM}{sc:AY}{t:Ct}{a:List A9}{p:Pos}(h:mT N B sc t (.List a p)=A2):False:=by cases t<;>exact Ay h
set_option maxHeartbeats 4000000
mutual
theorem sS:∀(c:Cs){C:Rc}{B:List AM}{X:Cx}{sc:AY}{s:Ap},Rok C B X sc->X.env.scope.kind=.function->mS C.N B sc c s=A2->PS X s (tS C c)
 | .expr e,C,B,X,sc,s,R,hk,h=>by
  refine XY h λx w1 e0 g=>?_;clear h;subst e0;revert g;intro h;obtain⟨hc,hd⟩:=C0 h;clear h;obtain⟨hc,hm⟩:=C0 hc
  replace hd:Dm e=A6:=by cases z:Dm e with
   |false=>rfl
   |true=>rw[z]at hd;exact Ay hd
  rw[show tS C (.expr e)=(Hk (tE C e))from rfl];refine RK (sE e R hc) (Y5 ?_);cases hx:FB x with
  |true=>rfl
  |false=>obtain⟨elt,own,t,it,q,r,rfl,_⟩:=OM hc hd hx;exact Ay hm
 | .ret e,C,B,X,sc,s,R,hk,h=>by refine XZ h λx w1 e0 g=>?_;clear h;subst e0;revert g;intro h;rw[show tS C (.ret e)=(Hl (tE C e))from rfl];exact RL (sE e R h)
 | .asg t e,C,B,X,sc,s,R,hk,h=>by
  refine Xa h λtg x pos e0 g=>?_;clear h;subst e0;revert g;intro h;obtain⟨h,h4⟩:=C0 h;obtain⟨h,h3⟩:=C0 h;obtain⟨h,h2⟩:=C0 h;obtain⟨h1,h0⟩:=C0 h
  replace h0:Dm e=A6:=by cases z:Dm e with
   |false=>rfl
   |true=>rw[z]at h0;exact Ay h0
  rw[show tS C (.asg t e)=(CT (tE C e) (tG C t))from rfl];have hw:swappedStores [tg] x X.env=pure A5:=by
   cases tg with
   |Tuple a b c=>cases x<;>first|exact ON rfl|exact Y7 h4|exact Ay h4
   |List a b=>exact(Y8 h2).elim
   |_=>exact ON rfl
  cases hx:FB x with
  |true=>exact Fg (sE e R h1) (sG t R h2) (Y4 hx) hw (Jh h3)
  |false=>
   obtain⟨elt,own,t',it,q,r,rfl,ee,gens,scope,p2,rfl⟩:=OM h1 h0 hx;have D:=(sE0 _ R h1).2;obtain⟨tg',iter,ifs,nx,scope',pos',D,hi,he,hu,hsw⟩:=D;cases t with
   |name i=>
    cases tg with
    |Name y py=>
     obtain⟨b,hb⟩:=hsw y py pos.line;cases b with
     |true=>replace h2:=C0 h2;obtain⟨g1,g2,g3⟩:=EI h2.1;obtain⟨g4,g5⟩:=R.locb h2.2;exact Tf D hi (by rw[R.hN];exact R.nd) (by rw[R.hN];exact g1) g4 g5 (hu _) hb
     |false=>exact Fg (sE _ R h1) (sG _ R h2) hb hw (Jh h3)
    |_=>exact Ay h2
   |tup ts=>
    cases tg with
    |Tuple a b c=>exact Ay h4
    |_=>exact Ay h2
   |sub o i=>
    cases tg with
    |Subscript a b c=>exact Fg (sE _ R h1) (sG _ R h2) rfl hw (Jh h3)
    |_=>exact Ay h2
 | .setc2 i elt own t it q ws t2 it2 q2,C,B,X,sc,s,R,hk,h=>by
  refine Xb h λy py ee tg iter ifs a tg2 iter2 ifs2 a2 scope p2 pos e0 g=>?_;clear h;subst e0;revert g;intro h;simp only[ah,decide_eq_true_eq,bA,cf]at h;obtain⟨⟨⟨⟨⟨⟨⟨⟨⟨⟨⟨⟨⟨⟨⟨⟨⟨⟨hh,hnm⟩,hsc⟩,helt⟩,hown⟩,rfl⟩,h1⟩,h2⟩,h3⟩,h4⟩,h5⟩,rfl⟩,f1⟩,f2⟩,f3⟩,f4⟩,f5⟩,f6⟩,f7⟩:=h;have hnm':=hnm;replace hnm:=C0 hnm;obtain⟨g1,g2,g3⟩:=EI hnm.1;obtain⟨g4,g5⟩:=R.locb hnm.2;rw[show tS C (.setc2 i elt own t it q ws t2 it2 q2)=(CT (MW own (tI C it) (tG C t) (tQo C q) (Dg (tI C it2) (C7 ws (tG C t2) (tQo C q2) (DB (tE C elt))))) (CC i))from rfl];refine JB (nx:=λD env=>CF (.SetComp ee [⟨tg,iter,ifs,0⟩,⟨tg2,iter2,ifs2,0⟩] scope p2) 0 iter2 (.ref D) env) V6 (λ_=>rfl) V7 Iq VR ⟨R.compSc hsc,?_,⟨_,rfl⟩,CZ h3,R.calm hh,λ_ _ _=>⟨rfl,rfl⟩,λ_ _ _ _=>⟨rfl,rfl⟩,λ_ _ _ _ _=>Y3 _ _ _ _ _ _ _ _ _ _ _ _ _ _,λ_ _ _ _ _=>rfl,Cm hown,?_⟩ (sI it R h1 h2) (by rw[R.hN];exact R.nd) (by rw[R.hN];exact g1) g4 g5 (sG (.name i) R hnm') rfl rfl ⟨_,rfl⟩;.rw[R.hN];exact(DU hsc).2.2.2.2
  .intro s0 H0 ex D;have R':=R.comp hh hsc s0 H0 ex;refine⟨sG t R' h4,sQo q R' h5,ws,f7,?_⟩;exact Fp (nx:=do let v<-Ac ee (X.comp scope s0 H0 ex).env;standAt ee.pos;let _<-call (.builtin "set.add") [.ref D,v]) rfl (R.calm hh) (λ_=>rfl) (λ_=>rfl) (λ_=>rfl) (λ_=>rfl) (λ_=>rfl) (λ_=>rfl) ⟨_,rfl,rfl⟩ (CZ f3) (sI it2 R' f1 f2) (sG t2 R' f4) (Cm f6) (sQo q2 R' f5) (V5 rfl (sE elt R' helt)) (by simp) Iq
 | .dctc tup i k v own t it q,C,B,X,sc,s,R,hk,h=>by
  refine Xc h λy py ke ve tg iter ifs a scope p2 pos e0 g=>?_;clear h;subst e0;revert g;intro h;simp only[ah,decide_eq_true_eq,bA]at h;obtain⟨⟨⟨⟨⟨⟨⟨⟨⟨⟨⟨hh,hnm⟩,hsc⟩,hke⟩,hve⟩,hown⟩,rfl⟩,h1⟩,h2⟩,h3⟩,h4⟩,h5⟩:=h;have hnm':=hnm;replace hnm:=C0 hnm;obtain⟨g1,g2,g3⟩:=EI hnm.1;obtain⟨g4,g5⟩:=R.locb hnm.2;rw[show tS C (.dctc tup i k v own t it q)=(if tup then CT (MY own (tI C it) (tG C t) (tQo C q) (tE C k) (tE C v)) (CC i)else CT (MX own (tI C it) (tG C t) (tQo C q) (tE C k) (tE C v)) (CC i))from rfl];cases tup with
  |false=>
   refine JB (Is:=Ep X.prog X.w) (nx:=λD env=>OL ke ve D env) MJ (λ_=>rfl) VA MI VB ⟨R.compSc hsc,?_,⟨[],rfl⟩,CZ h3,R.calm hh,λ_ _ _=>⟨rfl,rfl⟩,λ_ _ _ _=>⟨rfl,rfl⟩,λ_ _ _ _ _=>rfl,λ_ _ _ _ _=>rfl,Cm hown,?_⟩ (sI it R h1 h2) (by rw[R.hN];exact R.nd) (by rw[R.hN];exact g1) g4 g5 (sG (.name i) R hnm') rfl rfl ⟨_,rfl⟩;.rw[R.hN];exact(DU hsc).2.2.2.2
   .intro s0 H0 ex D;have R':=R.comp hh hsc s0 H0 ex;exact⟨sG t R' h4,sQo q R' h5,[],by simp,VC rfl (sE k R' hke) (sE v R' hve)⟩
  |true=>
   refine JB (Is:=Er X.prog X.w) (nx:=λD env=>OL ke ve D env) MJ (λ_=>rfl) VD MK VE ⟨R.compSc hsc,?_,⟨[],rfl⟩,CZ h3,R.calm hh,λ_ _ _=>⟨rfl,rfl⟩,λ_ _ _ _=>⟨rfl,rfl⟩,λ_ _ _ _ _=>rfl,λ_ _ _ _ _=>rfl,Cm hown,?_⟩ (sI it R h1 h2) (by rw[R.hN];exact R.nd) (by rw[R.hN];exact g1) g4 g5 (sG (.name i) R hnm') rfl rfl ⟨_,rfl⟩;.rw[R.hN];exact(DU hsc).2.2.2.2
   .intro s0 H0 ex D;have R':=R.comp hh hsc s0 H0 ex;exact⟨sG t R' h4,sQo q R' h5,[],by simp,VF R'.hu1 rfl (sE k R' hke) (sE v R' hve)⟩
 | .dput o i e,C,B,X,sc,s,R,hk,h=>by refine Xd h λeo ei w1 ee w2 e0 g=>?_;clear h;subst e0;revert g;intro h;simp only[ah]at h;obtain⟨⟨⟨⟨h1,h2⟩,h3⟩,h4⟩,h5⟩:=h;rw[show tS C (.dput o i e)=(J8 (tE C o) (tE C i) (tE C e))from rfl];refine VP R.hu1 (sE o R h1) (sE i R h2) (sE e R h4) ?_;cases ee<;>first|rfl|cases h5
 | .aug i sub e,C,B,X,sc,s,R,hk,h=>by
  refine Xe h λx w1 op ee w2 e0 g=>?_;clear h;subst e0;revert g;intro h;simp only[ah,decide_eq_true_eq]at h;obtain⟨⟨⟨h1,h2⟩,h3⟩,rfl⟩:=h;obtain⟨g1,g2,g3⟩:=EI h1;obtain⟨g4,g5⟩:=R.locb h2;rw[show tS C (.aug i sub e)=(Hs i (tE C e) (ipI λi j=>if sub then i-j else i+j))from rfl];cases sub with
  |true=>exact L1 (by rw[R.hN];exact R.nd) (by rw[R.hN];exact g1) g4 (sE e R h3) RU g5
  |false=>exact L1 (by rw[R.hN];exact R.nd) (by rw[R.hN];exact g1) g4 (sE e R h3) RT g5
 | .ite q a b,C,B,X,sc,s,R,hk,h=>by refine Xf h λx ss rs w1 e0 g=>?_;clear h;subst e0;revert g;intro h;simp only[ah]at h;rw[show tS C (.ite q a b)=(Hm (tQ C q) (tSs C a) (tSs C b))from rfl];exact RM (sQ q R h.1.1).1 (sSs a R hk h.1.2) (sSs b R hk h.2)
 | .whl q b,C,B,X,sc,s,R,hk,h=>by refine Xg h λx ss w1 e0 g=>?_;clear h;subst e0;revert g;intro h;simp only[ah]at h;rw[show tS C (.whl q b)=(Ht (tQ C q) (tSs C b))from rfl];exact RV R.own (sQ q R h.1).1 (sSs b R hk h.2)
 | .for_ t it b,C,B,X,sc,s,R,hk,h=>by refine Xh h λtg iter ss w1 e0 g=>?_;clear h;subst e0;revert g;intro h;simp only[ah,bA]at h;obtain⟨⟨⟨⟨⟨h1,h2⟩,h3⟩,h4⟩,h5⟩,hh⟩:=h;rw[show tS C (.for_ t it b)=(Hw (tI C it) (tG C t) (tSs C b))from rfl];exact Rb R.own (R.calm hh) (sI it R h1 h2) (sG t R h4) (sSs b R hk h5) (CZ h3)
theorem sSs:∀(c:Css){C:Rc}{B:List AM}{X:Cx}{sc:AY}{ss:List Ap},Rok C B X sc->X.env.scope.kind=.function->mSs C.N B sc c ss=A2->PSs X ss (tSs C c)
 | .nil,C,B,X,sc,ss,R,hk,h=>by refine Xi h λe0 g=>?_;clear h;subst e0;revert g;intro h;rw[show tSs C .nil=(Hi)from rfl];exact RI
 | .cons c r,C,B,X,sc,ss,R,hk,h=>by refine Xj h λx xs e0 g=>?_;clear h;subst e0;revert g;intro h;simp only[ah]at h;rw[show tSs C (.cons c r)=(Hj (tS C c) (tSs C r))from rfl];exact RJ (sS c R hk h.1) (sSs r R hk h.2)
end
section
variable{P:AA}{w:AK}{K:W.Frag}{mg:AM->Option A1}{base:AJ}
structure Ask(P:AA)(w:AK)(K:W.Frag)(mg:AM->Option A1)(base:AJ)(k:Nat)(C:Rc):Prop where
 fs:∀y sp',C.fs y=A0 sp'->∃f' fd' ps',(FnOk P w K mg base CX0 k f' fd' ps' sp'\/FnOk P w K mg base (CX1 P w mg) k f' fd' ps' sp'/\EG y∈C.B)/\mg y=A0 (.ref f')/\W.keepIn K (.ref f')=A2/\Cu K fd' ps' []
 B:∀y∈C.B,mg y=A5
 mrk:mg "~"=A5/\mg "^"=A5/\mg "%"=A5
 cl:∀c Ca,C.cl c=A0 Ca->mg c=A0 (.ref Ca)/\W.nsIn K AN c=A0 (A0 (.ref Ca))
 nt:tld C.B=A6
 nh:hat C.B=A6
theorem Y9{x b:AM}{st:Ap}{f:A4}{J:Aq}{ps:List AM}{k:Nat}{sp:Sp}(F:Fun K x b st f J)(C:Rc)(S:FnScope C.N ps (A_ st))(O:C.K=K)(a:Css)(R:mSs C.N C.B (A_ st) a (BB st)=A2)
  (len:∀i H Q E,sp i H Q E->i.length=ps.length)(ask:Ask P w K mg base k C)(l:C.xk=λ_=>E0)
  (d:∀i H Q E,sp i H Q E->tSs C a {nx:=λ_ u=>Q .non u,rt:=Q} (BA C.N i) H):FnOk P w K mg base CX0 (k+1) f J ps sp:=by
 obtain⟨oc,od,kV,X,pm,an,r,ct,Z,rfl,Y,m⟩:=F.ex;refine SN Y m S len λA g s H i Q E p h=>⟨_,(show PSs (E2 CX0 P w K mg base C.N b (A_ st) f r A g s H E).nox (BB st) (tSs C a)from sSs a (sc:=A_ st) (B:=C.B) ?_ S.kind R).nox,d i H Q E h⟩;refine⟨rfl,S.nd,O.symm,PassesOwn.never,λ_=>rfl,p.units,p.gd,λ_ e=>e,λ_ e=>⟨e,rfl⟩,λ_ e=>.inr e,λ_ e=>e,λy q e _ _=>?_,ask.B,ask.mrk,ask.cl,λ_=>⟨rfl,λ_=>rfl,rfl,rfl,Ub m⟩,λ_=>ask.nh,λ_ _ nm Ca p_ U H s e t _ _ _ _ _ _ z=>?_⟩
 .obtain⟨D,o,n,j,L,v,G⟩:=ask.fs y q e;rcases j with j|⟨j,M⟩;.exact⟨D,o,n,k,CX0,j,p,L,v,G,.inl rfl,OG⟩
  .refine⟨D,o,n,k,_,j,p,L,v,G,.inr ⟨rfl,M⟩,?_⟩;rintro p_ U H s e s' I⟨ea,T,Ca,nm,u,_,_,_,_,_,_,_,_,_,_,_,z⟩;rw[l]at z;exact z.elim
 .rw[l]at z;exact z.elim
end
def GY(a:A4)(k:Nat)(h:AJ):Prop:=∃(x y z:Int)(e b d:Tok)(n:Nat),h.get? a=A0 {cls:=.type "list",data:=.seq #[.int x e,.int y b,.int z d] n}/\0<=x/\0<=y/\y<2^62/\0<=z/\z<=k
def BV(a:A4)(k:Nat):HO:=.ext (GY a k)
def C1(x y z:Int):HO:=.lst [.int x,.int y,.int z]
theorem YA{a:A4}{n k:Nat}(e:BV a n=BV a k):n<=k:=by
 have i:GY a n=GY a k:=HO.ext.inj e;let o:AS:={cls:=.type "list",data:=.seq #[.int 0 0,.int 0 0,.int n 0] 0};let b:AJ:={(default:AJ)with objs:=Array.replicate a default};have s:b.objs.size=a:=Array.size_replicate;have g:(b.push o).get? a=A0 o:=by have:=ai b (o:=o) rfl;rw[s]at this;exact this
 have q:GY a n (b.push o):=⟨0,0,n,0,0,0,0,g,⋯,⋯,by decide,⋯,⋯⟩;rw[i]at q;obtain⟨x,y,z,l,h,p,m,f,_,_,_,_,u⟩:=q;rw[g]at f;have j:=Option.some.inj f;have r:(#[.int 0 0,.int 0 0,.int n 0]:Array A1)=#[.int x l,.int y h,.int z p]:=by have:o.data=_:=congrArg AS.data j;injection this
 have d:=congrArg Array.toList r;simp only[List.cons.injEq,A1.int.injEq]at d;have t:(n:Int)=z:=d.2.2.1.1;omega
theorem YB{P:AA}{w:AK}{H:Hp}{h:AJ}{b:A4}{x y z:Int}{k:Nat}(a:HOk P w H h)(e:H b=A0 (C1 x y z))(B:0<=x)(v:0<=y)(l:y<2^62)(hz:0<=z)(C:z<=k):HOk P w (upd H b (BV b k)) h:=by
 intro c o f;by_cases s:c=b
 .subst s;rw[Aw]at f;cases f;obtain⟨_,I,n,E,g⟩:=(show B0 P w H h c (.lst _)from a c _ e);cases E with
  |cons r1 r=>
   cases r with
   |cons r2 r=>
    cases r with
    |cons A r=>cases r;obtain⟨j,rfl⟩:=r1;obtain⟨i,rfl⟩:=r2;obtain⟨m,rfl⟩:=A;refine⟨⟨x,y,z,j,i,m,n,g,B,v,l,hz,C⟩,⟨_,g⟩,λJ K q D=>?_⟩;obtain⟨x,y,z,j,i,m,n,g,r⟩:=q;exact⟨x,y,z,j,i,m,n,D _ g,r⟩
 .rw[Au s]at f;have p:∀d u,H d=A0 u->(∀t,u≠.lst t)->d≠b:=λd u q G z=>by subst z;rw[e]at q;cases q;exact G _ rfl
  exact(a c o f).stay (λ_ _ _ q=>q) (λd q=>by rw[Au (p d _ q λ_ z=>by cases z)];exact q) λd t q=>by rw[Au (p d _ q λ_ z=>by cases z)];exact q
theorem YC{P:AA}{w:AK}{H:Hp}{h:AJ}{b:A4}{k:Nat}(a:HOk P w H h)(e:H b=A0 (BV b k)):∃x y z:Int,0<=x/\0<=y/\y<2^62/\0<=z/\z<=k/\HOk P w (upd H b (C1 x y z)) h:=by
 obtain⟨⟨x,y,z,t,p,v,n,g,r,m,i,C,s⟩,_,_⟩:=(show B0 P w H h b (.ext _)from a b _ e);refine⟨x,y,z,r,m,i,C,s,λc o f=>?_⟩;by_cases l:c=b;.subst l;rw[Aw]at f;cases f;exact⟨by show 3<=A7;decide,[.int x t,.int y p,.int z v],n,.cons ⟨_,rfl⟩ (.cons ⟨_,rfl⟩ (.cons ⟨_,rfl⟩ .nil)),g⟩
 .rw[Au l]at f;have j:∀d u,H d=A0 u->(∀B,u≠.ext B)->d≠b:=λd u q A z=>by subst z;rw[e]at q;cases q;exact A _ rfl
  exact(a c o f).stay (λ_ _ _ q=>q) (λd q=>by rw[Au (j d _ q λ_ z=>by cases z)];exact q) λd D q=>by rw[Au (j d _ q λ_ z=>by cases z)];exact q
theorem YD{g i:List A4}{H H':Hp}{h h':AJ}{b:A4}{xs:List V}{o:HO}(u:Un g i H H' h h')(e:H' b=A0 (.lst xs)):Un g i H (upd H' b o) h h' where
 keep:=u.keep
 slot:=u.slot
 free:=λc d q n j=>by have z:=u.free c d q n j;rw[Au (λa=>by subst a;rw[e]at z;cases z)];exact z
 there:=u.there
 tups:=λc f q=>by have z:=u.tups c f q;rw[Au (λa=>by subst a;rw[e]at z;cases z)];exact z
 frzs:=λc d f q=>by have z:=u.frzs c d f q;rw[Au (λa=>by subst a;rw[e]at z;cases z)];exact z
 tbls:=λc l q=>by obtain⟨m,z⟩:=u.tbls c l q;exact⟨m,by rw[Au (λa=>by subst a;rw[e]at z;cases z)];exact z⟩
theorem YE{i j:List A4}{H H':Hp}{h h':AJ}{b:A4}{p:AJ->Prop}{o:HO}(u:Un i j (upd H b o) H' h h')(e:H b=A0 (.ext p)):Un i j H H' h h':=by
 have f:∀c,H c=A5->c≠b:=λc n z=>by subst z;rw[e]at n;cases n
 have d:∀c v,H c=A0 v->(∀l,v≠.ext l)->c≠b:=λc v q nv z=>by subst z;rw[e]at q;cases q;exact nv _ rfl
 exact⟨λc a q n=>u.keep c a q (by rw[Au (f c n)];exact n),λc a q n=>u.slot c a q (by rw[Au (f c n)];exact n),λc a q n=>u.free c a q (by rw[Au (f c n)];exact n),u.there,
  λc g q=>u.tups c g (by rw[Au (d c _ q λ_ z=>by cases z)];exact q),λc a g q=>u.frzs c a g (by rw[Au (d c _ q λ_ z=>by cases z)];exact q),λc m q=>u.tbls c m (by rw[Au (d c _ q λ_ z=>by cases z)];exact q)⟩
section
variable{P:AA}{w:AK}{K:W.Frag}{mg:AM->Option A1}{base:AJ}{k:Nat}{f:A4}{fd:Aq}{ps:List AM}{sp sp':Sp}
def OO(Q:VK)(v:V)(H:Hp):Prop:=∃b x y z m,H b=A0 (C1 x y z)/\0<=x/\0<=y/\y<2^62/\0<=z/\z<=((m:Nat):Int)/\Q v (upd H b (BV b m))
theorem OP(F:FnOk P w K mg base CX0 k f fd ps sp)(h:∀d H Q E,sp' d H Q E->sp d H (OO Q) E):FnOk P w K mg base CX0 k f fd ps sp':=by
 refine⟨λd H Q E q=>F.len d H _ E (h _ _ _ _ q),λA a s H j p d Q E L N B I O=>?_⟩;refine Ag (F.run A a s H j p d _ E L N B I (h _ _ _ _ O)) λr U i=>?_;cases r with
 |error e=>exact i
 |ok M=>
  cases M with
  |next=>exact i
  |brk=>exact i
  |cont=>exact i
  |ret u=>obtain⟨v,T,J,g,R,n,S,b,x,y,z,m,o,C,t,l,G,D,q⟩:=i;exact⟨v,_,J,g,YD R o,YB n o C t l G D,S,q⟩
theorem YF(F:FnOk P w K mg base CX0 k f fd ps sp)(h:∀g H Q E,sp' g H Q E->∃b n,H b=A0 (BV b n)/\∀x y z,0<=x->0<=y->y<2^62->0<=z->z<=((n:Nat):Int)->sp g (upd H b (C1 x y z)) Q E)(len:∀g H Q E,sp' g H Q E->g.length=ps.length):FnOk P w K mg base CX0 k f fd ps sp':=by
 refine⟨len,λA a s H j C g Q E R d G N X=>?_⟩;obtain⟨b,n,p,l⟩:=h _ _ _ _ X;obtain⟨x,y,z,I,D,m,Y,U,hok⟩:=YC d.hok p;have t:∀c,H c=A5->c≠b:=λc n z=>by subst z;rw[p]at n;cases n
 have L:Env0 P w K mg base A a s (upd H b (C1 x y z)):=⟨d.frames,d.mod,λc o e=>⟨(d.bs c o e).1,by rw[Au (t c (d.bs c o e).2)];exact(d.bs c o e).2⟩,d.bsz,d.funs,λc B=>by rw[Au (t c (d.frf c B))];exact d.frf c B,hok,d.bare⟩;refine Ag (F.run A a s _ j C g Q E R L G N (l x y z I D m Y U)) λr Z i=>?_;cases r with
 |error e=>exact i
 |ok S=>
  cases S with
  |next=>exact i
  |brk=>exact i
  |cont=>exact i
  |ret u=>obtain⟨v,J,O,bare,T,hok,M,q⟩:=i;exact⟨v,J,O,bare,YE T p,hok,M,q⟩
end
structure Go(c:Nat)(H H':Hp):Prop where
 box:∀a n,H a=A0 (BV a n)->∃m,m<=n+c/\H' a=A0 (BV a m)
 oth:∀a o,H a=A0 o->(∀φ,o≠.ext φ)->H' a=A0 o
 free:∀a,H' a=A5->H a=A5
theorem Go.of_same{c:Nat}{H H':Hp}(h:As H H'):Go c H H':=⟨λa n e=>⟨n,⋯,h a _ e⟩,λa o e _=>h a o e,λa e=>h.free e⟩
theorem Go.refl{c:Nat}{H:Hp}:Go c H H:=.of_same (As.refl H)
theorem Go.trans{c d:Nat}{H f h:Hp}(a:Go c H f)(b:Go d f h):Go (c+d) H h:=⟨λp n e=>by obtain⟨m,r,j⟩:=a.box p n e;obtain⟨l,i,q⟩:=b.box p m j;exact⟨l,⋯,q⟩,λp o e g=>b.oth p o (a.oth p o e g) g,λp e=>a.free p (b.free p e)⟩
theorem Go.mono{c d:Nat}{H b:Hp}(a:Go c H b)(h:c<=d):Go d H b:=⟨λp n e=>by obtain⟨m,g,f⟩:=a.box p n e;exact⟨m,⋯,f⟩,a.oth,a.free⟩
theorem Go.lst{c:Nat}{H b:Hp}(a:Go c H b){p:A4}{xs:List V}(e:H p=A0 (.lst xs)):b p=A0 (.lst xs):=a.oth p _ e λ_ z=>by cases z
theorem Go.tup{c:Nat}{H b:Hp}(a:Go c H b){p:A4}{xs:List V}(e:H p=A0 (.tup xs)):b p=A0 (.tup xs):=a.oth p _ e λ_ z=>by cases z
theorem Go.seq{c:Nat}{K:W.Frag}{H b:Hp}(g:Go c H b){a:A4}{xs:List V}(h:SqL K H a xs):SqL K b a xs:=by
 rcases h with(h|⟨o,h⟩)|h;.exact .inl (.inl (g.lst h))
 .exact .inl (.inr ⟨o,g.oth _ _ h λ_ z=>by cases z⟩)
 .exact .inr h
theorem Go.new{c:Nat}{H:Hp}{p:A4}(h:H p=A5)(o:HO):Go c H (upd H p o):=.of_same λb u q=>by rw[Au (Bb q h)];exact q
theorem Go.draw{H:Hp}{b:A4}{n m:Nat}(e:H b=A0 (BV b n))(h:m<=n+1)(o:HO):Go 1 H (upd (upd H b o) b (BV b m)):=by
 rw[Fd];refine⟨λp k q=>?_,λp u q d=>?_,λp q=>?_⟩
 .by_cases a:p=b;.subst a;rw[e]at q;have:=YA (Option.some.inj q);exact⟨m,⋯,Aw⟩
  .exact⟨k,⋯,by rw[Au a];exact q⟩
 .rw[Au];.exact q
  .intro z;subst z;rw[e]at q;cases q;exact d _ rfl
 .by_cases a:p=b;.subst a;rw[Aw]at q;cases q
  .rw[Au a]at q;exact q
section
variable{C:Rc}{σ:L2.St}{H:Hp}{Q:VK}{D:Ends}{Qb:Bool->Hp->Prop}
def kV(o:Option (Option V))(H:Hp)(Q:VK):Prop:=∃v,o=A0 (A0 v)/\Q v H
theorem YG{v:V}:kV (A0 (A0 v)) H Q=Q v H:=propext ⟨λ⟨u,e,q⟩=>by cases e;exact q,λq=>⟨v,rfl,q⟩⟩
theorem YH{i:Nat}:tE C (.var i) σ H Q=kV σ[i]? H Q:=rfl
theorem Ji{n:Int}:tE C (.int n) σ H Q=Q (.int n) H:=rfl
theorem YI{b:Bool}:tE C (.bl b) σ H Q=Q (.bl b) H:=rfl
theorem YJ:tE C .non σ H Q=Q .non H:=rfl
theorem YK{x:AM}:tE C (.str x) σ H Q=Q (.str x) H:=rfl
theorem YL{x:String}:tE C (.ty x) σ H Q=Q (.ty x) H:=rfl
def kB1(C:Rc)(σ:L2.St)(op:Operator)(b:Ce)(Q:VK):VK:=λx H=>tE C b σ H λy a=>Bs C.K op x y a Q
def kB2(C:Rc)(op:Operator)(x:V)(Q:VK):VK:=λy H=>Bs C.K op x y H Q
theorem YM{op:Operator}{a b:Ce}:tE C (.bin op a b) σ H Q=tE C a σ H (kB1 C σ op b Q):=rfl
theorem YN{op:Operator}{b:Ce}{x:V}:kB1 C σ op b Q x H=tE C b σ H (kB2 C op x Q):=rfl
theorem YO{op:Operator}{x y:V}:kB2 C op x Q y H=Bs C.K op x y H Q:=rfl
def kC1(C:Rc)(σ:L2.St)(op:CmpOp)(b:Ce)(Q:VK):VK:=λx H=>tE C b σ H λy a=>BG C.K op x y a Q
def kC2(C:Rc)(op:CmpOp)(x:V)(Q:VK):VK:=λy H=>BG C.K op x y H Q
theorem YQ{op:CmpOp}{a b:Ce}:tE C (.cmp op a b) σ H Q=tE C a σ H (kC1 C σ op b Q):=rfl
theorem YR{op:CmpOp}{b:Ce}{x:V}:kC1 C σ op b Q x H=tE C b σ H (kC2 C op x Q):=rfl
theorem YS{op:CmpOp}{x y:V}:kC2 C op x Q y H=BG C.K op x y H Q:=rfl
def kI1(C:Rc)(σ:L2.St)(b:Ce)(Q:VK):VK:=λx H=>tE C b σ H λy a=>DC C.K x y a Q
def kI2(C:Rc)(x:V)(Q:VK):VK:=λy H=>DC C.K x y H Q
theorem YT{a b:Ce}:tE C (.idx a b) σ H Q=tE C a σ H (kI1 C σ b Q):=rfl
theorem YU{b:Ce}{x:V}:kI1 C σ b Q x H=tE C b σ H (kI2 C x Q):=rfl
theorem YV{x y:V}:kI2 C x Q y H=DC C.K x y H Q:=rfl
def OQ(Q:VK):VK:=λx H=>rU (λi=>.int (-i)) x H Q
theorem YW{a:Ce}:tE C (.neg a) σ H Q=tE C a σ H (OQ Q):=rfl
theorem YX{i:Int}:OQ Q (.int i) H=Q (.int (-i)) H:=propext ⟨λ⟨u,e,q⟩=>by cases e;exact q,λq=>⟨i,rfl,q⟩⟩
def kT(Qb:Bool->Hp->Prop):VK:=λx H=>∃k,x=.bl k/\Qb k H
theorem YY{k:Bool}:kT Qb (.bl k) H=Qb k H:=propext ⟨λ⟨u,e,q⟩=>by cases e;exact q,λq=>⟨k,rfl,q⟩⟩
theorem YZ{op:CmpOp}{a b:Ce}:tQ C (.cmp op a b) σ H Qb=tE C a σ H (kC1 C σ op b (kT Qb)):=rfl
def OR(Qb:Bool->Hp->Prop):Bool->Hp->Prop:=λc H=>Qb (!c) H
theorem Ya{q:Cq}:tQ C (.not q) σ H Qb=tQ C q σ H (OR Qb):=rfl
theorem Yb{c:Bool}:OR Qb c H=Qb (!c) H:=rfl
def Jj(C:Rc)(σ:L2.St)(b:Cq)(Qb:Bool->Hp->Prop):Bool->Hp->Prop:=λc H=>if c=A2 then tQ C b σ H Qb else Qb A6 H
def Jk(C:Rc)(σ:L2.St)(b:Cq)(Qb:Bool->Hp->Prop):Bool->Hp->Prop:=λc H=>if c=A2 then Qb A2 H else tQ C b σ H Qb
theorem Yc{a b:Cq}:tQ C (.and a b) σ H Qb=tQ C a σ H (Jj C σ b Qb):=rfl
theorem Yd{a b:Cq}:tQ C (.or a b) σ H Qb=tQ C a σ H (Jk C σ b Qb):=rfl
theorem Ye{b:Cq}:Jj C σ b Qb A2 H=tQ C b σ H Qb:=rfl
theorem Yg{b:Cq}:Jj C σ b Qb A6 H=Qb A6 H:=rfl
theorem Yh{b:Cq}:Jk C σ b Qb A2 H=Qb A2 H:=rfl
theorem Yi{b:Cq}:Jk C σ b Qb A6 H=tQ C b σ H Qb:=rfl
variable{K:W.Frag}{i j:Int}{x y:AM}
theorem Yj:Bs K .Add (.int i) (.int j) H Q=Q (.int (i+j)) H:=rfl
theorem Yk:Bs K .Add (.str x) (.str y) H Q=(x.length+y.length<=A7/\Q (.str (x++y)) H):=rfl
theorem Yl:Bs K .Sub (.int i) (.int j) H Q=Q (.int (i-j)) H:=propext ⟨λ⟨_,_,e,a,q⟩=>by cases e;cases a;exact q,λq=>⟨_,_,rfl,rfl,q⟩⟩
theorem Ym:Bs K .Mult (.int i) (.int j) H Q=(NV i j/\Q (.int (i*j)) H):=rfl
theorem Yn:Bs K .Mult (.str x) (.int j) H Q=(-1000000<=j/\j<=1000000/\x.length*j.toNat<=1000000/\Q (.str (Txt.mul x j)) H):=rfl
theorem Yo:Bs K .Mod (.int i) (.int j) H Q=(0<j/\Q (.int (i%j)) H):=propext ⟨λ⟨_,_,e,a,c,q⟩=>by cases e;cases a;exact⟨c,q⟩,λq=>⟨_,_,rfl,rfl,q.1,q.2⟩⟩
theorem Yp:Bs K .FloorDiv (.int i) (.int j) H Q=(NU i j/\Q (.int (i/j)) H):=propext ⟨λ⟨_,_,e,a,c,q⟩=>by cases e;cases a;exact⟨c,q⟩,λq=>⟨_,_,rfl,rfl,q.1,q.2⟩⟩
theorem Yq:Bs K .Pow (.int i) (.int j) H Q=(I0 i j/\Q (.int (i^j.toNat)) H):=propext ⟨λ⟨_,_,e,a,c,q⟩=>by cases e;cases a;exact⟨c,q⟩,λq=>⟨_,_,rfl,rfl,q.1,q.2⟩⟩
theorem Yr:BG K .Lt (.int i) (.int j) H Q=Q (.bl (decide (i<j))) H:=propext ⟨λ⟨_,_,e,a,q⟩=>by cases e;cases a;exact q,λq=>⟨_,_,rfl,rfl,q⟩⟩
theorem Ys:BG K .LtE (.int i) (.int j) H Q=Q (.bl (decide (i<=j))) H:=propext ⟨λ⟨_,_,e,a,q⟩=>by cases e;cases a;exact q,λq=>⟨_,_,rfl,rfl,q⟩⟩
theorem Yt:BG K .Gt (.int i) (.int j) H Q=Q (.bl (decide (j<i))) H:=propext ⟨λ⟨_,_,e,a,q⟩=>by cases e;cases a;exact q,λq=>⟨_,_,rfl,rfl,q⟩⟩
theorem Yu:BG K .GtE (.int i) (.int j) H Q=Q (.bl (decide (j<=i))) H:=propext ⟨λ⟨_,_,e,a,q⟩=>by cases e;cases a;exact q,λq=>⟨_,_,rfl,rfl,q⟩⟩
theorem Yv:BG K .Eq (.int i) (.int j) H Q=Q (.bl (decide (i=j))) H:=by
 have e:decide (V.int i=V.int j)=decide (i=j):=by simp
 exact propext ⟨λq=>e▸q.2,λq=>⟨rfl,e.symm▸q⟩⟩
theorem Yw:BG K .Eq (.str x) (.str y) H Q=Q (.bl (decide (x=y))) H:=by
 have e:decide (V.str x=V.str y)=decide (x=y):=by simp
 exact propext ⟨λq=>e▸q.2,λq=>⟨rfl,e.symm▸q⟩⟩
theorem Yx{a:A4}:DC K (.ref a) (.int i) H Q=(CI K (.ref a) (.int i) H Q\/CJ K (.ref a) (.int i) H Q):=rfl
def DV(C:Rc)(r:Css)(D:Ends):Ends:={D with nx:=tSs C r D}
theorem Yy:tSs C .nil D σ H=D.nx σ H:=rfl
theorem Jl{s:Cs}{r:Css}:tSs C (.cons s r) D σ H=tS C s (DV C r D) σ H:=rfl
theorem GZ{r:Css}:(DV C r D).nx σ H=tSs C r D σ H:=rfl
theorem Yz{r:Css}:(DV C r D).rt=D.rt:=rfl
theorem Y_{r:Css}:(DV C r D).bk=D.bk:=rfl
theorem Z0{r:Css}:(DV C r D).ct=D.ct:=rfl
theorem OS{e:Ce}:tS C (.ret e) D σ H=tE C e σ H D.rt:=rfl
def OT(D:Ends)(σ:L2.St):VK:=λ_ H=>D.nx σ H
theorem Z1{e:Ce}:tS C (.expr e) D σ H=tE C e σ H (OT D σ):=rfl
theorem Z2{v:V}:OT D σ v H=D.nx σ H:=rfl
def OU(i:Nat)(D:Ends)(σ:L2.St):VK:=λx H=>D.nx (σ.set i (A0 x)) H
theorem Z3{i:Nat}{e:Ce}:tS C (.asg (.name i) e) D σ H=tE C e σ H (OU i D σ):=rfl
theorem Z4{i:Nat}{v:V}:OU i D σ v H=D.nx (σ.set i (A0 v)) H:=rfl
def OV(C:Rc)(o i:Ce)(D:Ends)(σ:L2.St):VK:=λv H=>tE C o σ H λp a=>tE C i σ a λk d=>D9 p k v d λb=>D.nx σ b
def OW(C:Rc)(i:Ce)(v:V)(D:Ends)(σ:L2.St):VK:=λp a=>tE C i σ a λk d=>D9 p k v d λb=>D.nx σ b
def OX(p v:V)(D:Ends)(σ:L2.St):VK:=λk b=>D9 p k v b λa=>D.nx σ a
theorem Z5{o i e:Ce}:tS C (.asg (.sub o i) e) D σ H=tE C e σ H (OV C o i D σ):=rfl
theorem Z6{o i:Ce}{v:V}:OV C o i D σ v H=tE C o σ H (OW C i v D σ):=rfl
theorem Z7{i:Ce}{v p:V}:OW C i v D σ p H=tE C i σ H (OX p v D σ):=rfl
theorem Z8{v p k:V}:OX p v D σ k H=D9 p k v H (D.nx σ):=rfl
def kIf(C:Rc)(a b:Css)(D:Ends)(σ:L2.St):Bool->Hp->Prop:=λc H=>if c=A2 then tSs C a D σ H else tSs C b D σ H
theorem Z9{q:Cq}{a b:Css}:tS C (.ite q a b) D σ H=tQ C q σ H (kIf C a b D σ):=rfl
theorem ZA{a b:Css}:kIf C a b D σ A2 H=tSs C a D σ H:=rfl
theorem OY{a b:Css}:kIf C a b D σ A6 H=tSs C b D σ H:=rfl
theorem Bu{p:Prop} [Decidable p]{F:Bool->Hp->Prop}(h1:p->F A2 H)(a:¬p->F A6 H):F (decide p) H:=by
 by_cases h:p;.rw[decide_eq_true h];exact h1 h
 .rw[decide_eq_false h];exact a h
end
section
variable{C:Rc}{σ:L2.St}{H:Hp}{Q:VK}{D:Ends}{Qb:Bool->Hp->Prop}{Qs:List V->Hp->Prop}
def kA1(C:Rc)(σ:L2.St)(r:Ces)(Qs:List V->Hp->Prop):VK:=λx H=>tA C r σ H λa b=>Qs (x::a) b
def kA2(x:V)(Qs:List V->Hp->Prop):List V->Hp->Prop:=λa H=>Qs (x::a) H
theorem ZB:tA C .nil σ H Qs=Qs [] H:=rfl
theorem ZC{e:Ce}{r:Ces}:tA C (.cons e r) σ H Qs=tE C e σ H (kA1 C σ r Qs):=rfl
theorem ZD{r:Ces}{x:V}:kA1 C σ r Qs x H=tA C r σ H (kA2 x Qs):=rfl
theorem ZE{x:V}{xs:List V}:kA2 x Qs xs H=Qs (x::xs) H:=rfl
def Ga(Q:VK):List V->Hp->Prop:=λa H=>a.length<=A7/\∀p,H p=A5->Q (.ref p) (upd H p (.tup a))
def OZ(Q:VK):List V->Hp->Prop:=λa H=>a.length<=A7/\∀p,H p=A5->Q (.ref p) (upd H p (.lst a))
theorem ZF{es:Ces}:tE C (.tup es) σ H Q=tA C es σ H (Ga Q):=rfl
theorem ZG{es:Ces}:tE C (.lst es) σ H Q=tA C es σ H (OZ Q):=rfl
theorem ZH{xs:List V}:Ga Q xs H=(xs.length<=A7/\∀p,H p=A5->Q (.ref p) (upd H p (.tup xs))):=rfl
theorem ZI{xs:List V}:OZ Q xs H=(xs.length<=A7/\∀p,H p=A5->Q (.ref p) (upd H p (.lst xs))):=rfl
def Jm(o:Option Sp)(E:XK)(Q:VK):List V->Hp->Prop:=λb H=>match o with
 |A0 a=>a (b++[]) H Q E
 |A5=>False
theorem ZJ{f:AM}{es:Ces}{sp:Sp}(h:C.fs f=A0 sp):tE C (.call f es) σ H Q=tA C es σ H (Jm (A0 sp) (C.xk σ) Q):=by show(match C.fs f with|A0 sp=>Fj sp [] (C.xk σ) (tA C es) σ H Q|A5=>False)=_;rw[h];rfl
theorem ZK{sp:Sp}{E:XK}{vs:List V}:Jm (A0 sp) E Q vs H=sp vs H Q E:=by show sp (vs++[]) H Q E=_;rw[de]
def Jn(C:Rc)(f:Bf)(Q:VK):List V->Hp->Prop:=λa H=>BJ C.K f a H Q
theorem ZL{f:Bf}{es:Ces}:tE C (.blt f es) σ H Q=tA C es σ H (Jn C f Q):=rfl
theorem ZM{f:Bf}{vs:List V}:Jn C f Q vs H=BJ C.K f vs H Q:=rfl
def Oa(C:Rc)(σ:L2.St)(m:Mf)(es:Ces)(Q:VK):VK:=λx H=>tyV C.K (DS m) x H/\tA C es σ H λa b=>D3 C.K m x a b Q
def Ob(C:Rc)(m:Mf)(x:V)(Q:VK):List V->Hp->Prop:=λa H=>D3 C.K m x a H Q
theorem ZN{m:Mf}{o:Ce}{es:Ces}:tE C (.met m o es) σ H Q=tE C o σ H (Oa C σ m es Q):=rfl
theorem ZO{m:Mf}{es:Ces}{x:V}:Oa C σ m es Q x H=(tyV C.K (DS m) x H/\tA C es σ H (Ob C m x Q)):=rfl
theorem ZP{m:Mf}{x:V}{xs:List V}:Ob C m x Q xs H=D3 C.K m x xs H Q:=rfl
def Jo(C:Rc)(σ:L2.St)(a b:Ce)(Q:VK):Bool->Hp->Prop:=λc H=>if c=A2 then tE C a σ H Q else tE C b σ H Q
theorem ZQ{q:Cq}{a b:Ce}:tE C (.ife q a b) σ H Q=tQ C q σ H (Jo C σ a b Q):=rfl
theorem ZR{a b:Ce}:Jo C σ a b Q A2 H=tE C a σ H Q:=rfl
theorem ZS{a b:Ce}:Jo C σ a b Q A6 H=tE C b σ H Q:=rfl
def Oc(Q:VK):VK:=λx H=>∃c,x=.bl c/\Q (.bl (!c)) H
theorem ZT{a:Ce}:tE C (.not a) σ H Q=tE C a σ H (Oc Q):=rfl
theorem ZU{c:Bool}:Oc Q (.bl c) H=Q (.bl (!c)) H:=propext ⟨λ⟨u,e,q⟩=>by cases e;exact q,λq=>⟨c,rfl,q⟩⟩
def Od(C:Rc)(σ:L2.St)(b:Ce)(Q:VK):VK:=λx H=>∃c,x=.bl c/\if c=A2 then tE C b σ H Q else Q (.bl A6) H
def Jp(C:Rc)(σ:L2.St)(b:Ce)(Q:VK):VK:=λx H=>∃c,x=.bl c/\if c=A2 then Q (.bl A2) H else tE C b σ H Q
theorem ZV{a b:Ce}:tE C (.and a b) σ H Q=tE C a σ H (Od C σ b Q):=rfl
theorem Oe{a b:Ce}:tE C (.or a b) σ H Q=tE C a σ H (Jp C σ b Q):=rfl
theorem ZW{b:Ce}:Od C σ b Q (.bl A2) H=tE C b σ H Q:=propext ⟨λ⟨u,e,q⟩=>by cases e;exact q,λq=>⟨_,rfl,q⟩⟩
theorem Of{b:Ce}:Jp C σ b Q (.bl A2) H=Q (.bl A2) H:=propext ⟨λ⟨u,e,q⟩=>by cases e;exact q,λq=>⟨_,rfl,q⟩⟩
theorem Og{b:Ce}:Jp C σ b Q (.bl A6) H=tE C b σ H Q:=propext ⟨λ⟨u,e,q⟩=>by cases e;exact q,λq=>⟨_,rfl,q⟩⟩
def Jq(C:Rc)(Qb:Bool->Hp->Prop):VK:=λx H=>∃k,Ed C.K x H k/\Qb k H
theorem ZX{e:Ce}:tQ C (.val e) σ H Qb=tE C e σ H (Jq C Qb):=rfl
theorem ZY{b:Bool}:Jq C Qb (.bl b) H=Qb b H:=propext ⟨λ⟨u,e,q⟩=>by have e:u=b:=e;subst e;exact q,λq=>⟨b,rfl,q⟩⟩
def Oh(C:Rc)(σ:L2.St)(a hi:Co)(Q:VK):VK:=λx H=>tO C a σ H λl b=>tO C hi σ b λu d=>rSl C.K x l u d Q
def Oi(C:Rc)(σ:L2.St)(hi:Co)(x:V)(Q:VK):Option Int->Hp->Prop:=λl H=>tO C hi σ H λu a=>rSl C.K x l u a Q
def Oj(C:Rc)(x:V)(l:Option Int)(Q:VK):Option Int->Hp->Prop:=λu H=>rSl C.K x l u H Q
theorem ZZ{a:Ce}{b hi:Co}:tE C (.cut a b hi) σ H Q=tE C a σ H (Oh C σ b hi Q):=rfl
theorem Za{a hi:Co}{x:V}:Oh C σ a hi Q x H=tO C a σ H (Oi C σ hi x Q):=rfl
theorem Zb{hi:Co}{x:V}{l:Option Int}:Oi C σ hi x Q l H=tO C hi σ H (Oj C x l Q):=rfl
theorem Zc{x:V}{l u:Option Int}:Oj C x l Q u H=rSl C.K x l u H Q:=rfl
variable{Qo:Option Int->Hp->Prop}
def Ol(Qo:Option Int->Hp->Prop):VK:=λx H=>∃i,x=.int i/\Qo (A0 i) H
theorem Zd:tO C .none σ H Qo=Qo A5 H:=rfl
theorem Ze{e:Ce}:tO C (.some e) σ H Qo=tE C e σ H (Ol Qo):=rfl
theorem Zg{i:Int}:Ol Qo (.int i) H=Qo (A0 i) H:=propext ⟨λ⟨u,e,q⟩=>by cases e;exact q,λq=>⟨i,rfl,q⟩⟩
theorem Zh{K:W.Frag}{a:A4}{l u:Option Int}:rSl K (.ref a) l u H Q=(Fl K (.ref a) l u H Q\/Fk K (.ref a) l u H Q\/GC K (.ref a) l u H Q):=rfl
def Om(i:Nat)(sub:Bool)(x:V)(D:Ends)(σ:L2.St):VK:=λy H=>∃a b,x=.int a/\y=.int b/\D.nx (σ.set i (A0 (.int (if sub then a-b else a+b)))) H
theorem On{i:Nat}{sub:Bool}{e:Ce}{a:Int}(h:σ[i]?=A0 (A0 (.int a))):tS C (.aug i sub e) D σ H=tE C e σ H (Om i sub (.int a) D σ):=by show(∃x,σ[i]?=A0 (A0 x)/\tE C e σ H λy b=>(ipI λi j=>if sub then i-j else i+j) x y b λz d=>D.nx (σ.set i (A0 z)) d)=_;rw[h];exact propext ⟨λ⟨x,e,q⟩=>by cases e;exact q,λq=>⟨_,rfl,q⟩⟩
theorem Zi{i:Nat}{sub:Bool}{a b:Int}:Om i sub (.int a) D σ (.int b) H=D.nx (σ.set i (A0 (.int (if sub then a-b else a+b)))) H:=propext ⟨λ⟨_,_,e,d,q⟩=>by cases e;cases d;exact q,λq=>⟨_,_,rfl,rfl,q⟩⟩
end
def cb(b:Bool):Nat:=if b then 49 else 48
def tx(l:List Bool):AM:=⟨(l.map cb).toArray⟩
theorem Zj{a b:Bool}(h:cb a=cb b):a=b:=by cases a<;>cases b<;>first|rfl|cases h
theorem Zk{a b:List Bool}(h:tx a=tx b):a=b:=by
 have d:(a.map cb).toArray=(b.map cb).toArray:=congrArg AM.cps h;have e:a.map cb=b.map cb:=by simpa using d
 exact List.map_inj_right (f:=cb) (λx y=>Zj)|>.mp e
theorem CN{a:List Bool}:(tx a).length=a.length:=by show(a.map cb).toArray.size=_;simp
theorem FC{a:List Bool}:(tx a).cps.toList=a.map cb:=rfl
theorem FD{a:List Bool}:(tx a).cps.size=a.length:=by show(a.map cb).toArray.size=_;simp
theorem Jr{a:List Bool}{i:Nat}:(tx a).cps[i]?=a[i]?.map cb:=by show(a.map cb).toArray[i]?=_;simp
theorem Gb{a b:List Bool}:tx a++tx b=tx (a++b):=by show(⟨(a.map cb).toArray++(b.map cb).toArray⟩:AM)=⟨((a++b).map cb).toArray⟩;simp
theorem Zl:(PySem.Str.ofString "01")=tx [A6,A2]:=⋯
theorem Zm:(PySem.Str.ofString "10")=tx [A2,A6]:=⋯
theorem Zn:(PySem.Str.ofString "0")=tx [A6]:=⋯
theorem Zo:(PySem.Str.ofString "1")=tx [A2]:=⋯
theorem Zp:(PySem.Str.ofString "")=tx []:=⋯
theorem Oo{c:Bool}:PySem.intText? (tx [c])=A0 (if c then 1 else 0):=by cases c<;>decide+kernel
set_option tactic.hygienic true in
theorem Op{a:List Bool}{n:Nat}:Txt.mul (tx a) n=tx (aL n a).flatten:=by
 unfold Txt.mul;have key:∀(n:Nat)(acc:List Bool),(aL n (tx a).cps).foldl (·++·) (tx acc).cps=(tx (acc++(aL n a).flatten)).cps:=by
  intro n;induction n with
  |zero=>intro acc;simp
  |succ n ih=>intro acc;rw[cg,List.foldl_cons];have e:(tx acc).cps++(tx a).cps=(tx (acc++a)).cps:=congrArg AM.cps (Gb (a:=acc) (b:=a));rw[e,ih,cg,dl,aQ]
 split
 .have:n=0:=by omega
  subst this;rfl
 .split
  .rename_i h1 h2;simp only[aR,beq_iff_eq]at h2;rcases h2 with h2|h2
   .have:n=1:=by omega
    subst this;simp
   .rw[CN]at h2;have e:a=[]:=cR.mp h2;subst e;congr 1;induction n with
    |zero=>rfl
    |succ n ih=>simp
  .have:=key n [];show(⟨_⟩:AM)=_;simp only[bb];exact congrArg AM.mk (this.trans (by rw[df];rfl))
theorem Oq{a:List Bool}{n:Nat}(h:n<=a.length):Txt.slice (tx a) A5 (A0 (n:Int))=tx (a.take n):=by have e:=slice_closes_to (x:=tx a) (j:=n) ⟨⋯,by rw[FC,af];omega⟩;rw[eq_of_beq e,FC];simp[tx,List.map_take]
theorem Zq{a:List Bool}{n:Nat}(h:n<=a.length):Txt.slice (tx a) (A0 (n:Int)) A5=tx (a.drop n):=by
 have e:=slice_closes_from (x:=tx a) (i:=n) ⟨⋯,by rw[FC,af];omega⟩;rw[eq_of_beq e,FC];have b:((List.map cb a).length:Int)-(n:Int)=((a.length-n:Nat):Int):=by rw[af];omega
 rw[b];simp only[bb,tx,List.map_drop];rw[br (by simp)]
theorem BW{N:List AM}{vs:List V}{n:Nat}(h:N.length=n):L2.BA N vs=vs.map A0++aL (n-vs.length) A5:=by subst h;rfl
section
variable{C:Rc}{σ:L2.St}{H:Hp}{Q:VK}{D:Ends}{Qb:Bool->Hp->Prop}
theorem Zr{i:Nat}{v:V}{R:L2.St->Hp->Prop}:tG C (.name i) v σ H R=R (σ.set i (A0 v)) H:=rfl
theorem Do{i j:Nat}{a:A4}{x y:V}{R:L2.St->Hp->Prop}(h:SqT C.K H a [x,y])(q:R ((σ.set i (A0 x)).set j (A0 y)) H):tG C (.tup (.cons (.name i) (.cons (.name j) .nil))) (.ref a) σ H R:=
 ⟨a,[x,y],rfl,.inl h,rfl,_,_,rfl,_,_,rfl,rfl,q⟩
theorem Zs{i j k:Nat}{a:A4}{x y z:V}{R:L2.St->Hp->Prop}(h:SqT C.K H a [x,y,z])(q:R (((σ.set i (A0 x)).set j (A0 y)).set k (A0 z)) H):tG C (.tup (.cons (.name i) (.cons (.name j) (.cons (.name k) .nil)))) (.ref a) σ H R:=
 ⟨a,[x,y,z],rfl,.inl h,rfl,_,_,rfl,_,_,rfl,_,_,rfl,rfl,q⟩
def DW(C:Rc)(t:Ct)(b:Css)(D:Ends)(σ:L2.St)(J:It)(g:Hp):Prop:=∃W:Nat->Nat->L2.St->Hp->Prop,(∃m,W 0 m σ g)/\∀i m σ H,W i m σ H->
 (J.stop i H/\D.nx σ H)\/(J.go i H/\∃N:L2.St->Hp->Prop,(∀a d,N a d->∃f,f<m/\W (i+1) f a d)/\∀x d,J.yld i H x d->tG C t x σ d λe h=>tSs C b {D with nx:=N,ct:=N,bk:=D.nx} e h)
theorem Zt{t:Ct}{it:Ci}{b:Css}:tS C (.for_ t it b) D σ H=tI C it σ H (DW C t b D σ):=rfl
def kIv(C:Rc)(R:It->Hp->Prop):VK:=λx b=>
 (∃a,x=.ref a/\(∃d,SqL C.K b a d)/\R (Itl C.K a) b)\/(∃a,x=.ref a/\(∃d,SqT C.K b a d)/\R (Itt C.K a) b)\/∃z,x=.str z/\R (Its z) b
theorem Zu{e:Ce}{R:It->Hp->Prop}:tI C (.val e) σ H R=tE C e σ H (kIv C R):=rfl
def kR1(R:It->Hp->Prop):VK:=λx a=>∃j:Int,x=.int j/\-(2^62)<=j/\j<2^62/\R (Itr 0 j.toNat) a
theorem Zv{e:Ce}{R:It->Hp->Prop}:tI C (.range1 e) σ H R=tE C e σ H λx a=>∃j:Int,[x]=[.int j]/\-(2^62)<=j/\j<2^62/\R (Itr 0 j.toNat) a:=rfl
theorem Zw{e:Ce}{R:It->Hp->Prop}:tI C (.range1 e) σ H R=tE C e σ H (kR1 R):=by rw[Zv];congr 1;funext x a;unfold kR1;simp only[List.cons.injEq,and_true]
def Gc(R:It->Hp->Prop)(x:V):VK:=λy a=>∃i j:Int,x=.int i/\y=.int j/\(-(2^62)<=i/\i<2^62/\-(2^62)<=j/\j<2^62)/\R (Itr i (j-i).toNat) a
def Js(C:Rc)(σ:L2.St)(e:Ce)(R:It->Hp->Prop):VK:=λx a=>tE C e σ a (Gc R x)
theorem Zx{a b:Ce}{R:It->Hp->Prop}:tI C (.range2 a b) σ H R=tE C a σ H (Js C σ b R):=by show(tE C a σ H λx d=>tE C b σ d λy e=>∃i j:Int,[x,y]=[.int i,.int j]/\(-(2^62)<=i/\i<2^62/\-(2^62)<=j/\j<2^62)/\R (Itr i (j-i).toNat) e)=_;congr 1;funext x d;unfold Js;congr 1;funext y e;unfold Gc;simp only[List.cons.injEq,and_true,and_assoc]
theorem Zy{e:Ce}{R:It->Hp->Prop}{x:V}:Js C σ e R x H=tE C e σ H (Gc R x):=rfl
def kZ2(C:Rc)(R:It->Hp->Prop)(x:V):VK:=λy d=>∃(k j:Bool)(a b:A4),x=.ref a/\y=.ref b/\(∃e,Sq k C.K d a e)/\(∃f,Sq j C.K d b f)/\R (E4 k j C.K a b) d
def kZ1(C:Rc)(σ:L2.St)(e:Ce)(R:It->Hp->Prop):VK:=λx a=>tE C e σ a (kZ2 C R x)
theorem Zz{a b:Ce}{R:It->Hp->Prop}:tI C (.zip a b) σ H R=tE C a σ H (kZ1 C σ b R):=by show(tE C a σ H λx e=>tE C b σ e λy d=>∃(k j:Bool)(p q:A4),[x,y]=[.ref p,.ref q]/\(∃f,Sq k C.K d p f)/\(∃g,Sq j C.K d q g)/\R (E4 k j C.K p q) d)=_;congr 1;funext x e;unfold kZ1;congr 1;funext y d;unfold kZ2;simp only[List.cons.injEq,and_true,and_assoc]
theorem Z_{e:Ce}{R:It->Hp->Prop}{x:V}:kZ1 C σ e R x H=tE C e σ H (kZ2 C R x):=rfl
def kEn(C:Rc)(R:It->Hp->Prop):VK:=λx b=>(∃a,x=.ref a/\(∃d,SqL C.K b a d)/\R (Ite C.K a) b)\/(∃z,x=.str z/\R (E5 z) b)\/∃a,x=.ref a/\(∃d,SqT C.K b a d)/\R (Fs C.K a) b
theorem a_{a:Ce}{R:It->Hp->Prop}:tI C (.enum a) σ H R=tE C a σ H (kEn C R):=by show(tE C a σ H λx b=>∃y,[x]=[y]/\((∃a,y=.ref a/\(∃d,SqL C.K b a d)/\R (Ite C.K a) b)\/(∃z,y=.str z/\R (E5 z) b)\/∃a,y=.ref a/\(∃d,SqT C.K b a d)/\R (Fs C.K a) b))=_;congr 1;funext x b;unfold kEn;exact propext ⟨λ⟨y,e,q⟩=>by cases e;exact q,λq=>⟨x,rfl,q⟩⟩
theorem Os{R:It->Hp->Prop}{a:A4}{xs:List V}(h:SqL C.K H a xs)(q:R (Ite C.K a) H):kEn C R (.ref a) H:=.inl ⟨a,rfl,⟨xs,h⟩,q⟩
theorem Ot{R:It->Hp->Prop}{z:AM}(q:R (E5 z) H):kEn C R (.str z) H:=.inr (.inl ⟨z,rfl,q⟩)
theorem Jt{R:It->Hp->Prop}{z:AM}(q:R (Its z) H):kIv C R (.str z) H:=.inr (.inr ⟨z,rfl,q⟩)
theorem CO{R:It->Hp->Prop}{a:A4}{xs:List V}(h:SqL C.K H a xs)(q:R (Itl C.K a) H):kIv C R (.ref a) H:=.inl ⟨a,rfl,⟨xs,h⟩,q⟩
theorem FE{R:It->Hp->Prop}{a:A4}{xs:List V}(h:SqT C.K H a xs)(q:R (Itt C.K a) H):kIv C R (.ref a) H:=.inr (.inl ⟨a,rfl,⟨xs,h⟩,q⟩)
theorem Ju{R:It->Hp->Prop}{j:Int}(h0:-(2^62)<=j)(h1:j<2^62)(q:R (Itr 0 j.toNat) H):kR1 R (.int j) H:=⟨j,rfl,h0,h1,q⟩
theorem Ou{R:It->Hp->Prop}{i j:Int}(h0:-(2^62)<=i)(h1:i<2^62)(b:-(2^62)<=j)(a:j<2^62)(q:R (Itr i (j-i).toNat) H):Gc R (.int i) (.int j) H:=⟨i,j,rfl,rfl,⟨h0,h1,b,a⟩,q⟩
theorem bS{R:It->Hp->Prop}{a b:A4}{xs d:List V}(h:SqL C.K H a xs)(e:SqL C.K H b d)(q:R (Itz A6 C.K a b) H):kZ2 C R (.ref a) (.ref b) H:=⟨A6,A6,a,b,rfl,rfl,⟨xs,h⟩,⟨d,e⟩,q⟩
theorem be{R:It->Hp->Prop}{a b:A4}{xs d:List V}(h:SqT C.K H a xs)(e:SqT C.K H b d)(q:R (Itz A2 C.K a b) H):kZ2 C R (.ref a) (.ref b) H:=⟨A2,A2,a,b,rfl,rfl,⟨xs,h⟩,⟨d,e⟩,q⟩
theorem bz{a:A4}{xs:List V}{t:Ct}{b:Css}(d:Nat->L2.St->Hp->Prop)(h0:d 0 σ H)(g:∀i σ H,i<=xs.length->d i σ H->SqL C.K H a xs)
  (e:∀i x σ H,xs[i]?=A0 x->d i σ H->tG C t x σ H (tSs C b {D with nx:=d (i+1),ct:=d (i+1),bk:=D.nx}))(f:∀σ H,d xs.length σ H->D.nx σ H):DW C t b D σ (Itl C.K a) H:=Re d h0 g e f
theorem Ov{a:A4}{xs:List V}{t:Ct}{b:Css}(d:Nat->L2.St->Hp->Prop)(h0:d 0 σ H)(g:∀i σ H,i<=xs.length->d i σ H->SqT C.K H a xs)
  (e:∀i x σ H,xs[i]?=A0 x->d i σ H->tG C t x σ H (tSs C b {D with nx:=d (i+1),ct:=d (i+1),bk:=D.nx}))(f:∀σ H,d xs.length σ H->D.nx σ H):DW C t b D σ (Itt C.K a) H:=Rf d h0 g e f
theorem Gd{d:Int}{n:Nat}{t:Ct}{b:Css}(a:Nat->L2.St->Hp->Prop)(h0:a 0 σ H)
  (f:∀i σ H,i<n->a i σ H->tG C t (.int (d+i)) σ H (tSs C b {D with nx:=a (i+1),ct:=a (i+1),bk:=D.nx}))(e:∀σ H,a n σ H->D.nx σ H):DW C t b D σ (Itr d n) H:=Rg a h0 f e
theorem b_{z:AM}{t:Ct}{b:Css}(a:Nat->L2.St->Hp->Prop)(h0:a 0 σ H)
  (l:∀i c σ H,z.cps[i]?=A0 c->a i σ H->tG C t (.str ⟨#[c]⟩) σ H (tSs C b {D with nx:=a (i+1),ct:=a (i+1),bk:=D.nx}))(f:∀σ H,a z.cps.size σ H->D.nx σ H):DW C t b D σ (Its z) H:=by
 refine⟨λi m σ H=>m=z.cps.size-i/\i<=z.cps.size/\a i σ H,⟨z.cps.size,by simp,aN _,h0⟩,?_⟩;rintro i m σ H⟨rfl,o,p⟩;by_cases d:i<z.cps.size;.refine .inr ⟨d,a (i+1),λn g j=>⟨z.cps.size-(i+1),⋯,rfl,d,j⟩,λx g y=>?_⟩;obtain⟨e,c,h,rfl⟩:=y;subst e;exact l i c σ _ h p
 .have e:i=z.cps.size:=by omega
  subst e;exact .inl ⟨ag _,f σ H p⟩
theorem Ow{l:List Bool}{t:Ct}{b:Css}(d:Nat->L2.St->Hp->Prop)(h0:d 0 σ H)
  (o:∀i c σ H p,l[i]?=A0 c->H p=A5->d i σ H->tG C t (.ref p) σ (upd H p (.tup [.int i,.str (tx [c])])) (tSs C b {D with nx:=d (i+1),ct:=d (i+1),bk:=D.nx}))(g:∀σ H,d l.length σ H->D.nx σ H):DW C t b D σ (E5 (tx l)) H:=by
 refine⟨λi m σ H=>m=l.length-i/\i<=l.length/\d i σ H,⟨l.length,by simp,aN _,h0⟩,?_⟩;rintro i m σ H⟨rfl,s,p⟩;by_cases a:i<l.length;.refine .inr ⟨(show i<(tx l).cps.size by rw[FD];exact a),d (i+1),λr h n=>⟨l.length-(i+1),⋯,rfl,a,n⟩,λx h y=>?_⟩;obtain⟨j,v,rfl,q,⟨c,f,rfl⟩,rfl⟩:=y;rw[Jr,ae a]at f;cases f;exact o i l[i] σ _ j (ae a) q p
 .have e:i=l.length:=by omega
  subst e;exact .inl ⟨(show(tx l).cps.size=l.length from FD),g σ H p⟩
theorem cp{l:List Bool}{t:Ct}{b:Css}(a:Nat->L2.St->Hp->Prop)(h0:a 0 σ H)
  (h:∀i c σ H,l[i]?=A0 c->a i σ H->tG C t (.str (tx [c])) σ H (tSs C b {D with nx:=a (i+1),ct:=a (i+1),bk:=D.nx}))(g:∀σ H,a l.length σ H->D.nx σ H):DW C t b D σ (Its (tx l)) H:=by
 refine b_ a h0 (λi c σ H e p=>?_) λσ H p=>g σ H (by rw[FD]at p;exact p);rw[Jr]at e;cases f:l[i]? with
 |none=>rw[f]at e;cases e
 |some d=>rw[f]at e;cases e;exact h i d σ H f p
def Ge(C:Rc)(b:Css)(D:Ends)(N:L2.St->Hp->Prop)(σ:L2.St):Bool->Hp->Prop:=λc e=>if c=A2 then∃d:L2.St->Hp->Prop,(∀a f,d a f->N a f)/\tSs C b {D with nx:=d,ct:=d,bk:=D.nx} σ e else D.nx σ e
theorem Jv{q:Cq}{b:Css}(a:Nat->L2.St->Hp->Prop)(m:Nat)(h0:a m σ H)(f:∀m σ H,a m σ H->tQ C q σ H (Ge C b D (λd g=>∃e,e<m/\a e d g) σ)):tS C (.whl q b) D σ H:=⟨a,⟨m,h0⟩,f⟩
theorem Jw{b:Css}{N:L2.St->Hp->Prop}(h:tSs C b {D with nx:=N,ct:=N,bk:=D.nx} σ H):Ge C b D N σ A2 H:=⟨N,λ_ _ q=>q,h⟩
theorem Jx{b:Css}{N:L2.St->Hp->Prop}(h:D.nx σ H):Ge C b D N σ A6 H:=by unfold Ge;rw[if_neg (by decide)];exact h
def Dp(xs:List V)(P:List V->Hp->Prop):VK:=λv H=>xs.length<A7/\P (xs++[v]) H
def kCT(C:Rc)(a:Ce)(xs:List V)(P:List V->Hp->Prop)(σ:L2.St):Bool->Hp->Prop:=λok H=>if ok=A2 then tE C a σ H (Dp xs P)else P xs H
def kCG(C:Rc)(a:Ce)(q:Cqo)(xs:List V)(P:List V->Hp->Prop):L2.St->Hp->Prop:=λσ H=>tQo C q σ H (kCT C a xs P σ)
theorem c_{a:Ce}{xs:List V}{P:List V->Hp->Prop}:kCG C a .none xs P σ H=tE C a σ H (Dp xs P):=rfl
theorem dA{a:Ce}{q:Cq}{xs:List V}{P:List V->Hp->Prop}:kCG C a (.some q) xs P σ H=tQ C q σ H (kCT C a xs P σ):=rfl
theorem dB{a:Ce}{xs:List V}{P:List V->Hp->Prop}:kCT C a xs P σ A2 H=tE C a σ H (Dp xs P):=rfl
theorem dC{a:Ce}{xs:List V}{P:List V->Hp->Prop}:kCT C a xs P σ A6 H=P xs H:=rfl
theorem dD{xs:List V}{P:List V->Hp->Prop}{v:V}:Dp xs P v H=(xs.length<A7/\P (xs++[v]) H):=rfl
def DE(Q:VK)(xs:List V)(a:Hp):Prop:=∀p,a p=A5->Q (.ref p) (upd a p (.lst xs))
def DX(C:Rc)(a:Ce)(own:List Nat)(t:Ct)(q:Cqo)(σ:L2.St)(Q:VK)(J:It)(b:Hp):Prop:=C7 own (tG C t) (tQo C q) (Cw (tE C a)) J σ [] b (DE Q)
theorem dE{a:Ce}{own:List Nat}{t:Ct}{it:Ci}{q:Cqo}:tE C (.comp a own t it q .nil) σ H Q=tI C it σ H (DX C a own t q σ Q):=rfl
theorem FF{g:Ce}{own:List Nat}{t:Ct}{q:Cqo}{J:It}{n:Nat}(b:Nat->List V->Hp->Prop)(h0:b 0 [] H)(l:∀i a H,i<n->b i a H->J.go i H)(f:∀a H,b n a H->J.stop n H)
  (v:∀i a H x h(R:List V->Hp->Prop),i<n->b i a H->J.yld i H x h->(∀j o,b (i+1) j o->R j o)->tG C t x (clr own σ) h (kCG C g q a R))(s:∀a H,b n a H->DE Q a H):DX C g own t q σ Q J H:=by
 refine⟨λi m a H=>m=n-i/\i<=n/\b i a H,⟨n,by simp,aN _,h0⟩,?_⟩;rintro i m a H⟨rfl,A,p⟩;by_cases d:i<n;.refine .inr ⟨l i a H d p,λx h y=>?_⟩;exact v i a H x h (λc u=>∃r,r<n-i/\(r=n-(i+1)/\i+1<=n/\b (i+1) c u)) d p y λj o w=>⟨n-(i+1),⋯,rfl,d,w⟩
 .have e:i=n:=by omega
  subst e;exact .inl ⟨f a H p,s a H p⟩
theorem DF{f:Ce}{own:List Nat}{t:Ct}{q:Cqo}{a:A4}{vs:List V}(d:Nat->List V->Hp->Prop)(h0:d 0 [] H)(g:∀i b H,d i b H->SqL C.K H a vs)
  (r:∀i b H x(R:List V->Hp->Prop),vs[i]?=A0 x->d i b H->(∀j l,d (i+1) j l->R j l)->tG C t x (clr own σ) H (kCG C f q b R))(o:∀b H,d vs.length b H->DE Q b H):DX C f own t q σ Q (Itl C.K a) H:=
 FF (n:=vs.length) d h0 (λi b H m p=>⟨vs,vs[i],g i b H p,by simp[m]⟩) (λb H p=>⟨vs,g _ b H p,ag _⟩) (λi b H x h R m p y k=>by obtain⟨e,y⟩:=y;subst e;exact r i b h x R (y vs (g i b h p)) p k) o
theorem dF{f:Ce}{own:List Nat}{t:Ct}{q:Cqo}{a:A4}{vs:List V}(d:Nat->List V->Hp->Prop)(h0:d 0 [] H)(g:∀i b H,d i b H->SqT C.K H a vs)
  (r:∀i b H x(R:List V->Hp->Prop),vs[i]?=A0 x->d i b H->(∀j l,d (i+1) j l->R j l)->tG C t x (clr own σ) H (kCG C f q b R))(o:∀b H,d vs.length b H->DE Q b H):DX C f own t q σ Q (Itt C.K a) H:=
 FF (n:=vs.length) d h0 (λi b H m p=>⟨vs,vs[i],g i b H p,by simp[m]⟩) (λb H p=>⟨vs,g _ b H p,ag _⟩) (λi b H x h R m p y k=>by obtain⟨e,y⟩:=y;subst e;exact r i b h x R (y vs (g i b h p)) p k) o
theorem Ox{d:Ce}{own:List Nat}{t:Ct}{q:Cqo}{l:List Bool}(b:Nat->List V->Hp->Prop)(h0:b 0 [] H)
  (r:∀i a H c(R:List V->Hp->Prop),l[i]?=A0 c->b i a H->(∀g j,b (i+1) g j->R g j)->tG C t (.str (tx [c])) (clr own σ) H (kCG C d q a R))(m:∀a H,b l.length a H->DE Q a H):DX C d own t q σ Q (Its (tx l)) H:=
 FF (n:=l.length) b h0 (λi a H f p=>by show i<(tx l).cps.size;rw[FD];exact f) (λa H p=>by show(tx l).cps.size<=l.length;rw[FD];exact ag _) (λi a H x o R f p y k=>by obtain⟨e,c,h,rfl⟩:=y;subst e;rw[Jr,ae f]at h;cases h;exact r i a o l[i] R (ae f) p k) m
theorem dG{h:Ce}{own:List Nat}{t:Ct}{q:Cqo}{k j:Bool}{a b:A4}{vs e:List V}(hw:vs.length=e.length)(f:Nat->List V->Hp->Prop)(h0:f 0 [] H)(g:∀i d H,f i d H->Sq k C.K H a vs/\Sq j C.K H b e)
  (E:∀i d H x y p(R:List V->Hp->Prop),vs[i]?=A0 x->e[i]?=A0 y->H p=A5->f i d H->(∀m o,f (i+1) m o->R m o)->tG C t (.ref p) (clr own σ) (upd H p (.tup [x,y])) (kCG C h q d R))(r:∀d H,f vs.length d H->DE Q d H):DX C h own t q σ Q (E4 k j C.K a b) H:=
 FF (n:=vs.length) f h0 (λi d H l p=>⟨vs,e,vs[i],e[i],(g i d H p).1,(g i d H p).2,by simp[l],by simp[hw▸l]⟩) (λd H p=>⟨vs,e,(g _ d H p).1,(g _ d H p).2,.inl (ag _)⟩) (λi d H x I R l p y s=>by obtain⟨A,u,v,rfl,G,w,B,rfl⟩:=y;exact E i d H u v A R (w vs (g i d H p).1) (B e (g i d H p).2) G p s) r
end
section
variable{C:Rc}{K:W.Frag}{σ:L2.St}{H:Hp}{Q:VK}{D:Ends}{Qb:Bool->Hp->Prop}
theorem Az{f:AM}{es:Ces}{sp:Sp}(h:C.fs f=A0 sp)(q:tA C es σ H (Jm (A0 sp) (C.xk σ) Q)):tE C (.call f es) σ H Q:=by rw[ZJ h];exact q
theorem dH{x:AM}:BJ K .len [.str x] H Q=(x.length<=A7/\Q (.int x.length) H):=propext ⟨λ⟨u,n,e,h,q⟩=>by cases e;obtain⟨a,b⟩:=h;subst b;exact⟨a,q⟩,λq=>⟨_,_,rfl,⟨q.1,rfl⟩,q.2⟩⟩
theorem dI{l:List Bool}:BJ K .len [.str (tx l)] H Q=(l.length<=A7/\Q (.int l.length) H):=by rw[dH,CN]
theorem DY{a:A4}{xs:List V}(h:SqL K H a xs)(q:Q (.int xs.length) H):BJ K .len [.ref a] H Q:=⟨_,_,rfl,.inl ⟨xs,h,rfl⟩,q⟩
theorem Gf{a:A4}{xs:List V}(h:SqT K H a xs)(q:Q (.int xs.length) H):BJ K .len [.ref a] H Q:=⟨_,_,rfl,.inr ⟨xs,h,rfl⟩,q⟩
theorem dJ{i:Int}:BJ K .abs [.int i] H Q=Q (.int (if i<0 then -i else i)) H:=propext ⟨λ⟨u,e,q⟩=>by cases e;exact q,λq=>⟨_,rfl,q⟩⟩
theorem dL{i:Int}:BJ K .int [.int i] H Q=Q (.int i) H:=rfl
theorem dM{k:Bool}:BJ K .int [.bl k] H Q=Q (.int (if k then 1 else 0)) H:=rfl
theorem dN{c:Bool}:BJ K .int [.str (tx [c])] H Q=Q (.int (if c then 1 else 0)) H:=propext ⟨λ⟨n,e,_,q⟩=>by rw[Oo]at e;cases e;exact q,λq=>⟨_,Oo,by rw[CN,bU];decide,q⟩⟩
theorem dO{i j:Int}:BJ K .max [.int i,.int j] H Q=Q (.int (if j>i then j else i)) H:=rfl
theorem dP{i j:Int}:BJ K .min [.int i,.int j] H Q=Q (.int (if j<i then j else i)) H:=rfl
theorem dQ{a:A4}{ns:List Int}(h:SqL K H a (ns.map V.int))(f:ns≠[])(q:∀M,M∈ns->(∀b∈ns,b<=M)->Q (.int M) H):BJ K .max [.ref a] H Q:=⟨a,ns,rfl,h,f,λM d e=>q M d e⟩
theorem dR{a:A4}{ns:List Int}(h:SqL K H a (ns.map V.int))(f:ns≠[])(q:∀M,M∈ns->(∀b∈ns,M<=b)->Q (.int M) H):BJ K .min [.ref a] H Q:=⟨a,ns,rfl,h,f,λM d e=>q M d e⟩
theorem Oy{a:A4}{bs:List Bool}(h:SqL K H a (bs.map V.bl))(q:Q (.bl (bs.all id)) H):BJ K .all [.ref a] H Q:=⟨a,bs,rfl,h,q⟩
theorem dS{x:V}{T c:String}(h:C2 H x=A0 T)(hT:T∈DA)(a:c∈["bool","int","str","list","tuple","dict"])(q:Q (.bl (isT T c)) H):BJ K .isinstance [x,.ty c] H Q:=.inl (.inl ⟨x,T,c,rfl,h,hT,a,q⟩)
theorem dU{x:V}{T c d:String}{p:A4}(h:C2 H x=A0 T)(hT:T∈DA)(g:H p=A0 (.tup [.ty c,.ty d]))(b:c∈["bool","int","str","list","tuple","dict"])(f:d∈["bool","int","str","list","tuple","dict"])(q:Q (.bl (isT T c||isT T d)) H):BJ K .isinstance [x,.ref p] H Q:=
 .inl<| .inr ⟨x,T,p,[c,d],rfl,h,hT,g,λe a=>by
  simp only[ao,av,or_false]at a;rcases a with rfl|rfl;.exact b
  .exact f,by simpa using q⟩
theorem Bi{a:A4}{xs:List V}{i:Int}{v:V}(h:SqL K H a xs)(e:atI xs i=A0 v)(q:Q v H):CI K (.ref a) (.int i) H Q\/CJ K (.ref a) (.int i) H Q:=.inl ⟨a,xs,i,v,rfl,rfl,h,e,q⟩
theorem Bv{a:A4}{xs:List V}{i:Int}{v:V}(h:SqT K H a xs)(e:atI xs i=A0 v)(q:Q v H):CI K (.ref a) (.int i) H Q\/CJ K (.ref a) (.int i) H Q:=.inr ⟨a,xs,i,v,rfl,rfl,h,e,q⟩
theorem dW{a b:Type}{f:a->b}{xs:List a}{i:Int}:atI (xs.map f) i=(atI xs i).map f:=by
 unfold atI;rw[af];cases ixN xs.length i with
 |none=>rfl
 |some j=>simp
theorem Dr{l:List Bool}{i:Int}{c:Bool}(a:l.length<=A7)(e:atI l i=A0 c)(q:Q (.str (tx [c])) H):DC K (.str (tx l)) (.int i) H Q:=by refine⟨by rw[CN];exact a,cb c,?_,q⟩;rw[FC,dW,e];rfl
theorem Oz{a:A4}{u v:V}{k:Bool}(h:SqL K H a [u,v])(q:Q (if k then v else u) H):CI K (.ref a) (.int (if k then 1 else 0)) H Q\/CJ K (.ref a) (.int (if k then 1 else 0)) H Q:=by refine Bi h ?_ q;cases k<;>rfl
theorem dX{a:A4}{u v:V}{k:Bool}(h:SqT K H a [u,v])(q:Q (if k then v else u) H):CI K (.ref a) (.int (if k then 1 else 0)) H Q\/CJ K (.ref a) (.int (if k then 1 else 0)) H Q:=by refine Bv h ?_ q;cases k<;>rfl
theorem dY{c:Bool}:decide (tx [c]=tx [A2])=c:=by
 cases c;.exact decide_eq_false λh=>by cases Zk h
 .exact decide_eq_true rfl
theorem dZ{x y:List Bool}:Bs K .Add (.str (tx x)) (.str (tx y)) H Q=(x.length+y.length<=A7/\Q (.str (tx (x++y))) H):=by rw[Yk,CN,CN,Gb]
theorem O_{x y:V}(h:D_ x y=A2):BG K .Eq x y H Q=Q (.bl (decide (x=y))) H:=by
 have e:BG K .Eq x y H Q=rEq x y H Q:=by
  unfold BG;dsimp only;split;.cases h
  .rfl
 rw[e];exact propext ⟨λ⟨_,q⟩=>q,λq=>⟨h,q⟩⟩
theorem ds{a b:A4}{xs d:List V}(h:SqL K H a xs)(f:SqL K H b d)(e:xs.length=d.length->LEq xs d)(q:Q (.bl (decide (xs=d))) H):BG K .Eq (.ref a) (.ref b) H Q:=.inl ⟨a,b,xs,d,rfl,rfl,h,f,e,q⟩
theorem dt{xs:List V}:xs.length=([]:List V).length->LEq xs []:=λ_ i x y _ h=>by cases h
theorem Jy{j:Int}(q:∀p,H p=A5->Q (.ref p) (upd H p (.rng 0 j))):BJ K .range [.int j] H Q:=⟨0,j,.inr ⟨rfl,rfl⟩,q⟩
theorem Jz{r:A4}{i j:Int}(h:H r=A0 (.rng i j))(h1:-(2^62)<=i)(d:i<2^62)(a:-(2^62)<=j)(b:j<2^62)(hz:(j-i).toNat<=A7)(q:∀p,H p=A5->Q (.ref p) (upd H p (.lst (rgs i (j-i).toNat)))):BJ K .list [.ref r] H Q:=.inr ⟨r,i,j,rfl,h,⟨h1,d,a,b⟩,hz,q⟩
theorem P0{a:A4}{xs:List V}(h:SqL K H a xs)(q:∀p,H p=A5->Q (.ref p) (upd H p (.tup xs))):BJ K .tuple [.ref a] H Q:=⟨a,xs,rfl,.inl ⟨h,q⟩⟩
theorem dz{x y:Bool}:BG K .Eq (.bl x) (.bl y) H Q=Q (.bl (x==y)) H:=by rw[O_ rfl];cases x<;>cases y<;>rfl
theorem d_{x y:Bool}:BG K .NotEq (.bl x) (.bl y) H Q=Q (.bl (x !=y)) H:=by have e:BG K .NotEq (.bl x) (.bl y) H Q=Q (.bl (!decide (V.bl x=V.bl y))) H:=propext ⟨λ⟨_,q⟩=>q,λq=>⟨rfl,q⟩⟩;rw[e];cases x<;>cases y<;>rfl
theorem eA{x y:Int}:BG K .NotEq (.int x) (.int y) H Q=Q (.bl (!decide (x=y))) H:=by have e:BG K .NotEq (.int x) (.int y) H Q=Q (.bl (!decide (V.int x=V.int y))) H:=propext ⟨λ⟨_,q⟩=>q,λq=>⟨rfl,q⟩⟩;rw[e];congr 3;simp only[V.int.injEq]
theorem eB{x:V}:BG K .Is x .non H Q=Q (.bl (decide (x=.non))) H:=propext ⟨λ⟨_,q⟩=>q,λq=>⟨rfl,q⟩⟩
theorem eC{x:V}:BG K .IsNot x .non H Q=Q (.bl (!decide (x=.non))) H:=propext ⟨λ⟨_,q⟩=>q,λq=>⟨rfl,q⟩⟩
def kG(C:Rc)(t:Ct)(D:Ends)(σ:L2.St):VK:=λv H=>tG C t v σ H D.nx
theorem DZ{t:Ct}{e:Ce}:tS C (.asg t e) D σ H=tE C e σ H (kG C t D σ):=rfl
theorem eD{i j:Nat}{a:A4}{x y:V}(h:SqT C.K H a [x,y])(q:D.nx ((σ.set i (A0 x)).set j (A0 y)) H):kG C (.tup (.cons (.name i) (.cons (.name j) .nil))) D σ (.ref a) H:=Do h q
theorem P1{i j k:Nat}{a:A4}{x y z:V}(h:SqT C.K H a [x,y,z])(q:D.nx (((σ.set i (A0 x)).set j (A0 y)).set k (A0 z)) H):kG C (.tup (.cons (.name i) (.cons (.name j) (.cons (.name k) .nil)))) D σ (.ref a) H:=Zs h q
theorem eE{a:A4}{xs:List V}{b hi:Option Int}(h:SqT K H a xs)(d:¬(HT.sIx xs.length 0 b=0/\HT.sIx xs.length xs.length hi=xs.length))(q:∀p,H p=A5->Q (.ref p) (upd H p (.tup (DL xs b hi)))):Fl K (.ref a) b hi H Q\/Fk K (.ref a) b hi H Q\/GC K (.ref a) b hi H Q:=.inr (.inl ⟨a,xs,rfl,h,d,q⟩)
theorem eG{a b:A4}{xs d:List V}(h:SqT K H a xs)(f:SqT K H b d)(hz:xs.length+d.length<=A7)(j:xs=[]->Q (.ref b) H)(i:xs≠[]->d=[]->Q (.ref a) H)(g:xs≠[]->d≠[]->∀p,H p=A5->Q (.ref p) (upd H p (.tup (xs++d)))):Bs K .Add (.ref a) (.ref b) H Q:=by
 by_cases e:xs=[];.subst e;exact .inr (.inr ⟨a,b,d,rfl,rfl,h,f,j rfl⟩)
 .exact .inr (.inl ⟨a,b,xs,d,rfl,rfl,h,f,e,hz,i e,g e⟩)
theorem eH{a:A4}{xs:List V}{y:V}(h:H a=A0 (.lst xs))(hz:xs.length<A7)(q:Q .non (upd H a (.lst (xs++[y])))):D3 K .append (.ref a) [y] H Q:=⟨a,xs,y,rfl,rfl,h,hz,q⟩
theorem tyL{a:A4}{xs:List V}{m:Mf}(h:H a=A0 (.lst xs))(b:DS m="list"):tyV K (DS m) (.ref a) H:=.inl ⟨b,xs,SqL.of h⟩
theorem B5{H:Hp}{p:A4}(h:H p=A5)(o:HO):As H (upd H p o):=λb u q=>by rw[Au (Bb q h)];exact q
theorem snw{H:Hp}{p:A4}(h:H p=A5)(o:HO):As H (upd H p o)/\upd H p o p=A0 o:=⟨B5 h o,Aw⟩
theorem BO{a:Type}{l:List a}{i:Nat}{c:a}(b:l[i]?=A0 c):i<l.length:=by grind
def Gg(C:Rc)(σ:L2.St)(b:Ce)(Q:VK):VK:=λx H=>(x=.non/\tE C b σ H Q)\/∃i:Int,x=.int i/\if i=0 then tE C b σ H Q else Q (.int i) H
theorem eI{a b:Ce}:tE C (.orv a b) σ H Q=tE C a σ H (Gg C σ b Q):=rfl
theorem eJ{b:Ce}(q:tE C b σ H Q):Gg C σ b Q .non H:=.inl ⟨rfl,q⟩
theorem eK{b:Ce}{i:Int}(hi:i≠0)(q:Q (.int i) H):Gg C σ b Q (.int i) H:=.inr ⟨i,rfl,by rw[if_neg hi];exact q⟩
theorem P2:tE C .dnn σ H Q=(∀p,H p=A5->Q (.ref p) (upd H p (B3 p []))):=rfl
theorem P3:tE C .dnt σ H Q=(∀p,H p=A5->Q (.ref p) (upd H p (.dT []))):=rfl
theorem eL:tE C .dnew σ H Q=(∀p,H p=A5->Q (.ref p) (upd H p (.dK []))):=rfl
end
open PySem.Builtin PySem.Builtin.Str
theorem eO:∀{a:List (List Bool)},Txt.join (tx []) (a.map tx)=tx a.flatten:=by
 intro a;unfold Txt.join;rw[StrLaws.glued_eq_join];induction a with
 |nil=>rfl
 |cons l r b=>
  cases r with
  |nil=>simp[AM.join]
  |cons y r=>rw[aX,aX];show tx l++tx []++AM.join (tx []) (List.map tx (y::r))=_;rw[b,Gb,Gb];simp
section
variable{K:W.Frag}{H:Hp}{Q:VK}
theorem eP{a:A4}{ls:List (List Bool)}(h:SqL K H a (ls.map λl=>V.str (tx l)))(hz:ls.flatten.length<=16000000)(q:Q (.str (tx ls.flatten)) H):D3 K .join (.str (tx [])) [.ref a] H Q:=by
 refine⟨tx [],a,ls.map tx,rfl,rfl,.inl (by rw[bn];exact h),?_,by rw[eO];exact q⟩;have e:((ls.map tx).map (·.length)).sum=ls.flatten.length:=by rw[bn,List.length_flatten];congr 1;apply ci;intro l _;exact CN
 rw[e,CN,cN,Nat.mul_zero];omega
theorem eQ{l:List Bool}{a:Nat}:Txt.slice (tx l) (A0 (a:Int)) A5=tx (l.drop a):=by
 rcases Nat.le_total a l.length with h|h;.exact Zq h
 .rw[slice_beyond (by rw[CN];omega),List.drop_of_length_le h];rfl
end
section
variable{C:Rc}{K:W.Frag}{σ:L2.St}{H:Hp}{Q:VK}{D:Ends}{Qb:Bool->Hp->Prop}{i j:Int}
theorem P4{a:A4}{xs:List V}(h:SqL C.K H a xs)(q:Qb (!xs.isEmpty) H):Jq C Qb (.ref a) H:=⟨_,.inl ⟨xs,h,rfl⟩,q⟩
theorem eR{i:Nat}{e:Ce}{r:Css}(h:∀K:VK,(∀v a,tSs C r D (σ.set i (A0 v)) a->K v a)->tE C e σ H K):tSs C (.cons (.asg (.name i) e) r) D σ H:=h _ λ_ _ q=>q
theorem Ds{s:Cs}{r:Css}(h:∀N:L2.St->Hp->Prop,(∀a b,tSs C r D a b->N a b)->tS C s {D with nx:=N} σ H):tSs C (.cons s r) D σ H:=h _ λ_ _ q=>q
def kDk(R:It->Hp->Prop):VK:=λx a=>DkV x a R\/DtV x a R\/DnV x a R\/DvV x a R
theorem eS{e:Ce}{R:It->Hp->Prop}:tI C (.dk e) σ H R=tE C e σ H (kDk R):=rfl
theorem P5{R:It->Hp->Prop}{d:A4}{b:List (List Key×V)}(h:Rd H d (.dT b))(q:∀o(e:List A4),e.length=b.length->(∀(i:Nat)a f,e[i]?=A0 a->b[i]?=A0 f->H a=A0 (.tup (f.1.map L2.kV)))->R (Cj d o (e.map V.ref)) (upd H d (.frz o (.dT b)))):kDk R (.ref d) H:=.inr (.inl ⟨d,b,rfl,h,λo e l g _=>q o e l g⟩)
theorem eT{R:It->Hp->Prop}{d:A4}{L:List NK}(h:H d=A0 (B3 d L))(a:Bo H L)(q:∀o,R (Cj d o (L.map nkV)) (upd H d (.frz o (B3 d L)))):kDk R (.ref d) H:=.inr (.inr (.inl ⟨d,L,rfl,h,a,λo _=>q o⟩))
theorem eU{d:A4}{o:AS}{ks:List V}{t:Ct}{b:Css}(a:Nat->L2.St->Hp->Prop)(h0:a 0 σ H)(g:∀i σ H,a i σ H->Fz H d o)
  (q:∀i x σ H,ks[i]?=A0 x->a i σ H->tG C t x σ H (tSs C b {D with nx:=a (i+1),ct:=a (i+1),bk:=D.nx}))(h:∀σ H,a ks.length σ H->D.nx σ H):DW C t b D σ (Cj d o ks) H:=by
 refine⟨λi m σ H=>m=ks.length-i/\i<=ks.length/\a i σ H,⟨ks.length,by simp,aN _,h0⟩,?_⟩;rintro i m σ H⟨rfl,s,p⟩;by_cases f:i<ks.length;.refine .inr ⟨⟨f,g i σ H p⟩,a (i+1),λr l n=>⟨ks.length-(i+1),⋯,rfl,f,n⟩,λx l y=>?_⟩;obtain⟨e,y⟩:=y;subst e;exact q i x σ _ y p
 .have e:i=ks.length:=by omega
  exact .inl ⟨⟨⋯,g i σ H p⟩,h σ H (e▸p)⟩
theorem P6{f:Ce}{own:List Nat}{t:Ct}{q:Cqo}{d:A4}{o:AS}{ks:List V}(b:Nat->List V->Hp->Prop)(h0:b 0 [] H)(h:∀i a H,b i a H->Fz H d o)
  (u:∀i a H x(R:List V->Hp->Prop),ks[i]?=A0 x->b i a H->(∀g l,b (i+1) g l->R g l)->tG C t x (clr own σ) H (kCG C f q a R))(r:∀a H,b ks.length a H->DE Q a H):DX C f own t q σ Q (Cj d o ks) H:=
 FF (n:=ks.length) b h0 (λi a H m p=>⟨m,h i a H p⟩) (λa H p=>⟨ag _,h _ a H p⟩) (λi a H x s R m p y k=>by obtain⟨e,y⟩:=y;subst e;exact u i a s x R y p k) r
def eV(C:Rc)(a:Ce)(own:List Nat)(t:Ct)(q:Cqo)(d:List Nat)(g:Ct)(b:Ci)(e:Cqo)(σ:L2.St)(Q:VK)(J:It)(f:Hp):Prop:=C7 own (tG C t) (tQo C q) (Dg (tI C b) (C7 d (tG C g) (tQo C e) (Cw (tE C a)))) J σ [] f (DE Q)
theorem eW{a:Ce}{own:List Nat}{t:Ct}{it:Ci}{q:Cqo}{d:List Nat}{f:Ct}{b:Ci}{e:Cqo}:tE C (.comp a own t it q (.cons d f b e .nil)) σ H Q=tI C it σ H (eV C a own t q d f b e σ Q):=rfl
end
def Ax(l:List (AM×Sp))(y:AM):Option Sp:=l.lookup y
theorem BC{x:AM}{s:Sp}{l:List (AM×Sp)}:Ax ((x,s)::l) x=A0 s:=by unfold Ax;simp
theorem B1{x y:AM}{s:Sp}{l:List (AM×Sp)}(h:(y==x)=A6):Ax ((x,s)::l) y=Ax l y:=by unfold Ax;rw[List.lookup_cons,h]
theorem P7{y:AM}{s:Sp}:∀{l:List (AM×Sp)},Ax l y=A0 s->(y,s)∈l
 | [],h=>by cases h
 |(x,t)::l,h=>by
  unfold Ax at h;rw[List.lookup_cons]at h;cases e:y==x with
  |true=>rw[e]at h;cases h;rw[eq_of_beq e];exact az ..
  |false=>rw[e]at h;exact ay _ (P7 h)
theorem BR{P:AA}{w:AK}{K:W.Frag}{mg:AM->Option A1}{base:AJ}{k:Nat}{l:List (AM×Sp)}(h:∀p∈l,∃f b a,FnOk P w K mg base CX0 k f b a p.2/\mg p.1=A0 (.ref f)/\W.keepIn K (.ref f)=A2/\Cu K b a []):
  ∀y d,Ax l y=A0 d->∃f b a,FnOk P w K mg base CX0 k f b a d/\mg y=A0 (.ref f)/\W.keepIn K (.ref f)=A2/\Cu K b a []:=λy d e=>h (y,d) (P7 e)
theorem BS{P:AA}{w:AK}{K:W.Frag}{mg:AM->Option A1}{base:AJ}{x i:AM}{st:Ap}{f:A4}{q:Aq}{ps:List AM}{k:Nat}{sp:Sp}(F:Fun K x i st f q)(C:Rc)(S:FnScope C.N ps (A_ st))(t:C.K=K)(a:Css)(u:mSs C.N C.B (A_ st) a (BB st)=A2)
  (len:∀l H Q E,sp l H Q E->l.length=ps.length)
  (o:∀y b,C.fs y=A0 b->∃j g d,FnOk P w K mg base CX0 k j g d b/\mg y=A0 (.ref j)/\W.keepIn K (.ref j)=A2/\Cu K g d [])(D:∀y∈C.B,mg y=A5)(p:mg "~"=A5/\mg "^"=A5/\mg "%"=A5)(r:tld C.B=A6)(s:hat C.B=A6)(n:C.xk=λ_=>E0)(m:C.cl=λ_=>A5)
  (h:∀l H Q E,sp l H Q E->tSs C a {nx:=λ_ v=>Q .non v,rt:=Q} (BA C.N l) H):FnOk P w K mg base CX0 (k+1) f q ps sp:=
 Y9 F C S t a u len ⟨λy b e=>by obtain⟨j,g,d,A,G⟩:=o y b e;exact⟨j,g,d,.inl A,G⟩,D,p,(λc I e=>by rw[m]at e;cases e),r,s⟩ n h
theorem mC{b:Type}{P:b->Prop}{a:b}{l:List b}(h:P a/\∀x∈l,P x):∀x∈a::l,P x:=List.forall_mem_cons.mpr h
theorem mN{a:Type}{P:a->Prop}:∀x∈([]:List a),P x:=λy b=>absurd b av
theorem eX{d:Type}{P:List d->Prop}(h:∀a,P [a]):∀b:List d,b.length=1->P b
 | [a],_=>h a
theorem eY{e:Type}{P:List e->Prop}(h:∀b a,P [b,a]):∀d:List e,d.length=2->P d
 | [b,a],_=>h b a
theorem eZ{f:Type}{P:List f->Prop}(h:∀b a d,P [b,a,d]):∀e:List f,e.length=3->P e
 | [b,a,d],_=>h b a d
theorem ec{g:Type}{P:List g->Prop}(h:∀b a d e,P [b,a,d,e]):∀f:List g,f.length=4->P f
 | [b,a,d,e],_=>h b a d e
def B4{e d:Type}(R:e->d->Prop):List e->List d->Prop
 | [],[]=>True
 |a::g,b::f=>R a b/\B4 R g f
 |_,_=>False
section
variable{α β:Type}{R S:α->β->Prop}
theorem B4.mono(h:∀a b,R a b->S a b):∀{e:List α}{d:List β},B4 R e d->B4 S e d
 | [],[],_=>trivial
 |_::_,_::_,q=>⟨h _ _ q.1,B4.mono h q.2⟩
 | [],_::_,q=>q.elim
 |_::_,[],q=>q.elim
theorem B4.len:∀{a:List α}{b:List β},B4 R a b->a.length=b.length
 | [],[],_=>rfl
 |_::_,_::_,q=>by simp[B4.len q.2]
 | [],_::_,q=>q.elim
 |_::_,[],q=>q.elim
theorem B4.app:∀{e a:List α}{d b:List β},B4 R e d->B4 R a b->B4 R (e++a) (d++b)
 | [],_,[],_,_,q=>q
 |_::_,_,_::_,_,p,q=>⟨p.1,B4.app p.2 q⟩
 | [],_,_::_,_,p,_=>p.elim
 |_::_,_,[],_,p,_=>p.elim
theorem B4.snoc{a:α}{b:β}{d:List α}{bs:List β}(h:B4 R d bs)(r:R a b):B4 R (d++[a]) (bs++[b]):=h.app ⟨r,trivial⟩
theorem B4.get:∀{f:List α}{d:List β}{i:Nat}{b:β},B4 R f d->d[i]?=A0 b->∃a,f[i]?=A0 a/\R a b
 | [],[],_,_,_,e=>by cases e
 |a::_,_::_,0,_,q,e=>by cases e;exact⟨a,rfl,q.1⟩
 |_::f,_::d,i+1,b,q,e=>by obtain⟨a,h,g⟩:=B4.get (i:=i) (b:=b) q.2 (by simpa using e);exact⟨a,by simpa using h,g⟩
 | [],_::_,_,_,q,_=>q.elim
 |_::_,[],_,_,q,_=>q.elim
theorem B4.getL:∀{f:List α}{d:List β}{i:Nat}{a:α},B4 R f d->f[i]?=A0 a->∃b,d[i]?=A0 b/\R a b
 | [],[],_,_,_,e=>by cases e
 |_::_,b::_,0,_,q,e=>by cases e;exact⟨b,rfl,q.1⟩
 |_::f,_::d,i+1,a,q,e=>by obtain⟨b,h,g⟩:=B4.getL (i:=i) (a:=a) q.2 (by simpa using e);exact⟨b,by simpa using h,g⟩
 | [],_::_,_,_,q,_=>q.elim
 |_::_,[],_,_,q,_=>q.elim
end
def Gh{a:Type}(Ar:TL a)(b:a)(P:a->Hp->Prop)(σ:L2.St):Bool->Hp->Prop:=λok H=>if ok=A2 then Ar σ b H P else P b H
def Dt{a:Type}(e:TT)(Ar:TL a)(b:a)(P:a->Hp->Prop):L2.St->Hp->Prop:=λd H=>e d H (Gh Ar b P d)
def kCl{b:Type}(own:List Nat)(g:TG)(d:TT)(Ar:TL b)(σ:L2.St)(a:b)(N:b->Hp->Prop)(J:It)(H:Hp):Prop:=C7 own g d Ar J σ a H N
section
variable{C:Rc}{σ:L2.St}{H:Hp}{Q:VK}{D:Ends}{α:Type}
theorem ef{Ar:TL α}{b:α}{P:α->Hp->Prop}:Dt (tQo C .none) Ar b P σ H=Ar σ b H P:=rfl
theorem eh{q:Cq}{Ar:TL α}{b:α}{P:α->Hp->Prop}:Dt (tQo C (.some q)) Ar b P σ H=tQ C q σ H (Gh Ar b P σ):=rfl
theorem ew{Ar:TL α}{b:α}{P:α->Hp->Prop}:Gh Ar b P σ A2 H=Ar σ b H P:=rfl
theorem ez{Ar:TL α}{b:α}{P:α->Hp->Prop}:Gh Ar b P σ A6 H=P b H:=rfl
theorem Gi{own:List Nat}{g:TG}{r:TT}{Ar:TL α}{J:It}{a:α}{N:α->Hp->Prop}{n:Nat}(d:Nat->α->Hp->Prop)(h0:d 0 a H)(l:∀i b H,i<n->d i b H->J.go i H)(h:∀b H,d n b H->J.stop n H)
  (u:∀i b H x j(R:α->Hp->Prop),i<n->d i b H->J.yld i H x j->(∀c o,d (i+1) c o->R c o)->g x (clr own σ) j (Dt r Ar b R))(s:∀b H,d n b H->N b H):kCl own g r Ar σ a N J H:=by
 refine⟨λi m b H=>m=n-i/\i<=n/\d i b H,⟨n,by simp,aN _,h0⟩,?_⟩;rintro i m b H⟨rfl,A,p⟩;by_cases f:i<n;.refine .inr ⟨l i b H f p,λx j y=>?_⟩;exact u i b H x j (λc t=>∃q,q<n-i/\(q=n-(i+1)/\i+1<=n/\d (i+1) c t)) f p y λw o v=>⟨n-(i+1),⋯,rfl,f,v⟩
 .have e:i=n:=by omega
  subst e;exact .inl ⟨h b H p,s b H p⟩
theorem J_{own:List Nat}{g:TG}{l:TT}{Ar:TL α}{b0:α}{N:α->Hp->Prop}{a:A4}{vs:List V}(d:Nat->α->Hp->Prop)(h0:d 0 b0 H)(h:∀i b H,d i b H->SqL C.K H a vs)
  (r:∀i b H x(R:α->Hp->Prop),vs[i]?=A0 x->d i b H->(∀c m,d (i+1) c m->R c m)->g x (clr own σ) H (Dt l Ar b R))(q:∀b H,d vs.length b H->N b H):kCl own g l Ar σ b0 N (Itl C.K a) H:=
 Gi (n:=vs.length) d h0 (λi f H o p=>⟨vs,vs[i],h i f H p,by simp[o]⟩) (λf H p=>⟨vs,h _ f H p,ag _⟩) (λi f H x j R o p y k=>by obtain⟨e,y⟩:=y;subst e;exact r i f j x R (y vs (h i f j p)) p k) q
theorem P8{own:List Nat}{g:TG}{l:TT}{Ar:TL α}{b0:α}{N:α->Hp->Prop}{a:A4}{vs:List V}(d:Nat->α->Hp->Prop)(h0:d 0 b0 H)(h:∀i b H,d i b H->SqT C.K H a vs)
  (r:∀i b H x(R:α->Hp->Prop),vs[i]?=A0 x->d i b H->(∀c m,d (i+1) c m->R c m)->g x (clr own σ) H (Dt l Ar b R))(q:∀b H,d vs.length b H->N b H):kCl own g l Ar σ b0 N (Itt C.K a) H:=
 Gi (n:=vs.length) d h0 (λi f H o p=>⟨vs,vs[i],h i f H p,by simp[o]⟩) (λf H p=>⟨vs,h _ f H p,ag _⟩) (λi f H x j R o p y k=>by obtain⟨e,y⟩:=y;subst e;exact r i f j x R (y vs (h i f j p)) p k) q
theorem P9{own:List Nat}{g:TG}{h:TT}{Ar:TL α}{b0:α}{N:α->Hp->Prop}{a:A4}{vs:List V}(d:Nat->α->Hp->Prop)(h0:d 0 b0 H)(f:∀i b H,d i b H->SqL C.K H a vs)
  (q:∀i b H x p(R:α->Hp->Prop),vs[i]?=A0 x->H p=A5->d i b H->(∀c j,d (i+1) c j->R c j)->g (.ref p) (clr own σ) (upd H p (.tup [.int i,x])) (Dt h Ar b R))(m:∀b H,d vs.length b H->N b H):kCl own g h Ar σ b0 N (Ite C.K a) H:=
 Gi (n:=vs.length) d h0 (λi e H l p=>⟨vs,vs[i],f i e H p,by simp[l]⟩) (λe H p=>⟨vs,f _ e H p,rfl⟩) (λi e H x s R l p y k=>by obtain⟨o,v,rfl,r,y,rfl⟩:=y;exact q i e H v o R (y vs (f i e H p)) r p k) m
theorem e_{own:List Nat}{g:TG}{h:TT}{Ar:TL α}{b0:α}{N:α->Hp->Prop}{l:Int}{n:Nat}(a:Nat->α->Hp->Prop)(h0:a 0 b0 H)
  (q:∀i b H(R:α->Hp->Prop),i<n->a i b H->(∀c j,a (i+1) c j->R c j)->g (.int (l+i)) (clr own σ) H (Dt h Ar b R))(m:∀b H,a n b H->N b H):kCl own g h Ar σ b0 N (Itr l n) H:=
 Gi (n:=n) a h0 (λi d H f p=>f) (λd H p=>ag _) (λi d H x o R f p y k=>by obtain⟨e,rfl⟩:=y;subst e;exact q i d o R f p k) m
theorem fA{a:Ce}{own:List Nat}{t:Ct}{it:Ci}{q:Cqo}{d:List Nat}{f:Ct}{b:Ci}{e:Cqo}{r:Cc}:tE C (.comp a own t it q (.cons d f b e r)) σ H Q=tI C it σ H (kCl own (tG C t) (tQo C q) (tR C (.cons d f b e r) (Cw (tE C a))) σ [] (DE Q)):=rfl
theorem fB{a:List Nat}{t:Ct}{it:Ci}{q:Cqo}{r:Cc}{d:TL (List V)}{b:List V}{P:List V->Hp->Prop}:tR C (.cons a t it q r) d σ b H P=tI C it σ H (kCl a (tG C t) (tQo C q) (tR C r d) σ b P):=rfl
theorem fC{a:TL (List V)}{b:List V}{P:List V->Hp->Prop}:tR C .nil a σ b H P=a σ b H P:=rfl
theorem fE{a:Ce}{b:List V}{P:List V->Hp->Prop}:Cw (tE C a) σ b H P=tE C a σ H (Dp b P):=rfl
def fF(b:(Option Int->Bool)×Nat)(P:(Option Int->Bool)×Nat->Hp->Prop):VK:=λv H=>∃k,v=kO k/\b.2<4000/\P (λj=>b.1 j||decide (j=k),b.2+1) H
theorem fG{a:Ce}{b:(Option Int->Bool)×Nat}{P:(Option Int->Bool)×Nat->Hp->Prop}:DB (tE C a) σ b H P=tE C a σ H (fF b P):=rfl
theorem fH{it:Ci}{own:List Nat}{g:TG}{a:TT}{Ar:TL α}{b:α}{P:α->Hp->Prop}:Dg (tI C it) (C7 own g a Ar) σ b H P=tI C it σ H (kCl own g a Ar σ b P):=rfl
def fI(i:Nat)(D:Ends)(σ:L2.St):(Option Int->Bool)×Nat->Hp->Prop:=λa b=>True/\∀p,b p=A5->D.nx (σ.set i (A0 (.ref p))) (upd b p (Bh p a.1 a.2))
theorem fJ{i:Nat}{a:Ce}{own:List Nat}{t:Ct}{it:Ci}{q:Cqo}{d:List Nat}{f:Ct}{b:Ci}{e:Cqo}:tS C (.setc2 i a own t it q d f b e) D σ H=tI C it σ H (kCl own (tG C t) (tQo C q) (Dg (tI C b) (C7 d (tG C f) (tQo C e) (DB (tE C a)))) σ (λ_=>A6,0) (fI i D σ)):=rfl
theorem fL{K:W.Frag}{a:A4}{ns:List Int}(h:SqL K H a (ns.map V.int))(b:ns.length<=3999)(q:∀p,H p=A5->Q (.ref p) (upd H p (Bh p (inL ns) ns.length))):BJ K .set [.ref a] H Q:=⟨a,ns,rfl,h,b,q⟩
def fM(i:Nat)(D:Ends)(σ:L2.St):List (Key×V)->Hp->Prop:=λa b=>True/\∀p,b p=A5->D.nx (σ.set i (A0 (.ref p))) (upd b p (.dK a))
def fN(i:Nat)(D:Ends)(σ:L2.St):KTL->Hp->Prop:=λa b=>okT a b/\∀p,b p=A5->D.nx (σ.set i (A0 (.ref p))) (upd b p (.dT (plT a)))
theorem fO{i:Nat}{k v:Ce}{own:List Nat}{t:Ct}{it:Ci}{q:Cqo}:tS C (.dctc A6 i k v own t it q) D σ H=tI C it σ H (kCl own (tG C t) (tQo C q) (G3 (tE C k) (tE C v)) σ [] (fM i D σ)):=rfl
theorem fP{i:Nat}{k v:Ce}{own:List Nat}{t:Ct}{it:Ci}{q:Cqo}:tS C (.dctc A2 i k v own t it q) D σ H=tI C it σ H (kCl own (tG C t) (tQo C q) (G4 (tE C k) (tE C v)) σ [] (fN i D σ)):=rfl
def PB(a:List (Key×V))(P:List (Key×V)->Hp->Prop)(y:V):VK:=λv b=>∃k,y=L2.kV k/\a.length<A7/\P (Bn a k v) b
def PD(C:Rc)(σ:L2.St)(v:Ce)(a:List (Key×V))(P:List (Key×V)->Hp->Prop):VK:=λy b=>tE C v σ b (PB a P y)
theorem fQ{k v:Ce}{a:List (Key×V)}{P:List (Key×V)->Hp->Prop}:G3 (tE C k) (tE C v) σ a H P=tE C k σ H (PD C σ v a P):=rfl
theorem fR{v:Ce}{a:List (Key×V)}{P:List (Key×V)->Hp->Prop}{y:V}:PD C σ v a P y H=tE C v σ H (PB a P y):=rfl
def PF(a:KTL)(P:KTL->Hp->Prop)(y:V):VK:=λv d=>∃(k:List Key)(b:A4),y=.ref b/\d b=A0 (.tup (k.map L2.kV))/\okT a d/\(∀x∈a,x.1≠k)/\a.length<A7/\P (a++[(k,b,v)]) d
def PH(C:Rc)(σ:L2.St)(v:Ce)(a:KTL)(P:KTL->Hp->Prop):VK:=λy b=>tE C v σ b (PF a P y)
theorem fS{k v:Ce}{a:KTL}{P:KTL->Hp->Prop}:G4 (tE C k) (tE C v) σ a H P=tE C k σ H (PH C σ v a P):=rfl
theorem fT{v:Ce}{a:KTL}{P:KTL->Hp->Prop}{y:V}:PH C σ v a P y H=tE C v σ H (PF a P y):=rfl
def PJ(Q:VK):(Option Int->Bool)×Nat->Hp->Prop:=λa b=>JP Q a b/\∀p,b p=A5->True
theorem fU{a:Ce}{own:List Nat}{t:Ct}{it:Ci}{q:Cqo}:tE C (.ssa a own t it q) σ H Q=tI C it σ H (kCl own (tG C t) (tQo C q) (DB (tE C a)) σ (λ_=>A6,0) (PJ Q)):=rfl
theorem fV{a:(Option Int->Bool)×Nat}(h1:a.1 A5=A6)(q:∀(l:A4)(b:List Int),H l=A5->b.Nodup->(∀i:Int,i∈b↔a.1 (A0 i)=A2)->Q (.ref l) (upd H l (.lst (b.map V.int)))):PJ Q a H:=⟨⟨h1,q⟩,λ_ _=>trivial⟩
def Du(neg:Bool)(y:V)(Q:VK):VK:=λx b=>(∃a o,x=.ref a/\C8 b a y o/\Q (.bl (if neg then !o.isSome else o.isSome)) b)\/G2 neg y x b Q\/G8 neg y x b Q
def K0(C:Rc)(σ:L2.St)(neg:Bool)(b:Ce)(Q:VK):VK:=λy a=>tE C b σ a (Du neg y Q)
theorem fW{neg:Bool}{a b:Ce}:tE C (.din neg a b) σ H Q=tE C a σ H (K0 C σ neg b Q):=rfl
theorem fX{neg:Bool}{a b:Ce}{d:Bool->Hp->Prop}:tQ C (.din neg a b) σ H d=tE C a σ H (K0 C σ neg b (kT d)):=rfl
theorem fY{neg:Bool}{b:Ce}{y:V}:K0 C σ neg b Q y H=tE C b σ H (Du neg y Q):=rfl
theorem K1{neg:Bool}{k:Option Int}{y:V}{p:A4}{S:Option Int->Bool}{n:Nat}(a:y=kO k)(h:H p=A0 (Bh p S n))(q:Q (.bl (if neg then !(S k)else S k)) H):Du neg y Q (.ref p) H:=.inr (.inl ⟨k,p,S,n,a,rfl,h,q⟩)
theorem fZ{neg:Bool}{k:List Int}{b D:A4}{L:List NK}(h:H b=A0 (.tup (k.map V.int)))(e:hT k≠NH)(a:H D=A0 (B3 D L))(d:Bo H L)(q:Q (.bl (if neg then !decide (A0 k∈L.map (aJ Prod.fst))else decide (A0 k∈L.map (aJ Prod.fst)))) H):Du neg (.ref b) Q (.ref D) H:=.inr (.inr (.inl ⟨k,b,D,L,rfl,h,e,rfl,a,d,q⟩))
theorem PK{neg:Bool}{D:A4}(h:NoR H D)(q:Q (.bl neg) H):Du neg .non Q (.ref D) H:=.inr (.inr (.inr ⟨rfl,D,rfl,h,q⟩))
theorem PM{neg:Bool}{y:V}{p:A4}{o:Option V}(h:C8 H p y o)(q:Q (.bl (if neg then !o.isSome else o.isSome)) H):Du neg y Q (.ref p) H:=.inl ⟨p,o,rfl,h,q⟩
def Dv(a:A4)(Q:VK):VK:=λy b=>(∃o,C8 b a y o/\Q (o.getD .non) b)\/(y=.non/\NoN b a/\Q .non b)
def PP(C:Rc)(σ:L2.St)(b:Ce)(Q:VK):VK:=λx d=>∃a,x=.ref a/\IsD d a/\tE C b σ d (Dv a Q)
theorem fc{a b:Ce}:tE C (.dgt a b) σ H Q=tE C a σ H (PP C σ b Q):=rfl
theorem Gj{b:Ce}{p:A4}(h:IsD H p)(q:tE C b σ H (Dv p Q)):PP C σ b Q (.ref p) H:=⟨p,rfl,h,q⟩
theorem PQ{p:A4}{y:V}{o:Option V}(h:C8 H p y o)(q:Q (o.getD .non) H):Dv p Q y H:=.inl ⟨o,h,q⟩
theorem PR{p:A4}(h:NoN H p)(q:Q .non H):Dv p Q .non H:=.inr ⟨rfl,h,q⟩
end
section
variable{C:Rc}{σ:L2.St}{H:Hp}{Q:VK}{Qb:Bool->Hp->Prop}
def kW1(C:Rc)(σ:L2.St)(k:Zf)(b:Ce)(Q:VK):VK:=λx H=>tE C b σ H λy a=>rZf k x y a Q
def kW2(k:Zf)(x:V)(Q:VK):VK:=λy H=>rZf k x y H Q
theorem fe{k:Zf}{a b:Ce}:tQ C (.cmw k a b) σ H Qb=tE C a σ H (kW1 C σ k b (kT Qb)):=rfl
theorem ff{k:Zf}{b:Ce}{x:V}:kW1 C σ k b Q x H=tE C b σ H (kW2 k x Q):=rfl
theorem fg{K:W.Frag}{a:A4}{b:List (List Key×V)}(h:Rd H a (.dT b))(q:∀l(d:List A4),H l=A5->KsA H d b->Q (.ref l) (upd H l (.lst (d.map V.ref)))):BJ K .listD [.ref a] H Q:=.inr ⟨a,b,rfl,h,q⟩
theorem fh{K:W.Frag}{a:A4}{d:List (List Key×V)}{n:Nat}(h:Rd H a (.dT d))(j:∀e∈d,∃g:List Int,e.1=g.map Key.inl/\g.length=n+1)(hu:(d.map λe=>unK e.1).Pairwise λx y=>BI (kI y) (kI x)=A6)(q:∀(l:A4)(f:List A4),H l=A5->f.length=d.length->(∀(i:Nat)b e,f[i]?=A0 b->d[i]?=A0 e->H b=A0 (.tup (e.1.map L2.kV)))->Q (.ref l) (upd H l (.lst (f.map V.ref)))):BJ K .sortU [.ref a] H Q:=⟨a,d,n,rfl,h,j,hu,q⟩
theorem PU{K:W.Frag}{a:A4}{b:List (List Key×V)}(h:Rd H a (.dT b))(q:Q (.int b.length) H):BJ K .lenD [.ref a] H Q:=.inr ⟨a,b,rfl,h,q⟩
section
variable{D:Ends}
def FG(x v:V)(D:Ends)(σ:L2.St):VK:=λy b=>(∃a d,x=.ref a/\E7 b a y v d/\D.nx σ d)\/∃(a:A4)(L:List NK)(q:NK),x=.ref a/\v=.bl A2/\b a=A0 (B3 a L)/\Bo b L/\L.length<4000/\Et b y q/\D.nx σ (upd b a (B3 a (BH L q)))
theorem fi{a:A4}{L:List NK}{q:NK}{y:V}(h:H a=A0 (B3 a L))(b:Bo H L)(hz:L.length<4000)(d:Et H y q)(k:D.nx σ (upd H a (B3 a (BH L q)))):FG (.ref a) (.bl A2) D σ y H:=.inr ⟨a,L,q,rfl,rfl,h,b,hz,d,k⟩
theorem fj{a b:A4}{d:List (List Key×V)}{ks:List Key}{v:V}(h:H a=A0 (.dT d))(e:H b=A0 (.tup (ks.map L2.kV)))(hz:d.length<A7)(k:D.nx σ (upd H a (.dT (Bn d ks v)))):FG (.ref a) v D σ (.ref b) H:=.inl ⟨a,_,rfl,E7.t h e hz,k⟩
def K2(C:Rc)(i:Ce)(v:V)(D:Ends)(σ:L2.St):VK:=λx a=>tE C i σ a (FG x v D σ)
def PV(C:Rc)(o i:Ce)(D:Ends)(σ:L2.St):VK:=λv a=>tE C o σ a (K2 C i v D σ)
theorem fk{o i e:Ce}:tS C (.dput o i e) D σ H=tE C e σ H (PV C o i D σ):=rfl
theorem fm{o i:Ce}{v:V}:PV C o i D σ v H=tE C o σ H (K2 C i v D σ):=rfl
theorem fo{i:Ce}{v x:V}:K2 C i v D σ x H=tE C i σ H (FG x v D σ):=rfl
end
def K4(f:Yf)(Q:VK):VK:=λx H=>rYf f [x] H Q
theorem PX{f:Yf}{a:Ce}:tE C (.cal f a) σ H Q=tE C a σ H (K4 f Q):=rfl
theorem fq{p:A4}{L:PN}(h:H p=A0 (.lst (L.map λx=>V.ref x.1)))(b:L.length<=3999)(a:∀x∈L,H x.1=A0 (.tup [nkV x.2,.bl A2])/\∀q,x.2=A0 q->H q.2=A0 (.tup (q.1.map V.int))/\hT q.1≠NH)(q:∀d,H d=A5->Q (.ref d) (upd H d (B3 d (BP L)))):K4 .dcn Q (.ref p) H:=⟨p,L,rfl,h,b,a,q⟩
theorem ft{a b:A4}{d:List (List Key×V)}(h:Rd H a (.dT d))(e:H b=A0 (.dK []))(q:Q (.bl (!decide (d=[]))) H):kW2 .neD0 (.ref a) Q (.ref b) H:=⟨a,b,d,rfl,rfl,h,e,q⟩
end
end R3
end
section
open PySem PySem.Spec PyProof.Rows L2 R3
local macro_rules | `(tactic| symm) => `(tactic| try walk_at "sy")
set_option hygiene false in
local macro_rules| `(tactic|walk_at"sy")=> `(tactic|simp only [eS,P3,P2,eI,fe,ff,fk,fm,fo,fA,fB,fC,fE,fW,fX,fY,fc,fJ,fO,fP,fU,fG,fH,fQ,fR,fS,fT,ef,eh,ew,ez,YH,Ji,YI,YJ,YK,YL,YM,YN,YO,YQ,YR,YS,YT,YU,YV,YW,YX,YY,YZ,Ya,Yb,Yc,Yd,Ye,Yg,Yh,Yi,eW,Yj,dZ,Yl,Ym,Yn,Yo,Yp,Yq,Yr,Ys,Yt,Yu,Yv,Yw,dz,d_,eA,eL,eB,eC,Yx,Yy,Jl,GZ,Yz,Y_,Z0,OS,Z1,Z2,Z3,Z4,Z5,Z6,Z7,Z8,Z9,ZA,OY,YG,ZD,ZE,ZB,ZC,ZF,ZG,ZH,ZI,ZK,ZL,ZM,ZN,ZO,ZP,ZQ,ZR,ZS,ZT,ZU,ZV,Oe,ZW,Of,Og,ZX,ZY,ZZ,Za,Zb,Zc,Zd,Ze,Zg,Zh,Zi,dI,dJ,dL,dM,dN,dO,dP,Zl,Zm,Zn,Zo,Zp,dY,Zt,Zu,Zw,Zx,Zy,Zz,Z_,a_,Zr,dE,c_,dA,dB,dC,dD,clr,List.foldl_cons,List.foldl_nil,L2.BA,aX,List.map_nil,bD,cN,List.cons_append,df,aL,Nat.reduceSub,Nat.reduceAdd,List.set_cons_zero,List.set_cons_succ,List.getElem?_cons_zero,List.getElem?_cons_succ,reduceCtorEq,decide_true,decide_false,eq_self,Bool.not_true,Bool.not_false,bne_self_eq_false,BEq.rfl])
noncomputable section
namespace LW
open PySem PySem.Spec PyProof.Rows L2 R3
def Gk:Css:=(.cons (.ite (.cmp .Lt (.var 1) (.blt .len (.cons (.var 0) .nil))) (.cons (.ret (.idx (.var 0) (.var 1)))
  .nil) .nil)
  (.cons (.ret (.int 0))
  .nil))
def Gm:Css:=(.cons (.asg (.name 2) (.call "_law_cell_at" (.cons (.var 0) (.cons (.var 1) .nil))))
  (.cons (.ret (.lst (.cons (.bin .Mult (.blt .abs (.cons (.var 2) .nil)) (.blt .int (.cons (.cmp .GtE (.blt .abs (.cons (.var 2) .nil)) (.bin .Pow (.int 10) (.int 18))) .nil))) (.cons (.bin .Add (.bin .Add (.bin .Mod (.var 2) (.int 2305843009213693951)) (.bin .Mult (.int 39373) (.var 1))) (.int 17)) (.cons (.int 0) .nil)))))
  .nil))
def Gn:Css:=(.cons (.ite (.cmp .Gt (.idx (.var 0) (.int 0)) (.int 0)) (.cons (.asg (.name 2) (.bin .Mod (.idx (.var 0) (.int 0)) (.var 1)))
  (.cons (.asg (.sub (.var 0) (.int 0)) (.bin .FloorDiv (.idx (.var 0) (.int 0)) (.var 1)))
  (.cons (.ret (.var 2))
  .nil))) .nil)
  (.cons (.asg (.sub (.var 0) (.int 2)) (.bin .Add (.idx (.var 0) (.int 2)) (.int 1)))
  (.cons (.asg (.name 3) (.bin .Mod (.bin .Mult (.bin .Add (.idx (.var 0) (.int 1)) (.bin .Mult (.int 48271) (.idx (.var 0) (.int 2)))) (.bin .Add (.int 39373) (.idx (.var 0) (.int 2)))) (.int 2147483647)))
  (.cons (.asg (.name 4) (.bin .Mod (.bin .Mult (.bin .Add (.var 3) (.idx (.var 0) (.int 2))) (.bin .Add (.bin .Mod (.var 3) (.int 40009)) (.int 7))) (.int 2147483629)))
  (.cons (.ret (.bin .Mod (.bin .FloorDiv (.bin .Mod (.bin .Add (.bin .Mult (.var 4) (.int 48271)) (.var 3)) (.int 2147483587)) (.int 64)) (.var 1)))
  .nil)))))
def Gp:Css:=(.cons (.asg (.name 1) (.idx (.lst (.cons (.call "_law_take" (.cons (.var 0) (.cons (.int 13) .nil))) (.cons (.call "_law_take" (.cons (.var 0) (.cons (.int 61) .nil))) .nil))) (.blt .int (.cons (.cmp .Eq (.call "_law_take" (.cons (.var 0) (.cons (.int 8) .nil))) (.int 0)) .nil))))
  (.cons (.asg (.name 2) (.bin .Add (.int 2) (.call "_law_take" (.cons (.var 0) (.cons (.int 3) .nil)))))
  (.cons (.asg (.name 3) (.bin .Mult (.idx (.str "01") (.call "_law_take" (.cons (.var 0) (.cons (.int 2) .nil)))) (.blt .int (.cons (.cmp .Gt (.var 1) (.int 0)) .nil))))
  (.cons (.whl (.cmp .Lt (.blt .len (.cons (.var 3) .nil)) (.var 1)) (.cons (.asg (.name 3) (.bin .Add (.var 3) (.idx (.lst (.cons (.idx (.var 3) (.neg (.int 1))) (.cons (.idx (.str "10") (.blt .int (.cons (.idx (.var 3) (.neg (.int 1))) .nil))) .nil))) (.blt .int (.cons (.cmp .Eq (.call "_law_take" (.cons (.var 0) (.cons (.var 2) .nil))) (.int 0)) .nil)))))
  .nil))
  (.cons (.ret (.var 3))
  .nil)))))
def FH:Css:=(.cons (.ite (.val (.blt .isinstance (.cons (.var 1) (.cons (.tup (.cons (.ty "list") (.cons (.ty "tuple") .nil))) .nil)))) (.cons (.ite (.or (.cmp .NotEq (.blt .isinstance (.cons (.var 0) (.cons (.ty "list") .nil))) (.blt .isinstance (.cons (.var 1) (.cons (.ty "list") .nil)))) (.cmp .NotEq (.blt .isinstance (.cons (.var 0) (.cons (.ty "tuple") .nil))) (.blt .isinstance (.cons (.var 1) (.cons (.ty "tuple") .nil))))) (.cons (.ret (.bl A6))
  .nil) .nil)
  (.cons (.ret (.and (.cmp .Eq (.blt .len (.cons (.var 0) .nil)) (.blt .len (.cons (.var 1) .nil))) (.blt .all (.cons (.comp (.call "_law_same" (.cons (.var 2) (.cons (.var 3) .nil))) [2,3] (.tup (.cons (.name 2) (.cons (.name 3) .nil))) (.zip (.var 0) (.var 1)) .none .nil) .nil))))
  .nil)) .nil)
  (.cons (.ite (.or (.cmp .Is (.var 1) .non) (.val (.blt .isinstance (.cons (.var 1) (.cons (.ty "str") .nil))))) (.cons (.ret (.and (.cmp .Eq (.var 0) (.var 1)) (.cmp .Eq (.blt .isinstance (.cons (.var 0) (.cons (.ty "str") .nil))) (.blt .isinstance (.cons (.var 1) (.cons (.ty "str") .nil))))))
  .nil) .nil)
  (.cons (.ite (.val (.blt .isinstance (.cons (.var 1) (.cons (.ty "bool") .nil)))) (.cons (.ret (.and (.blt .isinstance (.cons (.var 0) (.cons (.ty "bool") .nil))) (.cmp .Eq (.var 0) (.var 1))))
  .nil) .nil)
  (.cons (.ret (.and (.blt .isinstance (.cons (.var 0) (.cons (.ty "int") .nil))) (.and (.not (.blt .isinstance (.cons (.var 0) (.cons (.ty "bool") .nil)))) (.cmp .Eq (.var 0) (.var 1)))))
  .nil))))
def EJ(K:W.Frag):Sp:=λd H Q _=>∃(a:A4)(b:List Int)(k:Int),d=[.ref a,.int k]/\SqL K H a (b.map V.int)/\0<=k/\∀c:Int,Q (.int c) H
theorem fu{ns:List Int}{k:Int}(h0:0<=k)(h1:k<ns.length):∃c:Int,atI (ns.map V.int) k=A0 (.int c):=by
 obtain⟨j,rfl⟩:=aT h0;have a:j<ns.length:=by omega
 exact⟨ns[j],Ef (by rw[aj,ae a];rfl)⟩
theorem fv{C:Rc}(e:C.N.length=2):∀b H Q E,EJ C.K b H Q E->tSs C Gk {nx:=λ_ i=>Q .non i,rt:=Q} (L2.BA C.N b) H:=by
 intro b H Q E h;obtain⟨a,j,k,rfl,d,g,q⟩:=h;rw[BW e];unfold Gk;symm;refine DY d ?_;rw[af];symm;refine Bu (λc=>?_) λ_=>?_;.obtain⟨v,f⟩:=fu g c;symm;exact Bi d f (q v)
 .symm;exact q 0
def K5(K:W.Frag):Sp:=λd H Q _=>∃(a:A4)(b:List Int)(k:Int),d=[.ref a,.int k]/\SqL K H a (b.map V.int)/\0<=k/\k<=1000/\∀(p:A4)(x y:Int),H p=A5->0<=x->0<=y->y<2^62->Q (.ref p) (upd H p (C1 x y 0))
theorem fw{C:Rc}(i:C.N.length=3)(m:C.fs "_law_cell_at"=A0 (EJ C.K)):∀b H Q E,K5 C.K b H Q E->tSs C Gm {nx:=λ_ e=>Q .non e,rt:=Q} (L2.BA C.N b) H:=by
 intro b H Q E h;obtain⟨a,g,k,rfl,o,d,j,q⟩:=h;rw[BW i];unfold Gm;symm;refine Az m ?_;symm;refine⟨a,g,k,rfl,o,d,λc=>?_⟩;symm;have l:0<=c%2305843009213693951:=Int.emod_nonneg _ (by decide);have f:c%2305843009213693951<2305843009213693951:=Int.emod_lt_of_pos _ (by decide);refine⟨⟨by decide,by decide,by decide⟩,?_,by decide,.inl ⟨by decide,by decide⟩,by decide,λp n=>q p _ _ n ?_ ?_ ?_⟩;.refine .inr (.inl ⟨?_,?_⟩)<;>split<;>split<;>decide
 .split<;>split<;>omega
 .omega
 .omega
section
variable{K:W.Frag}{H:Hp}{b:A4}{x y z:Int}{Q:VK}
theorem ix0(h:H b=A0 (C1 x y z))(q:Q (.int x) H):CI K (.ref b) (.int 0) H Q\/CJ K (.ref b) (.int 0) H Q:=.inl ⟨b,_,0,_,rfl,rfl,SqL.of h,rfl,q⟩
theorem ix1(h:H b=A0 (C1 x y z))(q:Q (.int y) H):CI K (.ref b) (.int 1) H Q\/CJ K (.ref b) (.int 1) H Q:=.inl ⟨b,_,1,_,rfl,rfl,SqL.of h,rfl,q⟩
theorem ix2(h:H b=A0 (C1 x y z))(q:Q (.int z) H):CI K (.ref b) (.int 2) H Q\/CJ K (.ref b) (.int 2) H Q:=.inl ⟨b,_,2,_,rfl,rfl,SqL.of h,rfl,q⟩
theorem st0{u:Int}{Q:Hp->Prop}(h:H b=A0 (C1 x y z))(q:Q (upd H b (C1 u y z))):D9 (.ref b) (.int 0) (.int u) H Q:=⟨b,_,0,0,rfl,rfl,h,rfl,q⟩
theorem st2{u:Int}{Q:Hp->Prop}(h:H b=A0 (C1 x y z))(q:Q (upd H b (C1 x y u))):D9 (.ref b) (.int 2) (.int u) H Q:=⟨b,_,2,2,rfl,rfl,h,rfl,q⟩
end
def Gq:Sp:=λe H Q _=>∃(b:A4)(x y z m:Int),e=[.ref b,.int m]/\H b=A0 (C1 x y z)/\0<=x/\0<=y/\y<2^62/\0<=z/\z<=2^40/\0<m/\m<4611686018427387904/\
 ∀(r d a:Int),0<=r->r<m->0<=d->0<=a->a<=z+1->Q (.int r) (upd H b (C1 d y a))
theorem fy{C:Rc}(r:C.N.length=5):∀g H Q E,Gq g H Q E->tSs C Gn {nx:=λ_ j=>Q .non j,rt:=Q} (L2.BA C.N g) H:=by
 intro g H Q E h;obtain⟨b,x,y,z,m,rfl,e,i,u,p,t,n,f,l,q⟩:=h;rw[BW r];unfold Gn;walk_at"sy";refine ix0 e ?_;walk_at"sy";refine Bu (λc=>?_) λ_=>?_;.walk_at"sy";refine ix0 e ?_;walk_at"sy";refine⟨f,?_⟩;refine ix0 e ?_;walk_at"sy";refine⟨⟨f,.inr (aq ((Nat.log2_lt ⋯).mpr (show m.natAbs<2^62 by omega)) (by decide))⟩,st0 e ?_⟩;walk_at"sy";exact q _ _ _ (Int.emod_nonneg _ ⋯) (Int.emod_lt_of_pos _ f) (Int.ediv_nonneg i ⋯) t ⋯
 .walk_at"sy";refine ix2 e ?_;walk_at"sy";refine st2 e ?_;have a:upd H b (C1 x y (z+1)) b=A0 (C1 x y (z+1)):=Aw;walk_at"sy";refine ix1 a ?_;walk_at"sy";refine ix2 a ?_;walk_at"sy";refine⟨.inl ⟨by decide,by decide⟩,?_⟩;refine ix2 a ?_;walk_at"sy";refine⟨.inr (.inl ⟨⋯,⋯⟩),by decide,?_⟩;refine ix2 a ?_;walk_at"sy";generalize(y+48271*(z+1))*(39373+(z+1))%2147483647=d;have o:0<=d%40009:=Int.emod_nonneg _ (by decide);have s:d%40009<40009:=Int.emod_lt_of_pos _ (by decide);refine⟨by decide,.inr (.inl ⟨⋯,⋯⟩),by decide,.inr (.inl ⟨by decide,by decide⟩),by decide,⟨by decide,by decide⟩,f,?_⟩;exact q _ _ _ (Int.emod_nonneg _ ⋯) (Int.emod_lt_of_pos _ f) i ⋯ ⋯
def CA:Sp:=λd H Q _=>∃(b:A4)(n:Nat)(m:Int),d=[.ref b,.int m]/\H b=A0 (BV b n)/\n<=2^40/\0<m/\m<4611686018427387904/\∀(r:Int)(a:Hp),0<=r->r<m->Go 1 H a->Q (.int r) a
theorem fz{P:AA}{w:AK}{K:W.Frag}{mg:AM->Option A1}{base:AJ}{k:Nat}{f:A4}{j:Aq}{ps:List AM}(B:ps.length=2)(F:FnOk P w K mg base CX0 k f j ps Gq):FnOk P w K mg base CX0 k f j ps CA:=by
 refine YF (OP (sp':=λe H Q E=>Gq e H (OO Q) E) F λ_ _ _ _ h=>h) (λe H Q E h=>?_) λe H Q E h=>?_;.obtain⟨b,n,m,rfl,i,I,l,d,q⟩:=h;refine⟨b,n,i,λx y z o g a D u=>⟨b,x,y,z,m,rfl,Aw,o,g,a,D,⋯,l,d,λr p t s C v A G=>?_⟩⟩;refine⟨b,p,y,t,n+1,Aw,v,g,a,A,⋯,?_⟩;refine q r _ s C ?_;rw[Fd];exact Go.draw i (ag _) _
 .obtain⟨b,n,m,rfl,_⟩:=h;rw[B];rfl
def FI(K:W.Frag):Sp:=λd H Q _=>∃(a:A4)(b:List Int)(k:Int),d=[.ref a,.int k]/\SqL K H a (b.map V.int)/\0<=k/\k<=1000/\∀(p:A4),H p=A5->Q (.ref p) (upd H p (BV p 0))
theorem f_{P:AA}{w:AK}{K:W.Frag}{mg:AM->Option A1}{base:AJ}{k:Nat}{f:A4}{d:Aq}{ps:List AM}(F:FnOk P w K mg base CX0 k f d ps (K5 K)):FnOk P w K mg base CX0 k f d ps (FI K):=by refine OP F λo H Q E h=>?_;obtain⟨a,j,k,rfl,n,m,i,q⟩:=h;refine⟨a,j,k,rfl,n,m,i,λp x y l g e b=>⟨p,x,y,0,0,Aw,g,e,b,⋯,⋯,?_⟩⟩;rw[Fd];exact q p l
def EK:Sp:=λd H Q _=>∃(b:A4)(n:Nat),d=[.ref b]/\H b=A0 (BV b n)/\n<=2^39/\∀(r:List Bool)(a:Hp),r.length<=60->Go 100 H a->Q (.str (tx r)) a
theorem _root_.R3.Go.boxed{c n:Nat}{H H':Hp}{b:A4}(g:Go c H H')(h:H b=A0 (BV b n))(d:n+c<=2^40):∃m,H' b=A0 (BV b m)/\m<=n+c/\m<=2^40:=by obtain⟨m,a,e⟩:=g.box b n h;exact⟨m,e,a,⋯⟩
theorem gA{C:Rc}(hN:C.N.length=4)(hT:C.fs "_law_take"=A0 CA):∀S H Q E,EK S H Q E->tSs C Gp {nx:=λ_ H'=>Q .non H',rt:=Q} (L2.BA C.N S) H:=by
 intro S H Q E h;obtain⟨b,n,rfl,hb,hn,q⟩:=h;rw[BW hN];unfold Gp;walk_at"sy";refine Az hT ?_;walk_at"sy";refine⟨b,n,13,rfl,hb,⋯,by decide,by decide,λr1 H1 X a8 g1=>?_⟩;obtain⟨n1,s,b6,v⟩:=g1.boxed hb ⋯;walk_at"sy";refine Az hT ?_;walk_at"sy";refine⟨b,n1,61,rfl,s,v,by decide,by decide,λr2 H2 L a9 g2=>?_⟩;obtain⟨n2,B,a7,G⟩:=g2.boxed s ⋯;walk_at"sy";refine⟨by decide,λp hp=>?_⟩;refine Az hT ?_;have a4:p≠b:=λz=>by subst z;rw[B]at hp;cases hp
 have e:upd H2 p (.lst [.int r1,.int r2]) b=A0 (BV b n2):=by rw[Au (Ne.symm a4)];exact B
 walk_at"sy";refine⟨b,n2,8,rfl,e,G,by decide,by decide,λr3 H3 a6 b2 g3=>?_⟩;have O:Go 1 H2 H3:=(Go.trans (c:=0) (Go.new hp _) g3).mono ⋯;obtain⟨n3,J,b8,D⟩:=g3.boxed e ⋯;have Z:H3 p=A0 (.lst [.int r1,.int r2]):=g3.lst Aw;walk_at"sy";refine Oz (SqL.of Z) ?_;have hm:∃d:Int,(if decide (r3=0)=A2 then V.int r2 else V.int r1)=.int d/\0<=d/\d<=60:=by
  split;.exact⟨r2,rfl,L,⋯⟩
  .exact⟨r1,rfl,X,⋯⟩
 obtain⟨d,em,b4,c4⟩:=hm;rw[em];walk_at"sy";refine Az hT ?_;walk_at"sy";refine⟨b,n3,3,rfl,J,D,by decide,by decide,λr4 H4 c1 b1 g4=>?_⟩;obtain⟨n4,A,b3,t⟩:=g4.boxed J ⋯;walk_at"sy";refine Az hT ?_;walk_at"sy";refine⟨b,n4,2,rfl,A,t,by decide,by decide,λr5 H5 c3 b5 g5=>?_⟩;obtain⟨n5,b9,b0,a5⟩:=g5.boxed A ⋯;have R:Go 5 H H5:=((((g1.trans g2).trans O).trans g4).trans g5);obtain⟨l,U⟩:∃l,atI [A6,A2] r5=A0 l:=by
  have:r5=0\/r5=1:=by omega
  rcases this with rfl|rfl;.exact⟨A6,rfl⟩
  .exact⟨A2,rfl⟩
 walk_at"sy";refine Dr (by decide) U ?_;walk_at"sy";have e0:∃o:List Bool,Txt.mul (tx [l]) (if decide (0<d)=A2 then 1 else 0)=tx o/\o.length<=1/\(0<d->o≠[])/\(d<=0->o=[]):=by
  by_cases h:0<d;.refine⟨[l],?_,by simp,λ_=>by simp,λz=>by omega⟩;rw[decide_eq_true h];exact(Op (a:=[l]) (n:=1)).trans (by simp)
  .refine⟨[],?_,by simp,λz=>absurd z h,λ_=>rfl⟩;rw[decide_eq_false h];exact(Op (a:=[l]) (n:=0)).trans (by simp)
 obtain⟨o,er,b7,P,a0⟩:=e0;refine⟨by split<;>decide,by split<;>decide,by rw[CN,bU];split<;>decide,?_⟩;rw[er];refine Jv (λm σ H'=>∃r:List Bool,σ=[A0 (.ref b),A0 (.int d),A0 (.int (2+r4)),A0 (.str (tx r))]/\(r.length:Int)<=d/\(0<d->r≠[])/\m=60-r.length/\Go (5+r.length) H H') _ ⟨o,rfl,?_,P,rfl,R.mono ⋯⟩ ?_
 .by_cases h:0<d;.omega
  .rw[a0 ⋯];simp;omega
 rintro m σ M⟨r,rfl,hr,a3,rfl,g6⟩;walk_at"sy";refine⟨aF (by omega:r.length<=60) (by decide),?_⟩;refine Bu (λY=>Jw ?_) λY=>Jx ?_
 .have w:r≠[]:=a3 ⋯;obtain⟨f,c,rfl⟩:∃f c,r=f++[c]:=⟨r.dropLast,r.getLast w,(List.dropLast_concat_getLast w).symm⟩;have j:(f++[c]).length<=60:=by omega
  have g:(f++[c]).length<=A7:=aF j (by decide);walk_at"sy";refine Dr g (II f c) ?_;walk_at"sy";refine Dr g (II f c) ?_;walk_at"sy";refine Dr (by decide) (c:=!c) (by cases c<;>rfl) ?_;walk_at"sy";refine⟨by decide,λT i=>?_⟩;refine Az hT ?_;walk_at"sy";obtain⟨n6,x,c6,y⟩:=g6.boxed hb ⋯;have I:T≠b:=λz=>by subst z;rw[x]at i;cases i
  have u:upd M T (.lst [.str (tx [c]),.str (tx [!c])]) b=A0 (BV b n6):=by rw[Au (Ne.symm I)];exact x
  refine⟨b,n6,_,rfl,u,y,⋯,⋯,λr7 H7 c2 c5 g7=>?_⟩;have a2:Go 1 M H7:=(Go.trans (c:=0) (Go.new i _) g7).mono ⋯;have a1:H7 T=A0 (.lst [.str (tx [c]),.str (tx [!c])]):=g7.lst Aw;walk_at"sy";refine Oz (SqL.of a1) ?_;obtain⟨K,e7⟩:∃K,(if decide (r7=0)=A2 then V.str (tx [!c])else V.str (tx [c]))=.str (tx [K]):=by
   split;.exact⟨_,rfl⟩
   .exact⟨_,rfl⟩
  rw[e7];walk_at"sy";refine⟨aF (by simp at j⊢;omega:_<=61) (by decide),60-(f++[c]++[K]).length,?_,f++[c]++[K],rfl,?_,λ_=>by simp,rfl,?_⟩;.simp at j hr Y⊢;omega
  .simp at hr Y⊢;omega
  .refine(g6.trans a2).mono ?_;simp;omega
 .walk_at"sy";exact q r M ⋯ (g6.mono ⋯)
def Sc:V->Bool
 | .non=>A2
 | .bl _=>A2
 | .int _=>A2
 | .str _=>A2
 |_=>A6
def Eqv(H:Hp):Nat->V->V->Prop
 |0,v,w=>v=w/\Sc v=A2
 |n+1,v,w=>(v=w/\Sc v=A2)\/∃a b d e,v=.ref a/\w=.ref b/\((H a=A0 (.lst d)/\H b=A0 (.lst e))\/(H a=A0 (.tup d)/\H b=A0 (.tup e)))/\d.length<=A7/\d.length=e.length/\∀(i:Nat)x y,d[i]?=A0 x->e[i]?=A0 y->Eqv H n x y
theorem Eqv.mono{H H':Hp}(s:As H H'):∀{n:Nat}{v w:V},Eqv H n v w->Eqv H' n v w
 |0,_,_,h=>h
 |n+1,v,w,h=>by
  rcases h with h|⟨a,b,m,j,rfl,rfl,f,o,l,g⟩;.exact .inl h
  .refine .inr ⟨a,b,m,j,rfl,rfl,?_,o,l,λi x y d e=>Eqv.mono s (g i x y d e)⟩;rcases f with⟨d,e⟩|⟨d,e⟩;.exact .inl ⟨s _ _ d,s _ _ e⟩
   .exact .inr ⟨s _ _ d,s _ _ e⟩
theorem Eqv.int{H:Hp}{n:Nat}{i:Int}:Eqv H n (.int i) (.int i):=by
 cases n;.exact⟨rfl,rfl⟩
 .exact .inl ⟨rfl,rfl⟩
theorem Eqv.bl{H:Hp}{n:Nat}{i:Bool}:Eqv H n (.bl i) (.bl i):=by
 cases n;.exact⟨rfl,rfl⟩
 .exact .inl ⟨rfl,rfl⟩
theorem Eqv.str{H:Hp}{n:Nat}{i:AM}:Eqv H n (.str i) (.str i):=by
 cases n;.exact⟨rfl,rfl⟩
 .exact .inl ⟨rfl,rfl⟩
theorem Eqv.non{H:Hp}{n:Nat}:Eqv H n .non .non:=by
 cases n;.exact⟨rfl,rfl⟩
 .exact .inl ⟨rfl,rfl⟩
def DG(n:Nat):Sp:=λb H Q _=>∃v w,b=[v,w]/\Eqv H n v w/\∀a,As H a->Q (.bl A2) a
section
variable{K:W.Frag}{H:Hp}{Q:VK}
theorem Bm{x:V}{T c:String}{k:Bool}(h:C2 H x=A0 T)(b:isT T c=k)(hT:T∈DA)(a:c∈["bool","int","str","list","tuple","dict"])(q:Q (.bl k) H):BJ K .isinstance [x,.ty c] H Q:=dS h hT a (by rw[b];exact q)
theorem EL{x:V}{T c d:String}{p:A4}{k:Bool}(h:C2 H x=A0 T)(e:H p=A0 (.tup [.ty c,.ty d]))(f:(isT T c||isT T d)=k)(hT:T∈DA)(a:c∈["bool","int","str","list","tuple","dict"])(b:d∈["bool","int","str","list","tuple","dict"])(q:Q (.bl k) H):BJ K .isinstance [x,.ref p] H Q:=dU h hT e a b (by rw[f];exact q)
theorem gB{x:V}(h:D_ x x=A2)(q:Q (.bl A2) H):BG K .Eq x x H Q:=by rw[O_ h,decide_eq_true rfl];exact q
end
theorem PY{C:Rc}{n:Nat}(hN:C.N.length=4)(hS:∀m,n=m+1->C.fs "_law_same"=A0 (DG m)):∀Y H Q E,DG n Y H Q E->tSs C FH {nx:=λ_ l=>Q .non l,rt:=Q} (L2.BA C.N Y) H:=by
 intro Y H Q E h;obtain⟨v,w,rfl,he,q⟩:=h;rw[BW hN];unfold FH;have A:(v=w/\Sc v=A2)\/∃m a b g t,n=m+1/\v=.ref a/\w=.ref b/\((H a=A0 (.lst g)/\H b=A0 (.lst t))\/(H a=A0 (.tup g)/\H b=A0 (.tup t)))/\g.length<=A7/\g.length=t.length/\∀(i:Nat)x y,g[i]?=A0 x->t[i]?=A0 y->Eqv H m x y:=by
  cases n with
  |zero=>exact .inl he
  |succ m=>
   rcases he with h|⟨a,b,g,t,h⟩;.exact .inl h
   .exact .inr ⟨m,a,b,g,t,rfl,h⟩
 walk_at"sy";refine⟨by decide,λp hp=>?_⟩;have r:=B5 hp (.tup [.ty "list",.ty "tuple"]);have j:upd H p (.tup [.ty "list",.ty "tuple"]) p=A0 (.tup [.ty "list",.ty "tuple"]):=Aw;generalize upd H p (.tup [.ty "list",.ty "tuple"])=o at r j⊢;rcases A with⟨rfl,u⟩|⟨m,a,b,g,t,rfl,rfl,rfl,P,hz,S,U⟩
 .cases v with
  |byt _=>cases u
  |flt _=>cases u
  |ref _=>cases u
  |ty _=>cases u
  |non=>refine EL (T:="NoneType") rfl j (k:=A6) rfl (by decide) (by decide) (by decide) ?_;walk_at"sy";refine gB rfl ?_;walk_at"sy";refine Bm (T:="NoneType") rfl (k:=A6) rfl (by decide) (by decide) ?_;walk_at"sy";refine Bm (T:="NoneType") rfl (k:=A6) rfl (by decide) (by decide) ?_;walk_at"sy";exact q o r
  |bl c=>refine EL (T:="bool") rfl j (k:=A6) rfl (by decide) (by decide) (by decide) ?_;walk_at"sy";refine Bm (T:="bool") rfl (k:=A6) rfl (by decide) (by decide) ?_;walk_at"sy";refine Bm (T:="bool") rfl (k:=A2) rfl (by decide) (by decide) ?_;walk_at"sy";refine Bm (T:="bool") rfl (k:=A2) rfl (by decide) (by decide) ?_;walk_at"sy";exact q o r
  |int i=>refine EL (T:="int") rfl j (k:=A6) rfl (by decide) (by decide) (by decide) ?_;walk_at"sy";refine Bm (T:="int") rfl (k:=A6) rfl (by decide) (by decide) ?_;walk_at"sy";refine Bm (T:="int") rfl (k:=A6) rfl (by decide) (by decide) ?_;walk_at"sy";refine Bm (T:="int") rfl (k:=A2) rfl (by decide) (by decide) ?_;walk_at"sy";refine Bm (T:="int") rfl (k:=A6) rfl (by decide) (by decide) ?_;walk_at"sy";exact q o r
  |str x=>refine EL (T:="str") rfl j (k:=A6) rfl (by decide) (by decide) (by decide) ?_;walk_at"sy";refine Bm (T:="str") rfl (k:=A2) rfl (by decide) (by decide) ?_;walk_at"sy";refine Bm (T:="str") rfl (k:=A2) rfl (by decide) (by decide) ?_;walk_at"sy";refine Bm (T:="str") rfl (k:=A2) rfl (by decide) (by decide) ?_;walk_at"sy";exact q o r
 .have I:∀(J:Bool),(Sq J C.K o a g/\Sq J C.K o b t)->(∀l,As o l->Sq J C.K l a g/\Sq J C.K l b t)->
    DX C (.call "_law_same" (.cons (.var 2) (.cons (.var 3) .nil))) [2,3] (.tup (.cons (.name 2) (.cons (.name 3) .nil))) .none [A0 (.ref a),A0 (.ref b),A5,A5] (kA1 C [A0 (.ref a),A0 (.ref b),A5,A5] .nil (Jn C .all Q)) (Itz J C.K a b) o:=by
   intro J h0 hk;refine dG S (λi L l=>L=aL i (.bl A2)/\As o l) ⟨rfl,As.refl _⟩ (λi L l p=>hk l p.2) ?_ ?_
   .rintro i L l x y p R O hy D⟨rfl,s⟩hR;refine Do (SqT.of Aw) ?_;walk_at"sy";refine Az (hS m rfl) ?_;walk_at"sy";have Z:=s.trans (B5 D (.tup [x,y]));refine⟨x,y,rfl,(U i x y O hy).mono (r.trans Z),λH2 s3=>?_⟩;walk_at"sy";have hi:i<g.length:=by
     rcases Nat.lt_or_ge i g.length with h|h;.exact h
     .rw[bf.mpr h]at O;cases O
    refine⟨by rw[List.length_replicate];omega,hR _ _ ⟨?_,Z.trans s3⟩⟩;rw[List.replicate_succ',List.append_cancel_left_eq]
   .rintro L l⟨rfl,s⟩p D;walk_at"sy";have e:aL g.length (V.bl A2)=(aL g.length A2).map V.bl:=by simp
    refine Oy (bs:=aL g.length A2) (SqL.of (by rw[<-e];exact Aw)) ?_;rw[show(aL g.length A2).all id=A2 by simp];exact q _ ((r.trans s).trans (B5 D _))
  rcases P with⟨X,M⟩|⟨X,M⟩
  .have f:=r _ _ X;have d:=r _ _ M;have G:C2 o (.ref a)=A0 "list":=by simp only[C2,f]
   have B:C2 o (.ref b)=A0 "list":=by simp only[C2,d]
   refine EL B j (k:=A2) rfl (by decide) (by decide) (by decide) ?_;walk_at"sy";refine Bm G (k:=A2) rfl (by decide) (by decide) ?_;walk_at"sy";refine Bm B (k:=A2) rfl (by decide) (by decide) ?_;walk_at"sy";refine Bm G (k:=A6) rfl (by decide) (by decide) ?_;walk_at"sy";refine Bm B (k:=A6) rfl (by decide) (by decide) ?_;walk_at"sy";refine DY (SqL.of f) ?_;walk_at"sy";refine DY (SqL.of d) ?_;rw[S];walk_at"sy";exact bS (SqL.of f) (SqL.of d) (I A6 ⟨SqL.of f,SqL.of d⟩ λl s=>⟨SqL.of (s _ _ f),SqL.of (s _ _ d)⟩)
  .have f:=r _ _ X;have d:=r _ _ M;have G:C2 o (.ref a)=A0 "tuple":=by simp only[C2,f]
   have B:C2 o (.ref b)=A0 "tuple":=by simp only[C2,d]
   refine EL B j (k:=A2) rfl (by decide) (by decide) (by decide) ?_;walk_at"sy";refine Bm G (k:=A6) rfl (by decide) (by decide) ?_;walk_at"sy";refine Bm B (k:=A6) rfl (by decide) (by decide) ?_;walk_at"sy";refine Bm G (k:=A2) rfl (by decide) (by decide) ?_;walk_at"sy";refine Bm B (k:=A2) rfl (by decide) (by decide) ?_;walk_at"sy";refine Gf (SqT.of f) ?_;walk_at"sy";refine Gf (SqT.of d) ?_;rw[S];walk_at"sy";exact be (SqT.of f) (SqT.of d) (I A2 ⟨SqT.of f,SqT.of d⟩ λl s=>⟨SqT.of (s _ _ f),SqT.of (s _ _ d)⟩)
abbrev Rm:=Option Nat×Option Nat
def oV:Option Nat->V
 |A5=>.non
 |A0 n=>.int n
def Tp(H H':Hp):Prop:=∀a b,H a=A0 (.tup b)->H' a=A0 (.tup b)
theorem Tp.refl{H:Hp}:Tp H H:=λ_ _ h=>h
theorem Tp.trans{H d e:Hp}(a:Tp H d)(b:Tp d e):Tp H e:=λc x h=>b c x (a c x h)
theorem B9{H H':Hp}(s:As H H'):Tp H H':=λa b h=>s _ _ h
theorem _root_.R3.Go.upd{c:Nat}{H H':Hp}{l:A4}{o:HO}(g:Go c H H')(h:H l=A5):Go c H (L2.upd H' l o):=by
 refine⟨λa n e=>?_,λa u e f=>?_,λa e=>?_⟩;.obtain⟨m,i,d⟩:=g.box a n e;exact⟨m,i,by rw[Au (Bb e h)];exact d⟩
 .rw[Au (Bb e h)];exact g.oth a u e f
 .by_cases b:a=l;.subst b;exact h
  .rw[Au b]at e;exact g.free a e
theorem DH{Q:VK}{m:Int}{f H:Hp}{b:A4}{j c:Nat}(l:f b=A0 (BV b j))(g:Go c f H)(t:j+c<=2^40)(o:0<m)(e:m<4611686018427387904)(q:∀r a,0<=r->r<m->Go 1 H a->Go (c+1) f a->Q (.int r) a):CA [.ref b,.int m] H Q E0:=by obtain⟨n,d,_,h⟩:=g.boxed l t;exact⟨b,n,m,rfl,d,h,o,e,λr a s p i=>q r a s p i (g.trans i)⟩
def FJ(H:Hp)(v:V)(r:Rm):Prop:=∃p,v=.ref p/\H p=A0 (.tup [oV r.1,oV r.2])
theorem FJ.mono{H H':Hp}{v:V}{r:Rm}(t:Tp H H')(h:FJ H v r):FJ H' v r:=by obtain⟨p,e,h⟩:=h;exact⟨p,e,t _ _ h⟩
def Bw(H:Hp):List V->List Rm->Prop
 | [],[]=>True
 |v::b,r::a=>FJ H v r/\Bw H b a
 |_,_=>False
theorem Bw.mono{H H':Hp}(t:Tp H H'):∀{a:List V}{M:List Rm},Bw H a M->Bw H' a M
 | [],[],_=>trivial
 |v::a,r::b,h=>⟨h.1.mono t,Bw.mono t h.2⟩
 | [],_::_,h=>h.elim
 |_::_,[],h=>h.elim
theorem Bw.len{H:Hp}:∀{a:List V}{M:List Rm},Bw H a M->a.length=M.length
 | [],[],_=>rfl
 |v::a,r::b,h=>by simp[Bw.len h.2]
 | [],_::_,h=>h.elim
 |_::_,[],h=>h.elim
theorem Bw.snoc{H:Hp}{v:V}{r:Rm}(b:FJ H v r):∀{a:List V}{M:List Rm},Bw H a M->Bw H (a++[v]) (M++[r])
 | [],[],_=>⟨b,trivial⟩
 |v::a,r::d,h=>⟨h.1,Bw.snoc b h.2⟩
 | [],_::_,h=>h.elim
 |_::_,[],h=>h.elim
theorem Bw.get{H:Hp}:∀{a:List V}{M:List Rm}{i:Nat}{r:Rm},Bw H a M->M[i]?=A0 r->∃p,a[i]?=A0 (.ref p)/\H p=A0 (.tup [oV r.1,oV r.2])
 | [],[],i,r,_,e=>by cases e
 |v::a,r::f,0,b,h,e=>by cases e;obtain⟨p,rfl,d⟩:=h.1;exact⟨p,rfl,d⟩
 |v::a,r::f,i+1,b,h,e=>Bw.get (i:=i) h.2 (by simpa using e)
 | [],_::_,_,_,h,_=>h.elim
 |_::_,[],_,_,h,_=>h.elim
def IsM(H:Hp)(a:A4)(M:List Rm):Prop:=∃b,H a=A0 (.tup b)/\Bw H b M
theorem IsM.mono{H H':Hp}{a:A4}{M:List Rm}(t:Tp H H')(h:IsM H a M):IsM H' a M:=by obtain⟨e,d,b⟩:=h;exact⟨e,t _ _ d,b.mono t⟩
def OkR(N:Nat)(r:Rm):Prop:=(∀n,r.1=A0 n->n<N)/\∀n,r.2=A0 n->n<N
def OkM(M:List Rm):Prop:=∀r∈M,OkR M.length r
def nV(n:Nat):V:=.int n
def stp(M:List Rm)(r:Nat)(c:Bool):Option Nat:=match M[r]? with
 |A0 a=>if c then a.2 else a.1
 |A5=>A5
def wk(M:List Rm)(o:Option Nat)(a:List Bool):Option Nat:=a.foldl (λo c=>o.bind λr=>stp M r c) o
theorem gC{M:List Rm}{a:List Bool}:wk M A5 a=A5:=by
 induction a with
 |nil=>rfl
 |cons c a b=>exact b
theorem gD{M:List Rm}{o:Option Nat}{a b:List Bool}:wk M o (a++b)=wk M (wk M o a) b:=by unfold wk;rw[List.foldl_append]
theorem PZ{M:List Rm}{o:Option Nat}{a:List Bool}{i:Nat}{c:Bool}(h:a[i]?=A0 c):wk M o (a.take (i+1))=(wk M o (a.take i)).bind λr=>stp M r c:=by rw[bj,h];show wk M o (a.take i++[c])=_;rw[gD];rfl
end LW
namespace TM
open PySem PySem.Spec PyProof.Rows L2 R3 LW
def Gr:Css:=(.cons (.asg (.name 2) (.blt .set (.cons (.var 1) .nil)))
  (.cons (.setc2 3 (.var 5) [4,5] (.name 4) (.val (.var 1)) .none [5] (.name 5) (.val (.idx (.var 0) (.var 4))) .none)
  (.cons (.ret (.comp (.var 4) [4] (.name 4) (.val (.var 1)) (.some (.and (.din A6 (.var 4) (.var 3)) (.or (.din A6 (.idx (.idx (.var 0) (.var 4)) (.int 0)) (.var 2)) (.din A6 (.idx (.idx (.var 0) (.var 4)) (.int 1)) (.var 2))))) .nil))
  .nil)))
def Gs:Css:=(.cons (.dctc A6 2 (.var 4) (.var 3) [3,4] (.tup (.cons (.name 3) (.cons (.name 4) .nil))) (.enum (.var 1)) .none)
  (.cons (.ret (.blt .tuple (.cons (.comp (.tup (.cons (.dgt (.var 2) (.idx (.idx (.var 0) (.var 4)) (.int 0))) (.cons (.dgt (.var 2) (.idx (.idx (.var 0) (.var 4)) (.int 1))) .nil))) [4] (.name 4) (.val (.var 1)) .none .nil) .nil)))
  .nil))
def Gu:Css:=(.cons (.asg (.name 1) (.blt .list (.cons (.blt .range (.cons (.blt .len (.cons (.var 0) .nil)) .nil)) .nil)))
  (.cons (.asg (.name 2) (.call "lasting" (.cons (.var 0) (.cons (.var 1) .nil))))
  (.cons (.whl (.cmp .Lt (.blt .len (.cons (.var 2) .nil)) (.blt .len (.cons (.var 1) .nil))) (.cons (.asg (.name 1) (.var 2))
  (.cons (.asg (.name 2) (.call "lasting" (.cons (.var 0) (.cons (.var 1) .nil))))
  .nil)))
  (.cons (.ret (.tup (.cons (.call "part_of" (.cons (.var 0) (.cons (.var 1) .nil))) (.cons (.var 1) .nil))))
  .nil))))
def oI(o:Option Nat):Option Int:=o.map Int.ofNat
theorem Gv{o:Option Nat}:oV o=kO (oI o):=by cases o<;>rfl
theorem Pa{a b:Option Nat}(h:oI a=oI b):a=b:=by cases a<;>cases b<;>simp[oI]at h⊢;omega
def fs1(M:List Rm)(r:Nat):Option Nat:=(M[r]?.getD (A5,A5)).1
def fs2(M:List Rm)(r:Nat):Option Nat:=(M[r]?.getD (A5,A5)).2
theorem EM{C:Rc}{H:Hp}{a:A4}{M:List Rm}{r:Nat}{Q:VK}(e:IsM H a M)(d:r<M.length)(q:∀p,H p=A0 (.tup [oV (fs1 M r),oV (fs2 M r)])->Q (.ref p) H):CI C.K (.ref a) (.int r) H Q\/CJ C.K (.ref a) (.int r) H Q:=by obtain⟨i,f,h⟩:=e;obtain⟨p,g,b⟩:=h.get (ae d);refine Bv (SqT.of f) (v:=.ref p) (Ef g) (q p ?_);unfold fs1 fs2;rw[ae d];exact b
theorem gE{M:List Rm}(a:OkM M){r n:Nat}:(fs1 M r=A0 n->n<M.length)/\(fs2 M r=A0 n->n<M.length):=by
 unfold fs1 fs2;cases e:M[r]? with
 |none=>exact⟨λh=>(nomatch h),λh=>(nomatch h)⟩
 |some m=>have:=a m (ar e);exact⟨this.1 n,this.2 n⟩
def ldS(M:List Rm)(rs:List Nat):Option Int->Bool:=λk=>rs.any λr=>decide (k=oI (fs1 M r))||decide (k=oI (fs2 M r))
theorem gF{M:List Rm}{rs:List Nat}{r:Nat}:ldS M (rs++[r])=λk=>(ldS M rs k||decide (k=oI (fs1 M r)))||decide (k=oI (fs2 M r)):=by funext k;unfold ldS;rw[List.any_append];simp[Bool.or_assoc]
def inR(rs:List Nat)(o:Option Nat):Bool:=match o with
 |A0 n=>rs.contains n
 |A5=>A6
theorem Pb{rs:List Nat}{o:Option Nat}:inL (rs.map Int.ofNat) (oI o)=inR rs o:=by
 cases o with
 |none=>rfl
 |some n=>
  show(rs.map Int.ofNat).contains (Int.ofNat n)=rs.contains n;induction rs with
  |nil=>rfl
  |cons a rs b=>
   rw[aX,List.contains_cons,List.contains_cons,b];congr 1;by_cases h:n=a;.subst h;simp
   .rw[beq_eq_false_iff_ne.mpr h,beq_eq_false_iff_ne.mpr (λz=>h (Int.ofNat.inj z))]
def CH(M:List Rm)(rs:List Nat)(r:Nat):Bool:=ldS M rs (A0 (r:Int))&&(inR rs (fs1 M r)||inR rs (fs2 M r))
def lst(M:List Rm)(rs:List Nat):List Nat:=rs.filter (CH M rs)
theorem gG{rs:List Nat}:(rs.map Int.ofNat).map V.int=rs.map nV:=by rw[bn];rfl
def FK:Sp:=λe H Q _=>∃(a l:A4)(M:List Rm)(b:List Nat),e=[.ref a,.ref l]/\IsM H a M/\H l=A0 (.lst (b.map nV))/\(∀r∈b,r<M.length)/\b.length<=500/\∀(p:A4)(d:Hp),H p=A5->As H d->d p=A0 (.lst ((lst M b).map nV))->Q (.ref p) d
theorem gH{C:Rc}(hN:C.N.length=6):∀vs H Q E,FK vs H Q E->tSs C Gr {nx:=λ_ d=>Q .non d,rt:=Q} (L2.BA C.N vs) H:=by
 intro vs H Q E h;obtain⟨a,l,M,rs,rfl,hM,hl,L,a2,q⟩:=h;rw[BW hN];unfold Gr;symm;refine fL (ns:=rs.map Int.ofNat) (SqL.of (by rw[gG];exact hl)) (by rw[af];omega) λp hp=>?_;have X:=B5 hp (Bh p (inL (rs.map Int.ofNat)) (rs.map Int.ofNat).length);have I:upd H p (Bh p (inL (rs.map Int.ofNat)) (rs.map Int.ofNat).length) p=A0 (Bh p (inL (rs.map Int.ofNat)) (rs.map Int.ofNat).length):=Aw;generalize upd H p (Bh p (inL (rs.map Int.ofNat)) (rs.map Int.ofNat).length)=H1 at X I⊢;have B:=X _ _ hl;have K:=hM.mono (B9 X);symm;refine CO (SqL.of B) (J_ (vs:=rs.map nV) (λi b d=>b.1=ldS M (rs.take i)/\b.2=2*i/\d=H1) ⟨rfl,rfl,rfl⟩ (λi b d J=>SqL.of (by rw[J.2.2];exact B)) ?_ ?_)
 .rintro i⟨S,n⟩d x R e⟨m,t,hH⟩hR;subst hH;rw[aj]at e;cases s:rs[i]? with
  |none=>rw[s]at e;cases e
  |some r=>
  rw[s]at e;cases e;have hi:=BO s;have u:=L r (ar s);dsimp only at m t;subst m t;simp only[nV];symm;refine EM K u λpr g=>?_;symm;refine FE (SqT.of g) (P8 (vs:=[oV (fs1 M r),oV (fs2 M r)]) (λj b a1=>b.1=(λk=>(if j=0 then ldS M (rs.take i) k else if j=1 then(ldS M (rs.take i) k||decide (k=oI (fs1 M r)))else(ldS M (rs.take i) k||decide (k=oI (fs1 M r)))||decide (k=oI (fs2 M r))))/\b.2=2*i+j/\a1=d) ⟨rfl,rfl,rfl⟩ (λj b d J=>SqT.of (by rw[J.2.2];exact g)) ?_ ?_)
  .rintro j⟨S,n⟩d x R2 e⟨m,t,rfl⟩P;dsimp only at m t;subst m t;have hj:j=0\/j=1:=by have:=BO e;simp only[bD,cN]at this;omega
   rcases hj with rfl|rfl;.simp only[List.getElem?_cons_zero,Option.some.injEq]at e;subst e;symm;refine⟨oI (fs1 M r),Gv,⋯,P _ _ ⟨?_,rfl,rfl⟩⟩;funext k;simp
   .simp only[List.getElem?_cons_succ,List.getElem?_cons_zero,Option.some.injEq]at e;subst e;symm;refine⟨oI (fs2 M r),Gv,⋯,P _ _ ⟨?_,rfl,rfl⟩⟩;funext k;simp
  .rintro⟨S,n⟩d⟨m,t,rfl⟩;dsimp only at m t;subst m t;refine hR _ _ ⟨?_,by simp;omega,rfl⟩;rw[show rs.take (i+1)=rs.take i++[r]by rw[bj,s];rfl,gF];rfl
 .rintro⟨S,n⟩d⟨m,t,rfl⟩;dsimp only at m t;rw[af,aZ]at m;subst m;refine⟨trivial,λA a0=>?_⟩;dsimp only;have G:=B5 a0 (Bh A (ldS M rs) n);have y:upd d A (Bh A (ldS M rs) n) A=A0 (Bh A (ldS M rs) n):=Aw;generalize upd d A (Bh A (ldS M rs) n)=H2 at G y⊢;have U:=G _ _ B;have w:=G _ _ I;have T:=K.mono (B9 G);symm;refine CO (SqL.of U) (DF (vs:=rs.map nV) (λi xs d=>xs=((rs.take i).filter (CH M rs)).map nV/\d=H2) ⟨rfl,rfl⟩ (λi xs d J=>SqL.of (by rw[J.2];exact U)) ?_ ?_)
  .rintro i xs d x R e⟨rfl,rfl⟩hR;rw[aj]at e;cases s:rs[i]? with
   |none=>rw[s]at e;cases e
   |some r=>
   rw[s]at e;cases e;have hi:=BO s;have u:=L r (ar s);have et:(rs.take (i+1)).filter (CH M rs)=(rs.take i).filter (CH M rs)++[r].filter (CH M rs):=by rw[bj,s,List.filter_append];rfl
   have a3:((rs.take i).filter (CH M rs)).length<=500:=aF (bJ ..) (by rw[aH];omega);have f:CH M rs r=A2->R (((rs.take i).filter (CH M rs)).map nV++[nV r]) d:=λh=>hR _ _ ⟨by rw[et,cF,if_pos h,aG];rfl,rfl⟩;have D:CH M rs r=A6->R (((rs.take i).filter (CH M rs)).map nV) d:=λh=>hR _ _ ⟨by rw[et,cF,if_neg (by rw[h];decide)];simp,rfl⟩;have e1:=Pb (rs:=rs) (o:=fs1 M r);have e2:=Pb (rs:=rs) (o:=fs2 M r);unfold CH at f D;simp only[nV]at f⊢;symm;refine K1 (k:=A0 (r:Int)) rfl y ?_;simp only[aV,if_false];cases Y:ldS M rs (A0 (r:Int))with
   |false=>rw[Y]at D;symm;exact D rfl
   |true=>
    rw[Y]at f D;symm;refine EM T u λpr g=>?_;symm;refine Bv (SqT.of g) (v:=oV (fs1 M r)) rfl ?_;symm;refine K1 Gv w ?_;simp only[aV,if_false];rw[e1];cases h1:inR rs (fs1 M r)with
    |true=>rw[h1]at f;symm;exact⟨by rw[af];exact BQ ⋯,f rfl⟩
    |false=>
     rw[h1]at f D;symm;refine EM T u λpr g=>?_;symm;refine Bv (SqT.of g) (v:=oV (fs2 M r)) rfl ?_;symm;refine K1 Gv w ?_;simp only[aV,if_false];rw[e2];cases h2:inR rs (fs2 M r)with
     |true=>rw[h2]at f;symm;exact⟨by rw[af];exact BQ ⋯,f rfl⟩
     |false=>rw[h2]at D;symm;exact D rfl
  .rintro xs d⟨rfl,rfl⟩p3 Z;rw[af,aZ];have O:upd d p3 (.lst ((rs.filter (CH M rs)).map nV)) p3=A0 (.lst ((lst M rs).map nV)):=Aw;exact q p3 _ ((X.trans G).free Z) (X.trans (G.trans (B5 Z _))) O
theorem gI{i:Nat}(h:i<=1000):hashInt (i:Int)=i:=by
 unfold hashInt rawHash;have e:(((i:Int).natAbs:Nat):Int)%((2^61-1:Nat):Int)=i:=by rw[Int.natAbs_natCast];exact Int.emod_eq_of_lt ⋯ (Int.ofNat_lt.mpr (show i<2^61-1 by omega))
 dsimp only;rw[e];have a:¬((i:Int)<0):=by omega
 have b:((i:Int)== -1)=A6:=by rw[beq_eq_false_iff_ne];omega
 simp only[a,if_false,b,aV]
def TbK(n m:Nat)(a:List (Key×V)):Prop:=∀b∈a,∃r j:Nat,b=(.inl (r:Int),.int j)/\r<n/\j<m
theorem TbK.non{H:Hp}{p:A4}{n m:Nat}{a:List (Key×V)}(h:TbK n m a)(f:n<=1000)(d:H p=A0 (.dK a)):NoN H p:=.inl ⟨a,d,λe b=>by obtain⟨r,j,rfl,g,_⟩:=h e b;exact⟨r,rfl,by rw[gI ⋯];show(r:Int)≠0xFCA86420;omega⟩⟩
theorem gJ{M:List Rm}{rs:List Nat}:(lst M rs).length<=rs.length:=bJ ..
theorem Pc{M:List Rm}{rs:List Nat}{r:Nat}(h:r∈lst M rs):r∈rs:=(bo.mp h).1
theorem K6{n:Nat}:rgs 0 n=(aE n).map nV:=by unfold rgs;apply ci;intro k _;show V.int (0+(k:Int))=V.int k;rw[Int.zero_add]
end TM
namespace BD
open PySem PySem.Spec PyProof.Rows L2 R3 LW TM
def Gw:Css:=(.cons (.asg (.tup (.cons (.name 1) (.cons (.name 2) (.cons (.name 3) (.cons (.name 4) (.cons (.name 5) .nil)))))) (.var 0))
  (.cons (.asg (.name 6) (.ife (.cmp .Is (.var 5) .non) (.lst (.cons (.int 0) .nil)) (.blt .list (.cons (.blt .range (.cons (.bin .Add (.var 5) (.int 1)) .nil)) .nil))))
  (.cons (.ret (.comp (.tup (.cons (.var 7) (.cons (.var 9) (.cons (.var 10) .nil)))) [7,8,9,10] (.tup (.cons (.name 7) (.cons (.name 8) .nil))) (.val (.tup (.cons (.tup (.cons (.int 0) (.cons (.var 2) .nil))) (.cons (.tup (.cons (.int 1) (.cons (.var 4) .nil))) .nil)))) .none (.cons [9,10] (.name 9) (.range2 (.int 1) (.bin .Add (.var 8) (.int 1))) .none (.cons [10] (.name 10) (.val (.var 6)) .none .nil))))
  .nil)))
def Gx:Css:=(.cons (.asg (.tup (.cons (.name 3) (.cons (.name 4) (.cons (.name 5) (.cons (.name 6) (.cons (.name 7) .nil)))))) (.var 0))
  (.cons (.asg (.tup (.cons (.name 8) (.cons (.name 9) (.cons (.name 10) .nil)))) (.var 1))
  (.cons (.ite (.cmp .IsNot (.var 7) .non) (.cons (.aug 10 A6 (.ife (.cmp .Eq (.var 2) (.int 1)) (.int 1) (.neg (.int 1))))
  .nil) .nil)
  (.cons (.ite (.cmp .Eq (.var 2) (.var 8)) (.cons (.ret (.tup (.cons (.var 2) (.cons (.bin .Add (.var 9) (.int 1)) (.cons (.var 10) .nil)))))
  .nil) .nil)
  (.cons (.ite (.cmp .Lt (.var 9) (.ife (.cmp .Eq (.var 8) (.int 1)) (.var 5) (.var 3))) (.cons (.ret .non)
  .nil) .nil)
  (.cons (.ret (.tup (.cons (.var 2) (.cons (.int 1) (.cons (.var 10) .nil)))))
  .nil))))))
def Gy:Css:=(.cons (.dctc A2 2 (.var 4) (.var 3) [3,4] (.tup (.cons (.name 3) (.cons (.name 4) .nil))) (.enum (.var 1)) .none)
  (.cons (.ret (.blt .tuple (.cons (.comp (.tup (.cons (.dgt (.var 2) (.call "room_behind" (.cons (.var 0) (.cons (.var 4) (.cons (.int 0) .nil))))) (.cons (.dgt (.var 2) (.call "room_behind" (.cons (.var 0) (.cons (.var 4) (.cons (.int 1) .nil))))) .nil))) [4] (.name 4) (.val (.var 1)) .none .nil) .nil)))
  .nil))
def Gz:Css:=(.cons (.asg (.tup (.cons (.name 1) (.cons (.name 2) .nil))) (.call "trimmed" (.cons (.call "machine_in_bounds" (.cons (.var 0) (.cons (.call "rooms_in_bounds" (.cons (.var 0) .nil)) .nil))) .nil)))
  (.cons (.ret (.var 1))
  .nil))
structure IsB(H:Hp)(p:A4)(l0 h0 l1 h1:Nat)(sp:Option Nat):Prop where
 at':H p=A0 (.tup [nV l0,nV h0,nV l1,nV h1,oV sp])
 b0:h0<=8
 b1:h1<=8
 bs:∀s,sp=A0 s->s<=16
theorem IsB.mono{H H':Hp}{p:A4}{l0 h0 l1 h1:Nat}{sp:Option Nat}(h:IsB H p l0 h0 l1 h1 sp)(t:Tp H H'):IsB H' p l0 h0 l1 h1 sp:=⟨t _ _ h.at',h.b0,h.b1,h.bs⟩
theorem Pe{C:Rc}{H:Hp}{σ:L2.St}{i j k m n:Nat}{a:A4}{x y z u v:V}{R:L2.St->Hp->Prop}(h:SqT C.K H a [x,y,z,u,v])(q:R (((((σ.set i (A0 x)).set j (A0 y)).set k (A0 z)).set m (A0 u)).set n (A0 v)) H):tG C (.tup (.cons (.name i) (.cons (.name j) (.cons (.name k) (.cons (.name m) (.cons (.name n) .nil)))))) (.ref a) σ H R:=
 ⟨a,[x,y,z,u,v],rfl,.inl h,rfl,_,_,rfl,_,_,rfl,_,_,rfl,_,_,rfl,_,_,rfl,rfl,q⟩
abbrev K3:=Nat×Nat×Nat
def Be(H:Hp)(v:V)(k:K3):Prop:=∃p,v=.ref p/\H p=A0 (.tup [nV k.1,nV k.2.1,nV k.2.2])
theorem Be.mono{H H':Hp}(s:As H H'){v:V}{k:K3}(h:Be H v k):Be H' v k:=by obtain⟨p,e,a⟩:=h;exact⟨p,e,s _ _ a⟩
def r1(a:List Nat)(b pl:Nat):List K3:=a.map λl=>(b,pl,l)
def r2(a:List Nat)(b:Nat)(h:Nat):List K3:=(aE h).flatMap λj=>r1 a b (j+1)
def rk(a:List Nat)(h0 h1:Nat):List K3:=r2 a 0 h0++r2 a 1 h1
def lvs:Option Nat->List Nat
 |A5=>[0]
 |A0 s=>aE (s+1)
theorem FL{a:List Nat}{b h:Nat}:r2 a b (h+1)=r2 a b h++r1 a b (h+1):=by unfold r2;rw[List.range_succ,List.flatMap_append];simp
theorem EN{a:List Nat}{b:Nat}:∀{h},(r2 a b h).length=h*a.length
 |0=>by rw[Nat.zero_mul];rfl
 |h+1=>by rw[FL,aA,EN,Nat.add_mul,Nat.one_mul];unfold r1;rw[af]
theorem Cb{d:List Nat}{b h:Nat}{k:K3}:k∈r2 d b h->k.1=b/\1<=k.2.1/\k.2.1<=h/\k.2.2∈d:=by unfold r2 r1;intro a;obtain⟨j,e,a⟩:=dv.mp a;obtain⟨l,f,rfl⟩:=aB.mp a;have:=ba.mp e;exact⟨rfl,by show 1<=j+1;omega,by show j+1<=h;omega,f⟩
theorem K7{a b:Type}{f:a->b}(d:∀x y,f x=f y->x=y):∀{l:List a},l.Nodup->(l.map f).Nodup
 :=by intro x;induction x<;>grind
theorem K8{d:List Nat}(f:d.Nodup){b:Nat}:∀{h},(r2 d b h).Nodup
 |0=>cG
 |h+1=>by rw[FL,List.nodup_append];refine⟨K8 f,K7 (λx y e=>by injection e with _ e;injection e) f,λx i y a e=>?_⟩;subst e;have g:=(Cb i).2.2.1;unfold r1 at a;obtain⟨l,_,rfl⟩:=aB.mp a;have:h+1<=h:=g;omega
theorem EO{f:List Nat}(d:f.Nodup){h0 h1:Nat}:(rk f h0 h1).Nodup:=by unfold rk;rw[List.nodup_append];refine⟨K8 d,K8 d,λx h y g e=>?_⟩;subst e;have a:=(Cb h).1;have b:=(Cb g).1;omega
theorem EQ{sp:Option Nat}:(lvs sp).Nodup:=by
 cases sp with
 |none=>exact cz.mpr ⟨av,cG⟩
 |some s=>exact List.nodup_range
theorem K9{sp:Option Nat}(h:∀s,sp=A0 s->s<=16):(lvs sp).length<=17/\∀l∈lvs sp,l<=16:=by
 cases sp with
 |none=>exact⟨by decide,λl a=>by have:l=0:=(by simpa[lvs]using a);omega⟩
 |some s=>have:=h s rfl;refine⟨by show(aE (s+1)).length<=17;rw[bx];omega,λl a=>?_⟩;have:=ba.mp (show l∈aE (s+1)from a);omega
theorem Cn{sp:Option Nat}{h0 h1:Nat}(i:∀s,sp=A0 s->s<=16)(a0:h0<=8)(g:h1<=8):(rk (lvs sp) h0 h1).length<=272/\∀k∈rk (lvs sp) h0 h1,k.1<2/\k.2.1<9/\k.2.2<17:=by
 obtain⟨h,d⟩:=K9 i;constructor;.unfold rk;rw[aA,EN,EN];have j:h0*(lvs sp).length<=8*17:=Nat.mul_le_mul a0 h;have l:h1*(lvs sp).length<=8*17:=Nat.mul_le_mul g h;omega
 .intro k a;unfold rk at a;rcases aU.mp a with a|a;.obtain⟨e,_,f,b⟩:=Cb a;have:=d _ b;omega
  .obtain⟨e,_,f,b⟩:=Cb a;have:=d _ b;omega
def FM:Sp:=λi H Q _=>∃(bd:A4)(h e g f:Nat)(b:Option Nat),i=[.ref bd]/\IsB H bd h e g f b/\∀(p:A4)(d:List V)(a:Hp),As H a->a p=A0 (.lst d)->B4 (Be a) d (rk (lvs b) e f)->Q (.ref p) a
theorem DI{H H':Hp}(s:As H H'){xs:List V}{ks:List K3}(h:B4 (Be H) xs ks):B4 (Be H') xs ks:=h.mono λ_ _ z=>z.mono s
theorem gK{C:Rc}(hN:C.N.length=11):∀vs H Q E,FM vs H Q E->tSs C Gw {nx:=λ_ S=>Q .non S,rt:=Q} (L2.BA C.N vs) H:=by
 intro vs H Q E h;obtain⟨bd,l0,h0,l1,h1,a,rfl,t,q⟩:=h;rw[BW hN];unfold Gw;symm;rw[DZ];symm;refine Pe (C:=C) (SqT.of t.at') ?_;simp only[GZ,List.set_cons_zero,List.set_cons_succ];obtain⟨b6,b7⟩:=K9 t.bs;refine eR λK hK=>?_;have Ar:∀(A:A4)(I:Hp),As H I->I A=A0 (.lst ((lvs a).map nV))->K (.ref A) I:=by
  intro A I s1 f;refine hK _ _ ?_;symm;refine⟨by show 2<=A7;decide,λl a9=>?_⟩;have t0:=B5 a9 (.tup [.int 0,nV h0]);have e0:upd I l (.tup [.int 0,nV h0]) l=A0 (.tup [.int 0,nV h0]):=Aw;generalize upd I l (.tup [.int 0,nV h0])=H2 at t0 e0⊢;symm;refine⟨by show 2<=A7;decide,λp a7=>?_⟩;have t1:=B5 a7 (.tup [.int 1,nV h1]);have e1:upd H2 p (.tup [.int 1,nV h1]) p=A0 (.tup [.int 1,nV h1]):=Aw;generalize upd H2 p (.tup [.int 1,nV h1])=H3 at t1 e1⊢;symm;refine⟨by show 2<=A7;decide,λq2 b3=>?_⟩;have U:=B5 b3 (.tup [.ref l,.ref p]);have e2:upd H3 q2 (.tup [.ref l,.ref p]) q2=A0 (.tup [.ref l,.ref p]):=Aw;generalize upd H3 q2 (.tup [.ref l,.ref p])=P at U e2⊢;have s4:As I P:=t0.trans (t1.trans U);have a1:=U _ _ (t1 _ _ e0);have a0:=U _ _ e1;have u:=s4 _ _ f;have D:=(Cn t.bs t.b0 t.b1 (h0:=h0) (h1:=h1)).1;refine FE (SqT.of e2) (P8 (vs:=[.ref l,.ref p]) (λi L S=>As P S/\B4 (Be S) L (if i=0 then[]else if i=1 then r2 (lvs a) 0 h0 else rk (lvs a) h0 h1)) ⟨As.refl _,trivial⟩ (λi L S pv=>SqT.of (pv.1 _ _ e2)) ?_ ?_)
  .rintro i L H5 x R r⟨O,Y⟩hR;have hi2:i=0\/i=1:=by have:=BO r;simp only[bD,cN]at this;omega
   obtain⟨qq,b,g,rfl,a3,b8,d,v,G,hb⟩:∃(qq:A4)(b g:Nat),x=.ref qq/\H5 qq=A0 (.tup [.int b,nV g])/\g<=8/\∃d,B4 (Be H5) L d/\(∀o e,As P e->B4 (Be e) o (d++r2 (lvs a) b g)->R o e)/\(d++r2 (lvs a) b g).length<=272:=by
    rcases hi2 with rfl|rfl;.cases r;refine⟨l,0,h0,rfl,O _ _ a1,t.b0,[],Y,λo e y w=>hR _ _ ⟨y,w⟩,?_⟩;rw[df];unfold rk at D;rw[aA]at D;omega
    .cases r;exact⟨p,1,h1,rfl,O _ _ a0,t.b1,r2 (lvs a) 0 h0,Y,λo e y w=>hR _ _ ⟨y,w⟩,D⟩
   refine Do (C:=C) (SqT.of a3) ?_;simp only[nV];symm;rw[aA,EN]at hb;have b4:=v.len;refine Ou ⋯ ⋯ ⋯ ⋯ (e_ (n:=((g:Int)+1-1).toNat) (λj o e=>As P e/\B4 (Be e) o (d++r2 (lvs a) b j)) ⟨O,by simpa[r2]using v⟩ ?_ ?_)
   .rintro j o e R2 hj⟨y,w⟩a4;have a8:j<g:=by omega
    have b5:j*(lvs a).length+(lvs a).length<=g*(lvs a).length:=by have:=Nat.mul_le_mul_right (lvs a).length a8;rw[Nat.succ_mul]at this;exact this
    symm;refine CO (SqL.of (y _ _ u)) (J_ (vs:=(lvs a).map nV) (λm X J=>As P J/\B4 (Be J) X (d++r2 (lvs a) b j++r1 ((lvs a).take m) b (j+1))) ⟨y,by simpa[r1]using w⟩ (λm X J pv=>SqL.of (pv.1 _ _ u)) ?_ ?_)
    .rintro m X J x R3 r⟨s7,T⟩b2;rw[aj]at r;cases Z:(lvs a)[m]? with
     |none=>rw[Z]at r;cases r
     |some B=>
     rw[Z]at r;cases r;have hm:=BO Z;have M:=T.len;rw[aA,aA,EN]at M;unfold r1 at M;rw[af,aH]at M;simp only[nV];symm;refine⟨by show 3<=A7;decide,λq8 a6=>?_⟩;have t8:=B5 a6 (.tup [.int b,.int (1+j),.int B]);have e8:upd J q8 (.tup [.int b,.int (1+j),.int B]) q8=A0 (.tup [nV b,nV (j+1),nV B]):=by rw[Aw];show A0 (HO.tup [.int b,.int (1+(j:Int)),.int B])=A0 (HO.tup [.int b,.int ((j+1:Nat):Int),.int B]);rw[show(1:Int)+j=((j+1:Nat):Int)by omega]
     generalize upd J q8 (.tup [.int b,.int (1+j),.int B])=H8 at t8 e8⊢;refine⟨BQ ⋯,b2 _ _ ⟨s7.trans t8,?_⟩⟩;rw[show r1 ((lvs a).take (m+1)) b (j+1)=r1 ((lvs a).take m) b (j+1)++[(b,j+1,B)]by unfold r1;rw[bj,Z,aG];rfl,<-aQ];exact(DI t8 T).snoc ⟨q8,rfl,e8⟩
    .rintro X J⟨s7,T⟩;rw[af,aZ,aQ,<-FL]at T;exact a4 _ _ ⟨s7,T⟩
   .rintro o e⟨y,w⟩;rw[show((g:Int)+1-1).toNat=g by omega]at w;exact G o e y w
  .rintro L H5⟨O,Y⟩p9 a5;have s9:=B5 a5 (.lst L);exact q p9 L _ (s1.trans (s4.trans (O.trans s9))) Aw (DI s9 Y)
 symm;cases a with
 |none=>simp only[oV];symm;refine⟨by decide,λA f=>?_⟩;exact Ar A _ (B5 f _) Aw
 |some s=>have hs:=t.bs s rfl;simp only[oV];symm;refine Jy λpr a2=>?_;symm;refine Jz Aw ⋯ ⋯ ⋯ ⋯ (bG (BQ ⋯)) λA f=>?_;rw[show((s:Int)+1-0).toNat=s+1 by omega,K6];exact Ar A _ ((B5 a2 _).trans (B5 f _)) Aw
theorem Pf:∀b:Fin 2,∀p:Fin 9,∀l:Fin 17,reduceHash (AB.Tuple.tupleHashOf [hashInt (b.val:Int),hashInt (p.val:Int),hashInt (l.val:Int)])≠NH:=⋯
def kI(k:K3):List Int:=[(k.1:Int),(k.2.1:Int),(k.2.2:Int)]
def kK(k:K3):List Key:=(kI k).map Key.inl
theorem FN{a b:K3}(h:kK a=kK b):a=b:=by obtain⟨j,i,g⟩:=a;obtain⟨e,f,d⟩:=b;unfold kK kI at h;simp only[aX,List.map_nil,List.cons.injEq,Key.inl.injEq,and_true]at h;obtain⟨n,m,l⟩:=h;rw[show j=e by omega,show i=f by omega,show g=d by omega]
theorem G_{k:K3}:(kK k).map L2.kV=[nV k.1,nV k.2.1,nV k.2.2]:=rfl
theorem Pg{ks:List K3}{i:Nat}{k:K3}(h:ks.Nodup)(b:ks[i]?=A0 k):k∉ks.take i:=by
 intro f;have d:=BO b;have e:ks=ks.take i++k::ks.drop (i+1):=by have a:=bY i ks;rw[List.drop_eq_getElem_cons d]at a;rw[ae d]at b;rw[Option.some.inj b]at a;exact a.symm
 rw[e,List.nodup_append]at h;exact h.2.2 k f k az rfl
theorem HA{ks:List K3}{i:Nat}{k:K3}(a:ks[i]?=A0 k):ks.take (i+1)=ks.take i++[k]:=by rw[bj,a];rfl
def TbT(ks:List K3)(m:Nat)(a:KTL):Prop:=∀x∈a,∃(k:K3)(j:Nat),k∈ks/\x.1=kK k/\x.2.2=.int j/\j<m
theorem TbT.non{H:Hp}{p:A4}{ks:List K3}{m:Nat}{a:KTL}(h:TbT ks m a)(f:∀k∈ks,k.1<2/\k.2.1<9/\k.2.2<17)(n:H p=A0 (.dT (plT a))):NoN H p:=.inr ⟨plT a,n,λq b=>by obtain⟨x,g,rfl⟩:=aB.mp b;obtain⟨k,j,d,e,_⟩:=h x g;obtain⟨i,o,l⟩:=f k d;exact⟨kI k,e,Pf ⟨k.1,i⟩ ⟨k.2.1,o⟩ ⟨k.2.2,l⟩⟩⟩
end BD
namespace BE
open PySem PySem.Spec PyProof.Rows L2 R3 LW TM BD
def lvl(sp:Option Nat)(a c:Nat):Int:=match sp with
 |A5=>a
 |A0 _=>(a:Int)+if c=1 then 1 else -1
def bh(l0 l1:Nat)(sp:Option Nat)(k:K3)(c:Nat):Option (List Int):=
 if c=k.1 then A0 [(c:Int),(k.2.1:Int)+1,lvl sp k.2.2 c]else if k.2.1<(if k.1=1 then l1 else l0)then A5 else A0 [(c:Int),1,lvl sp k.2.2 c]
def FO:Sp:=λi H Q _=>∃(bd f:A4)(e g b h:Nat)(d:Option Nat)(k:K3)(c:Nat),i=[.ref bd,.ref f,.int c]/\IsB H bd e g b h d/\H f=A0 (.tup [nV k.1,nV k.2.1,nV k.2.2])/\(bh e b d k c=A5->∀a,As H a->Q .non a)/\∀z,bh e b d k c=A0 z->∀(p:A4)(a:Hp),As H a->a p=A0 (.tup (z.map V.int))->Q (.ref p) a
theorem gL{C:Rc}(B:C.N.length=11):∀w H Q E,FO w H Q E->tSs C Gx {nx:=λ_ y=>Q .non y,rt:=Q} (L2.BA C.N w) H:=by
 intro w H Q E h;obtain⟨bd,D,t,G,q,A,o,⟨b,n,j⟩,c,rfl,I,u,x,v⟩:=h;rw[BW B];unfold Gx;symm;rw[DZ];symm;refine Pe (C:=C) (SqT.of I.at') ?_;symm;rw[DZ];symm;refine P1 (SqT.of u) ?_;simp only[nV,GZ,List.set_cons_zero,List.set_cons_succ];refine Ds λN r=>?_;have Ar:∀d:Int,lvl o j c=d->N [A0 (.ref bd),A0 (.ref D),A0 (.int c),A0 (.int t),A0 (.int G),A0 (.int q),A0 (.int A),A0 (oV o),A0 (.int b),A0 (.int n),A0 (.int d)] H:=by
  intro d m;refine r _ _ ?_;have e:bh t q o (b,n,j) c=if c=b then A0 [(c:Int),(n:Int)+1,d]else if n<(if b=1 then q else t)then A5 else A0 [(c:Int),1,d]:=by unfold bh;rw[<-m]
  symm;refine Bu (λf=>?_) λf=>?_
  .have f:c=b:=by omega
   symm;refine⟨by show 3<=A7;decide,λp l=>?_⟩;exact v _ (by rw[e,if_pos f]) p _ (B5 l _) Aw
  have f:¬c=b:=by omega
  symm;refine Bu (λg=>?_) λg=>?_
  .have g:b=1:=by omega
   symm;refine Bu (λi=>?_) λi=>?_;.symm;exact x (by rw[e,if_neg f,if_pos g,if_pos ⋯]) _ (As.refl _)
   .symm;refine⟨by show 3<=A7;decide,λp l=>?_⟩;exact v _ (by rw[e,if_neg f,if_pos g,if_neg ⋯]) p _ (B5 l _) Aw
  .have g:¬b=1:=by omega
   symm;refine Bu (λi=>?_) λi=>?_;.symm;exact x (by rw[e,if_neg f,if_neg g,if_pos ⋯]) _ (As.refl _)
   .symm;refine⟨by show 3<=A7;decide,λp l=>?_⟩;exact v _ (by rw[e,if_neg f,if_neg g,if_neg ⋯]) p _ (B5 l _) Aw
 cases o with
 |none=>simp only[oV];symm;exact Ar _ rfl
 |some s=>
  simp only[oV];symm;rw[On (a:=(j:Int)) rfl];symm;refine Bu (λf=>?_) λf=>?_;.symm;exact Ar _ (by show(j:Int)+(if c=1 then 1 else -1)=_;(rw[if_pos ⋯]<;>rfl))
  .symm;exact Ar _ (by show(j:Int)+(if c=1 then 1 else -1)=_;(rw[if_neg ⋯]<;>rfl))
def ixK(ks:List K3)(z:Option (List Int)):Option Nat:=match z with
 |A5=>A5
 |A0 z=>ks.findIdx? λk=>decide (BD.kI k=z)
def plN(ks:List K3)(m:Nat):List (List Key×V):=(aE m).map λi:Nat=>(kK (ks[i]?.getD (0,0,0)),V.int i)
theorem gM{ks:List K3}{m:Nat}{k:K3}(h:ks[m]?=A0 k):plN ks (m+1)=plN ks m++[(kK k,V.int m)]:=by unfold plN;rw[List.range_succ,aG];simp[h]
theorem Ph{ks:List K3}{z:List Int}(h:∀k∈ks,BD.kI k≠z):ixK ks (A0 z)=A5:=by show ks.findIdx? _=A5;rw[List.findIdx?_eq_none_iff];intro k a;exact decide_eq_false (h k a)
theorem Pj{ks:List K3}{z:List Int}{i:Nat}{k:K3}(n:ks.Nodup)(a:ks[i]?=A0 k)(hz:BD.kI k=z):ixK ks (A0 z)=A0 i:=by
 show ks.findIdx? _=A0 i;have f:=BO a;rw[List.findIdx?_eq_some_iff_getElem];refine⟨f,?_,λj h=>?_⟩;.rw[ae f]at a;rw[Option.some.inj a];exact decide_eq_true hz
 .have b:j<ks.length:=by omega
  intro d;have d:=of_decide_eq_true d;have e:kK ks[j]=kK k:=by unfold kK;rw[d,hz]
  have m:=FN e;have g:ks[j]?=A0 k:=by rw[ae b,m]
  have:=Pg n a;exact this (ar (l:=ks.take i) (i:=j) (by rw[List.getElem?_take,if_pos h];exact g))
theorem Pk:∀{a b:List Int},(a.map Key.inl:List Key)=b.map Key.inl->a=b
 | [],[],_=>rfl
 | [],_::_,h=>by cases h
 |_::_,[],h=>by cases h
 |x::a,y::b,h=>by rw[aX,aX]at h;injection h with d e;injection d with d;rw[d,Pk e]
theorem gN{ks:List K3}(j:ks.Nodup)(z:List Int):(Bg (plN ks ks.length) (z.map Key.inl)).getD .non=oV (ixK ks (A0 z)):=by
 have f:Bg (plN ks ks.length) (z.map Key.inl)=((aE ks.length).find? λi=>decide (kK (ks[i]?.getD (0,0,0))=z.map Key.inl)).map λi:Nat=>V.int (i:Int):=by unfold Bg plN;rw[List.find?_map,Option.map_map];rfl
 rw[f];cases e:(aE ks.length).find? λi=>decide (kK (ks[i]?.getD (0,0,0))=z.map Key.inl)with
 |none=>
  rw[List.find?_eq_none]at e;rw[Ph λk l m=>?_];.rfl
  .obtain⟨i,d⟩:=bI l;refine e i (ba.mpr (BO d)) (decide_eq_true ?_);rw[d];show(BD.kI k).map Key.inl=_;rw[m]
 |some i=>have h:=List.find?_some e;have b:=of_decide_eq_true h;have g:=ba.mp (List.mem_of_find?_eq_some e);have a:ks[i]?=A0 ks[i]:=ae g;rw[a]at b;rw[Pj j a (Pk b)];rfl
def mx(l0 l1:Nat)(sp:Option Nat)(ks:List K3)(k:K3):Rm:=(ixK ks (bh l0 l1 sp k 0),ixK ks (bh l0 l1 sp k 1))
def FP:Sp:=λi H Q _=>∃(bd l:A4)(h b f d:Nat)(a:Option Nat)(g:List V),i=[.ref bd,.ref l]/\IsB H bd h b f d a/\H l=A0 (.lst g)/\B4 (Be H) g (rk (lvs a) b d)/\∀(p:A4)(e:Hp),As H e->IsM e p ((rk (lvs a) b d).map (mx h f a (rk (lvs a) b d)))->Q (.ref p) e
theorem gO{C:Rc}(hN:C.N.length=5)(hR:C.fs "room_behind"=A0 FO):∀vs H Q E,FP vs H Q E->tSs C Gy {nx:=λ_ K=>Q .non K,rt:=Q} (L2.BA C.N vs) H:=by
 intro vs H Q E h;obtain⟨bd,l,r,h0,o,h1,sp,xs,rfl,hB,hl,hA,q⟩:=h;rw[BW hN];unfold Gy;obtain⟨a3,a1⟩:=Cn hB.bs hB.b0 hB.b1 (h0:=h0) (h1:=h1);have T:=EO (EQ (sp:=sp)) (h0:=h0) (h1:=h1);generalize a9:rk (lvs sp) h0 h1=d at hA q a3 a1 T;have S:=hA.len;symm;refine Os (SqL.of hl) (P9 (vs:=xs) (λi b K=>i<=d.length/\plT b=plN d i/\TbT (d.take i) d.length b/\okT b K/\b.length=i/\As H K) ⟨aN _,rfl,λx h=>absurd h av,λx h=>absurd h av,rfl,As.refl _⟩ (λi b K pv=>SqL.of (pv.2.2.2.2.2 _ _ hl)) ?_ ?_)
 .rintro i b H1 x p R hx hp⟨_,J,hb,U,a5,s1⟩m;obtain⟨k,Z,B,rfl,G⟩:=hA.getL hx;have hi:=BO Z;refine Do (SqT.of Aw) ?_;have t2:=B5 hp (.tup [.int i,.ref B]);have w:=s1.trans t2;generalize upd H1 p (.tup [.int i,.ref B])=H2 at t2 w⊢;have a0:okT b H2:=λy n=>t2 _ _ (U y n);symm;refine⟨kK k,B,rfl,by rw[G_];exact w _ _ G,a0,λy n e=>?_,BQ ⋯,m _ _ ⟨hi,?_,λy n=>?_,λy n=>?_,by simp[a5],w⟩⟩;.obtain⟨k',j,X,e',_⟩:=hb y n;have ek:k'=k:=FN (e'.symm.trans e);subst ek;exact Pg T Z X
  .rw[gM Z,<-J];unfold plT;rw[aG];rfl
  .rw[HA Z];rcases aU.mp n with n|n;.obtain⟨k',j,X,e'⟩:=hb y n;exact⟨k',j,bH _ X,e'⟩
   .have:y=(kK k,B,V.int i):=by simpa using n
    subst this;exact⟨k,i,ap _ (aO.mpr rfl),rfl,rfl,hi⟩
  .rcases aU.mp n with n|n;.exact a0 y n
   .have:y=(kK k,B,V.int i):=by simpa using n
    subst this;show H2 B=A0 (.tup ((kK k).map L2.kV));rw[G_];exact w _ _ G
 .rintro a H1⟨_,J,hb,U,a8,s1⟩;rw[S,aZ]at hb;rw[S]at J;refine⟨U,λp hp=>?_⟩;have w:=s1.trans (B5 hp (.dT (plT a)));have A:upd H1 p (.dT (plT a)) p=A0 (.dT (plT a)):=Aw;generalize upd H1 p (.dT (plT a))=H2 at w A⊢;have M:∀{s:Hp}{Q':VK},As H2 s->Q' (oV (ixK d A5)) s->Dv p Q' .non s:=λD q'=>PR (hb.non a1 (D _ _ A)) q';have P:∀{s:Hp}{Q':VK}{pz:A4}{z:List Int},As H2 s->s pz=A0 (.tup (z.map V.int))->Q' (oV (ixK d (A0 z))) s->Dv p Q' (.ref pz) s:=by intro s Q' pz z D hz q';refine PQ (C8.t (k:=z.map Key.inl) (D _ _ A) (by rw[hz,bn];rfl)) ?_;rw[J,gN T];exact q'
  symm;refine CO (SqL.of (w _ _ hl)) (DF (vs:=xs) (λi v K=>i<=d.length/\Bw K v ((d.take i).map (mx r o sp d))/\As H2 K) ⟨aN _,trivial,As.refl _⟩ (λi v K pv=>SqL.of (pv.2.2 _ _ (w _ _ hl))) ?_ ?_)
  .rintro i v s x R hx⟨_,m,D⟩a6;obtain⟨k,Z,B,rfl,G⟩:=hA.getL hx;have hi:=BO Z;have a2:=w.trans D;symm;refine Gj (.inr ⟨plT a,.inl (D _ _ A)⟩) ?_;refine Az hR ?_;symm;have O:∀(L:Hp),As s L->kA1 C (List.set (clr [4] [A0 (.ref bd),A0 (.ref l),A0 (.ref p),A5,A5]) 4 (A0 (.ref B))) (.cons (.dgt (.var 2) (.call "room_behind" (.cons (.var 0) (.cons (.var 4) (.cons (.int 1) .nil))))) .nil) (Ga (Dp v R)) (oV (ixK d (bh r o sp k 0))) L:=by
    intro L f;have s4:=D.trans f;symm;refine Gj (.inr ⟨plT a,.inl (s4 _ _ A)⟩) ?_;refine Az hR ?_;symm;have u:∀(I:Hp),As L I->kA1 C (List.set (clr [4] [A0 (.ref bd),A0 (.ref l),A0 (.ref p),A5,A5]) 4 (A0 (.ref B))) .nil (kA2 (oV (ixK d (bh r o sp k 0))) (Ga (Dp v R))) (oV (ixK d (bh r o sp k 1))) I:=by intro I g;symm;refine⟨by show 2<=A7;decide,λp6 Y=>?_⟩;have s6:=B5 Y (.tup [oV (ixK d (bh r o sp k 0)),oV (ixK d (bh r o sp k 1))]);have h6:upd I p6 (.tup [oV (ixK d (bh r o sp k 0)),oV (ixK d (bh r o sp k 1))]) p6=A0 (.tup [oV (ixK d (bh r o sp k 0)),oV (ixK d (bh r o sp k 1))]):=Aw;generalize upd I p6 (.tup [oV (ixK d (bh r o sp k 0)),oV (ixK d (bh r o sp k 1))])=H6 at s6 h6⊢;have a4:=m.len;rw[af,aH]at a4;refine⟨BQ ⋯,a6 _ _ ⟨hi,?_,(s4.trans g).trans s6⟩⟩;rw[HA Z,aG];exact(m.mono (B9 (f.trans (g.trans s6)))).snoc ⟨p6,rfl,h6⟩
    refine⟨bd,B,r,h0,o,h1,sp,k,1,rfl,hB.mono (B9 (w.trans s4)),(w.trans s4) _ _ G,λe I g=>M (s4.trans g) (by rw[<-e];exact u I g),λz e pz I g hz=>P (s4.trans g) hz (by rw[<-e];exact u I g)⟩
   refine⟨bd,B,r,h0,o,h1,sp,k,0,rfl,hB.mono (B9 a2),a2 _ _ G,λe L f=>M (D.trans f) (by rw[<-e];exact O L f),λz e pz L f hz=>P (D.trans f) hz (by rw[<-e];exact O L f)⟩
  .rintro v s⟨_,m,D⟩p5 a7;rw[S,aZ]at m;symm;have h5:upd s p5 (.lst v) p5=A0 (.lst v):=Aw;have s5:=B5 a7 (.lst v);generalize upd s p5 (.lst v)=I at h5 s5⊢;refine P0 (SqL.of h5) λp6 Y=>?_;have s6:=B5 Y (.tup v);exact q p6 _ (w.trans (D.trans (s5.trans s6))) ⟨v,Aw,m.mono (B9 (s5.trans s6))⟩
def Sus(M:List Rm)(S:List Nat):Prop:=∀r∈S,r<M.length/\(∃a∈S,fs1 M a=A0 r\/fs2 M a=A0 r)/\∃a∈S,fs1 M r=A0 a\/fs2 M r=A0 a
theorem Pm{M:List Rm}{S rs:List Nat}(h:Sus M S)(b:∀r∈S,r∈rs):∀r∈S,r∈lst M rs:=by
 intro r f;obtain⟨_,⟨r1,d,g⟩,⟨r2,a,i⟩⟩:=h r f;refine bo.mpr ⟨b r f,?_⟩;unfold CH;rw[ah];constructor
 .unfold ldS;rw[bE];refine⟨r1,b r1 d,?_⟩;rw[aR];rcases g with e|e;.left;rw[e];exact decide_eq_true rfl
  .right;rw[e];exact decide_eq_true rfl
 .rw[aR];rcases i with e|e;.left;rw[e];exact di.mpr (b r2 a)
  .right;rw[e];exact di.mpr (b r2 a)
end BE
namespace TE
open PySem PySem.Spec PyProof.Rows L2 R3 LW TM BD BE
def ixR(rs:List Nat):Option Nat->Option Nat
 |A5=>A5
 |A0 n=>if n∈rs then A0 (rs.idxOf n)else A5
theorem Pn{rs:List Nat}{n:Nat}:ixR rs (A0 n)=if n∈rs then A0 (rs.idxOf n)else A5:=rfl
theorem gP{rs:List Nat}(h:rs.Nodup){i j:Nat}{hi:i<rs.length}{hj:j<rs.length}(e:rs[i]=rs[j]):i=j:=by
 rcases Nat.lt_trichotomy i j with z|z|z;.exact absurd e (bF.mp h i j hi hj z)
 .exact z
 .exact absurd e.symm (bF.mp h j i hj hi z)
def prt(M:List Rm)(rs:List Nat):List Rm:=rs.map λr=>(ixR rs (fs1 M r),ixR rs (fs2 M r))
def ziR:List Nat->Nat->List (Key×V)
 | [],_=>[]
 |r::a,k=>((Key.inl (r:Int):Key),V.int k)::ziR a (k+1)
theorem Po{r:Nat}:∀{b:List Nat}{k:Nat},ziR (b++[r]) k=ziR b k++[((Key.inl (r:Int):Key),V.int (k+b.length:Nat))]
 | [],k=>by simp[ziR]
 |a::b,k=>by show _::ziR (b++[r]) (k+1)=_::(ziR b (k+1)++_);rw[Po,bD,show k+1+b.length=k+(b.length+1)by omega]
theorem gQ{a b:Nat}:((Key.inl (a:Int):Key)=Key.inl (b:Int))↔a=b:=by grind
theorem KA{x:Nat}:∀{a:List Nat}{k:Nat},Bg (ziR a k) (Key.inl (x:Int))=if x∈a then A0 (V.int (k+a.idxOf x:Nat))else A5
 | [],k=>by simp[ziR,Bg]
 |r::a,k=>by
  by_cases h:r=x;.subst h;rw[show ziR (r::a) k=((Key.inl (r:Int):Key),V.int k)::ziR a (k+1)from rfl,En rfl];simp
  .rw[show ziR (r::a) k=((Key.inl (r:Int):Key),V.int k)::ziR a (k+1)from rfl,Eo (λz=>h (gQ.mp z)),KA];have d:¬x=r:=λz=>h z.symm;have b:(r==x)=A6:=by rw[beq_eq_false_iff_ne];exact h
   simp only[ao,d,false_or];rw[List.idxOf_cons,b];split;.simp only[cond_false];rw[show k+1+a.idxOf x=k+(a.idxOf x+1)by omega]
   .rfl
theorem Pp:∀{a:List Nat}{k:Nat},(ziR a k).length=a.length
 | [],_=>rfl
 |_::a,k=>by show(ziR a (k+1)).length+1=_;rw[Pp];rfl
theorem Pr{n:Nat}:∀{b:List Nat}{k m:Nat},(∀r∈b,r<n)->k+b.length<=m->TbK n m (ziR b k)
 | [],_,_,_,_=>λd h=>absurd h av
 |r::b,k,m,h,e=>λd a=>by
  rw[bD]at e;rcases ao.mp a with rfl|a;.exact⟨r,k,rfl,h r (by simp),⋯⟩
  .exact Pr (k:=k+1) (λx f=>h x (by simp[f])) ⋯ d a
theorem Ps{C:Rc}{H:Hp}{Q:VK}{p:A4}{n:Nat}{rs:List Nat}{o:Option Nat}(h:∀r∈rs,r<n)(d:n<=1000)(a:H p=A0 (.dK (ziR rs 0)))(q:Q (oV (ixR rs o)) H):Dv p Q (oV o) H:=by
 cases o with
 |none=>exact PR ((Pr (m:=rs.length) h ⋯).non d a) q
 |some x=>
  refine PQ (C8.k (k:=.inl (x:Int)) a) ?_;rw[KA];rw[Pn]at q;by_cases b:x∈rs;.rw[if_pos b]at q⊢;rw[Nat.zero_add];exact q
  .rw[if_neg b]at q⊢;exact q
def FQ:Sp:=λe H Q _=>∃(a l:A4)(M:List Rm)(b:List Nat),e=[.ref a,.ref l]/\IsM H a M/\M.length<=500/\H l=A0 (.lst (b.map nV))/\(∀r∈b,r<M.length)/\b.Nodup/\b.length<=500/\∀(p:A4)(d:Hp),As H d->IsM d p (prt M b)->Q (.ref p) d
theorem gR{C:Rc}(hN:C.N.length=5):∀vs H Q E,FQ vs H Q E->tSs C Gs {nx:=λ_ s=>Q .non s,rt:=Q} (L2.BA C.N vs) H:=by
 intro vs H Q E h;obtain⟨a,l,M,d,rfl,hM,a3,I,u,a0,a2,q⟩:=h;rw[BW hN];unfold Gs;symm;refine Os (SqL.of I) (P9 (vs:=d.map nV) (λi b s=>b=ziR (d.take i) 0/\i<=d.length/\As H s) ⟨rfl,aN _,As.refl _⟩ (λi b s K=>SqL.of (K.2.2 _ _ I)) ?_ ?_)
 .rintro i b J x p R f hp⟨rfl,P,s1⟩hR;rw[aj]at f;cases e:d[i]? with
  |none=>rw[e]at f;cases f
  |some r=>
  rw[e]at f;cases f;have hi:=BO e;refine Do (SqT.of Aw) ?_;have o:=s1.trans (B5 hp (.tup [.int i,nV r]));generalize upd J p (.tup [.int i,nV r])=H2 at o⊢;simp only[nV];symm;have et:d.take (i+1)=d.take i++[r]:=by rw[bj,e];rfl
  have Z:r∉d.take i:=λhm=>by
   obtain⟨j,hj,ej⟩:=cI.mp hm;rw[aH]at hj;rw[List.getElem_take]at ej;have T:d[i]'hi=r:=by rw[ae hi]at e;exact Option.some.inj e
   have:=gP a0 (hi:=by omega) (hj:=hi) (ej.trans T.symm);omega
  refine⟨.inl (r:Int),rfl,by rw[Pp,aH];exact BQ ⋯,hR _ _ ⟨?_,⋯,o⟩⟩;rw[Ii _ (by rw[KA,if_neg Z]),et,Po,aH,Nat.min_eq_left ⋯,Nat.zero_add]
 .rintro a4 J⟨rfl,_,s1⟩;rw[af,aZ];refine⟨trivial,λp hp=>?_⟩;have o:=s1.trans (B5 hp (.dK (ziR d 0)));have w:upd J p (.dK (ziR d 0)) p=A0 (.dK (ziR d 0)):=Aw;generalize upd J p (.dK (ziR d 0))=H2 at o w⊢;symm;refine CO (SqL.of (o _ _ I)) (DF (vs:=d.map nV) (λi m s=>Bw s m ((d.take i).map λr=>(ixR d (fs1 M r),ixR d (fs2 M r)))/\i<=d.length/\As H2 s) ⟨trivial,aN _,As.refl _⟩ (λi m s K=>SqL.of (K.2.2 _ _ (o _ _ I))) ?_ ?_)
  .rintro i m B x R f⟨g,P,D⟩hR;rw[aj]at f;cases e:d[i]? with
   |none=>rw[e]at f;cases f
   |some r=>rw[e]at f;cases f;have hi:=BO e;have A:=u r (ar e);have y:=hM.mono (B9 (o.trans D));have n:=D _ _ w;simp only[nV];symm;refine Gj (.inl ⟨_,.inl n⟩) ?_;symm;refine EM y A λpr t=>?_;symm;refine Bv (SqT.of t) (v:=oV (fs1 M r)) rfl ?_;refine Ps (C:=C) u ⋯ n ?_;symm;refine Gj (.inl ⟨_,.inl n⟩) ?_;symm;refine EM y A λpr t=>?_;symm;refine Bv (SqT.of t) (v:=oV (fs2 M r)) rfl ?_;refine Ps (C:=C) u ⋯ n ?_;symm;refine⟨by show 2<=A7;decide,λG X=>?_⟩;have S:=B5 X (.tup [oV (ixR d (fs1 M r)),oV (ixR d (fs2 M r))]);have h4:upd B G (.tup [oV (ixR d (fs1 M r)),oV (ixR d (fs2 M r))]) G=A0 (.tup [oV (ixR d (fs1 M r)),oV (ixR d (fs2 M r))]):=Aw;generalize upd B G (.tup [oV (ixR d (fs1 M r)),oV (ixR d (fs2 M r))])=H4 at S h4⊢;have Y:=g.len;rw[af,aH]at Y;refine⟨BQ ⋯,hR _ _ ⟨?_,⋯,D.trans S⟩⟩;rw[bj,e,aG];exact(g.mono (B9 S)).snoc ⟨G,rfl,h4⟩
  .rintro m B⟨g,_,D⟩U a1;rw[af,aZ]at g;symm;have h5:upd B U (.lst m) U=A0 (.lst m):=Aw;have L:=B5 a1 (.lst m);generalize upd B U (.lst m)=H5 at h5 L⊢;refine P0 (SqL.of h5) λp6 O=>?_;have s6:=B5 O (.tup m);exact q p6 _ (o.trans (D.trans (L.trans s6))) ⟨m,Aw,g.mono (B9 (L.trans s6))⟩
structure Rs(M:List Rm)(rs:List Nat):Prop where
 rise:rs.Pairwise (· < ·)
 lt:∀r∈rs,r<M.length
 fix:lst M rs=rs
 all:∀S,Sus M S->∀r∈S,r∈rs
theorem gS{rs:List Nat}(h:rs.Pairwise (· < ·)):rs.Nodup:=h.imp λ{a b}z=>ax z
theorem KB:∀{a b:List Nat},a.Pairwise (· < ·)->b.Pairwise (· < ·)->(∀x,x∈a↔x∈b)->a=b
 | [],[],_,_,_=>rfl
 | [],y::b,_,_,h=>absurd ((h y).mpr (by simp)) av
 |x::a,[],_,_,h=>absurd ((h x).mp (by simp)) av
 |x::a,y::b,f,g,h=>by
  rw[List.pairwise_cons]at f g;have e:x=y:=by
   rcases ao.mp ((h x).mp (by simp))with e|e;.exact e
   .rcases ao.mp ((h y).mpr (by simp))with i|i;.exact i.symm
    .have:=g.1 x e;have:=f.1 y i;omega
  subst e;congr 1;refine KB f.2 g.2 λz=>?_;have:=h z;simp only[ao]at this;constructor
  .intro d;rcases this.mp (.inr d)with e|e;.have:=f.1 z d;omega
   .exact e
  .intro d;rcases this.mpr (.inr d)with e|e;.have:=g.1 z d;omega
   .exact e
theorem gT{M:List Rm}{rs:List Nat}(p:∀r∈rs,r<M.length)(h:lst M rs=rs):Sus M rs:=by
 intro r j;have m:r∈lst M rs:=by rw[h];exact j
 have g:=(bo.mp m).2;unfold CH at g;rw[ah,aR]at g;refine⟨p r j,?_,?_⟩
 .obtain⟨d,a,e⟩:=bE.mp g.1;refine⟨d,a,?_⟩;rw[aR,decide_eq_true_eq,decide_eq_true_eq]at e;rcases e with e|e;.exact .inl (Pa (b:=A0 r) (by rw[<-e];rfl))
  .exact .inr (Pa (b:=A0 r) (by rw[<-e];rfl))
 .have f:∀o,inR rs o=A2->∃d∈rs,o=A0 d:=λo l=>by
   cases o with
   |none=>cases l
   |some n=>exact⟨n,di.mp l,rfl⟩
  rcases g.2 with e|e;.obtain⟨d,a,i⟩:=f _ e;exact⟨d,a,.inl i⟩
  .obtain⟨d,a,i⟩:=f _ e;exact⟨d,a,.inr i⟩
theorem Rs.sus{M:List Rm}{rs:List Nat}(h:Rs M rs):Sus M rs:=gT h.lt h.fix
theorem Rs.uniq{M:List Rm}{rs a:List Nat}(h:Rs M rs)(h':Rs M a):rs=a:=KB h.rise h'.rise λx=>⟨λz=>h'.all _ h.sus x z,λz=>h.all _ h'.sus x z⟩
theorem Pt{a:Type}{p:a->Bool}:∀{l:List a},l.length<=(l.filter p).length->l.filter p=l
 :=by intro x;induction x<;>grind
def FR:Sp:=λf H Q _=>∃(a:A4)(M:List Rm),f=[.ref a]/\IsM H a M/\M.length<=500/\∀(p e l:A4)(d:List Nat)(b:Hp),As H b->H l=A5->b p=A0 (.tup [.ref e,.ref l])->b l=A0 (.lst (d.map nV))->IsM b e (prt M d)->Rs M d->Q (.ref p) b
theorem gU{C:Rc}(hN:C.N.length=3)(X:C.fs "lasting"=A0 FK)(hP:C.fs "part_of"=A0 FQ):∀T H Q E,FR T H Q E->tSs C Gu {nx:=λ_ p=>Q .non p,rt:=Q} (L2.BA C.N T) H:=by
 intro T H Q E h;obtain⟨a,M,rfl,w,G,q⟩:=h;rw[BW hN];unfold Gu;obtain⟨mv,A,I⟩:=id w;symm;refine Gf (SqT.of A) ?_;rw[I.len];symm;refine Jy λZ o=>?_;symm;have P:((M.length:Int)-0).toNat<=A7:=bG (BQ ⋯);refine Jz Aw ⋯ ⋯ ⋯ ⋯ P λj n=>?_;rw[show((M.length:Int)-0).toNat=M.length by omega,K6];have x:=(B5 o (.rng 0 M.length)).trans (B5 n (.lst ((aE M.length).map nV)));have J:upd (upd H Z (.rng 0 M.length)) j (.lst ((aE M.length).map nV)) j=A0 (.lst ((aE M.length).map nV)):=Aw;have L:H j=A5:=(B5 o (.rng 0 M.length)).free n;generalize upd (upd H Z (.rng 0 M.length)) j (.lst ((aE M.length).map nV))=H1 at x J⊢;symm;refine Az X ?_;symm;refine⟨a,j,M,aE M.length,rfl,w.mono (B9 x),J,λr d=>ba.mp d,by rw[bx];omega,λp2 H2 D U h2=>?_⟩;symm;refine Jv (λm Y p=>As H p/\∃(e l:A4)(rs:List Nat),Y=[A0 (.ref a),A0 (.ref e),A0 (.ref l)]/\H e=A5/\H l=A5/\p e=A0 (.lst (rs.map nV))/\p l=A0 (.lst ((lst M rs).map nV))/\(∀r∈rs,r<M.length)/\rs.Pairwise (· < ·)/\rs.length<=M.length/\(∀S,Sus M S->∀r∈S,r∈rs)/\m=rs.length) _ ⟨x.trans U,j,p2,aE M.length,rfl,L,x.free D,U _ _ J,h2,λr d=>ba.mp d,da,by rw[bx];omega,λS y r d=>ba.mpr (y r d).1,rfl⟩ ?_;rintro m Y H3⟨t,e,l,rs,rfl,L,f2,i,g,b,f,a1,u,rfl⟩;symm;refine DY (SqL.of g) ?_;symm;refine DY (SqL.of i) ?_;rw[af,af];symm;have a0:=gJ (M:=M) (rs:=rs);refine Bu (λhc=>Jw ?_) λhc=>Jx ?_;.symm;refine Az X ?_;symm;refine⟨a,l,M,lst M rs,rfl,w.mono (B9 t),g,λr d=>b r (Pc d),⋯,λv H4 K s h4=>?_⟩;symm;exact⟨(lst M rs).length,⋯,t.trans s,l,v,lst M rs,rfl,f2,t.free K,s _ _ g,h4,λr d=>b r (Pc d),f.sublist cV,⋯,λS y=>Pm y (u S y),rfl⟩
 .symm;refine Az hP ?_;symm;refine⟨a,e,M,rs,rfl,w.mono (B9 t),G,i,b,gS f,⋯,λv H4 s O=>?_⟩;symm;refine⟨by show 2<=A7;decide,λp5 R=>?_⟩;have B:=B5 R (.tup [.ref v,.ref e]);exact q p5 v e rs _ (t.trans (s.trans B)) L Aw (B _ _ (s _ _ i)) (O.mono (B9 B)) ⟨f,b,Pt (by have:¬((lst M rs).length:Int)<rs.length:=hc;unfold lst at this;omega),u⟩
end TE
namespace SR
open PySem PySem.Spec PyProof.Rows L2 R3 LW
def HB:Css:=(.cons (.asg (.name 1) (.int 0))
  (.cons (.asg (.name 2) (.lst (.cons (.var 1) .nil)))
  (.cons (.for_ (.name 3) (.val (.var 0)) (.cons (.aug 1 A6 (.ife (.cmp .Eq (.var 3) (.str "1")) (.int 1) (.neg (.int 1))))
  (.cons (.expr (.met .append (.var 2) (.cons (.var 1) .nil)))
  .nil)))
  (.cons (.ret (.var 2))
  .nil))))
theorem Pu:∀{l:List Bool},(l.map λc=>[c]).flatten=l
 :=by intro x;induction x<;>grind
def sm(l:List Bool):Int:=(l.count A2:Int)-(l.count A6:Int)
def smL(l:List Bool):List Int:=(aE (l.length+1)).map λi=>sm (l.take i)
theorem Pv{l:List Bool}:smL l≠[]:=by unfold smL;rw[List.range_succ_eq_map];simp
def FS:Sp:=λb H Q _=>∃l:List Bool,b=[.str (tx l)]/\l.length<=1000/\∀a,H a=A5->Q (.ref a) (upd H a (.lst ((smL l).map V.int)))
theorem gV{l:List Bool}{i:Nat}{c:Bool}(h:l[i]?=A0 c):l.take (i+1)=l.take i++[c]:=by rw[bj,h];rfl
theorem gW{l:List Bool}{c:Bool}:sm (l++[c])=sm l+(if c then 1 else -1):=by unfold sm;cases c<;>simp<;>omega
theorem gX{C:Rc}(r:C.N.length=4):∀m H Q E,FS m H Q E->tSs C HB {nx:=λ_ b=>Q .non b,rt:=Q} (L2.BA C.N m) H:=by
 intro m H Q E h;obtain⟨l,rfl,s,q⟩:=h;rw[BW r];unfold HB;walk_at"sy";refine⟨by decide,λa p=>?_⟩;refine Jt (cp (λi g b=>∃x,g=[A0 (.str (tx l)),A0 (.int (sm (l.take i))),A0 (.ref a),x]/\b=upd H a (.lst (((aE (i+1)).map λi=>sm (l.take i)).map V.int))) ⟨A5,rfl,rfl⟩ ?_ ?_)
 .rintro i c g b j⟨x,rfl,rfl⟩;walk_at"sy";rw[On rfl];have t:i<l.length:=by
   rcases Nat.lt_or_ge i l.length with h|h;.exact h
   .rw[bf.mpr h]at j;cases j
  have f:∀d:Int,d=(if c then 1 else -1)->D3 C.K .append (.ref a) [.int (sm (l.take i)+d)] (upd H a (.lst (((aE (i+1)).map λi=>sm (l.take i)).map V.int))) (λ_ b=>∃x,[A0 (V.str (tx l)),A0 (V.int (sm (l.take i)+d)),A0 (V.ref a),A0 (V.str (tx [c]))]=[A0 (.str (tx l)),A0 (.int (sm (l.take (i+1)))),A0 (.ref a),x]/\b=upd H a (.lst (((aE (i+1+1)).map λi=>sm (l.take i)).map V.int))):=by
   intro d o;have e:sm (l.take (i+1))=sm (l.take i)+d:=by rw[gV j,gW,o]
   refine⟨a,_,_,rfl,rfl,Aw,?_,_,by rw[e],?_⟩;.rw[af,af,bx];exact BQ ⋯
   .rw[Fd,List.range_succ (n:=i+1),aG,aG];simp only[aX,List.map_nil,e]
  walk_at"sy";cases c;.walk_at"sy";exact⟨.inl ⟨rfl,_,SqL.of Aw⟩,f (-1) rfl⟩
  .walk_at"sy";exact⟨.inl ⟨rfl,_,SqL.of Aw⟩,f 1 rfl⟩
 .rintro g b⟨x,rfl,rfl⟩;walk_at"sy";exact q a p
theorem gY{n:Nat}{j:Int}(h:(n:Int)<=j):AB.Str.strSliceIndices A5 (A0 j) 1 n=AB.Str.strSliceIndices A5 (A0 (n:Int)) 1 n:=by
 have b:¬j<0:=by omega
 have d:¬((n:Int)<0):=by omega
 have a:(1:Int)>0:=by decide
 simp only[AB.Str.strSliceIndices,b,d,a,if_false,if_true,Int.min_eq_right h,Int.min_self]
theorem gZ{l:List Bool}{n:Nat}:Txt.slice (tx l) A5 (A0 (n:Int))=tx (l.take n):=by
 rcases Nat.le_total n l.length with h|h;.exact Oq h
 .have e:Txt.slice (tx l) A5 (A0 (n:Int))=Txt.slice (tx l) A5 (A0 (l.length:Int)):=by unfold Txt.slice;rw[CN,gY ⋯]
  rw[e,Oq (ag _),br h,br (ag _)]
section
variable{K:W.Frag}{H:Hp}{Q:VK}
theorem KC{l:List Bool}{n:Nat}(a:l.length<=A7)(q:Q (.str (tx (l.take n))) H):rSl K (.str (tx l)) A5 (A0 (n:Int)) H Q:=⟨by rw[CN];exact a,by rw[gZ];exact q⟩
theorem Pw{l:List Bool}{n:Nat}(a:l.length<=A7)(q:Q (.str (tx (l.drop n))) H):rSl K (.str (tx l)) (A0 (n:Int)) A5 H Q:=⟨by rw[CN];exact a,by rw[eQ];exact q⟩
end
theorem Cp{n:Nat}(h:n<=1000):n<=A7:=bG (BQ h)
def Cd(l:List Bool):List V:=(l.map λc=>[c]).map λl=>V.str (tx l)
theorem Px{l:List Bool}:(Cd l).length=l.length:=by unfold Cd;simp
theorem Py{l:List Bool}{c:Bool}:Cd l++[V.str (tx [c])]=Cd (l++[c]):=by unfold Cd;simp
theorem Pz{K:W.Frag}{H:Hp}{Q:VK}{a:A4}{l:List Bool}(h:SqL K H a (Cd l))(hz:l.length<=16000000)(q:Q (.str (tx l)) H):D3 K .join (.str (tx [])) [.ref a] H Q:=by refine eP (ls:=l.map λc=>[c]) h (by rw[Pu];exact hz) ?_;rw[Pu];exact q
end SR
namespace K04
open PySem PySem.Spec PyProof.Rows L2 R3 LW
def HC:Css:=(.cons (.asg (.name 2) (.call "machine_of" (.cons (.var 0) .nil)))
  (.cons (.asg (.name 3) (.blt .list (.cons (.blt .range (.cons (.blt .len (.cons (.var 2) .nil)) .nil)) .nil)))
  (.cons (.for_ (.tup (.cons (.name 4) (.cons (.name 5) .nil))) (.enum (.var 1)) (.cons (.ite (.not (.val (.var 3))) (.cons (.ret (.var 4))
  .nil) .nil)
  (.cons (.asg (.name 3) (.call "rooms_behind" (.cons (.var 2) (.cons (.var 3) (.cons (.var 5) .nil)))))
  .nil)))
  (.cons (.ret (.ife (.val (.var 3)) .non (.blt .len (.cons (.var 1) .nil))))
  .nil))))
def HD:Css:=(.cons (.ret (.cmp .Is (.call "fault_at" (.cons (.var 0) (.cons (.var 1) .nil))) .non))
  .nil)
def HE:Css:=(.cons (.ret (.met .join (.str "") (.cons (.comp (.var 2) [2] (.name 2) (.val (.str "01")) (.some (.val (.call "keeps" (.cons (.var 0) (.cons (.bin .Add (.var 1) (.var 2)) .nil))))) .nil) .nil)))
  .nil)
def HG:Css:=(.cons (.ite (.cmp .Eq (.call "_law_take" (.cons (.var 0) (.cons (.int 8) .nil))) (.int 0)) (.cons (.asg (.name 1) (.lst (.cons (.bin .Add (.int 1) (.call "_law_take" (.cons (.var 0) (.cons (.int 8) .nil)))) (.cons (.bin .Add (.int 1) (.call "_law_take" (.cons (.var 0) (.cons (.int 8) .nil)))) .nil))))
  (.cons (.asg (.name 2) (.comp (.bin .Add (.var 3) (.call "_law_take" (.cons (.var 0) (.cons (.bin .Sub (.int 9) (.var 3)) .nil)))) [3] (.name 3) (.val (.var 1)) .none .nil))
  (.cons (.ret (.tup (.cons (.idx (.var 1) (.int 0)) (.cons (.idx (.var 2) (.int 0)) (.cons (.idx (.var 1) (.int 1)) (.cons (.idx (.var 2) (.int 1)) (.cons (.idx (.lst (.cons .non (.cons .non (.cons (.bin .Add (.int 3) (.call "_law_take" (.cons (.var 0) (.cons (.int 14) .nil)))) .nil)))) (.call "_law_take" (.cons (.var 0) (.cons (.int 3) .nil)))) .nil)))))))
  .nil))) .nil)
  (.cons (.asg (.name 1) (.lst (.cons (.bin .Add (.int 1) (.call "_law_take" (.cons (.var 0) (.cons (.int 2) .nil)))) (.cons (.bin .Add (.int 1) (.call "_law_take" (.cons (.var 0) (.cons (.int 2) .nil)))) .nil))))
  (.cons (.asg (.name 2) (.comp (.bin .Add (.var 3) (.call "_law_take" (.cons (.var 0) (.cons (.int 4) .nil)))) [3] (.name 3) (.val (.var 1)) .none .nil))
  (.cons (.ret (.tup (.cons (.idx (.var 1) (.int 0)) (.cons (.idx (.var 2) (.int 0)) (.cons (.idx (.var 1) (.int 1)) (.cons (.idx (.var 2) (.int 1)) (.cons (.idx (.lst (.cons .non (.cons .non (.cons (.bin .Add (.int 1) (.call "_law_take" (.cons (.var 0) (.cons (.int 6) .nil)))) .nil)))) (.call "_law_take" (.cons (.var 0) (.cons (.int 3) .nil)))) .nil)))))))
  .nil))))
open SR TM BD BE TE
theorem P_{C:Rc}{H:Hp}{Q:VK}{a:A4}{y r:Int}(h:H a=A0 (.lst [.non,.non,.int y]))(h0:0<=r)(h1:r<3)(b:0<=y)(q:∀o:Option Nat,(∀s,o=A0 s->(s:Int)=y)->Q (oV o) H):CI C.K (.ref a) (.int r) H Q\/CJ C.K (.ref a) (.int r) H Q:=by
 obtain⟨k,rfl⟩:=aT h0;have d:k=0\/k=1\/k=2:=by omega
 rcases d with rfl|rfl|rfl;.exact Bi (SqL.of h) (v:=.non) rfl (q A5 λ_ z=>(nomatch z))
 .exact Bi (SqL.of h) (v:=.non) rfl (q A5 λ_ z=>(nomatch z))
 .refine Bi (SqL.of h) (v:=.int y) rfl ?_;have:=q (A0 y.toNat) λs z=>by cases z;omega
  rw[show oV (A0 y.toNat)=.int y by show V.int (y.toNat:Int)=_;rw[Int.toNat_of_nonneg b]]at this;exact this
def ER:Sp:=λi H Q _=>∃(b:A4)(n:Nat),i=[.ref b]/\H b=A0 (BV b n)/\n<=2^39/\∀(p:A4)(d f a g:Nat)(h:Option Nat)(e:Hp),Go 20 H e->IsB e p d f a g h->1<=d->d<=f->1<=a->a<=g->Q (.ref p) e
theorem ga{C:Rc}(hN:C.N.length=4)(hT:C.fs "_law_take"=A0 CA):∀vs H Q E,ER vs H Q E->tSs C HG {nx:=λ_ H'=>Q .non H',rt:=Q} (L2.BA C.N vs) H:=by
 intro vs H Q E h;obtain⟨b,n,rfl,L,hn,q⟩:=h;rw[BW hN];unfold HG;symm;refine Az hT ?_;symm;refine⟨b,n,_,rfl,L,⋯,⋯,⋯,λr0 H0 c1 c2 g0=>?_⟩;obtain⟨n0,B,c0,_⟩:=g0.boxed L ⋯;symm;refine Bu (λhq=>?_) λhq=>?_
 .symm;refine Az hT ?_;symm;refine⟨b,n0,_,rfl,B,⋯,⋯,⋯,λr1 H1 U a7 g1=>?_⟩;obtain⟨r1,rfl⟩:=aT U;obtain⟨n1,p,b8,_⟩:=g1.boxed B ⋯;symm;refine Az hT ?_;symm;refine⟨b,n1,_,rfl,p,⋯,⋯,⋯,λr2 H2 M a9 g2=>?_⟩;obtain⟨r2,rfl⟩:=aT M;obtain⟨n2,b6,a6,_⟩:=g2.boxed p ⋯;symm;refine⟨by decide,λA S=>?_⟩;have g3:Go 3 H (upd H2 A (.lst [.int (1+r1),.int (1+r2)])):=(((g0.trans g1).trans g2).trans (Go.new (c:=0) S _)).mono ⋯;have a:upd H2 A (.lst [.int (1+r1),.int (1+r2)]) A=A0 (.lst ([1+r1,1+r2].map nV)):=by rw[Aw];show A0 (HO.lst [.int (1+(r1:Int)),.int (1+(r2:Int))])=A0 (HO.lst [.int ((1+r1:Nat):Int),.int ((1+r2:Nat):Int)]);rw[show(1:Int)+r1=((1+r1:Nat):Int)by omega,show(1:Int)+r2=((1+r2:Nat):Int)by omega]
  generalize upd H2 A (.lst [.int (1+r1),.int (1+r2)])=H3 at g3 a⊢;symm;refine CO (SqL.of a) (DF (vs:=[1+r1,1+r2].map nV) (λi K H'=>(∃l:List Nat,K=l.map nV/\l.length=i/\i<=2/\B4 (λ(h G:Nat)=>G<=h/\h<=8) l ([1+r1,1+r2].take i))/\Go i H3 H') ⟨⟨[],rfl,rfl,⋯,trivial⟩,Go.refl⟩ (λi K H' pv=>SqL.of (pv.2.lst a)) ?_ ?_)
  .rintro i K r x R w⟨⟨l,rfl,d,hi2,o⟩,m⟩hR;rw[aj]at w;cases y:[1+r1,1+r2][i]? with
   |none=>rw[y]at w;cases w
   |some G=>
   rw[y]at w;cases w;have hi:=BO y;simp only[bD,cN]at hi;have b3:G<=8:=by have:=ar y;simp only[ao,av,or_false]at this;rcases this with rfl|rfl<;>omega
   obtain⟨n4,X,b4,_⟩:=(g3.trans m).boxed L ⋯;simp only[nV];symm;refine Az hT ?_;symm;refine⟨b,n4,_,rfl,X,⋯,⋯,⋯,λr5 H5 a4 b7 u=>?_⟩;obtain⟨r5,rfl⟩:=aT a4;symm;refine⟨by rw[af];exact BQ ⋯,hR _ _ ⟨⟨l++[G+r5],by rw[aG];rfl,by simp[d],⋯,by rw[bj,y];exact o.snoc ⟨⋯,⋯⟩⟩,m.trans u⟩⟩
  .rintro K r⟨⟨l,rfl,d,_,o⟩,m⟩D t;have d:l.length=2:=d;have m:Go 2 H3 r:=m;obtain⟨j,f,rfl⟩:∃j f,l=[j,f]:=by
    match l,d with
    | [j,f],_=>exact⟨j,f,rfl⟩
   obtain⟨⟨a1,a2⟩,⟨b1,b2⟩,_⟩:=o;have u:Go 5 H (upd r D (.lst ([j,f].map nV))):=((g3.trans m).trans (Go.new (c:=0) t _)).mono ⋯;have g:upd r D (.lst ([j,f].map nV)) D=A0 (.lst ([j,f].map nV)):=Aw;have e:=(Go.new (c:=0) t (.lst ([j,f].map nV))).lst (m.lst a);generalize upd r D (.lst ([j,f].map nV))=H5 at u g e⊢;obtain⟨n5,a3,b0,_⟩:=u.boxed L ⋯;symm;refine Bi (SqL.of e) (v:=nV (1+r1)) rfl ?_;symm;refine Bi (SqL.of g) (v:=nV j) rfl ?_;symm;refine Bi (SqL.of e) (v:=nV (1+r2)) rfl ?_;symm;refine Bi (SqL.of g) (v:=nV f) rfl ?_;symm;refine Az hT ?_;symm;refine⟨b,n5,_,rfl,a3,⋯,⋯,⋯,λI O b9 b5 g6=>?_⟩;symm;refine⟨by decide,λJ a0=>?_⟩;have g7:Go 6 H (upd O J (.lst [.non,.non,.int (3+I)])):=((u.trans g6).trans (Go.new (c:=0) a0 _)).mono ⋯;have h7:upd O J (.lst [.non,.non,.int (3+I)]) J=A0 (.lst [.non,.non,.int (3+I)]):=Aw;generalize upd O J (.lst [.non,.non,.int (3+I)])=H7 at g7 h7⊢;obtain⟨n7,a5,a8,_⟩:=g7.boxed L ⋯;refine Az hT ?_;symm;refine⟨b,n7,_,rfl,a5,⋯,⋯,⋯,λr8 H8 Z P g8=>?_⟩;symm;refine P_ (g8.lst h7) Z P ⋯ λsp Y=>?_;symm;refine⟨by show 5<=A7;decide,λp9 T=>?_⟩;refine q p9 (1+r1) j (1+r2) f sp _ (((g7.trans g8).trans (Go.new (c:=0) T _)).mono ⋯) ⟨Aw,a2,b2,λs z=>?_⟩ ⋯ a1 ⋯ b1;have:=Y s z;omega
 .symm;refine Az hT ?_;symm;refine⟨b,n0,_,rfl,B,⋯,⋯,⋯,λr1 H1 U a7 g1=>?_⟩;obtain⟨r1,rfl⟩:=aT U;obtain⟨n1,p,b8,_⟩:=g1.boxed B ⋯;symm;refine Az hT ?_;symm;refine⟨b,n1,_,rfl,p,⋯,⋯,⋯,λr2 H2 M a9 g2=>?_⟩;obtain⟨r2,rfl⟩:=aT M;obtain⟨n2,b6,a6,_⟩:=g2.boxed p ⋯;symm;refine⟨by decide,λA S=>?_⟩;have g3:Go 3 H (upd H2 A (.lst [.int (1+r1),.int (1+r2)])):=(((g0.trans g1).trans g2).trans (Go.new (c:=0) S _)).mono ⋯;have a:upd H2 A (.lst [.int (1+r1),.int (1+r2)]) A=A0 (.lst ([1+r1,1+r2].map nV)):=by rw[Aw];show A0 (HO.lst [.int (1+(r1:Int)),.int (1+(r2:Int))])=A0 (HO.lst [.int ((1+r1:Nat):Int),.int ((1+r2:Nat):Int)]);rw[show(1:Int)+r1=((1+r1:Nat):Int)by omega,show(1:Int)+r2=((1+r2:Nat):Int)by omega]
  generalize upd H2 A (.lst [.int (1+r1),.int (1+r2)])=H3 at g3 a⊢;symm;refine CO (SqL.of a) (DF (vs:=[1+r1,1+r2].map nV) (λi K H'=>(∃l:List Nat,K=l.map nV/\l.length=i/\i<=2/\B4 (λ(h G:Nat)=>G<=h/\h<=8) l ([1+r1,1+r2].take i))/\Go i H3 H') ⟨⟨[],rfl,rfl,⋯,trivial⟩,Go.refl⟩ (λi K H' pv=>SqL.of (pv.2.lst a)) ?_ ?_)
  .rintro i K r x R w⟨⟨l,rfl,d,hi2,o⟩,m⟩hR;rw[aj]at w;cases y:[1+r1,1+r2][i]? with
   |none=>rw[y]at w;cases w
   |some G=>
   rw[y]at w;cases w;have hi:=BO y;simp only[bD,cN]at hi;have b3:G<=2:=by have:=ar y;simp only[ao,av,or_false]at this;rcases this with rfl|rfl<;>omega
   obtain⟨n4,X,b4,_⟩:=(g3.trans m).boxed L ⋯;simp only[nV];symm;refine Az hT ?_;symm;refine⟨b,n4,_,rfl,X,⋯,⋯,⋯,λr5 H5 a4 b7 u=>?_⟩;obtain⟨r5,rfl⟩:=aT a4;symm;refine⟨by rw[af];exact BQ ⋯,hR _ _ ⟨⟨l++[G+r5],by rw[aG];rfl,by simp[d],⋯,by rw[bj,y];exact o.snoc ⟨⋯,⋯⟩⟩,m.trans u⟩⟩
  .rintro K r⟨⟨l,rfl,d,_,o⟩,m⟩D t;have d:l.length=2:=d;have m:Go 2 H3 r:=m;obtain⟨j,f,rfl⟩:∃j f,l=[j,f]:=by
    match l,d with
    | [j,f],_=>exact⟨j,f,rfl⟩
   obtain⟨⟨a1,a2⟩,⟨b1,b2⟩,_⟩:=o;have u:Go 5 H (upd r D (.lst ([j,f].map nV))):=((g3.trans m).trans (Go.new (c:=0) t _)).mono ⋯;have g:upd r D (.lst ([j,f].map nV)) D=A0 (.lst ([j,f].map nV)):=Aw;have e:=(Go.new (c:=0) t (.lst ([j,f].map nV))).lst (m.lst a);generalize upd r D (.lst ([j,f].map nV))=H5 at u g e⊢;obtain⟨n5,a3,b0,_⟩:=u.boxed L ⋯;symm;refine Bi (SqL.of e) (v:=nV (1+r1)) rfl ?_;symm;refine Bi (SqL.of g) (v:=nV j) rfl ?_;symm;refine Bi (SqL.of e) (v:=nV (1+r2)) rfl ?_;symm;refine Bi (SqL.of g) (v:=nV f) rfl ?_;symm;refine Az hT ?_;symm;refine⟨b,n5,_,rfl,a3,⋯,⋯,⋯,λI O b9 b5 g6=>?_⟩;symm;refine⟨by decide,λJ a0=>?_⟩;have g7:Go 6 H (upd O J (.lst [.non,.non,.int (1+I)])):=((u.trans g6).trans (Go.new (c:=0) a0 _)).mono ⋯;have h7:upd O J (.lst [.non,.non,.int (1+I)]) J=A0 (.lst [.non,.non,.int (1+I)]):=Aw;generalize upd O J (.lst [.non,.non,.int (1+I)])=H7 at g7 h7⊢;obtain⟨n7,a5,a8,_⟩:=g7.boxed L ⋯;refine Az hT ?_;symm;refine⟨b,n7,_,rfl,a5,⋯,⋯,⋯,λr8 H8 Z P g8=>?_⟩;symm;refine P_ (g8.lst h7) Z P ⋯ λsp Y=>?_;symm;refine⟨by show 5<=A7;decide,λp9 T=>?_⟩;refine q p9 (1+r1) j (1+r2) f sp _ (((g7.trans g8).trans (Go.new (c:=0) T _)).mono ⋯) ⟨Aw,a2,b2,λs z=>?_⟩ ⋯ a1 ⋯ b1;have:=Y s z;omega
def bd(M:List Rm)(b:Bool)(p:Nat):Option Nat:=if b then fs2 M p else fs1 M p
theorem gb{n:Nat}{l:List Nat}(h:l.Nodup)(d:∀i∈l,i<n):l.length<=n:=by
 have:=Ma (l:=l.map Int.ofNat) (b:=(aE n).map Int.ofNat) (K7 (λx y e=>Int.ofNat.inj e) h) λi a=>by obtain⟨x,f,rfl⟩:=aB.mp a;exact cU (ba.mpr (d x f))
 rw[af,af,bx]at this;exact this
def sS(os:List (Option Nat)):Option Int->Bool:=λk=>os.any λo=>o.isSome&&decide (k=oI o)
theorem gc{os:List (Option Nat)}{o:Option Nat}:sS (os++[o])=λk=>sS os k||(o.isSome&&decide (k=oI o)):=by funext k;unfold sS;rw[List.any_append];simp
theorem gf{os:List (Option Nat)}:sS os A5=A6:=by
 unfold sS;rw[List.any_eq_false];intro o _;cases o with
 |none=>simp
 |some n=>simp[oI]
theorem Q0{os:List (Option Nat)}{i:Int}:sS os (A0 i)=A2↔∃n:Nat,A0 n∈os/\i=n:=by
 unfold sS;rw[bE];constructor
 .rintro⟨o,b,h⟩;cases o with
  |none=>simp at h
  |some n=>
   have:A0 i=oI (A0 n):=by simpa using h
   exact⟨n,b,Option.some.inj this⟩
 .rintro⟨n,a,rfl⟩;exact⟨A0 n,a,by simp[oI]⟩
theorem gg{M:List Rm}(d:OkM M){b:Bool}{p r:Nat}(h:bd M b p=A0 r):r<M.length:=by
 obtain⟨e,a⟩:=gE d (r:=p) (n:=r);cases b with
 |true=>exact a h
 |false=>exact e h
end K04
namespace K06
open PySem PySem.Spec PyProof.Rows L2 R3 LW
def HH:Css:=(.cons (.asg (.tup (.cons (.name 3) (.cons (.name 4) (.cons (.name 5) .nil)))) (.var 1))
  (.cons (.ite (.cmp .IsNot (.idx (.var 0) (.int 4)) .non) (.cons (.asg (.name 5) (.bin .Add (.var 5) (.idx (.lst (.cons (.neg (.int 1)) (.cons (.int 1) .nil))) (.var 2))))
  (.cons (.ite (.or (.cmp .Lt (.var 5) (.int 0)) (.cmp .Gt (.var 5) (.idx (.var 0) (.int 4)))) (.cons (.ret .non)
  .nil) .nil)
  .nil)) .nil)
  (.cons (.ite (.cmp .Eq (.var 2) (.var 3)) (.cons (.ret (.ife (.cmp .LtE (.bin .Add (.var 4) (.int 1)) (.idx (.lst (.cons (.idx (.var 0) (.int 1)) (.cons (.idx (.var 0) (.int 3)) .nil))) (.var 2))) (.tup (.cons (.var 2) (.cons (.bin .Add (.var 4) (.int 1)) (.cons (.var 5) .nil)))) .non))
  .nil) .nil)
  (.cons (.ret (.ife (.cmp .GtE (.var 4) (.idx (.lst (.cons (.idx (.var 0) (.int 0)) (.cons (.idx (.var 0) (.int 2)) .nil))) (.var 3))) (.tup (.cons (.var 2) (.cons (.int 1) (.cons (.var 5) .nil)))) .non))
  .nil))))
def HI:Css:=(.cons (.ret (.or (.din A6 (.call "_law_behind" (.cons (.var 0) (.cons (.var 2) (.cons (.int 0) .nil)))) (.var 1)) (.din A6 (.call "_law_behind" (.cons (.var 0) (.cons (.var 2) (.cons (.int 1) .nil)))) (.var 1))))
  .nil)
def HJ:Css:=(.cons (.asg (.name 1) .dnt)
  (.cons (.for_ (.name 2) (.val (.tup (.cons (.int 0) (.cons (.int 1) .nil)))) (.cons (.for_ (.name 3) (.range2 (.int 1) (.bin .Add (.idx (.lst (.cons (.idx (.var 0) (.int 1)) (.cons (.idx (.var 0) (.int 3)) .nil))) (.var 2)) (.int 1))) (.cons (.for_ (.name 4) (.range1 (.bin .Add (.orv (.idx (.var 0) (.int 4)) (.int 0)) (.int 1))) (.cons (.dput (.var 1) (.tup (.cons (.var 2) (.cons (.var 3) (.cons (.var 4) .nil)))) (.bl A2))
  .nil))
  .nil))
  .nil))
  (.cons (.asg (.name 5) (.neg (.int 1)))
  (.cons (.whl (.cmp .NotEq (.var 5) (.blt .lenD (.cons (.var 1) .nil))) (.cons (.asg (.name 5) (.blt .lenD (.cons (.var 1) .nil)))
  (.cons (.asg (.name 6) .dnn)
  (.cons (.for_ (.name 7) (.dk (.var 1)) (.cons (.for_ (.name 2) (.val (.tup (.cons (.int 0) (.cons (.int 1) .nil)))) (.cons (.dput (.var 6) (.call "_law_behind" (.cons (.var 0) (.cons (.var 7) (.cons (.var 2) .nil)))) (.bl A2))
  .nil))
  .nil))
  (.cons (.asg (.name 1) (.cal .dct (.comp (.tup (.cons (.var 7) (.cons (.bl A2) .nil))) [7] (.name 7) (.dk (.var 1)) (.some (.and (.din A6 (.var 7) (.var 6)) (.val (.call "_law_leads" (.cons (.var 0) (.cons (.var 1) (.cons (.var 7) .nil))))))) .nil)))
  .nil)))))
  (.cons (.ret (.var 1))
  .nil)))))
open TM BD BE TE
def ot(sp:Option Nat)(l:Int):Bool:=match sp with
 |A5=>A6
 |A0 m=>decide (l<0)||decide (l>m)
def lb(l0 h0 l1 h1:Nat)(sp:Option Nat)(k:K3)(c:Nat):Option K3:=
 if ot sp (lvl sp k.2.2 c)=A2 then A5
 else if c=k.1 then(if k.2.1+1<=(if c=1 then h1 else h0)then A0 (c,k.2.1+1,(lvl sp k.2.2 c).toNat)else A5)
 else if(if k.1=1 then l1 else l0)<=k.2.1 then A0 (c,1,(lvl sp k.2.2 c).toNat)else A5
theorem at2{x y:V}{c:Nat}(a:c<2):atI [x,y] (c:Int)=A0 (if c=1 then y else x):=by
 rcases(by omega:c=0\/c=1)with rfl|rfl;.rfl
 .rfl
def C4:Sp:=λj H Q _=>∃(bd i:A4)(g f d h:Nat)(e:Option Nat)(k:K3)(c:Nat),j=[.ref bd,.ref i,.int c]/\IsB H bd g f d h e/\H i=A0 (.tup [nV k.1,nV k.2.1,nV k.2.2])/\c<2/\k.1<2/\(lb g f d h e k c=A5->∀a,As H a->Q .non a)/\∀b,lb g f d h e k c=A0 b->∀(p:A4)(a:Hp),As H a->a p=A0 (.tup [nV b.1,nV b.2.1,nV b.2.2])->Q (.ref p) a
theorem gh{C:Rc}(hN:C.N.length=6):∀P H Q E,C4 P H Q E->tSs C HH {nx:=λ_ Z=>Q .non Z,rt:=Q} (L2.BA C.N P) H:=by
 intro P H Q E h;obtain⟨bd,rm,n,r,l,o,t,⟨b,i,f⟩,c,rfl,R,O,U,I,G,X⟩:=h;have I:b<2:=I;rw[BW hN];unfold HH;symm;rw[DZ];symm;refine P1 (SqT.of O) ?_;simp only[nV,GZ,List.set_cons_zero,List.set_cons_succ];symm;refine Bv (SqT.of R.at') (v:=oV t) rfl ?_;generalize T:DV C _ _=D;have Ar:∀(a:Nat)(A:Hp),lvl t f c=a->(∀m,t=A0 m->a<=m)->As H A->D.nx [A0 (.ref bd),A0 (.ref rm),A0 (.int c),A0 (.int b),A0 (.int i),A0 (.int a)] A:=by
  intro a A x Y y;have g:=(R.mono (B9 y)).at';have e:lb n r l o t (b,i,f) c=if c=b then(if i+1<=(if c=1 then o else r)then A0 (c,i+1,a)else A5)else if(if b=1 then l else n)<=i then A0 (c,1,a)else A5:=by
   unfold lb;dsimp only;rw[x,bb,if_neg];cases t with
   |none=>exact λz=>by cases z
   |some m=>have:=Y m rfl;unfold ot;rw[aR,decide_eq_true_eq,decide_eq_true_eq];omega
  rw[<-T];symm;refine Bu (λu=>?_) λu=>?_
  .have u:c=b:=by omega
   subst u;rw[if_pos rfl]at e;symm;refine Bv (SqT.of g) (v:=nV r) rfl ?_;symm;refine Bv (SqT.of g) (v:=nV o) rfl ?_;symm;refine⟨by decide,λp w=>?_⟩;obtain⟨d,j⟩:=snw w (.lst [nV r,nV o]);generalize upd A p _=M at d j⊢;refine Bi (SqL.of j) (at2 U) ?_;rw[show(if c=1 then nV o else nV r)=V.int ((if c=1 then o else r:Nat):Int)by split<;>rfl];symm;refine Bu (λs=>?_) λs=>?_;.symm;refine⟨by decide,λJ q=>?_⟩;obtain⟨L,K⟩:=snw q (.tup [.int c,.int ((i:Int)+1),.int a]);exact X (c,i+1,a) (by rw[e,if_pos ⋯]) J _ (y.trans (d.trans L)) K
   .symm;exact G (by rw[e,if_neg ⋯]) _ (y.trans d)
  .have u:¬c=b:=by omega
   rw[if_neg u]at e;symm;refine Bv (SqT.of g) (v:=nV n) rfl ?_;symm;refine Bv (SqT.of g) (v:=nV l) rfl ?_;symm;refine⟨by decide,λp w=>?_⟩;obtain⟨d,j⟩:=snw w (.lst [nV n,nV l]);generalize upd A p _=M at d j⊢;refine Bi (SqL.of j) (at2 I) ?_;rw[show(if b=1 then nV l else nV n)=V.int ((if b=1 then l else n:Nat):Int)by split<;>rfl];symm;refine Bu (λs=>?_) λs=>?_;.symm;refine⟨by decide,λJ q=>?_⟩;obtain⟨L,K⟩:=snw q (.tup [.int c,.int 1,.int a]);exact X (c,1,a) (by rw[e,if_pos ⋯]) J _ (y.trans (d.trans L)) K
   .symm;exact G (by rw[e,if_neg ⋯]) _ (y.trans d)
 cases t with
 |none=>simp only[oV];symm;exact Ar f H rfl (λm z=>nomatch z) (As.refl _)
 |some m=>
  simp only[oV];symm;refine⟨by decide,λp w=>?_⟩;obtain⟨d,j⟩:=snw w (.lst [.int (-1),.int 1]);generalize upd H p _=M at d j⊢;refine Bi (SqL.of j) (at2 U) ?_;rw[show(if c=1 then V.int 1 else V.int (-1))=V.int (if c=1 then 1 else -1)by split<;>rfl];symm;have e2:lvl (A0 m) f c=(f:Int)+if c=1 then 1 else -1:=rfl;rw[<-e2];have out:(lvl (A0 m) f c<0\/lvl (A0 m) f c>m)->lb n r l o (A0 m) (b,i,f) c=A5:=λz=>by unfold lb;exact if_pos (by unfold ot;rw[aR,decide_eq_true_eq,decide_eq_true_eq];exact z)
  have B:D.rt=Q:=by rw[<-T];rfl
  refine Bu (λs=>?_) λs=>?_;.symm;rw[B];exact G (out (.inl s)) _ d
  .symm;refine Bv (SqT.of ((R.mono (B9 d)).at')) (v:=oV (A0 m)) rfl ?_;simp only[oV];symm;refine Bu (λS=>?_) λS=>?_;.symm;rw[B];exact G (out (.inr S)) _ d
   .symm;have:=Ar (lvl (A0 m) f c).toNat M ⋯ (λm' z=>by cases z;omega) d;rw[show(((lvl (A0 m) f c).toNat:Nat):Int)=lvl (A0 m) f c by omega]at this;exact this
def dK3(ks:List K3):List (List Key×V):=ks.map λk=>(kK k,V.bl A2)
def D5(k:K3):Prop:=k.1<2/\k.2.1<9/\k.2.2<17
theorem HK{a b:K3}(h:BD.kI a=BD.kI b):a=b:=by
 obtain⟨n,m,l⟩:=a;obtain⟨i,j,g⟩:=b;unfold BD.kI at h;simp only[List.cons.injEq]at h;obtain⟨f,e,d,_⟩:=h;have f:(n:Int)=i:=f;have e:(m:Int)=j:=e;have d:(l:Int)=g:=d;congr 1;.omega
 .congr 1<;>omega
theorem FN{a b:K3}(h:kK a=kK b):a=b:=HK (List.map_inj_right (λx y z=>by injection z)|>.mp h)
theorem HL{k:K3}:∀{b:List K3},Bg (dK3 b) (kK k)=if k∈b then A0 (.bl A2)else A5
 | []=>by simp[dK3,Bg]
 |a::b=>by
  by_cases h:a=k;.subst h;rw[show dK3 (a::b)=(kK a,V.bl A2)::dK3 b from rfl,En rfl];simp
  .rw[show dK3 (a::b)=(kK a,V.bl A2)::dK3 b from rfl,Eo (λz=>h (FN z)),HL];have d:¬k=a:=λz=>h z.symm;simp only[ao,d,false_or]
theorem HM{k:K3}(h:D5 k):hT (BD.kI k)≠NH:=Pf ⟨k.1,h.1⟩ ⟨k.2.1,h.2.1⟩ ⟨k.2.2,h.2.2⟩
theorem Q1{H:Hp}{p:A4}{ks:List K3}(d:∀k∈ks,D5 k)(h:Rd H p (.dT (dK3 ks))):NoR H p:=⟨_,h,λe a=>by obtain⟨k,b,rfl⟩:=aB.mp a;exact⟨BD.kI k,rfl,HM (d k b)⟩⟩
def inK(ks:List K3):Option K3->Bool
 |A5=>A6
 |A0 k=>decide (k∈ks)
theorem Q2{H:Hp}{p:A4}{k:K3}(h:H p=A0 (.tup [nV k.1,nV k.2.1,nV k.2.2])):H p=A0 (.tup ((kK k).map L2.kV)):=h
theorem KD{H H':Hp}{a:A4}{o:HO}(s:As H H')(h:Rd H a o):Rd H' a o:=by
 rcases h with h|⟨z,h⟩;.exact .inl (s _ _ h)
 .exact .inr ⟨z,s _ _ h⟩
theorem Q3{C:Rc}(f:C.fs "_law_behind"=A0 C4){H:Hp}{Q:VK}{bd D i:A4}{l0 h0 l1 h1:Nat}{sp:Option Nat}{ks:List K3}{k:K3}{c:Nat}(s:IsB H bd l0 h0 l1 h1 sp)(l:Rd H D (.dT (dK3 ks)))(r:∀k∈ks,D5 k)(g:H i=A0 (.tup [nV k.1,nV k.2.1,nV k.2.2]))(m:k.1<2)(n:c<2)
  (q:∀j,As H j->Q (.bl (inK ks (lb l0 h0 l1 h1 sp k c))) j):tE C (.din A6 (.call "_law_behind" (.cons (.var 0) (.cons (.var 2) (.cons (.int (c:Int)) .nil)))) (.var 1)) [A0 (.ref bd),A0 (.ref D),A0 (.ref i)] H Q:=by
 symm;refine Az f ?_;symm;refine⟨bd,i,l0,h0,l1,h1,sp,k,c,rfl,s,g,n,m,λe h b=>?_,λd e p h b o=>?_⟩;.have:=q h b;rw[e]at this;symm;exact PK (Q1 r (KD b l)) this
 .have:=q h b;rw[e]at this;symm;refine PM (.inr ⟨_,kK d,p,KD b l,rfl,Q2 o,rfl⟩) ?_;rw[HL];by_cases a:d∈ks;.rw[show inK ks (A0 d)=A2 from decide_eq_true a]at this;rw[if_pos a];exact this
  .rw[show inK ks (A0 d)=A6 from decide_eq_false a]at this;rw[if_neg a];exact this
def ES:Sp:=λj H Q _=>∃(bd D h:A4)(f e b g:Nat)(d:Option Nat)(a:List K3)(k:K3),j=[.ref bd,.ref D,.ref h]/\IsB H bd f e b g d/\Rd H D (.dT (dK3 a))/\(∀k∈a,D5 k)/\H h=A0 (.tup [nV k.1,nV k.2.1,nV k.2.2])/\k.1<2/\∀i,As H i->Q (.bl (inK a (lb f e b g d k 0)||inK a (lb f e b g d k 1))) i
theorem gi{C:Rc}(t:C.N.length=3)(a:C.fs "_law_behind"=A0 C4):∀f H Q E,ES f H Q E->tSs C HI {nx:=λ_ p=>Q .non p,rt:=Q} (L2.BA C.N f) H:=by
 intro f H Q E h;obtain⟨bd,D,y,o,w,m,s,r,x,k,rfl,l,i,j,b,g,q⟩:=h;rw[BW t];unfold HI;rw[Jl,OS,Oe];refine Q3 (c:=0) a l i j b g (by decide) λv d=>?_;cases e:inK x (lb o w m s r k 0)with
 |true=>rw[Of];have:=q v d;rw[e]at this;exact this
 |false=>rw[Og];refine Q3 (c:=1) a (l.mono (B9 d)) (KD d i) j (d _ _ b) g (by decide) λu n=>?_;have:=q u (d.trans n);rw[e]at this;exact this
theorem KF{sp:Option Nat}{l:Nat}:l∈lvs sp↔match sp with
  |A5=>l=0
  |A0 m=>l<=m:=by
 cases sp with
 |none=>simp[lvs]
 |some m=>show l∈aE (m+1)↔l<=m;rw[ba];omega
theorem ET{sp:Option Nat}{h0 h1:Nat}{k:K3}:k∈rk (lvs sp) h0 h1↔k.1<2/\1<=k.2.1/\k.2.1<=(if k.1=1 then h1 else h0)/\k.2.2∈lvs sp:=by
 have g:∀{b h:Nat}{k:K3},k.1=b->1<=k.2.1->k.2.1<=h->k.2.2∈lvs sp->k∈r2 (lvs sp) b h:=by rintro b h⟨l,i,j⟩f d a e;subst f;have d:1<=i:=d;have a:i<=h:=a;unfold r2 r1;refine dv.mpr ⟨i-1,ba.mpr ⋯,aB.mpr ⟨j,e,?_⟩⟩;show(l,i-1+1,j)=(l,i,j);rw[Nat.sub_add_cancel d]
 unfold rk;rw[aU];constructor
 .rintro(h|h);.obtain⟨f,d,a,e⟩:=Cb h;rw[f];exact⟨by decide,d,a,e⟩
  .obtain⟨f,d,a,e⟩:=Cb h;rw[f];exact⟨by decide,d,a,e⟩
 .rintro⟨f,d,a,e⟩;by_cases h:k.1=1;.rw[if_pos h]at a;exact .inr (g h d a e)
  .rw[if_neg h]at a;exact .inl (g ⋯ d a e)
theorem HN{b:Type} [BEq b] [LawfulBEq b]{l:List b}(h:l.Nodup){i:Nat}{a:b}(e:l[i]?=A0 a):l.idxOf a=i:=by
 have j:=ar e;have d:=cC j;have f:=List.getElem_idxOf d;obtain⟨g,e⟩:=aK.mp e;rcases Nat.lt_trichotomy (l.idxOf a) i with z|z|z;.exact absurd (f.trans e.symm) (bF.mp h _ _ d g z)
 .exact z
 .exact absurd (e.trans f.symm) (bF.mp h _ _ g d z)
theorem CP{b:Type} [BEq b] [LawfulBEq b]{l:List b}{a:b}(h:a∈l):l[l.idxOf a]?=A0 a:=by have d:=cC h;rw[ae d,List.getElem_idxOf d]
section
variable{l0 h0 l1 h1:Nat}{sp:Option Nat}
theorem EU(a0:1<=h0)(J:1<=h1){k:K3}(G:k∈rk (lvs sp) h0 h1){c:Nat}(B:c<2):
  (∀g,lb l0 h0 l1 h1 sp k c=A0 g->g∈rk (lvs sp) h0 h1)/\ixK (rk (lvs sp) h0 h1) (bh l0 l1 sp k c)=(lb l0 h0 l1 h1 sp k c).map (rk (lvs sp) h0 h1).idxOf:=by
 obtain⟨b,a,d⟩:=k;have u:=EO (EQ (sp:=sp)) (h0:=h0) (h1:=h1);obtain⟨v,w,K,t⟩:=ET.mp G;have v:b<2:=v;have w:1<=a:=w;have t:d∈lvs sp:=t;have e:∀z:List Int,(∀k∈rk (lvs sp) h0 h1,BD.kI k≠z)->ixK (rk (lvs sp) h0 h1) (A0 z)=A5:=λz h=>Ph h;have f:∀g:K3,g∈rk (lvs sp) h0 h1->ixK (rk (lvs sp) h0 h1) (A0 (BD.kI g))=A0 ((rk (lvs sp) h0 h1).idxOf g):=λg h=>Pj u (CP h) rfl;by_cases j:ot sp (lvl sp d c)=A2
 .have s:lb l0 h0 l1 h1 sp (b,a,d) c=A5:=by unfold lb;exact if_pos j
  rw[s];refine⟨λ_ z=>(by cases z),?_⟩;cases sp with
  |none=>cases j
  |some m=>
   unfold ot at j;rw[aR,decide_eq_true_eq,decide_eq_true_eq]at j;have C:∀x y:Int,ixK (rk (lvs (A0 m)) h0 h1) (A0 [x,y,lvl (A0 m) d c])=A5:=λx y=>e _ λg l z=>by have r:=KF.mp (ET.mp l).2.2.2;have r:g.2.2<=m:=r;unfold BD.kI at z;simp only[List.cons.injEq]at z;obtain⟨_,_,z,_⟩:=z;omega
   unfold bh;split;.exact C _ _
   .by_cases E:a<(if b=1 then l1 else l0);.rw[show(if(b,a,d).2.1<(if(b,a,d).1=1 then l1 else l0)then A5 else A0 [(c:Int),1,lvl (A0 m) (b,a,d).2.2 c])=A5 from if_pos E];rfl
    .rw[show(if(b,a,d).2.1<(if(b,a,d).1=1 then l1 else l0)then A5 else A0 [(c:Int),1,lvl (A0 m) (b,a,d).2.2 c])=_ from if_neg E];exact C _ _
 .have H:∃n:Nat,lvl sp d c=n/\n∈lvs sp:=by
   cases sp with
   |none=>exact⟨d,rfl,t⟩
   |some m=>unfold ot at j;rw[aR,decide_eq_true_eq,decide_eq_true_eq]at j;exact⟨(lvl (A0 m) d c).toNat,⋯,KF.mpr (show(lvl (A0 m) d c).toNat<=m by omega)⟩
  obtain⟨n,D,q⟩:=H;have s:lb l0 h0 l1 h1 sp (b,a,d) c=if c=b then(if a+1<=(if c=1 then h1 else h0)then A0 (c,a+1,n)else A5)else if(if b=1 then l1 else l0)<=a then A0 (c,1,n)else A5:=by unfold lb;rw[if_neg j];show(if c=b then(if a+1<=_ then A0 (c,a+1,(lvl sp d c).toNat)else A5)else if _ then A0 (c,1,(lvl sp d c).toNat)else A5)=_;rw[D,bb]
  have I:bh l0 l1 sp (b,a,d) c=if c=b then A0 [(c:Int),(a:Int)+1,(n:Int)]else if a<(if b=1 then l1 else l0)then A5 else A0 [(c:Int),1,(n:Int)]:=by unfold bh;dsimp only;rw[D]
  rw[s,I];by_cases i:c=b
  .rw[if_pos i,if_pos i];by_cases o:a+1<=(if c=1 then h1 else h0);.rw[if_pos o];have p:((c,a+1,n):K3)∈rk (lvs sp) h0 h1:=ET.mpr ⟨B,by show 1<=a+1;omega,o,q⟩;refine⟨λg z=>(by cases z;exact p),?_⟩;have:=f _ p;unfold BD.kI at this;rw[show((a:Int)+1)=((a+1:Nat):Int)by omega];exact this
   .rw[if_neg o];refine⟨λg z=>(by cases z),e _ λg l z=>?_⟩;have r:=(ET.mp l).2.2.1;unfold BD.kI at z;simp only[List.cons.injEq]at z;obtain⟨A,L,_⟩:=z;have A:g.1=c:=by omega
    rw[A]at r;omega
  .rw[if_neg i,if_neg i];by_cases o:a<(if b=1 then l1 else l0);.rw[if_pos o,if_neg ⋯];exact⟨λg z=>(by cases z),rfl⟩
   .rw[if_neg o,if_pos ⋯];have p:((c,1,n):K3)∈rk (lvs sp) h0 h1:=ET.mpr ⟨B,ag 1,(by show 1<=if c=1 then h1 else h0;split<;>omega),q⟩;refine⟨λg z=>(by cases z;exact p),?_⟩;exact f _ p
def nxl(l0 h0 l1 h1:Nat)(sp:Option Nat)(F:List K3):List K3:=F.filter λk=>(F.any λq=>decide (lb l0 h0 l1 h1 sp q 0=A0 k)||decide (lb l0 h0 l1 h1 sp q 1=A0 k))&&(inK F (lb l0 h0 l1 h1 sp k 0)||inK F (lb l0 h0 l1 h1 sp k 1))
def MxA(l0 h0 l1 h1:Nat)(sp:Option Nat):List Rm:=(rk (lvs sp) h0 h1).map (mx l0 l1 sp (rk (lvs sp) h0 h1))
theorem Dw{l0 l1:Nat}(a0:1<=h0)(a:1<=h1){r:Nat}{k:K3}(b:(rk (lvs sp) h0 h1)[r]?=A0 k):fs1 (MxA l0 h0 l1 h1 sp) r=(lb l0 h0 l1 h1 sp k 0).map (rk (lvs sp) h0 h1).idxOf/\fs2 (MxA l0 h0 l1 h1 sp) r=(lb l0 h0 l1 h1 sp k 1).map (rk (lvs sp) h0 h1).idxOf:=by have d:=ar b;unfold fs1 fs2 MxA;rw[aj,b];exact⟨(EU a0 a d (by decide)).2,(EU a0 a d (by decide)).2⟩
def Cov(l0 h0 l1 h1:Nat)(sp:Option Nat)(F:List K3):Prop:=∀S,Sus (MxA l0 h0 l1 h1 sp) S->∀r∈S,∀k,(rk (lvs sp) h0 h1)[r]?=A0 k->k∈F
theorem Q4{ks:List K3}{a b:K3}(f:a∈ks)(h:ks.idxOf a=ks.idxOf b):a=b\/b∉ks:=by
 by_cases d:b∈ks;.left;have e:=CP f;rw[h,CP d]at e;exact(Option.some.inj e).symm
 .exact .inr d
theorem Da{l0 l1:Nat}(a0:1<=h0)(f:1<=h1){k q:K3}{c r:Nat}(b:q∈rk (lvs sp) h0 h1)(d:c<2)(g:(rk (lvs sp) h0 h1)[r]?=A0 k)(h:(lb l0 h0 l1 h1 sp q c).map (rk (lvs sp) h0 h1).idxOf=A0 r):lb l0 h0 l1 h1 sp q c=A0 k:=by
 cases e:lb l0 h0 l1 h1 sp q c with
 |none=>rw[e]at h;cases h
 |some a=>rw[e]at h;injection h with h;have h:(rk (lvs sp) h0 h1).idxOf a=r:=h;have i:=(EU a0 f b d).1 a e;have:=CP i;rw[h,g]at this;rw[Option.some.inj this]
theorem Cov.nx(a0:1<=h0)(f:1<=h1){F:List K3}(h:Cov l0 h0 l1 h1 sp F):Cov l0 h0 l1 h1 sp (nxl l0 h0 l1 h1 sp F):=by
 intro S m r p k g;obtain⟨_,⟨r1,l,u⟩,⟨r2,j,v⟩⟩:=m r p;have a:∀x∈S,∃q,(rk (lvs sp) h0 h1)[x]?=A0 q:=λx t=>by have:=(m x t).1;unfold MxA at this;rw[af]at this;exact⟨_,ae this⟩
 obtain⟨s,d⟩:=a r1 l;obtain⟨D,b⟩:=a r2 j;have B:=h S m r1 l s d;have n:=h S m r2 j D b;refine bo.mpr ⟨h S m r p k g,?_⟩;rw[ah,bE,aR];obtain⟨A,w⟩:=Dw (l0:=l0) (l1:=l1) a0 f d;obtain⟨y,C⟩:=Dw (l0:=l0) (l1:=l1) a0 f g;have i:=ar d;have o:=ar g;constructor
 .refine⟨s,B,?_⟩;rw[aR,decide_eq_true_eq,decide_eq_true_eq];rcases u with e|e;.rw[A]at e;exact .inl (Da a0 f i (by decide) g e)
  .rw[w]at e;exact .inr (Da a0 f i (by decide) g e)
 .rcases v with e|e;.rw[y]at e;left;rw[Da a0 f o (by decide) b e];exact decide_eq_true n
  .rw[C]at e;right;rw[Da a0 f o (by decide) b e];exact decide_eq_true n
structure Lsd(l0 h0 l1 h1:Nat)(sp:Option Nat)(F:List K3):Prop where
 sub:F.Sublist (rk (lvs sp) h0 h1)
 fix:nxl l0 h0 l1 h1 sp F=F
 all:Cov l0 h0 l1 h1 sp F
theorem gj{ks F:List K3}(a:ks.Nodup)(h:F.Sublist ks):(F.map ks.idxOf).Pairwise (· < ·):=by
 have e:ks.map ks.idxOf=aE ks.length:=by
  apply bO;intro i;rw[aj];cases e:ks[i]? with
  |none=>rw[bg (by rw[bx];exact bf.mp e)];rfl
  |some k=>rw[cA (BO e)];exact congrArg A0 (HN a e)
 have:=h.map ks.idxOf;rw[e]at this;exact List.pairwise_lt_range.sublist this
theorem Lsd.mem{F:List K3}(h:Lsd l0 h0 l1 h1 sp F){k:K3}(a:k∈F):k∈rk (lvs sp) h0 h1:=h.sub.subset a
theorem Lsd.rs(a0:1<=h0)(n:1<=h1){F:List K3}(h:Lsd l0 h0 l1 h1 sp F):Rs (MxA l0 h0 l1 h1 sp) (F.map (rk (lvs sp) h0 h1).idxOf):=by
 have i:=EO (EQ (sp:=sp)) (h0:=h0) (h1:=h1);have f:∀r∈F.map (rk (lvs sp) h0 h1).idxOf,r<(MxA l0 h0 l1 h1 sp).length:=λr a=>by obtain⟨k,l,rfl⟩:=aB.mp a;unfold MxA;rw[af];exact cC (h.mem l)
 have A:Sus (MxA l0 h0 l1 h1 sp) (F.map (rk (lvs sp) h0 h1).idxOf):=by
  intro r a;refine⟨f r a,?_⟩;obtain⟨k,l,rfl⟩:=aB.mp a;have m:k∈nxl l0 h0 l1 h1 sp F:=by rw[h.fix];exact l
  have j:=(bo.mp m).2;rw[ah,bE,aR]at j;obtain⟨⟨q,d,s⟩,u⟩:=j;rw[aR,decide_eq_true_eq,decide_eq_true_eq]at s;obtain⟨x,v⟩:=Dw (l0:=l0) (l1:=l1) a0 n (CP (h.mem d));obtain⟨w,y⟩:=Dw (l0:=l0) (l1:=l1) a0 n (CP (h.mem l));refine⟨⟨_,aB.mpr ⟨q,d,rfl⟩,?_⟩,?_⟩
  .rcases s with e|e;.left;rw[x,e];rfl
   .right;rw[v,e];rfl
  .have g:∀o:Option K3,inK F o=A2->∃q,q∈F/\o=A0 q:=λo p=>by
    cases o with
    |none=>cases p
    |some q=>exact⟨q,of_decide_eq_true p,rfl⟩
   rcases u with e|e;.obtain⟨q,d,e⟩:=g _ e;exact⟨_,aB.mpr ⟨q,d,rfl⟩,.inl (by rw[w,e];rfl)⟩
   .obtain⟨q,d,e⟩:=g _ e;exact⟨_,aB.mpr ⟨q,d,rfl⟩,.inr (by rw[y,e];rfl)⟩
 refine⟨gj i h.sub,f,?_,λS t r a=>?_⟩;.unfold lst;rw[List.filter_eq_self];intro r a;have:=Pm A (rs:=F.map (rk (lvs sp) h0 h1).idxOf) (λ_ z=>z) r a;exact(bo.mp this).2
 .have b:=(t r a).1;unfold MxA at b;rw[af]at b;have e:=ae b;exact aB.mpr ⟨_,h.all S t r a _ e,HN i e⟩
def ixF(F:List K3):Option K3->Option Nat
 |A5=>A5
 |A0 k=>if k∈F then A0 (F.idxOf k)else A5
def CB(l0 h0 l1 h1:Nat)(sp:Option Nat)(F:List K3):List Rm:=F.map λk=>(ixF F (lb l0 h0 l1 h1 sp k 0),ixF F (lb l0 h0 l1 h1 sp k 1))
theorem Q5{ks:List K3}(f:ks.Nodup){k:K3}(a:k∈ks):∀{F:List K3},(∀q∈F,q∈ks)->(F.map ks.idxOf).idxOf (ks.idxOf k)=F.idxOf k
 | [],_=>rfl
 |q::F,h=>by
  rw[aX,List.idxOf_cons,List.idxOf_cons,Q5 f a λx g=>h x (ay _ g)];have b:=h q az;by_cases e:q=k;.subst e;simp
  .have d:ks.idxOf q≠ks.idxOf k:=λz=>by
    rcases Q4 b z with z|z;.exact e z
    .exact z a
   rw[beq_eq_false_iff_ne.mpr e,beq_eq_false_iff_ne.mpr d]
theorem Lsd.prt(a0:1<=h0)(g:1<=h1){F:List K3}(h:Lsd l0 h0 l1 h1 sp F):prt (MxA l0 h0 l1 h1 sp) (F.map (rk (lvs sp) h0 h1).idxOf)=CB l0 h0 l1 h1 sp F:=by
 have f:=EO (EQ (sp:=sp)) (h0:=h0) (h1:=h1);unfold TE.prt CB;rw[bn];apply ci;intro k i;obtain⟨m,l⟩:=Dw (l0:=l0) (l1:=l1) a0 g (CP (h.mem i));have b:∀c,c<2->ixR (F.map (rk (lvs sp) h0 h1).idxOf) ((lb l0 h0 l1 h1 sp k c).map (rk (lvs sp) h0 h1).idxOf)=ixF F (lb l0 h0 l1 h1 sp k c):=λc n=>by
  cases e:lb l0 h0 l1 h1 sp k c with
  |none=>rfl
  |some q=>
   have j:=(EU a0 g (h.mem i) n).1 q e;show ixR _ (A0 _)=if q∈F then A0 (F.idxOf q)else A5;rw[Pn,Q5 f j λx d=>h.mem d];by_cases a:q∈F;.rw[if_pos a,if_pos (aB.mpr ⟨q,a,rfl⟩)]
   .rw[if_neg a,if_neg λz=>?_];obtain⟨x,d,e⟩:=aB.mp z;rcases Q4 (h.mem d) e with e|e;.exact a (e▸d)
    .exact e j
 show(ixR _ (fs1 _ _),ixR _ (fs2 _ _))=_;rw[m,l,b 0 (by decide),b 1 (by decide)]
end
theorem so{H H':Hp}{p:A4}{o:HO}(h:H p=A5)(s:As H H'):As H (upd H' p o):=λb u q=>by rw[Au (Bb q h)];exact s _ _ q
theorem tpo{H:Hp}{p:A4}{o f:HO}(h:H p=A0 o)(d:∀b,o≠.tup b):Tp H (upd H p f):=λa b e=>by
 rw[Au];.exact e
 .rintro rfl;rw[h]at e;exact d b (Option.some.inj e)
theorem HP{sp:Option Nat}:lvs sp=aE (sp.getD 0+1):=by
 cases sp with
 |none=>rfl
 |some s=>rfl
theorem gk{F:List K3}{k:K3}(h:k∉F):Bn (dK3 F) (kK k) (.bl A2)=dK3 (F++[k]):=by rw[Ii _ (by rw[HL,if_neg h])];unfold dK3;rw[aG];rfl
theorem Dx{F:List K3}:(dK3 F).length=F.length:=by unfold dK3;rw[af]
theorem gl{m b pl j:Nat}(hj:j<m):(r1 (aE m) b pl).take (j+1)=(r1 (aE m) b pl).take j++[(b,pl,j)]:=by rw[bj];congr 1;unfold r1;rw[aj,cA hj];rfl
theorem gm{m b pl:Nat}:(r1 (aE m) b pl).length=m:=by unfold r1;rw[af,bx]
theorem gn{m b pl j:Nat}{k:K3}(h:k∈(r1 (aE m) b pl).take j):k.2.1=pl/\k.2.2<j:=by
 obtain⟨i,e⟩:=bI h;rw[List.getElem?_take]at e;by_cases a:i<j
 .rw[if_pos a]at e;unfold r1 at e;rw[aj]at e;by_cases d:i<m;.rw[cA d]at e;cases e;exact⟨rfl,a⟩
  .rw[bg (by rw[bx];omega)]at e;cases e
 .rw[if_neg a]at e;cases e
def Bas(sp:Option Nat)(h0 h1:Nat)(i:Nat):List K3:=if i=0 then[]else if i=1 then r2 (lvs sp) 0 h0 else rk (lvs sp) h0 h1
theorem gp{sp:Option Nat}{h0 h1 i j m:Nat}(hi:i<2):((i,j+1,m):K3)∉Bas sp h0 h1 i++r2 (lvs sp) i j++(r1 (lvs sp) i (j+1)).take m:=by
 intro h;rw[aQ,aU,aU]at h;rcases h with h|h|h
 .rcases(by omega:i=0\/i=1)with rfl|rfl;.exact absurd h av
  .have:=(Cb (show((1,j+1,m):K3)∈r2 (lvs sp) 0 h0 from h)).1;exact absurd this (by show¬1=0;decide)
 .have:=(Cb h).2.2.1;have:j+1<=j:=this;omega
 .rw[HP]at h;have:=(gn h).2;have:m<m:=this;omega
theorem gq{sp:Option Nat}{h0 h1 i j m:Nat}(a0:h0<=8)(d:h1<=8)(e:∀s,sp=A0 s->s<=16)(hj:j<=8):(Bas sp h0 h1 i++r2 (lvs sp) i j++(r1 (lvs sp) i (j+1)).take m).length<1000:=by
 have f:=(K9 e).1;have a:∀b h,h<=8->(r2 (lvs sp) b h).length<=136:=λb h g=>by rw[EN];exact aF (Nat.mul_le_mul g f) (by decide)
 have o:((r1 (lvs sp) i (j+1)).take m).length<=17:=by rw[aH];unfold r1;rw[af];omega
 have p:(Bas sp h0 h1 i).length<=272:=by
  unfold Bas;split;.exact aN _
  .split;.have:=a 0 h0 a0;omega
   .unfold rk;have q:=a 0 h0 a0;have n:=a 1 h1 d;rw[aA];omega
 have l:=a i j hj;rw[aA,aA];omega
def EV:Sp:=λh H Q _=>∃(bd:A4)(g a e b:Nat)(f:Option Nat),h=[.ref bd]/\IsB H bd g a e b f/\1<=a/\1<=b/\∀(p:A4)(F:List K3)(d:Hp),H p=A5->As H d->d p=A0 (.dT (dK3 F))->Lsd g a e b f F->Q (.ref p) d
def Q6:Cs:=.for_ (.name 2) (.val (.tup (.cons (.int 0) (.cons (.int 1) .nil)))) (.cons (.for_ (.name 3) (.range2 (.int 1) (.bin .Add (.idx (.lst (.cons (.idx (.var 0) (.int 1)) (.cons (.idx (.var 0) (.int 3)) .nil))) (.var 2)) (.int 1))) (.cons (.for_ (.name 4) (.range1 (.bin .Add (.orv (.idx (.var 0) (.int 4)) (.int 0)) (.int 1))) (.cons (.dput (.var 1) (.tup (.cons (.var 2) (.cons (.var 3) (.cons (.var 4) .nil)))) (.bl A2)) .nil)) .nil)) .nil)
theorem gr{C:Rc}{D:Ends}{H M:Hp}{bd d:A4}{l0 h0 l1 h1:Nat}{sp:Option Nat}(g:IsB H bd l0 h0 l1 h1 sp)(hd:H d=A5)(sH:As H M)(S:M d=A0 (.dT []))
  (q:∀(w e a:Option V)(H':Hp),As H H'->H' d=A0 (.dT (dK3 (rk (lvs sp) h0 h1)))->D.nx [A0 (.ref bd),A0 (.ref d),w,e,a,A5,A5,A5] H'):tS C Q6 D [A0 (.ref bd),A0 (.ref d),A5,A5,A5,A5,A5,A5] M:=by
 unfold Q6;symm;refine⟨by decide,λO E=>?_⟩;obtain⟨T,e0⟩:=snw E (.tup [.int 0,.int 1]);have f0:=sH.free E;have A:=T _ _ S;have sH1:=sH.trans T;generalize upd M O _=H1 at T e0 A sH1⊢;refine FE (SqT.of e0) (Ov (xs:=[.int 0,.int 1]) (λi b H'=>(∃w e a,b=[A0 (.ref bd),A0 (.ref d),w,e,a,A5,A5,A5])/\As H H'/\H' O=A0 (.tup [.int 0,.int 1])/\H' d=A0 (.dT (dK3 (Bas sp h0 h1 i)))) ⟨⟨_,_,_,rfl⟩,sH1,e0,A⟩ (λi b H' _ pv=>SqT.of pv.2.2.1) ?_ ?_)
 .rintro i x b H2 o⟨⟨w,e,a,rfl⟩,N,e2,p⟩;obtain⟨hi,rfl⟩:i<2/\x=.int i:=by
   match i,o with
   |0,o=>cases o;exact⟨by decide,rfl⟩
   |1,o=>cases o;exact⟨by decide,rfl⟩
   |i+2,o=>cases o
  symm;have B:=(g.mono (B9 N)).at';refine Bv (SqT.of B) (v:=nV h0) rfl ?_;symm;refine Bv (SqT.of B) (v:=nV h1) rfl ?_;symm;refine⟨by decide,λp3 a0=>?_⟩;obtain⟨P,e3⟩:=snw a0 (.lst [nV h0,nV h1]);have I:=N.trans P;have y:=P _ _ e2;have G:=P _ _ p;generalize upd H2 p3 _=H3 at P e3 I y G⊢;refine Bi (SqL.of e3) (at2 hi) ?_;obtain⟨t,l⟩:∃t:Nat,t=if i=1 then h1 else h0:=⟨_,rfl⟩;rw[show(if i=1 then nV h1 else nV h0)=V.int (t:Int)by rw[l];split<;>rfl];have a2:t<=8:=by rw[l];have:=g.b0;have:=g.b1;split<;>omega
  symm;refine Ou (by decide) (by decide) ⋯ ⋯ ?_;rw[show((t:Int)+1-1).toNat=t by omega];refine Gd (λj b H'=>(∃e a,b=[A0 (.ref bd),A0 (.ref d),A0 (.int i),e,a,A5,A5,A5])/\As H H'/\H' O=A0 (.tup [.int 0,.int 1])/\H' d=A0 (.dT (dK3 (Bas sp h0 h1 i++r2 (lvs sp) i j)))) ⟨⟨_,_,rfl⟩,I,y,by rw[show r2 (lvs sp) i 0=[]from rfl,de];exact G⟩ ?_ ?_
  .rintro j b U hj⟨⟨e,a,rfl⟩,L,e4,h⟩;symm;refine Bv (SqT.of (g.mono (B9 L)).at') (v:=oV sp) rfl ?_;have Y:∀Q':VK,Q' (.int ((sp.getD 0:Nat):Int)) U->Gg C [A0 (.ref bd),A0 (.ref d),A0 (.int i),A0 (.int (1+(j:Int))),a,A5,A5,A5] (.int 0) Q' (oV sp) U:=by
    intro Q' Z;cases sp with
    |none=>refine eJ ?_;rw[Ji];exact Z
    |some s=>
     by_cases X:(s:Int)=0;.refine .inr ⟨(s:Int),rfl,?_⟩;rw[if_pos X,Ji,<-X];exact Z
     .exact eK X Z
   refine Y _ ?_;obtain⟨m,K⟩:∃m,m=sp.getD 0:=⟨_,rfl⟩;have a3:m<=16:=by
    rw[K];cases sp with
    |none=>exact aN _
    |some s=>exact g.bs s rfl
   rw[<-K];symm;refine Ju ⋯ ⋯ ?_;rw[show((m:Int)+1).toNat=m+1 by omega];refine Gd (λu b H'=>(∃a,b=[A0 (.ref bd),A0 (.ref d),A0 (.int i),A0 (.int (1+(j:Int))),a,A5,A5,A5])/\As H H'/\H' O=A0 (.tup [.int 0,.int 1])/\H' d=A0 (.dT (dK3 (Bas sp h0 h1 i++r2 (lvs sp) i j++(r1 (lvs sp) i (j+1)).take u)))) ⟨⟨_,rfl⟩,L,e4,by rw[List.take_zero,de];exact h⟩ ?_ ?_
   .rintro u b H5 hu⟨⟨a,rfl⟩,R,e5,n⟩;symm;refine⟨by decide,λp6 a1=>?_⟩;obtain⟨Q,e6⟩:=snw a1 (.tup [.int i,.int (1+(j:Int)),.int (0+(u:Int))]);have J:=R.trans Q;have f:=Q _ _ e5;have r:=Q _ _ n;generalize upd H5 p6 _=H6 at Q e6 J f r⊢;refine fj (ks:=kK (i,j+1,u)) r (by rw[e6,G_];simp only[nV];rw[show((j+1:Nat):Int)=1+(j:Int)by omega,Int.zero_add]) (BQ (by rw[Dx];exact bG (gq g.b0 g.b1 g.bs (aF (bG hj) a2)))) ?_;refine⟨⟨_,rfl⟩,so hd J,?_,?_⟩
    .rw[Au];.exact f
     .rintro rfl;rw[r]at f;cases f
    .rw[Aw,gk (gp hi),aQ];have:(r1 (lvs sp) i (j+1)).take (u+1)=(r1 (lvs sp) i (j+1)).take u++[(i,j+1,u)]:=by rw[HP,<-K];exact gl hu
     rw[this,aQ]
   .rintro b H5⟨⟨a,rfl⟩,R,e5,n⟩;refine⟨⟨_,_,rfl⟩,R,e5,?_⟩;rw[n,FL,aQ,br (by rw[HP,<-K,gm];exact ag _)]
  .rintro b U⟨⟨e,a,rfl⟩,L,e4,h⟩;refine⟨⟨_,_,_,rfl⟩,L,e4,?_⟩;rw[h,l];rcases(by omega:i=0\/i=1)with rfl|rfl;.rfl
   .rfl
 .rintro b H2⟨⟨w,e,a,rfl⟩,N,e2,p⟩;exact q w e a H2 N p
set_option tactic.hygienic true in
theorem KG{L:List NK}{q:NK}{z:Option (List Int)}:z∈(BH L q).map (aJ Prod.fst)↔z∈L.map (aJ Prod.fst)\/z=q.map Prod.fst:=by
 unfold BH;split;.rename_i h;exact⟨.inl,λx=>x.elim id λe=>by rw[e];exact h⟩
 .rw[aG,aU];simp
theorem gt{L:List NK}{q:NK}:(BH L q).length<=L.length+1:=by
 unfold BH;split;.omega
 .rw[aA];exact ag _
theorem gu{H:Hp}{L:List NK}{q:NK}(h:Bo H L)(b:∀x,q=A0 x->H x.2=A0 (.tup (x.1.map V.int))):Bo H (BH L q):=by
 intro x a;unfold BH at a;split at a;.exact h x a
 .rcases aU.mp a with a|a;.exact h x a
  .exact b x (aO.mp a).symm
theorem EW{H H':Hp}{L:List NK}(h:Bo H L)(t:Tp H H'):Bo H' L:=λq a=>t _ _ (h q a)
def Led(l0 h0 l1 h1:Nat)(sp:Option Nat)(P:List (K3×Nat))(L:List NK):Prop:=∀z,z∈L.map (aJ Prod.fst)↔∃q∈P,z=(lb l0 h0 l1 h1 sp q.1 q.2).map BD.kI
theorem Led.put{l0 h0 l1 h1:Nat}{sp:Option Nat}{P:List (K3×Nat)}{L:List NK}{q:NK}{k:K3}{c:Nat}(h:Led l0 h0 l1 h1 sp P L)(b:q.map Prod.fst=(lb l0 h0 l1 h1 sp k c).map BD.kI):Led l0 h0 l1 h1 sp (P++[(k,c)]) (BH L q):=by
 intro z;rw[KG,h z,b];constructor
 .rintro(⟨x,a,e⟩|e);.exact⟨x,bH _ a,e⟩
  .exact⟨(k,c),ap _ (aO.mpr rfl),e⟩
 .rintro⟨x,a,e⟩;rcases aU.mp a with a|a;.exact .inl ⟨x,a,e⟩
  .rw[aO.mp a]at e;exact .inr e
def prs(F:List K3):List (K3×Nat):=F.flatMap λk=>[(k,0),(k,1)]
theorem gw{F:List K3}{k:K3}:prs (F++[k])=prs F++[(k,0),(k,1)]:=by unfold prs;rw[List.flatMap_append];rfl
theorem HQ{o:Option K3}{k:K3}:A0 (BD.kI k)=o.map BD.kI↔o=A0 k:=by
 cases o with
 |none=>exact⟨λz=>(by cases z),λz=>(by cases z)⟩
 |some x=>exact⟨λz=>(by injection z with z;rw[HK z]),λz=>(by cases z;rfl)⟩
theorem Led.any{l0 h0 l1 h1:Nat}{sp:Option Nat}{F:List K3}{L:List NK}(h:Led l0 h0 l1 h1 sp (prs F) L)(k:K3):decide (A0 (BD.kI k)∈L.map (aJ Prod.fst))=F.any λq=>decide (lb l0 h0 l1 h1 sp q 0=A0 k)||decide (lb l0 h0 l1 h1 sp q 1=A0 k):=by
 rw[dc,decide_eq_true_eq,h,bE];unfold prs;constructor
 .rintro⟨q,a,e⟩;obtain⟨x,b,a⟩:=dv.mp a;refine⟨x,b,?_⟩;rw[aR,decide_eq_true_eq,decide_eq_true_eq];rcases ao.mp a with rfl|a;.exact .inl (HQ.mp e)
  .rw[aO.mp a]at e;exact .inr (HQ.mp e)
 .rintro⟨x,b,e⟩;rw[aR,decide_eq_true_eq,decide_eq_true_eq]at e;rcases e with e|e;.exact⟨(x,0),dv.mpr ⟨x,b,by simp⟩,HQ.mpr e⟩
  .exact⟨(x,1),dv.mpr ⟨x,b,by simp⟩,HQ.mpr e⟩
theorem HR{H:Hp}{p:A4}{k:K3}(h:H p=A0 (.tup [nV k.1,nV k.2.1,nV k.2.2])):H p=A0 (.tup ((BD.kI k).map V.int)):=h
theorem Q7{F:List K3}{i:Nat}{k:K3}(h:F[i]?=A0 k):(dK3 F)[i]?=A0 (kK k,V.bl A2):=by unfold dK3;rw[aj,h];rfl
theorem Q8{F:List K3}{b:List A4}{i:Nat}{x:V}(f:b.length=(dK3 F).length)(h:(b.map V.ref)[i]?=A0 x):∃k a,F[i]?=A0 k/\x=.ref a/\b[i]?=A0 a:=by
 rw[aj]at h;cases e:b[i]? with
 |none=>rw[e]at h;cases h
 |some a=>rw[e]at h;cases h;have d:=BO e;rw[f,Dx]at d;exact⟨F[i],a,ae d,rfl,rfl⟩
section
variable{l0 h0 l1 h1:Nat}{sp:Option Nat}{C:Rc}
def Q9:Cs:=.for_ (.name 7) (.dk (.var 1)) (.cons (.for_ (.name 2) (.val (.tup (.cons (.int 0) (.cons (.int 1) .nil)))) (.cons (.dput (.var 6) (.call "_law_behind" (.cons (.var 0) (.cons (.var 7) (.cons (.var 2) .nil)))) (.bl A2)) .nil)) .nil)
theorem gx{D:Ends}{H n:Hp}{bd d e:A4}{F:List K3}{f N J I t:Option V}(a8:C.fs "_law_behind"=A0 C4)(v:IsB H bd l0 h0 l1 h1 sp)(a0:1<=h0)(a1:1<=h1)(hF:∀k∈F,k∈rk (lvs sp) h0 h1)(b9:F.length<=300)(hd:H d=A5)(he:H e=A5)(U:d≠e)(sH:As H n)(O:n d=A0 (.dT (dK3 F)))(b8:n e=A0 (B3 e []))
  (q:∀(f t:Option V)(H':Hp)(L:List NK)(o:AS),As H H'->H' d=A0 (.frz o (.dT (dK3 F)))->H' e=A0 (B3 e L)->Bo H' L->Led l0 h0 l1 h1 sp (prs F) L->D.nx [A0 (.ref bd),A0 (.ref d),f,N,J,I,A0 (.ref e),t] H'):tS C Q9 D [A0 (.ref bd),A0 (.ref d),f,N,J,I,A0 (.ref e),t] n:=by
 unfold Q9;have b3:∀k∈F,D5 k:=λk K=>(Cn v.bs v.b0 v.b1).2 k (hF k K);symm;refine P5 (.inl O) λo as S a9=>?_;have P:As H (upd n d (.frz o (.dT (dK3 F)))):=so hd sH;have Q:upd n d (.frz o (.dT (dK3 F))) d=A0 (.frz o (.dT (dK3 F))):=Aw;have X:upd n d (.frz o (.dT (dK3 F))) e=A0 (B3 e []):=by rw[Au (Ne.symm U)];exact b8
 have a4:∀(i:Nat)a k,as[i]?=A0 a->F[i]?=A0 k->upd n d (.frz o (.dT (dK3 F))) a=A0 (.tup [nV k.1,nV k.2.1,nV k.2.2]):=λi a k h1 h2=>tpo O (λxs z=>by cases z) _ _ (a9 i a _ h1 (Q7 h2));generalize upd n d (.frz o (.dT (dK3 F)))=H1 at P Q X a4;refine eU (ks:=as.map V.ref) (λi l H'=>(∃f t,l=[A0 (.ref bd),A0 (.ref d),f,N,J,I,A0 (.ref e),t])/\As H H'/\Tp H1 H'/\H' d=A0 (.frz o (.dT (dK3 F)))/\∃L,H' e=A0 (B3 e L)/\Bo H' L/\L.length<=2*i/\Led l0 h0 l1 h1 sp (prs (F.take i)) L) ⟨⟨_,_,rfl⟩,P,Tp.refl,Q,[],X,λ_ z=>absurd z av,ag _,λz=>⟨λz=>absurd z av,λ⟨_,z,_⟩=>absurd z av⟩⟩ (λi l H' pv=>⟨_,pv.2.2.2.1⟩) ?_ ?_
 .rintro i x l H2 r⟨⟨f,t,rfl⟩,s2,t2,B,L,G,E,a7,b⟩;obtain⟨k,a,K,rfl,ha⟩:=Q8 S r;have hi:=BO K;have a3:=ar K;symm;refine⟨by decide,λp0 b4=>?_⟩;obtain⟨M,e3⟩:=snw b4 (.tup [.int 0,.int 1]);have a5:=s2.trans M;have t3:=t2.trans (B9 M);have Z:=M _ _ B;have a6:=M _ _ G;have R:=EW E (B9 M);generalize upd H2 p0 _=H3 at M e3 a5 t3 Z a6 R⊢;refine FE (SqT.of e3) (Ov (xs:=[.int 0,.int 1]) (λj l H'=>(∃f,l=[A0 (.ref bd),A0 (.ref d),f,N,J,I,A0 (.ref e),A0 (.ref a)])/\As H H'/\Tp H1 H'/\H' d=A0 (.frz o (.dT (dK3 F)))/\H' p0=A0 (.tup [.int 0,.int 1])/\∃L,H' e=A0 (B3 e L)/\Bo H' L/\L.length<=2*i+j/\Led l0 h0 l1 h1 sp (prs (F.take i)++[(k,0),(k,1)].take j) L) ⟨⟨_,rfl⟩,a5,t3,Z,e3,L,a6,R,a7,by rw[List.take_zero,de];exact b⟩ (λj l H' _ pv=>SqT.of pv.2.2.2.2.1) ?_ ?_)
  .rintro j x l H4 r⟨⟨f,rfl⟩,s4,t4,u,e4,L,w,s,Y,h⟩;obtain⟨hj,rfl⟩:j<2/\x=.int j:=by
    match j,r with
    |0,r=>cases r;exact⟨by decide,rfl⟩
    |1,r=>cases r;exact⟨by decide,rfl⟩
    |j+2,r=>cases r
   have b6:[(k,0),(k,1)].take (j+1)=[(k,0),(k,1)].take j++[(k,j)]:=by
    match j,hj with
    |0,_=>rfl
    |1,_=>rfl
   symm;refine Az a8 ?_;symm;have T:∀(y:V)(A:NK)(m:Hp),As H4 m->Et m y A->A.map Prod.fst=(lb l0 h0 l1 h1 sp k j).map BD.kI->(∀x,A=A0 x->m x.2=A0 (.tup (x.1.map V.int)))->FG (.ref e) (.bl A2) {D with nx:=λl H'=>(∃f,l=[A0 (.ref bd),A0 (.ref d),f,N,J,I,A0 (.ref e),A0 (.ref a)])/\As H H'/\Tp H1 H'/\H' d=A0 (.frz o (.dT (dK3 F)))/\H' p0=A0 (.tup [.int 0,.int 1])/\∃L,H' e=A0 (B3 e L)/\Bo H' L/\L.length<=2*i+(j+1)/\Led l0 h0 l1 h1 sp (prs (F.take i)++[(k,0),(k,1)].take (j+1)) L} [A0 (.ref bd),A0 (.ref d),A0 (.int j),N,J,I,A0 (.ref e),A0 (.ref a)] y m:=by
    intro y A m g hy b7 b5;have a2:=g _ _ w;have t6:Tp m (upd m e (B3 e (BH L A))):=tpo a2 (λxs z=>by unfold B3 at z;cases z);refine fi a2 (EW s (B9 g)) ⋯ hy ⟨⟨_,rfl⟩,so he (s4.trans g),(t4.trans (B9 g)).trans t6,?_,t6 _ _ (g _ _ e4),BH L A,Aw,EW (gu (EW s (B9 g)) b5) t6,?_,?_⟩;.rw[Au U];exact g _ _ u
    .have:=gt (L:=L) (q:=A);omega
    .rw[b6,<-aQ];exact h.put b7
   refine⟨bd,a,l0,h0,l1,h1,sp,k,j,rfl,v.mono (B9 s4),t4 _ _ (a4 i a k ha K),hj,(b3 k a3).1,λel m g=>?_,λk' el p m g hp=>?_⟩;.refine T .non A5 m g (.inl ⟨rfl,rfl⟩) (by rw[el];rfl) (λ_ z=>by cases z)
   .have b2:=(EU (l0:=l0) (l1:=l1) a0 a1 (hF k a3) hj).1 k' el;refine T (.ref p) (A0 (BD.kI k',p)) m g (.inr ⟨_,_,rfl,rfl,HR hp,HM ((Cn v.bs v.b0 v.b1).2 k' b2)⟩) (by rw[el];rfl) (λx z=>by cases z;exact HR hp)
  .rintro l H4⟨⟨f,rfl⟩,s4,t4,u,e4,L,w,s,Y,h⟩;refine⟨⟨_,_,rfl⟩,s4,t4,u,L,w,s,Y,?_⟩;rw[HA K,gw];exact h
 .rintro l H2⟨⟨f,t,rfl⟩,s2,t2,B,L,G,E,a7,b⟩;rw[af,S,Dx,aZ]at b;exact q f t H2 L o s2 B G E b
end
theorem gy:∀{L:PL},(L.map λx=>x.2.1).Nodup->Ch L=L.map λx=>(x.2.1,x.2.2.2):=by
 intro L h;have f:∀(n:Nat)(L:PL),L.length=n->(L.map λx=>x.2.1).Nodup->Ch L=L.map λx=>(x.2.1,x.2.2.2):=by
  intro n;induction n with
  |zero=>intro L a _;rw[cu a];rfl
  |succ n i=>
   intro L a d;rcases List.eq_nil_or_concat L with rfl|⟨j,x,rfl⟩;.cases a
   rw[List.concat_eq_append]at a d⊢;rw[aG]at d;rw[aA]at a;have b:=List.nodup_append.mp d;rw[Mx,i j (by simpa using a) b.1,Ii,aG];.rfl
   .unfold Bg;rw[Option.map_eq_none_iff,List.find?_eq_none];intro y g e;obtain⟨z,l,rfl⟩:=aB.mp g;exact b.2.2 _ (aB.mpr ⟨z,l,rfl⟩) _ (aB.mpr ⟨x,aO.mpr rfl,rfl⟩) (of_decide_eq_true e)
 exact f _ L rfl h
structure Pl(H:Hp)(L:PL)(kvs:List (List Key×V)):Prop where
 at':∀x∈L,H x.1=A0 (.tup [.ref x.2.2.1,x.2.2.2])/\H x.2.2.1=A0 (.tup (x.2.1.map L2.kV))
 is:(L.map λx=>(x.2.1,x.2.2.2))=kvs
theorem Pl.mono{H H':Hp}{L:PL}{a:List (List Key×V)}(h:Pl H L a)(t:Tp H H'):Pl H' L a:=⟨λx b=>⟨t _ _ (h.at' x b).1,t _ _ (h.at' x b).2⟩,h.is⟩
theorem Pl.nil{H:Hp}:Pl H [] []:=⟨λ_ z=>absurd z av,rfl⟩
theorem Pl.snoc{H:Hp}{L:PL}{b:List (List Key×V)}{p a:A4}{k:List Key}{v:V}(h:Pl H L b)(f:H p=A0 (.tup [.ref a,v]))(e:H a=A0 (.tup (k.map L2.kV))):Pl H (L++[(p,k,a,v)]) (b++[(k,v)]):=⟨λx d=>by
 rcases aU.mp d with d|d;.exact h.at' x d
 .rw[aO.mp d];exact⟨f,e⟩,by rw[aG,h.is];rfl⟩
theorem Pl.len{H:Hp}{L:PL}{a:List (List Key×V)}(h:Pl H L a):L.length=a.length:=by rw[<-h.is,af]
theorem gz{H:Hp}{Q:VK}{p:A4}{L:PL}{a:List (List Key×V)}(h:Pl H L a)(b:(a.map Prod.fst).Nodup)(g:H p=A0 (.lst (L.map λx=>V.ref x.1)))(q:∀d,H d=A5->Q (.ref d) (upd H d (.dT a))):K4 .dct Q (.ref p) H:=by
 refine⟨p,L,rfl,g,h.at',λd f=>?_⟩;have e:Ch L=a:=by rw[gy (by rw[<-h.is,bn]at b;exact b)];exact h.is
 rw[e];exact q d f
theorem g_{F:List K3}(h:F.Nodup):((dK3 F).map Prod.fst).Nodup:=by unfold dK3;rw[bn];exact K7 (λx y z=>FN z) h
section
variable{l0 h0 l1 h1:Nat}{sp:Option Nat}{C:Rc}
def kp(l0 h0 l1 h1:Nat)(sp:Option Nat)(F:List K3)(k:K3):Bool:=(F.any λq=>decide (lb l0 h0 l1 h1 sp q 0=A0 k)||decide (lb l0 h0 l1 h1 sp q 1=A0 k))&&(inK F (lb l0 h0 l1 h1 sp k 0)||inK F (lb l0 h0 l1 h1 sp k 1))
theorem QA{F:List K3}:nxl l0 h0 l1 h1 sp F=F.filter (kp l0 h0 l1 h1 sp F):=rfl
def QB:Ce:=.cal .dct (.comp (.tup (.cons (.var 7) (.cons (.bl A2) .nil))) [7] (.name 7) (.dk (.var 1)) (.some (.and (.din A6 (.var 7) (.var 6)) (.val (.call "_law_leads" (.cons (.var 0) (.cons (.var 1) (.cons (.var 7) .nil))))))) .nil)
theorem hC{Q:VK}{H b:Hp}{bd d e:A4}{F:List K3}{L:List NK}{o0:AS}{x2 x3 x4 x5 x7:Option V}(U:C.fs "_law_leads"=A0 ES)(O:IsB H bd l0 h0 l1 h1 sp)(hF:∀k∈F,k∈rk (lvs sp) h0 h1)(hn:F.Nodup)(a2:F.length<=300)(hd:H d=A5)(he:H e=A5)(X:d≠e)(sH:As H b)(v:b d=A0 (.frz o0 (.dT (dK3 F))))(a1:b e=A0 (B3 e L))(hL:Bo b L)(y:Led l0 h0 l1 h1 sp (prs F) L)
  (q:∀(p:A4)(H':Hp),H p=A5->As H H'->H' p=A0 (.dT (dK3 (nxl l0 h0 l1 h1 sp F)))->Q (.ref p) H'):tE C QB [A0 (.ref bd),A0 (.ref d),x2,x3,x4,x5,A0 (.ref e),x7] b Q:=by
 unfold QB;have B:∀k∈F,D5 k:=λk u=>(Cn O.bs O.b0 O.b1).2 k (hF k u);(try rw[PX]);symm;refine P5 (.inr ⟨_,v⟩) λo as A T=>?_;have l:As H (upd b d (.frz o (.dT (dK3 F)))):=so hd sH;have m:upd b d (.frz o (.dT (dK3 F))) d=A0 (.frz o (.dT (dK3 F))):=Aw;have D:upd b d (.frz o (.dT (dK3 F))) e=A0 (B3 e L):=by rw[Au (Ne.symm X)];exact a1
 have t0:Tp b (upd b d (.frz o (.dT (dK3 F)))):=tpo v (λG z=>by cases z);have I:∀(i:Nat)a k,as[i]?=A0 a->F[i]?=A0 k->upd b d (.frz o (.dT (dK3 F))) a=A0 (.tup [nV k.1,nV k.2.1,nV k.2.2]):=λi a k h1 h2=>t0 _ _ (T i a _ h1 (Q7 h2));have M:=EW hL t0;generalize upd b d (.frz o (.dT (dK3 F)))=H1 at l m D I M;refine P6 (ks:=as.map V.ref) (λi G H'=>As H1 H'/\∃h:PL,G=(h.map λx=>V.ref x.1)/\Pl H' h (dK3 ((F.take i).filter (kp l0 h0 l1 h1 sp F)))) ⟨As.refl _,[],rfl,Pl.nil⟩ (λi G H' pv=>⟨_,pv.1 _ _ m⟩) ?_ ?_
 .rintro i G P x R hx⟨g,h,rfl,t⟩hR;obtain⟨k,a,u,rfl,ha⟩:=Q8 A hx;have hi:=BO u;have a0:=ar u;have n:=g _ _ (I i a k ha u);have J:=B k a0;have K:(F.take (i+1)).filter (kp l0 h0 l1 h1 sp F)=(F.take i).filter (kp l0 h0 l1 h1 sp F)++if kp l0 h0 l1 h1 sp F k then[k]else[]:=by
   rw[HA u,List.filter_append];congr 1;rw[cF];split;.rfl
   .rfl
  symm;refine fZ (HR n) (HM J) (g _ _ D) (EW M (B9 g)) ?_;rw[if_neg (by decide),y.any];have j:kp l0 h0 l1 h1 sp F k=A6->∀s,As P s->R (h.map λx=>V.ref x.1) s:=λhf s f=>hR _ _ ⟨g.trans f,h,rfl,by rw[K,hf];simp only[aV,if_false,de];exact t.mono (B9 f)⟩;cases Y:(F.any λq=>decide (lb l0 h0 l1 h1 sp q 0=A0 k)||decide (lb l0 h0 l1 h1 sp q 1=A0 k))with
  |false=>symm;exact j (by unfold kp;rw[Y];rfl) P (As.refl _)
  |true=>
   symm;refine Az U ?_;symm;refine⟨bd,d,a,l0,h0,l1,h1,sp,F,k,rfl,O.mono (B9 (l.trans g)),.inr ⟨_,g _ _ m⟩,B,n,J.1,λs f=>?_⟩;cases eb:(inK F (lb l0 h0 l1 h1 sp k 0)||inK F (lb l0 h0 l1 h1 sp k 1))with
   |false=>symm;exact j (by unfold kp;rw[Y,eb];rfl) s f
   |true=>symm;refine⟨by decide,λp4 S=>?_⟩;obtain⟨N,e4⟩:=snw S (.tup [.ref a,.bl A2]);generalize upd s p4 _=H4 at N e4⊢;have Z:=t.len;have:=bJ (kp l0 h0 l1 h1 sp F) (F.take i);rw[Dx]at Z;rw[aH]at this;refine⟨BQ (by rw[af];omega),hR _ _ ⟨g.trans (f.trans N),h++[(p4,kK k,a,.bl A2)],by rw[aG];rfl,?_⟩⟩;rw[K,show kp l0 h0 l1 h1 sp F k=A2 by unfold kp;rw[Y,eb];rfl,if_pos rfl];unfold dK3;rw[aG];exact(t.mono (B9 (f.trans N))).snoc e4 (by rw[G_];exact N _ _ (f _ _ n))
 .rintro G P⟨g,h,rfl,t⟩p hp;rw[af,A,Dx,aZ,<-QA]at t;obtain⟨f,e3⟩:=snw hp (.lst (h.map λx=>V.ref x.1));have E:=t.mono (B9 f);have r:=l.trans (g.trans f);generalize upd P p _=s at f e3 E r⊢;refine gz E (g_ (hn.sublist cV)) e3 λd' w=>?_;exact q d' _ (r.free w) (r.trans (B5 w _)) Aw
theorem hJ(hN:C.N.length=8)(B:C.fs "_law_behind"=A0 C4)(M:C.fs "_law_leads"=A0 ES):∀J H Q E,EV J H Q E->tSs C HJ {nx:=λ_ x=>Q .non x,rt:=Q} (L2.BA C.N J) H:=by
 intro J H Q E h;obtain⟨bd,l0,h0,l1,h1,sp,rfl,i,a0,a1,q⟩:=h;have I:=EO (EQ (sp:=sp)) (h0:=h0) (h1:=h1);have a2:=(Cn i.bs i.b0 i.b1).1;rw[BW hN];unfold HJ;refine Ds λN0 O=>?_;rw[DZ,P3];intro d f;obtain⟨s1,e1⟩:=snw f (.dT []);generalize upd H d _=H1 at s1 e1⊢;refine O _ _ ?_;refine Ds λN1 K=>?_;refine gr (l0:=l0) (l1:=l1) i f s1 e1 λt y v H2 s2 e2=>K _ _ ?_;symm;refine Jv (λm σ x=>∃(d:A4)(F:List K3)(t y v x6 X:Option V)(z:Int),σ=[A0 (.ref bd),A0 (.ref d),t,y,v,A0 (.int z),x6,X]/\H d=A5/\As H x/\x d=A0 (.dT (dK3 F))/\F.Sublist (rk (lvs sp) h0 h1)/\Cov l0 h0 l1 h1 sp F/\((z=-1/\m=1000)\/∃G,F=nxl l0 h0 l1 h1 sp G/\z=(G.length:Int)/\m=G.length)) 1000 ⟨d,_,t,y,v,_,_,_,rfl,f,s2,e2,List.Sublist.refl _,λS hS r hr k n=>ar n,.inl ⟨rfl,rfl⟩⟩ ?_;rintro m σ H3⟨d,F,t,y,v,x6,X,z,rfl,f,s3,g,a,b,hz⟩;have a3:=a.length_le;have Y:=a.nodup I;symm;refine PU (.inl g) ?_;rw[Dx];symm;rw[show(!decide (z=(F.length:Int)))=decide (¬z=(F.length:Int))by simp];refine Bu (λhc=>Jw ?_) λhc=>Jx ?_
 .refine Ds λN3 P=>?_;symm;refine PU (.inl g) ?_;rw[Dx];symm;refine P _ _ ?_;refine Ds λN4 D=>?_;rw[DZ,P2];intro e w;obtain⟨A,e4⟩:=snw w (B3 e []);have j:d≠e:=by rintro rfl;rw[g]at w;cases w
  have f4:=s3.free w;have s:=s3.trans A;have u:=A _ _ g;generalize upd H3 e _=H4 at A e4 s u⊢;refine D _ _ ?_;refine Ds λN5 U=>?_;refine gx B i a0 a1 (λk n=>a.subset n) ⋯ f f4 j s u e4 λt X H5 L o s5 R T Z l=>U _ _ ?_;rw[Jl,DZ];refine hC M i (λk n=>a.subset n) Y ⋯ f f4 j s5 R T Z l λp H6 hp s6 e6=>?_;symm;refine⟨F.length,?_,p,_,_,_,_,_,_,_,rfl,hp,s6,e6,(cV).trans a,b.nx a0 a1,.inr ⟨F,rfl,rfl,rfl⟩⟩;rcases hz with⟨_,rfl⟩|⟨G,rfl,rfl,rfl⟩;.omega
  .have:=bJ (kp l0 h0 l1 h1 sp G) G;rw[<-QA]at this;omega
 .symm;rcases hz with⟨rfl,_⟩|⟨G,rfl,rfl,_⟩;.omega
  .have e:nxl l0 h0 l1 h1 sp G=G:=Pt (show G.length<=(nxl l0 h0 l1 h1 sp G).length by omega);rw[e]at g b a;exact q d G H3 f s3 g ⟨a,e,b⟩
end
def lt3(a b:K3):Prop:=a.1<b.1\/(a.1=b.1/\(a.2.1<b.2.1\/(a.2.1=b.2.1/\a.2.2<b.2.2)))
theorem KH{m b:Nat}:∀{h:Nat},(r2 (aE m) b h).Pairwise lt3
 |0=>List.Pairwise.nil
 |h+1=>by
  rw[FL];refine dq.mpr ⟨KH,?_,λx f y d=>?_⟩;.unfold r1;rw[bM];exact List.pairwise_lt_range.imp λ{a c}z=>.inr ⟨rfl,.inr ⟨rfl,z⟩⟩
  .obtain⟨e,_,g,_⟩:=Cb f;unfold r1 at d;obtain⟨l,_,rfl⟩:=aB.mp d;exact .inr ⟨e,.inl (by show x.2.1<h+1;omega)⟩
theorem hU{sp:Option Nat}{h0 h1:Nat}:(rk (lvs sp) h0 h1).Pairwise lt3:=by unfold rk;rw[HP];refine dq.mpr ⟨KH,KH,λx b y a=>.inl ?_⟩;have:=(Cb b).1;have:=(Cb a).1;omega
set_option tactic.hygienic true in
theorem hV{a b:K3}(h:lt3 a b):BI (L2.kI (BD.kI b)) (L2.kI (BD.kI a))=A6:=by
 obtain⟨a1,a2,a3⟩:=a;obtain⟨b1,b2,b3⟩:=b;unfold lt3 at h;dsimp only at h;show BI [.inl (b1:Int),.inl (b2:Int),.inl (b3:Int)] [.inl (a1:Int),.inl (a2:Int),.inl (a3:Int)]=A6;unfold BI;split
 .rename_i e;have e:(b1:Int)=a1:=Sum.inl.inj e;unfold BI;split
  .rename_i e2;have e2:(b2:Int)=a2:=Sum.inl.inj e2;unfold BI;split;.rename_i e3;have e3:(b3:Int)=a3:=Sum.inl.inj e3;omega
   .exact decide_eq_false ⋯
  .exact decide_eq_false ⋯
 .exact decide_eq_false ⋯
theorem up3{F:List K3}(f:F.Pairwise lt3):((dK3 F).map λd=>unK d.1).Pairwise λx y=>BI (L2.kI y) (L2.kI x)=A6:=by
 have e:((dK3 F).map λd=>unK d.1)=F.map BD.kI:=by unfold dK3;rw[bn];rfl
 rw[e,bM];exact f.imp λ{a b}z=>hV z
theorem KI{H:Hp}:∀{F:List K3}{e:List A4},e.length=(dK3 F).length->(∀(i:Nat)b d,e[i]?=A0 b->(dK3 F)[i]?=A0 d->H b=A0 (.tup (d.1.map L2.kV)))->B4 (Be H) (e.map V.ref) F
 | [],[],_,_=>trivial
 | [],_::_,h,_=>by cases h
 |k::F,[],h,_=>by cases h
 |k::F,a::e,j,h=>⟨⟨a,rfl,h 0 a (kK k,.bl A2) rfl rfl⟩,KI (Nat.succ.inj j) λi b d f g=>h (i+1) b d f g⟩
def FT:Sp:=λi H Q _=>∃(bd:A4)(e d a f:Nat)(b:Option Nat),i=[.ref bd]/\IsB H bd e d a f b/\∀(p:A4)(h:List Nat)(g:Hp),As H g->IsM g p (prt (MxA e d a f b) h)->Rs (MxA e d a f b) h->Q (.ref p) g
theorem hW{C:Rc}(v:C.N.length=3)(hT:C.fs "trimmed"=A0 FR)(y:C.fs "machine_in_bounds"=A0 FP)(hR:C.fs "rooms_in_bounds"=A0 FM):∀i H Q E,FT i H Q E->tSs C Gz {nx:=λ_ s=>Q .non s,rt:=Q} (L2.BA C.N i) H:=by intro i H Q E h;obtain⟨bd,m,h0,j,h1,n,rfl,a,q⟩:=h;rw[BW v];unfold Gz;have u:=(Cn a.bs a.b0 a.b1 (h0:=h0) (h1:=h1)).1;symm;rw[DZ];refine Az hT ?_;symm;refine Az y ?_;symm;refine Az hR ?_;symm;refine⟨bd,m,h0,j,h1,n,rfl,a,λp B L o x e=>?_⟩;symm;refine⟨bd,p,m,h0,j,h1,n,B,rfl,a.mono (B9 o),x,e,λA K r f=>?_⟩;symm;refine⟨A,_,rfl,f,by rw[af];omega,λI D l G t w _ g J d b=>?_⟩;refine eD (SqT.of g) ?_;symm;exact q D G t (o.trans (r.trans w)) d b
def rks(sp:Option Nat)(h0 h1:Nat)(rs:List Nat):List K3:=rs.map λr=>(rk (lvs sp) h0 h1)[r]?.getD (0,0,0)
section
variable{l0 h0 l1 h1:Nat}{sp:Option Nat}
theorem KJ(a0:1<=h0)(a:1<=h1){F:List K3}(h:Lsd l0 h0 l1 h1 sp F){rs:List Nat}(hR:Rs (MxA l0 h0 l1 h1 sp) rs):rks sp h0 h1 rs=F/\prt (MxA l0 h0 l1 h1 sp) rs=CB l0 h0 l1 h1 sp F:=by
 have e:rs=F.map (rk (lvs sp) h0 h1).idxOf:=hR.uniq (h.rs a0 a);rw[e];refine⟨?_,h.prt a0 a⟩;unfold rks;rw[bn];have:∀k∈F,((λr=>(rk (lvs sp) h0 h1)[r]?.getD (0,0,0))∘(rk (lvs sp) h0 h1).idxOf) k=k:=λk b=>by show(rk (lvs sp) h0 h1)[(rk (lvs sp) h0 h1).idxOf k]?.getD (0,0,0)=k;rw[CP (h.mem b)];rfl
 exact(ci this).trans (List.map_id _)
theorem hY{F:List K3}:OkM (CB l0 h0 l1 h1 sp F):=by
 intro r g;obtain⟨k,h,rfl⟩:=aB.mp g;have f:(CB l0 h0 l1 h1 sp F).length=F.length:=by unfold CB;rw[af]
 have d:∀o:Option K3,∀x,ixF F o=A0 x->x<(CB l0 h0 l1 h1 sp F).length:=λo x b=>by
  cases o with
  |none=>cases b
  |some e=>
   have b:(if e∈F then A0 (F.idxOf e)else A5)=A0 x:=b;by_cases a:e∈F;.rw[if_pos a]at b;cases b;rw[f];exact cC a
   .rw[if_neg a]at b;cases b
 exact⟨d _,d _⟩
end
end K06
namespace M7
open PySem PySem.Spec PyProof.Rows L2 R3 LW TM BD BE TE K06
def bN(c:Bool):Nat:=if c then 1 else 0
section
variable{l0 h0 l1 h1:Nat}{sp:Option Nat}
theorem Lsd.ahead{F:List K3}(h:Lsd l0 h0 l1 h1 sp F){k:K3}(i:k∈F):∃c,∃q∈F,lb l0 h0 l1 h1 sp k (bN c)=A0 q:=by
 have f:k∈nxl l0 h0 l1 h1 sp F:=by rw[h.fix];exact i
 have a:=(bo.mp f).2;rw[ah,aR]at a;have b:∀o:Option K3,inK F o=A2->∃q∈F,o=A0 q:=λo g=>by
  cases o with
  |none=>cases g
  |some q=>exact⟨q,of_decide_eq_true g,rfl⟩
 rcases a.2 with e|e;.obtain⟨q,d,e⟩:=b _ e;exact⟨A6,q,d,e⟩
 .obtain⟨q,d,e⟩:=b _ e;exact⟨A2,q,d,e⟩
end
end M7
namespace K07
open PySem PySem.Spec PyProof.Rows L2 R3 LW
def HS:Css:=(.cons (.asg (.name 4) (.str ""))
  (.cons (.asg (.name 5) (.blt .sortU (.cons (.var 2) .nil)))
  (.cons (.asg (.name 6) (.idx (.var 5) (.call "_law_take" (.cons (.var 0) (.cons (.blt .len (.cons (.var 5) .nil)) .nil)))))
  (.cons (.for_ (.name 7) (.range1 (.var 3)) (.cons (.asg (.name 8) (.comp (.call "_law_behind" (.cons (.var 1) (.cons (.var 6) (.cons (.var 9) .nil)))) [9] (.name 9) (.val (.tup (.cons (.int 0) (.cons (.int 1) .nil)))) .none .nil))
  (.cons (.asg (.name 8) (.comp (.var 10) [10] (.name 10) (.val (.var 8)) (.some (.din A6 (.var 10) (.var 2))) .nil))
  (.cons (.asg (.name 6) (.idx (.var 8) (.call "_law_take" (.cons (.var 0) (.cons (.blt .len (.cons (.var 8) .nil)) .nil)))))
  (.cons (.asg (.name 4) (.bin .Add (.var 4) (.idx (.str "01") (.idx (.var 6) (.int 0)))))
  .nil)))))
  (.cons (.ite (.and (.cmp .Gt (.var 3) (.int 0)) (.cmp .Eq (.call "_law_take" (.cons (.var 0) (.cons (.int 3) .nil))) (.int 0))) (.cons (.asg (.name 11) (.call "_law_take" (.cons (.var 0) (.cons (.var 3) .nil))))
  (.cons (.asg (.name 4) (.bin .Add (.bin .Add (.cut (.var 4) .none (.some (.var 11))) (.idx (.str "10") (.blt .int (.cons (.idx (.var 4) (.var 11)) .nil)))) (.cut (.var 4) (.some (.bin .Add (.var 11) (.int 1))) .none)))
  .nil)) .nil)
  (.cons (.ret (.var 4))
  .nil))))))
open TM BD BE TE K06 M7 SR
section
variable{l0 h0 l1 h1:Nat}{sp:Option Nat}
theorem hZ(a0:1<=h0)(j:1<=h1){rs:List Nat}(h:Rs (MxA l0 h0 l1 h1 sp) rs):Lsd l0 h0 l1 h1 sp (rks sp h0 h1 rs):=by
 have l:∀r∈rs,r<(rk (lvs sp) h0 h1).length:=λr d=>by have:=h.lt r d;unfold MxA at this;rwa [af]at this
 have b:∀r∈rs,(rk (lvs sp) h0 h1)[r]?=A0 ((rk (lvs sp) h0 h1)[r]?.getD (0,0,0)):=λr d=>by rw[ae (l r d)];rfl
 have a:∀{r k},r∈rs->(rk (lvs sp) h0 h1)[r]?=A0 k->k∈rks sp h0 h1 rs:=λ{r k}d e=>aB.mpr ⟨r,d,by rw[e];rfl⟩;refine⟨?_,?_,λS A r d k p=>a (h.all S A r d) p⟩
 .have q:rs=(aE (rk (lvs sp) h0 h1).length).filter λr=>decide (r∈rs):=
   KB h.rise (List.Pairwise.sublist cV da) λx=>by rw[bo,ba,decide_eq_true_eq];exact⟨λz=>⟨l x z,z⟩,λz=>z.2⟩
  have s:(aE (rk (lvs sp) h0 h1).length).map (λr=>(rk (lvs sp) h0 h1)[r]?.getD (0,0,0))=rk (lvs sp) h0 h1:=by
   apply bO;intro i;rw[aj];by_cases t:i<(rk (lvs sp) h0 h1).length;.rw[cA t,ae t];show A0 ((rk (lvs sp) h0 h1)[i]?.getD (0,0,0))=_;rw[ae t];rfl
   .rw[bg (by rw[bx];omega),bg ⋯];rfl
  have:=(show rs.Sublist (aE (rk (lvs sp) h0 h1).length)by rw[q];exact cV).map λr=>(rk (lvs sp) h0 h1)[r]?.getD (0,0,0);rw[s]at this;exact this
 .unfold nxl;rw[List.filter_eq_self];intro k p;obtain⟨r,d,rfl⟩:=aB.mp p;obtain⟨_,⟨r1,m,q⟩,⟨r2,f,s⟩⟩:=h.sus r d;have g:=b r d;have o:=b r1 m;have n:=b r2 f;obtain⟨w,u⟩:=Dw (l0:=l0) (l1:=l1) a0 j o;obtain⟨y,v⟩:=Dw (l0:=l0) (l1:=l1) a0 j g;rw[ah,bE,aR];constructor
  .refine⟨_,a m o,?_⟩;rw[aR,decide_eq_true_eq,decide_eq_true_eq];rcases q with e|e;.rw[w]at e;exact .inl (Da a0 j (ar o) (by decide) g e)
   .rw[u]at e;exact .inr (Da a0 j (ar o) (by decide) g e)
  .rcases s with e|e;.rw[y]at e;left;rw[Da a0 j (ar g) (by decide) n e];exact decide_eq_true (a f n)
   .rw[v]at e;right;rw[Da a0 j (ar g) (by decide) n e];exact decide_eq_true (a f n)
end
open Classical in
def EX:Sp:=λvs H Q _=>∃(b bd D:A4)(n l0 h0 l1 h1:Nat)(sp:Option Nat)(F:List K3)(N:Nat),vs=[.ref b,.ref bd,.ref D,.int N]/\H b=A0 (BV b n)/\n<=2^38/\IsB H bd l0 h0 l1 h1 sp/\H D=A0 (.dT (dK3 F))/\Lsd l0 h0 l1 h1 sp F/\F≠[]/\N<=60/\∀(row:List Bool)(H':Hp),row.length=N->Go 100 H H'->Q (.str (tx row)) H'
def Ld3(H:Hp)(v:V):Option K3->Prop
 |A5=>v=.non
 |A0 k=>Be H v k
theorem Ld3.mono{H H':Hp}(s:As H H'){v:V}{o:Option K3}(h:Ld3 H v o):Ld3 H' v o:=by
 cases o with
 |none=>exact h
 |some k=>exact Be.mono s h
theorem KL{H:Hp}{Q:VK}{bd i:A4}{l0 h0 l1 h1:Nat}{sp:Option Nat}{k:K3}{c:Nat}(n:IsB H bd l0 h0 l1 h1 sp)(h:H i=A0 (.tup [nV k.1,nV k.2.1,nV k.2.2]))(l:c<2)(j:k.1<2)(q:∀v a,As H a->Ld3 a v (lb l0 h0 l1 h1 sp k c)->Q v a):
  ∃(d b:A4)(l0 h0 l1 h1:Nat)(sp:Option Nat)(k:K3)(g:Nat),[V.ref bd,.ref i,.int c]=[.ref d,.ref b,.int g]/\IsB H d l0 h0 l1 h1 sp/\H b=A0 (.tup [nV k.1,nV k.2.1,nV k.2.2])/\g<2/\k.1<2/\(lb l0 h0 l1 h1 sp k g=A5->∀a,As H a->Q .non a)/\∀f,lb l0 h0 l1 h1 sp k g=A0 f->∀(p:A4)(a:Hp),As H a->a p=A0 (.tup [nV f.1,nV f.2.1,nV f.2.2])->Q (.ref p) a:=
 ⟨bd,i,l0,h0,l1,h1,sp,k,c,rfl,n,h,l,j,λe a s=>q _ _ s (by rw[e];rfl),λf e p a s m=>q _ _ s (by rw[e];exact⟨p,rfl,m⟩)⟩
theorem QC{C:Rc}{H:Hp}{Q:VK}{D:A4}{F:List K3}{v:V}{o:Option K3}(b:H D=A0 (.dT (dK3 F)))(f:∀k∈F,D5 k)(d:Ld3 H v o)(q:Q (.bl (inK F o)) H):Du A6 v Q (.ref D) H:=by
 cases o with
 |none=>cases d;exact PK (Q1 f (.inl b)) q
 |some k=>
  obtain⟨p,rfl,e⟩:=d;refine PM (.inr ⟨_,kK k,p,.inl b,rfl,Q2 e,rfl⟩) ?_;rw[HL];by_cases a:k∈F;.rw[show inK F (A0 k)=A2 from decide_eq_true a]at q;rw[if_pos a];exact q
  .rw[show inK F (A0 k)=A6 from decide_eq_false a]at q;rw[if_neg a];exact q
def fl3(F:List K3)(os:List (Option K3)):List K3:=os.filterMap λo=>if inK F o then o else A5
theorem QD{F:List K3}{os:List (Option K3)}{k:K3}(h:k∈fl3 F os):k∈F:=by
 obtain⟨o,_,e⟩:=cc.mp h;cases o with
 |none=>cases e
 |some q=>
  by_cases a:inK F (A0 q)=A2;.rw[if_pos a]at e;cases e;exact of_decide_eq_true a
  .rw[if_neg a]at e;cases e
theorem KM{F:List K3}{os:List (Option K3)}{o:Option K3}:fl3 F (os++[o])=fl3 F os++(if inK F o then o else A5).toList:=by unfold fl3;rw[List.filterMap_append];congr 1
theorem QE{H:Hp}{v:V}{k:K3}(h:Be H v k):∀{d:List V}{b:List K3},B4 (Be H) d b->B4 (Be H) (d++[v]) (b++[k])
 | [],[],_=>⟨h,trivial⟩
 |_::_,_::_,a=>⟨a.1,QE h a.2⟩
theorem bV{k:K3}(h:k.1<2):nV k.1=.int (if decide (k.1=1)then 1 else 0):=by rcases(by omega:k.1=0\/k.1=1)with z|z<;>rw[z]<;>rfl
theorem iA{C:Rc}(hN:C.N.length=12)(hT:C.fs "_law_take"=A0 CA)(a5:C.fs "_law_behind"=A0 C4):∀vs H Q E,EX vs H Q E->tSs C HS {nx:=λ_ u=>Q .non u,rt:=Q} (L2.BA C.N vs) H:=by
 intro vs H Q E h;obtain⟨b,bd,D,n,s,h0,p,h1,m,F,N,rfl,hb,hn,T,hD,hL,hF,f3,q⟩:=h;rw[BW hN];unfold HS;obtain⟨e2,c8⟩:=Cn T.bs T.b0 T.b1 (h0:=h0) (h1:=h1);have f4:F.length<=300:=by have:=hL.sub.length_le;omega
 have f2:1<=F.length:=List.length_pos_iff.mpr hF;have Z:∀k∈F,D5 k:=λk hk=>c8 k (hL.mem hk);symm;refine fh (n:=2) (.inl hD) (λkv d0=>?_) (up3 (hU.sublist hL.sub)) λl as hl c0 hat=>?_;.obtain⟨k,_,rfl⟩:=aB.mp d0;exact⟨BD.kI k,rfl,rfl⟩
 have hA:=KI c0 hat;generalize as.map V.ref=xs at hA;obtain⟨s1,e1⟩:=snw hl (.lst xs);have a2:=DI s1 hA;have g1:Go 0 H (upd H l (.lst xs)):=Go.of_same s1;generalize upd H l _=H1 at e1 a2 g1⊢;obtain⟨n1,b8,f1,_⟩:=g1.boxed hb ⋯;symm;refine Az hT ?_;symm;refine DY (SqL.of e1) ?_;rw[a2.len];symm;refine DH b8 (Go.refl (c:=0)) ⋯ ⋯ ⋯ λr0 H2 c1 a1 g2 _=>?_;obtain⟨r,rfl⟩:=aT c1;have d2:Go 1 H H2:=(g1.trans g2).mono ⋯;have hr:r<F.length:=by omega
 obtain⟨x,hx,p0,rfl,c6⟩:=a2.get (ae hr);refine Bi (SqL.of (g2.lst e1)) (Ef hx) ?_;symm;refine Ju ⋯ ⋯ ?_;rw[bb];refine Gd (λi σ u=>(∃(a:List Bool)(st:A4)(k:K3)(x7 x8:Option V),σ=[A0 (.ref b),A0 (.ref bd),A0 (.ref D),A0 (.int N),A0 (.str (tx a)),A0 (.ref l),A0 (.ref st),x7,x8,A5,A5,A5]/\a.length=i/\k∈F/\u st=A0 (.tup [nV k.1,nV k.2.1,nV k.2.2]))/\Go (1+i) H u) ⟨⟨[],p0,F[r],_,_,rfl,rfl,bR hr,g2.tup c6⟩,d2⟩ ?_ ?_
 .rintro i σ H3 hi⟨⟨a,st,k,x7,x8,rfl,f,hk,a4⟩,M⟩;obtain⟨n3,b7,d4,_⟩:=M.boxed hb ⋯;have b6:=(Z k hk).1;have b2:IsB H3 bd s h0 p h1 m:=⟨M.tup T.at',T.b0,T.b1,T.bs⟩;have c2:H3 D=A0 (.dT (dK3 F)):=M.oth D _ hD λ_ z=>by cases z
  symm;refine⟨by decide,λpt c9=>?_⟩;obtain⟨s4,e4⟩:=snw c9 (.tup [.int 0,.int 1]);generalize upd H3 pt _=H4 at s4 e4⊢;refine FE (SqT.of e4) (dF (vs:=[.int 0,.int 1]) (λj B u=>As H4 u/\B4 (Ld3 u) B (([lb s h0 p h1 m k 0,lb s h0 p h1 m k 1]:List (Option K3)).take j)) ⟨As.refl _,trivial⟩ (λj B u pv=>SqT.of (pv.1 _ _ e4)) ?_ ?_)
  .rintro j B H5 v R G⟨s5,K⟩hR;have I:=s4.trans s5;match j,G with
   |0,G=>cases G;symm;refine Az a5 ?_;symm;refine KL (c:=0) (b2.mono (B9 I)) (I _ _ a4) (by decide) b6 λv H6 O S=>?_;obtain rfl:B=[]:=cu (by rw[K.len];rfl);exact⟨by decide,hR _ _ ⟨s5.trans O,S,trivial⟩⟩
   |1,G=>
    cases G;symm;refine Az a5 ?_;symm;refine KL (c:=1) (b2.mono (B9 I)) (I _ _ a4) (by decide) b6 λv H6 O S=>?_;match B,K with
    | [y],K=>exact⟨by show 1<A7;decide,hR _ _ ⟨s5.trans O,K.1.mono O,S,trivial⟩⟩
   |j+2,G=>cases G
  .rintro B H5⟨s5,K⟩l5 b9;have K:B4 (Ld3 H5) B [lb s h0 p h1 m k 0,lb s h0 p h1 m k 1]:=K;obtain⟨O,e6⟩:=snw b9 (.lst B);have U:=s4.trans (s5.trans O);have a0:=K.mono λ_ _ z=>Ld3.mono O z;generalize upd H5 l5 _=H6 at O e6 U a0⊢;have c7:B.length=2:=a0.len;have d6:=U _ _ c2;symm;refine CO (SqL.of e6) (DF (vs:=B) (λj J u=>u=H6/\B4 (Be H6) J (fl3 F (([lb s h0 p h1 m k 0,lb s h0 p h1 m k 1]:List (Option K3)).take j))) ⟨rfl,trivial⟩ (λj J u pv=>SqL.of (by rw[pv.1];exact e6)) ?_ ?_)
   .rintro j J H7 v R G⟨rfl,g⟩hR;obtain⟨o,ho,b5⟩:=a0.getL G;have hj:j<2:=BO ho;have et:([lb s h0 p h1 m k 0,lb s h0 p h1 m k 1]:List (Option K3)).take (j+1)=([lb s h0 p h1 m k 0,lb s h0 p h1 m k 1]:List (Option K3)).take j++[o]:=by rw[bj,ho];rfl
    have e3:J.length<=2:=by rw[g.len];unfold fl3;exact aF (cP _ _) (by rw[aH];exact Nat.min_le_right _ _)
    symm;refine QC (C:=C) d6 Z b5 ?_;cases a3:inK F o with
    |false=>symm;refine hR _ _ ⟨rfl,?_⟩;rw[et,KM,a3,if_neg al];simpa using g
    |true=>
     symm;cases o with
     |none=>cases a3
     |some k'=>refine⟨BQ ⋯,hR _ _ ⟨rfl,?_⟩⟩;rw[et,KM,a3,if_pos rfl];exact QE b5 g
   .rintro J H7⟨rfl,g⟩l7 c3;have g:B4 (Be H7) J (fl3 F [lb s h0 p h1 m k 0,lb s h0 p h1 m k 1]):=by have:=g;rw[br (by rw[c7];exact ag 2)]at this;exact this
    obtain⟨t,d⟩:∃t,t=fl3 F [lb s h0 p h1 m k 0,lb s h0 p h1 m k 1]:=⟨_,rfl⟩;have d3:∀k'∈t,k'∈F:=λk' h=>QD (by rw[<-d];exact h);have e9:1<=t.length/\t.length<=2:=by
     constructor
     .obtain⟨c,q',d1,e⟩:=M7.Lsd.ahead hL hk;have hm:q'∈t:=by rw[d];unfold fl3;refine cc.mpr ⟨A0 q',?_,if_pos (decide_eq_true d1)⟩;rw[<-e];cases c<;>simp[bN]
      exact List.length_pos_of_mem hm
     .rw[d];unfold fl3;exact cP _ _
    rw[<-d]at g;clear d;obtain⟨s8,e8⟩:=snw c3 (.lst J);have b3:=U.trans s8;have A:=DI s8 g;have g8:Go (1+i) H (upd H7 l7 (.lst J)):=M.trans (Go.of_same (c:=0) b3);generalize upd H7 l7 _=H8 at e8 b3 A g8⊢;obtain⟨n8,Y,c5,_⟩:=g8.boxed hb ⋯;symm;refine Az hT ?_;symm;refine DY (SqL.of e8) ?_;rw[A.len];symm;refine DH Y (Go.refl (c:=0)) ⋯ ⋯ ⋯ λr1 H9 a8 d9 L _=>?_;obtain⟨r1,rfl⟩:=aT a8;have a1:r1<t.length:=by omega
    obtain⟨x9,d7,p9,rfl,b4⟩:=A.get (ae a1);have a7:=d3 _ (bR a1);refine Bi (SqL.of (L.lst e8)) (Ef d7) ?_;symm;refine Bv (SqT.of (L.tup b4)) (v:=nV t[r1].1) rfl ?_;rw[bV (Z _ a7).1];refine Dr (l:=[A6,A2]) (c:=decide (t[r1].1=1)) (by decide) (by cases decide (t[r1].1=1)<;>rfl) ?_;symm;refine⟨Cp (by rw[f];omega),?_⟩;symm;refine⟨⟨a++[decide (t[r1].1=1)],p9,t[r1],_,_,rfl,by rw[aA,f];rfl,a7,L.tup b4⟩,?_⟩;exact(g8.trans L).mono ⋯
 .rintro σ H3⟨⟨a,st,k,x7,x8,rfl,f,hk,a4⟩,M⟩;obtain⟨n3,b7,d4,_⟩:=M.boxed hb ⋯;show tSs C (.cons (.ite _ _ _) _) _ _ H3;refine Ds λNY c4=>?_;have X:∀(r9:List Bool)(a6:Option V)(H9:Hp),r9.length=N->Go 100 H H9->NY [A0 (.ref b),A0 (.ref bd),A0 (.ref D),A0 (.int N),A0 (.str (tx r9)),A0 (.ref l),A0 (.ref st),x7,x8,A5,A5,a6] H9:=by intro r9 a6 H9 h9 L;refine c4 _ _ ?_;symm;exact q r9 H9 h9 L
  symm;by_cases e7:0<N
  .rw[decide_eq_true (by omega:(0:Int)<(N:Int))];symm;refine Az hT ?_;symm;refine DH b7 (Go.refl (c:=0)) ⋯ ⋯ ⋯ λz0 H8 e0 e5 g8 _=>?_;have P:Go (1+N+1) H H8:=M.trans g8;obtain⟨n8,Y,c5,_⟩:=P.boxed hb ⋯;symm;refine Bu (λhq=>?_) λhq=>?_
   .symm;refine Az hT ?_;symm;refine DH Y (Go.refl (c:=0)) ⋯ ⋯ ⋯ λw0 H9 d5 f0 L _=>?_;obtain⟨w,rfl⟩:=aT d5;have hw:w<a.length:=by omega
    have d8:=P.trans L;symm;refine KC (Cp ⋯) ?_;symm;refine Dr (c:=a[w]) (Cp ⋯) (Ef (ae hw)) ?_;symm;refine Dr (l:=[A2,A6]) (c:=!a[w]) (by decide) (by cases a[w]<;>rfl) ?_;symm;refine⟨by rw[aH];exact Cp ⋯,?_⟩;symm;rw[show(w:Int)+1=((w+1:Nat):Int)by omega];refine Pw (Cp ⋯) ?_;have a9:(a.take w++[!a[w]]++a.drop (w+1)).length=N:=by rw[aA,aA,aH,cW,bU];omega
    symm;refine⟨?_,?_⟩;.rw[aA,aH,cW,bU];exact Cp ⋯
    .symm;exact X _ _ H9 a9 (d8.mono ⋯)
   .symm;exact X a _ H8 f (P.mono ⋯)
  .rw[decide_eq_false (by omega:¬(0:Int)<(N:Int))];symm;exact X a _ H3 f (M.mono ⋯)
theorem iB{K:W.Frag}{H:Hp}{Q:VK}{a b:A4}{xs:List V}(h:H a=A0 (.lst xs))(e:H b=A0 (.lst []))(q:Q (.bl (!decide (xs=[]))) H):BG K .NotEq (.ref a) (.ref b) H Q:=by refine .inl ⟨a,b,xs,[],rfl,rfl,SqL.of h,SqL.of e,?_,q⟩;intro g i x y f d;simp at d
theorem iC{F:List K3}:decide (dK3 F=[])=decide (F=[]):=by cases F<;>rfl
end K07
end
namespace K05
open PySem PySem.Spec PyProof.Rows L2 R3 LW
noncomputable section
def KN:List AM:=["machine","rooms","bit","leads","room","lead"]
def QF:List AM:=["int","sorted"]
def HU:Css:=(.cons (.asg (.name 3) (.comp (.idx (.idx (.var 0) (.var 4)) (.blt .int (.cons (.var 2) .nil))) [4] (.name 4) (.val (.var 1)) .none .nil))
  (.cons (.ret (.ssa (.var 5) [5] (.name 5) (.val (.var 3)) (.some (.cmp .IsNot (.var 5) .non))))
  .nil))
def KO:List AM:=["machine","rooms","inside","led_to","room","lead"]
def QG:List AM:=["set"]
def KP:List AM:=["machine","numbers","anew","at","room"]
def QH:List AM:=["enumerate","tuple"]
def KQ:List AM:=["machine","numbers","fewer"]
def QI:List AM:=["len","list","range"]
def KR:List AM:=["bounds","low0","high0","low1","high1","spread","levels","bit","high","place","level"]
def QJ:List AM:=["list","range"]
def KS:List AM:=["bounds","room","bit","low0","high0","low1","high1","spread","last","place","level"]
def QL:List AM:=[]
def KU:List AM:=["bounds","rooms","numbers","at","room"]
def QM:List AM:=["enumerate","tuple"]
def KW:List AM:=["bounds","less","numbers"]
def QN:List AM:=[]
def KY:List AM:=["bounds","row","machine","rooms","at","bit"]
def QO:List AM:=["enumerate","len","list","range"]
def KZ:List AM:=["bounds","row"]
def QP:List AM:=[]
def Ka:List AM:=["bounds","row","bit"]
def QQ:List AM:=[]
def Kb:List AM:=["row","level","told","bit"]
def QR:List AM:=[]
def Kc:List AM:=["row","levels"]
def QS:List AM:=["max","min"]
def HV:Css:=(.cons (.asg (.name 1) (.call "sums" (.cons (.var 0) .nil)))
  (.cons (.ret (.bin .Sub (.blt .max (.cons (.var 1) .nil)) (.blt .min (.cons (.var 1) .nil))))
  .nil))
def HW:List AM:=["_law_script","_law_k"]
def Kd:List AM:=["len"]
def HX:List AM:=["_law_script","_law_k","_law_cell"]
def Ke:List AM:=["abs","int"]
def Kf:List AM:=["_law_box_here","_law_many","_law_found","_law_once","_law_twice"]
def QT:List AM:=[]
def Kg:List AM:=["_law_box_here","_law_lows","_law_highs","_law_low"]
def QU:List AM:=[]
def Kh:List AM:=["_law_bounds_here","_law_state","_law_bit","_law_own","_law_place","_law_level"]
def QV:List AM:=[]
def Ki:List AM:=["_law_bounds_here","_law_left","_law_state"]
def QW:List AM:=[]
def Kj:List AM:=["_law_bounds_here","_law_left","_law_bit","_law_place","_law_level","_law_size","_law_led","_law_state"]
def QX:List AM:=["dict","len","range"]
def Kl:List AM:=["_law_bounds_here","_law_left","_law_row_here","_law_some","_law_k","_law_sign","_law_behind_here","_law_state"]
def QY:List AM:=["dict","enumerate","int","len","list"]
def HY:Css:=(.cons (.asg (.name 3) (.blt .listD (.cons (.var 1) .nil)))
  (.cons (.for_ (.tup (.cons (.name 4) (.cons (.name 5) .nil))) (.enum (.var 2)) (.cons (.ite (.cmp .Eq (.var 3) (.lst .nil)) (.cons (.ret (.var 4))
  .nil) .nil)
  (.cons (.asg (.name 6) (.cal .dcn (.comp (.tup (.cons (.call "_law_behind" (.cons (.var 0) (.cons (.var 7) (.cons (.blt .int (.cons (.var 5) .nil)) .nil)))) (.cons (.bl A2) .nil))) [7] (.name 7) (.val (.var 3)) .none .nil)))
  (.cons (.asg (.name 3) (.comp (.var 7) [7] (.name 7) (.dk (.var 6)) (.some (.din A6 (.var 7) (.var 1))) .nil))
  .nil))))
  (.cons (.ret (.ife (.cmp .NotEq (.var 3) (.lst .nil)) .non (.blt .len (.cons (.var 2) .nil))))
  .nil)))
def Km:List AM:=["_law_box_here","_law_bounds_here","_law_left","_law_many","_law_row_here","_law_some","_law_state","_law_k","_law_two","_law_bit","_law_other","_law_at"]
def QZ:List AM:=["int","len","range","sorted"]
def Kn:List AM:=["_law_box_here","_law_many","_law_often","_law_row_here"]
def Qa:List AM:=["int","len"]
def EY:List AM:=["_law_found","_law_due","_law_one","_law_other"]
def FU:List AM:=["all","bool","int","isinstance","len","list","str","tuple","zip"]
def Ko:List AM:=["_law_bounds_here","_law_left","_law_row_here","_law_due","_law_some","_law_sign"]
def Qc:List AM:=[]
def HZ:Css:=(.cons (.asg (.name 3) (.call "_law_fault" (.cons (.var 0) (.cons (.var 1) (.cons (.var 2) .nil)))))
  (.cons (.ite (.not (.val (.call "_law_same" (.cons (.call "fault_at" (.cons (.var 0) (.cons (.var 2) .nil))) (.cons (.var 3) .nil))))) (.cons (.ret (.bl A6))
  .nil) .nil)
  (.cons (.ite (.not (.val (.call "_law_same" (.cons (.call "keeps" (.cons (.var 0) (.cons (.var 2) .nil))) (.cons (.cmp .Is (.var 3) .non) .nil))))) (.cons (.ret (.bl A6))
  .nil) .nil)
  (.cons (.asg (.name 4) (.comp (.var 5) [5] (.name 5) (.val (.str "01")) (.some (.cmp .Is (.call "_law_fault" (.cons (.var 0) (.cons (.var 1) (.cons (.bin .Add (.var 2) (.var 5)) .nil)))) .non)) .nil))
  (.cons (.ite (.not (.val (.call "_law_same" (.cons (.call "next_bits" (.cons (.var 0) (.cons (.var 2) .nil))) (.cons (.met .join (.str "") (.cons (.var 4) .nil)) .nil))))) (.cons (.ret (.bl A6))
  .nil) .nil)
  (.cons (.ret (.or (.cmp .IsNot (.var 3) .non) (.cmp .LtE (.call "spread_of" (.cons (.var 2) .nil)) (.idx (.var 0) (.int 4)))))
  .nil))))))
def Ha:List AM:=["_law_script","_law_k","_law_box_here","_law_bounds_here","_law_left","_law_rows","_law_many","_law_row_here","_law_at","_law_pieces","_law_piece"]
def Kp:List AM:=["all","len","min","range"]
def Hb:Css:=(.cons (.for_ (.name 1) (.range1 (.bin .Add (.int 1) (.blt .min (.cons (.int 3) (.cons (.blt .len (.cons (.var 0) .nil)) .nil))))) (.cons (.asg (.name 2) (.call "_law_box" (.cons (.var 0) (.cons (.var 1) .nil))))
  (.cons (.asg (.name 3) (.call "_law_bounds" (.cons (.var 2) .nil)))
  (.cons (.ite (.cmp .Is (.idx (.var 3) (.int 4)) .non) (.cons (.asg (.name 3) (.bin .Add (.cut (.var 3) .none (.some (.int 4))) (.tup (.cons (.idx (.lst (.cons (.int 1) (.cons (.int 2) (.cons (.int 3) (.cons (.int 4) (.cons (.int 5) (.cons (.int 6) (.cons (.int 7) (.cons (.int 16) .nil))))))))) (.call "_law_take" (.cons (.var 2) (.cons (.int 8) .nil)))) .nil))))
  .nil) .nil)
  (.cons (.asg (.name 4) (.call "_law_lasting" (.cons (.var 3) .nil)))
  (.cons (.asg (.name 5) (.lst (.cons (.str "") (.cons (.cut (.call "_law_row" (.cons (.var 2) .nil)) .none (.some (.int 12))) .nil))))
  (.cons (.ite (.cmw .neD0 (.var 4) .dnew) (.cons (.asg (.name 6) (.call "_law_take" (.cons (.var 2) (.cons (.int 17) .nil))))
  (.cons (.ite (.cmp .Eq (.call "_law_take" (.cons (.var 2) (.cons (.int 8) .nil))) (.int 0)) (.cons (.asg (.name 6) (.call "_law_take" (.cons (.var 2) (.cons (.int 41) .nil))))
  .nil) .nil)
  (.cons (.expr (.met .append (.var 5) (.cons (.call "_law_kept_row" (.cons (.var 2) (.cons (.var 3) (.cons (.var 4) (.cons (.var 6) .nil))))) .nil)))
  .nil))) .nil)
  (.cons (.for_ (.name 7) (.val (.var 5)) (.cons (.ite (.not (.val (.call "_law_right" (.cons (.var 3) (.cons (.var 4) (.cons (.var 7) .nil)))))) (.cons (.ret (.bl A6))
  .nil) .nil)
  .nil))
  (.cons (.asg (.name 7) (.idx (.var 5) (.neg (.int 1))))
  (.cons (.asg (.name 8) (.call "_law_take" (.cons (.var 2) (.cons (.bin .Add (.blt .len (.cons (.var 7) .nil)) (.int 1)) .nil))))
  (.cons (.asg (.name 9) (.lst (.cons (.cut (.var 7) (.some (.var 8)) .none) (.cons (.cut (.var 7) .none (.some (.var 8))) .nil))))
  (.cons (.ite (.and (.val (.call "keeps" (.cons (.var 3) (.cons (.var 7) .nil)))) (.not (.val (.blt .all (.cons (.comp (.call "keeps" (.cons (.var 3) (.cons (.var 10) .nil))) [10] (.name 10) (.val (.var 9)) .none .nil) .nil))))) (.cons (.ret (.bl A6))
  .nil) .nil)
  .nil))))))))))))
  (.cons (.ret (.and (.cmp .Is (.call "keeps" (.cons (.tup (.cons (.int 1) (.cons (.int 1) (.cons (.int 2) (.cons (.int 2) (.cons (.int 1) .nil)))))) (.cons (.str "") .nil))) (.bl A6)) (.cmp .Eq (.call "fault_at" (.cons (.tup (.cons (.int 3) (.cons (.int 3) (.cons (.int 1) (.cons (.int 1) (.cons (.int 2) .nil)))))) (.cons (.str "0") .nil))) (.int 0))))
  .nil))
open TM BD BE TE K06 SR K07
def bit(c:Bool):Nat:=if c then 1 else 0
theorem Qd{c:Bool}:bit c<2:=by cases c<;>decide
def Cf(l0 h0 l1 h1:Nat)(sp:Option Nat)(F:List K3):K3->List Bool->K3->Prop
 |k,[],a=>a=k
 |k,c::w,a=>∃m,lb l0 h0 l1 h1 sp k (bit c)=A0 m/\m∈F/\Cf l0 h0 l1 h1 sp F m w a
def Kk(l0 h0 l1 h1:Nat)(sp:Option Nat)(F:List K3)(w:List Bool):Prop:=∃k∈F,∃a,Cf l0 h0 l1 h1 sp F k w a
open Classical in
noncomputable def fK(l0 h0 l1 h1:Nat)(sp:Option Nat)(w:List Bool):Bool:=decide (∃F,Lsd l0 h0 l1 h1 sp F/\Kk l0 h0 l1 h1 sp F w)
section
variable{l0 h0 l1 h1:Nat}{sp:Option Nat}{F:List K3}
theorem EZ:∀{u v:List Bool}{k a:K3},Cf l0 h0 l1 h1 sp F k (u++v) a↔∃m,Cf l0 h0 l1 h1 sp F k u m/\Cf l0 h0 l1 h1 sp F m v a
 | [],v,k,a=>⟨λh=>⟨k,rfl,h⟩,λ⟨m,e,h⟩=>by cases e;exact h⟩
 |c::u,v,k,a=>⟨λ⟨m,e,d,h⟩=>by obtain⟨x,h1,b⟩:=EZ.mp h;exact⟨x,⟨m,e,d,h1⟩,b⟩,λ⟨x,⟨m,e,d,h1⟩,b⟩=>⟨m,e,d,EZ.mpr ⟨x,h1,b⟩⟩⟩
theorem Qe{w:List Bool}{c:Bool}{k b:K3}:Cf l0 h0 l1 h1 sp F k (w++[c]) b↔∃m,Cf l0 h0 l1 h1 sp F k w m/\lb l0 h0 l1 h1 sp m (bit c)=A0 b/\b∈F:=by rw[EZ];exact⟨λ⟨m,a,x,e,d,z⟩=>⟨m,a,by cases z;exact e,by cases z;exact d⟩,λ⟨m,a,e,d⟩=>⟨m,a,b,e,d,rfl⟩⟩
theorem FV:∀{w:List Bool}{k a:K3},k∈F->Cf l0 h0 l1 h1 sp F k w a->a∈F
 | [],_,_,h,e=>by cases e;exact h
 |_::_,_,_,_,⟨_,_,b,h⟩=>FV b h
theorem Kk.pre{w:List Bool}(h:Kk l0 h0 l1 h1 sp F w)(i:Nat):Kk l0 h0 l1 h1 sp F (w.take i):=by obtain⟨k,a,b,h⟩:=h;rw[<-bY i w,EZ]at h;obtain⟨m,h1,_⟩:=h;exact⟨k,a,m,h1⟩
theorem Kk.post{w:List Bool}(h:Kk l0 h0 l1 h1 sp F w)(i:Nat):Kk l0 h0 l1 h1 sp F (w.drop i):=by obtain⟨k,b,d,h⟩:=h;rw[<-bY i w,EZ]at h;obtain⟨m,h1,a⟩:=h;exact⟨m,FV b h1,d,a⟩
theorem iD{r:Nat}{k:K3}{c:Bool}(a:F[r]?=A0 k):stp (CB l0 h0 l1 h1 sp F) r c=ixF F (lb l0 h0 l1 h1 sp k (bit c)):=by unfold stp CB;rw[aj,a];cases c<;>rfl
theorem Qf{o:Option K3}{t:Nat}:ixF F o=A0 t↔∃m,o=A0 m/\m∈F/\F.idxOf m=t:=by
 cases o with
 |none=>exact⟨λz=>by(cases z),λ⟨m,z,_⟩=>by(cases z)⟩
 |some m=>
  show(if m∈F then A0 (F.idxOf m)else A5)=A0 t↔_;by_cases a:m∈F;.rw[if_pos a];exact⟨λz=>⟨m,rfl,a,Option.some.inj z⟩,λ⟨b,e,_,z⟩=>by cases e;rw[z]⟩
  .rw[if_neg a];exact⟨λz=>by(cases z),λ⟨b,e,h,_⟩=>by cases e;exact absurd h a⟩
theorem iE{M:List Rm}{r:Nat}{c:Bool}{w:List Bool}:wk M (A0 r) (c::w)=wk M (stp M r c) w:=rfl
theorem Hc(h:F.Nodup):∀{w:List Bool}{r t:Nat}{k:K3},F[r]?=A0 k->(wk (CB l0 h0 l1 h1 sp F) (A0 r) w=A0 t↔∃a,F[t]?=A0 a/\Cf l0 h0 l1 h1 sp F k w a)
 | [],r,t,k,g=>⟨λz=>by cases z;exact⟨k,g,rfl⟩,λ⟨a,e,z⟩=>by cases z;have b:=HN h g;have d:=HN h e;show A0 r=A0 t;rw[<-b,<-d]⟩
 |c::w,r,t,k,g=>by
  rw[iE,iD g];constructor
  .intro z;cases i:ixF F (lb l0 h0 l1 h1 sp k (bit c))with
   |none=>rw[i,gC]at z;cases z
   |some r1=>rw[i]at z;obtain⟨m,e,f,rfl⟩:=Qf.mp i;obtain⟨a,b,d⟩:=(Hc h (CP f)).mp z;exact⟨a,b,m,e,f,d⟩
  .rintro⟨a,b,m,e,f,d⟩;rw[Qf.mpr ⟨m,e,f,rfl⟩];exact(Hc h (CP f)).mpr ⟨a,b,d⟩
theorem iF(e:F.Nodup){w:List Bool}:(∃d r,d<F.length/\wk (CB l0 h0 l1 h1 sp F) (A0 d) w=A0 r)↔Kk l0 h0 l1 h1 sp F w:=by
 constructor;.rintro⟨d,r,f,h⟩;obtain⟨a,_,g⟩:=(Hc e (ae f)).mp h;exact⟨_,bR f,a,g⟩
 .rintro⟨k,b,a,h⟩;exact⟨F.idxOf k,F.idxOf a,BO (CP b),(Hc e (CP b)).mpr ⟨a,CP (FV b h),h⟩⟩
theorem iG(h:Lsd l0 h0 l1 h1 sp F):F.Nodup:=(EO EQ).sublist h.sub
theorem iH(a0:1<=h0)(a:1<=h1){G:List K3}(h:Lsd l0 h0 l1 h1 sp F)(g:Lsd l0 h0 l1 h1 sp G):F=G:=(KJ a0 a h (g.rs a0 a)).1.symm.trans (KJ a0 a g (g.rs a0 a)).1
theorem Kq(a0:1<=h0)(a:1<=h1)(h:Lsd l0 h0 l1 h1 sp F){w:List Bool}:fK l0 h0 l1 h1 sp w=A2↔Kk l0 h0 l1 h1 sp F w:=by unfold fK;rw[@decide_eq_true_iff _ (Classical.propDecidable _)];exact⟨λ⟨G,g,k⟩=>by rw[iH a0 a h g];exact k,λk=>⟨F,h,k⟩⟩
theorem FW{w:List Bool}:fK l0 h0 l1 h1 sp w=A2↔∃F,Lsd l0 h0 l1 h1 sp F/\Kk l0 h0 l1 h1 sp F w:=by unfold fK;exact@decide_eq_true_iff _ (Classical.propDecidable _)
theorem Qg{w:List Bool}(h:fK l0 h0 l1 h1 sp w=A2)(i:Nat):fK l0 h0 l1 h1 sp (w.take i)=A2:=by obtain⟨F,a,b⟩:=FW.mp h;exact FW.mpr ⟨F,a,b.pre i⟩
theorem iI{w:List Bool}(h:fK l0 h0 l1 h1 sp w=A2)(i:Nat):fK l0 h0 l1 h1 sp (w.drop i)=A2:=by obtain⟨F,a,b⟩:=FW.mp h;exact FW.mpr ⟨F,a,b.post i⟩
def Is5(l0 h0 l1 h1:Nat)(sp:Option Nat)(a:List Bool)(o:Option Nat):Prop:=(o=A5/\fK l0 h0 l1 h1 sp a=A2)\/∃i,o=A0 i/\i<=a.length/\fK l0 h0 l1 h1 sp (a.take i)=A6/\∀j,j<i->fK l0 h0 l1 h1 sp (a.take j)=A2
theorem Is5.non{a:List Bool}{o:Option Nat}(h:Is5 l0 h0 l1 h1 sp a o):decide (oV o=.non)=fK l0 h0 l1 h1 sp a:=by
 rcases h with⟨rfl,h⟩|⟨i,rfl,b,h,_⟩;.rw[h];rfl
 .cases e:fK l0 h0 l1 h1 sp a with
  |false=>rfl
  |true=>have:=Qg e i;rw[h]at this;cases this
theorem Is5.uniq{a:List Bool}{o u:Option Nat}(h:Is5 l0 h0 l1 h1 sp a o)(g:Is5 l0 h0 l1 h1 sp a u):o=u:=by
 have d:=h.non;have e:=g.non;rcases h with⟨rfl,h⟩|⟨i,rfl,m,h,l⟩
 .rcases g with⟨rfl,g⟩|⟨j,rfl,f,g,b⟩;.rfl
  .rw[h]at e;cases e
 .rcases g with⟨rfl,g⟩|⟨j,rfl,f,g,b⟩;.rw[g]at d;cases d
  .rcases Nat.lt_trichotomy i j with z|z|z;.have:=b i z;rw[h]at this;cases this
   .rw[z]
   .have:=l j z;rw[g]at this;cases this
theorem iJ{G:List K3}(h:∀k∈F,k∈G):∀k∈nxl l0 h0 l1 h1 sp F,k∈nxl l0 h0 l1 h1 sp G:=by
 intro k f;unfold nxl at f⊢;obtain⟨d,a⟩:=bo.mp f;rw[ah,aR,bE]at a;have b:∀o,inK F o=A2->inK G o=A2:=λo g=>by
  cases o with
  |none=>cases g
  |some m=>exact decide_eq_true (h m (of_decide_eq_true g))
 refine bo.mpr ⟨h k d,?_⟩;rw[ah,aR,bE];obtain⟨⟨q,i,e⟩,z⟩:=a;exact⟨⟨q,h q i,e⟩,z.imp (b _) (b _)⟩
theorem Qh(h:Lsd l0 h0 l1 h1 sp F):∀n,∀k∈F,k∈Nat.repeat (nxl l0 h0 l1 h1 sp) n (rk (lvs sp) h0 h1)
 |0=>λk a=>h.mem a
 |n+1=>λk a=>by refine iJ (Qh h n) k ?_;rw[h.fix];exact a
theorem iK(h:Lsd l0 h0 l1 h1 sp F)(n:Nat)(e:Nat.repeat (nxl l0 h0 l1 h1 sp) n (rk (lvs sp) h0 h1)=[]):F=[]:=List.eq_nil_iff_forall_not_mem.mpr λk a=>by have:=Qh h n k a;rw[e]at this;cases this
theorem Qi(n:Nat)(e:Nat.repeat (nxl l0 h0 l1 h1 sp) n (rk (lvs sp) h0 h1)=[]){w:List Bool}:fK l0 h0 l1 h1 sp w=A6:=by
 cases z:fK l0 h0 l1 h1 sp w with
 |false=>rfl
 |true=>obtain⟨F,a,k,b,_⟩:=FW.mp z;rw[iK a n e]at b;cases b
theorem Qj{s:Nat}:∀{w:List Bool}{k b:K3},(∀m∈F,m.2.2<=s)->k∈F->Cf l0 h0 l1 h1 (A0 s) F k w b->(b.2.2:Int)=k.2.2+sm w
 | [],k,b,_,_,h=>by cases h;unfold sm;simp
 |c::w,k,b,j,n,⟨m,e,f,h⟩=>by
  have:=Qj j f h;have i:(m.2.2:Int)=k.2.2+(if c then 1 else -1):=by
   unfold lb at e;have l:lvl (A0 s) k.2.2 (bit c)=(k.2.2:Int)+(if c then 1 else -1):=by cases c<;>rfl
   rw[l]at e;generalize(k.2.2:Int)+(if c then 1 else -1)=z at e⊢;by_cases d:ot (A0 s) z=A2;.rw[if_pos d]at e;cases e
   .rw[if_neg d]at e;have h0:(0:Int)<=z:=Int.not_lt.mp λy=>d (by unfold ot;simp;omega);by_cases h1:bit c=k.1
    .rw[if_pos h1]at e;generalize(if bit c=1 then _ else _)=y at e;by_cases a:k.2.1+1<=y;.rw[if_pos a]at e;cases e;show((z.toNat:Nat):Int)=z;omega
     .rw[if_neg a]at e;cases e
    .rw[if_neg h1]at e;generalize(if k.1=1 then _ else _)=y at e;by_cases a:y<=k.2.1;.rw[if_pos a]at e;cases e;show((z.toNat:Nat):Int)=z;omega
     .rw[if_neg a]at e;cases e
  have g:sm (c::w)=(if c then 1 else -1)+sm w:=by unfold sm;cases c<;>simp<;>omega
  rw[this,i,g];omega
theorem iL{s:Nat}{w:List Bool}(d:∀m∈F,m.2.2<=s)(h:Kk l0 h0 l1 h1 (A0 s) F w):∃l:Nat,∀x∈smL w,0<=(l:Int)+x/\(l:Int)+x<=s:=by obtain⟨k,a,f,h⟩:=h;refine⟨k.2.2,λx b=>?_⟩;unfold smL at b;obtain⟨i,_,rfl⟩:=aB.mp b;rw[<-bY i w,EZ]at h;obtain⟨m,h1,_⟩:=h;have e:=Qj d a h1;have:=d m (FV a h1);omega
end
theorem iM{d:List Int}(h:d.Nodup)(h0:∀i∈d,0<=i):∃f:List Nat,f.Nodup/\d.map V.int=f.map nV/\∀r:Nat,r∈f↔(r:Int)∈d:=by
 refine⟨d.map Int.toNat,?_,?_,λr=>?_⟩;.rw[List.Nodup,bM];refine List.Pairwise.imp_of_mem (λ{a b}g j z=>?_) h;have:=h0 a g;have:=h0 b j;omega
 .rw[bn];apply ci;intro i e;show V.int i=V.int (i.toNat:Nat);rw[Int.toNat_of_nonneg (h0 i e)]
 .rw[aB];constructor;.rintro⟨i,e,rfl⟩;rw[Int.toNat_of_nonneg (h0 i e)];exact e
  .intro z;exact⟨r,z,⋯⟩
def FX:Sp:=λh H Q _=>∃(a l:A4)(M:List Rm)(e:List Nat)(b:Bool),h=[.ref a,.ref l,.str (tx [b])]/\IsM H a M/\OkM M/\H l=A0 (.lst (e.map nV))/\(∀r∈e,r<M.length)/\e.length<=500/\∀(g:A4)(d:List Nat)(f:Hp),As H f->f g=A0 (.lst (d.map nV))->d.Nodup->(∀r,r∈d↔∃p∈e,K04.bd M b p=A0 r)->Q (.ref g) f
theorem iN{C:Rc}(hN:C.N.length=6):∀vs H Q E,FX vs H Q E->tSs C HU {nx:=λ_ f=>Q .non f,rt:=Q} (L2.BA C.N vs) H:=by
 intro vs H Q E h;obtain⟨a,l,M,d,b,rfl,hM,hO,hl,O,a0,q⟩:=h;rw[BW hN];unfold HU;symm;refine CO (SqL.of hl) (DF (vs:=d.map nV) (λi B f=>i<=d.length/\B=((d.take i).map (K04.bd M b)).map oV/\f=H) ⟨aN _,rfl,rfl⟩ (λi B f I=>SqL.of (by rw[I.2.2];exact hl)) ?_ ?_);.rintro i B f x K w⟨_,rfl,rfl⟩hK;rw[aj]at w;obtain⟨r,X,rfl⟩:=aY.mp w;have v:=BO X;simp only[nV];symm;refine EM hM (O r (ar X)) λpr D=>?_;symm;refine dX (SqT.of D) ?_;refine⟨by rw[af,af,aH];exact BQ ⋯,hK _ _ ⟨v,?_,rfl⟩⟩;rw[bj,X,aG,aG];show _++[if b=A2 then oV (fs2 M r)else oV (fs1 M r)]=_++[oV (K04.bd M b r)];cases b<;>rfl
 .rintro B f⟨_,rfl,rfl⟩L hL;rw[af,aZ];have s1:=B5 hL (.lst ((d.map (K04.bd M b)).map oV));have s:upd f L (.lst ((d.map (K04.bd M b)).map oV)) L=A0 (.lst ((d.map (K04.bd M b)).map oV)):=Aw;generalize upd f L (.lst ((d.map (K04.bd M b)).map oV))=H1 at s1 s⊢;symm;refine CO (SqL.of s) (J_ (vs:=(d.map (K04.bd M b)).map oV) (λi a f=>i<=d.length/\a.1=K04.sS ((d.map (K04.bd M b)).take i)/\a.2<=i/\f=H1) ⟨aN _,rfl,ag _,rfl⟩ (λi a f I=>SqL.of (by rw[I.2.2.2];exact s)) ?_ ?_)
  .rintro i⟨S,n⟩H2 x R w⟨_,u,A,rfl⟩hR;rw[aj]at w;obtain⟨o,ho,rfl⟩:=aY.mp w;have v:i<d.length:=by have:=BO ho;rwa [af]at this
   have m:=K04.gc (os:=(d.map (K04.bd M b)).take i) (o:=o);have et:(d.map (K04.bd M b)).take (i+1)=(d.map (K04.bd M b)).take i++[o]:=by rw[bj,ho];rfl
   rw[<-et]at m;dsimp only at u A;subst u;cases o with
   |none=>simp only[oV];symm;refine hR _ _ ⟨v,?_,by show n<=i+1;omega,rfl⟩;show K04.sS _=K04.sS _;rw[m];funext k;simp
   |some y=>simp only[oV];symm;refine⟨A0 (y:Int),rfl,by show n<4000;omega,hR _ _ ⟨v,?_,by show n+1<=i+1;omega,rfl⟩⟩;show(λj=>K04.sS _ j||decide (j=A0 (y:Int)))=K04.sS _;rw[m];funext k;show _=(_||(A2&&decide (k=A0 (y:Int))));rw[Bool.true_and]
  .rintro⟨S,n⟩H2⟨_,u,A,rfl⟩;rw[af,br (ag _)]at u;dsimp only at u A;subst u;refine fV K04.gf λl' us G P g=>?_;dsimp only at g;obtain⟨U,J,T,Z⟩:=iM P (λi v=>by obtain⟨n,_,rfl⟩:=K04.Q0.mp ((g i).mp v);exact Int.natCast_nonneg n);rw[T];refine q l' U _ (s1.trans (B5 G _)) Aw J λr=>?_;rw[Z,g,K04.Q0];constructor;.rintro⟨n,A,e⟩;obtain⟨p,Y,t⟩:=aB.mp A;exact⟨p,Y,by rw[t,show r=n by omega]⟩
   .rintro⟨p,Y,t⟩;exact⟨r,by rw[<-t];exact cU Y,rfl⟩
theorem Qk{M:List Rm}{b:Bool}{p:Nat}:K04.bd M b p=stp M p b:=by
 unfold K04.bd fs1 fs2 stp;cases e:M[p]? with
 |none=>cases b<;>rfl
 |some r=>cases b<;>rfl
def CQ:Sp:=λi H Q _=>∃(p:A4)(g b e d:Nat)(f:Option Nat)(a:List Bool),i=[.ref p,.str (tx a)]/\IsB H p g b e d f/\1<=b/\1<=d/\a.length<=900/\∀(o:Option Nat)(h:Hp),As H h->Is5 g b e d f a o->Q (oV o) h
theorem iO{C:Rc}(hN:C.N.length=6)(hM:C.fs "machine_of"=A0 FT)(hR:C.fs "rooms_behind"=A0 FX):∀vs H Q E,CQ vs H Q E->tSs C K04.HC {nx:=λ_ G=>Q .non G,rt:=Q} (L2.BA C.N vs) H:=by
 intro vs H Q E h;obtain⟨p,v,h0,u,h1,t,d,rfl,hB,c0,c1,a7,q⟩:=h;rw[BW hN];unfold K04.HC;symm;refine Az hM ?_;symm;refine⟨p,v,h0,u,h1,t,rfl,hB,λm a5 H1 s1 A U=>?_⟩;have J:=hZ c0 c1 U;rw[(KJ c0 c1 J U).2]at A;generalize rks t h0 h1 a5=F at J A;have hO:OkM (CB v h0 u h1 t F):=hY;have Y:(CB v h0 u h1 t F).length=F.length:=by unfold CB;rw[af]
 have a9:F.length<=300:=by have:=J.sub.length_le;have:=(Cn hB.bs hB.b0 hB.b1 (h0:=h0) (h1:=h1)).1;omega
 have qq:∀(o:Option Nat)(G:Hp),As H G->Is5 v h0 u h1 t d o->Q (oV o) G:=q;have hn:=iG J;obtain⟨M,eM⟩:∃M,M=CB v h0 u h1 t F:=⟨_,rfl⟩;rw[<-eM]at A hO Y;have I:∀{w:List Bool},(∃f r,f<M.length/\wk M (A0 f) w=A0 r)↔fK v h0 u h1 t w=A2:=λ{w}=>by rw[Kq c0 c1 J,<-iF hn,Y,eM]
 clear eM;obtain⟨mv,a0,a6⟩:=id A;symm;refine Gf (SqT.of a0) ?_;rw[a6.len];symm;refine Jy λpr a2=>?_;symm;refine Jz Aw ⋯ ⋯ ⋯ ⋯ (bG (BQ ⋯)) λR a3=>?_;rw[show(((M.length:Nat):Int)-0).toNat=M.length by omega,K6];have s2:=(B5 a2 (.rng 0 ((M.length:Nat):Int))).trans (B5 a3 (.lst ((aE M.length).map nV)));have K:upd (upd H1 pr (.rng 0 ((M.length:Nat):Int))) R (.lst ((aE M.length).map nV)) R=A0 (.lst ((aE M.length).map nV)):=Aw;generalize upd (upd H1 pr (.rng 0 ((M.length:Nat):Int))) R (.lst ((aE M.length).map nV))=H2 at s2 K⊢;have T:∀(s:List Nat)n,(∀r,r∈s↔∃f,f<M.length/\wk M (A0 f) (d.take n)=A0 r)->(s.map nV).isEmpty=!(fK v h0 u h1 t (d.take n)):=by
  intro s n A;cases s with
  |nil=>
   cases e:fK v h0 u h1 t (d.take n)with
   |false=>rfl
   |true=>obtain⟨f,r,a,b⟩:=I.mpr e;exact absurd ((A r).mpr ⟨f,a,b⟩) av
  |cons r s=>obtain⟨f,a,b⟩:=(A r).mp (by simp);rw[I.mp ⟨f,r,a,b⟩];rfl
 symm;refine Ot (Ow (λi σ G=>(∃(l:A4)(s:List Nat)(x4 x5:Option V),σ=[A0 (.ref p),A0 (.str (tx d)),A0 (.ref m),A0 (.ref l),x4,x5]/\G l=A0 (.lst (s.map nV))/\s.Nodup/\(∀r∈s,r<M.length)/\∀r,r∈s↔∃f,f<M.length/\wk M (A0 f) (d.take i)=A0 r)/\As H1 G/\∀j,j<i->fK v h0 u h1 t (d.take j)=A2) ⟨⟨R,aE M.length,_,_,rfl,K,List.nodup_range,λr hr=>ba.mp hr,λr=>?_⟩,s2,λj hj=>absurd hj (Nat.not_lt_zero _)⟩ ?_ ?_);.rw[ba];exact⟨λz=>⟨r,z,rfl⟩,λ⟨f,a,b⟩=>by cases b;exact a⟩
 .rintro i c σ H3 pp hc L⟨⟨l,s,x4,x5,rfl,hl,X,B,g⟩,s3,y⟩;have hi:=BO hc;refine Do (SqT.of Aw) ?_;have Z:=s3.trans (B5 L (.tup [.int i,.str (tx [c])]));have D:=B5 L (.tup [.int i,.str (tx [c])]) _ _ hl;generalize upd H3 pp (.tup [.int i,.str (tx [c])])=H4 at Z D⊢;symm;refine P4 (SqL.of D) ?_;rw[T s i g];cases O:fK v h0 u h1 t (d.take i)with
  |false=>symm;exact qq (A0 i) _ (s1.trans Z) (.inr ⟨i,rfl,⋯,O,y⟩)
  |true=>
   symm;refine Az hR ?_;symm;have a8:s.length<=300:=by have:=K04.gb X B;omega
   refine⟨m,l,M,s,c,rfl,A.mono (B9 Z),hO,D,B,⋯,λl' a1 H5 s5 a4 P S=>?_⟩;symm;refine⟨⟨l',a1,_,_,rfl,a4,P,λr hr=>?_,λr=>?_⟩,Z.trans s5,λj hj=>?_⟩;.obtain⟨p,_,hp⟩:=(S r).mp hr;exact K04.gg hO hp
   .rw[S];constructor;.rintro⟨x,hx,e⟩;obtain⟨f,a,b⟩:=(g x).mp hx;refine⟨f,a,?_⟩;rw[PZ hc,b];show stp M x c=A0 r;rw[<-Qk];exact e
    .rintro⟨f,a,b⟩;rw[PZ hc]at b;cases z:wk M (A0 f) (d.take i)with
     |none=>rw[z]at b;cases b
     |some x=>rw[z]at b;exact⟨x,(g x).mpr ⟨f,a,z⟩,by rw[Qk];exact b⟩
   .by_cases e:j=i;.rw[e];exact O
    .exact y j ⋯
 .rintro σ H3⟨⟨l,s,x4,x5,rfl,hl,X,B,g⟩,s3,y⟩;symm;refine P4 (SqL.of hl) ?_;rw[T s _ g,aZ];cases O:fK v h0 u h1 t d with
  |true=>symm;exact qq A5 _ (s1.trans s3) (.inl ⟨rfl,O⟩)
  |false=>symm;exact⟨bG (BQ ⋯),qq (A0 d.length) _ (s1.trans s3) (.inr ⟨_,rfl,ag _,by rw[aZ];exact O,y⟩)⟩
def CS:Sp:=λi H Q _=>∃(p:A4)(g b e d:Nat)(f:Option Nat)(a:List Bool),i=[.ref p,.str (tx a)]/\IsB H p g b e d f/\1<=b/\1<=d/\a.length<=900/\∀h,As H h->Q (.bl (fK g b e d f a)) h
theorem iP{C:Rc}(r:C.N.length=2)(u:C.fs "fault_at"=A0 CQ):∀d H Q E,CS d H Q E->tSs C K04.HD {nx:=λ_ i=>Q .non i,rt:=Q} (L2.BA C.N d) H:=by intro d H Q E h;obtain⟨p,g,t,e,l,j,b,rfl,v,n,m,a,q⟩:=h;rw[BW r];unfold K04.HD;symm;refine Az u ?_;symm;refine⟨p,g,t,e,l,j,b,rfl,v,n,m,a,λo w s f=>?_⟩;symm;rw[f.non];exact q _ s
noncomputable def nb5(l0 h0 l1 h1:Nat)(sp:Option Nat)(a:List Bool):List Bool:=[A6,A2].filter λb=>fK l0 h0 l1 h1 sp (a++[b])
def FY:Sp:=λi H Q _=>∃(p:A4)(g b e d:Nat)(f:Option Nat)(a:List Bool),i=[.ref p,.str (tx a)]/\IsB H p g b e d f/\1<=b/\1<=d/\a.length<=400/\∀h,As H h->Q (.str (tx (nb5 g b e d f a))) h
theorem iQ{C:Rc}(J:C.N.length=3)(D:C.fs "keeps"=A0 CS):∀s H Q E,FY s H Q E->tSs C K04.HE {nx:=λ_ o=>Q .non o,rt:=Q} (L2.BA C.N s) H:=by
 intro s H Q E h;obtain⟨p,e,j,d,g,f,a,rfl,O,I,G,w,q⟩:=h;rw[BW J];unfold K04.HE;symm;refine⟨rfl,Jt (Ox (l:=[A6,A2]) (λi r o=>i<=2/\As H o/\r=Cd (([A6,A2].take i).filter λb=>fK e j d g f (a++[b]))) ⟨aN _,As.refl _,rfl⟩ ?_ ?_)⟩
 .rintro i r M c K u⟨_,n,rfl⟩m;have x:i<2:=BO u;have v:([A6,A2].take (i+1)).filter (λb=>fK e j d g f (a++[b]))=([A6,A2].take i).filter (λb=>fK e j d g f (a++[b]))++[c].filter (λb=>fK e j d g f (a++[b])):=by rw[bj,u,List.filter_append];rfl
  have A:(([A6,A2].take i).filter λb=>fK e j d g f (a++[b])).length<=2:=aF (bJ ..) (by rw[aH];exact Nat.min_le_right ..);symm;refine Az D ?_;symm;refine⟨Cp ⋯,?_⟩;refine⟨p,e,j,d,g,f,a++[c],rfl,O.mono (B9 n),I,G,by rw[aA,bU];omega,λP t=>?_⟩;cases y:fK e j d g f (a++[c])with
  |true=>symm;refine⟨by rw[Px];exact BQ ⋯,m _ _ ⟨x,n.trans t,?_⟩⟩;rw[v,cF,if_pos y,Py];rfl
  |false=>symm;refine m _ _ ⟨x,n.trans t,?_⟩;rw[v,cF,if_neg (by rw[y];exact al)];simp
 .rintro r M⟨_,n,rfl⟩L B;symm;refine Pz (SqL.of Aw) ?_ ?_;.exact aF (bJ ..) (by decide)
  .exact q _ (n.trans (B5 B _))
def FZ:Sp:=λb H Q _=>∃l:List Bool,b=[.str (tx l)]/\l.length<=1000/\∀a M m,As H a->M∈smL l->m∈smL l->Q (.int (M-m)) a
theorem iR{C:Rc}(j:C.N.length=2)(n:C.fs "sums"=A0 FS):∀b H Q E,FZ b H Q E->tSs C HV {nx:=λ_ d=>Q .non d,rt:=Q} (L2.BA C.N b) H:=by intro b H Q E h;obtain⟨l,rfl,f,q⟩:=h;rw[BW j];unfold HV;symm;refine Az n ?_;symm;refine⟨l,rfl,f,λa i=>?_⟩;symm;refine dQ (SqL.of Aw) Pv λM e p=>?_;symm;refine dR (SqL.of Aw) Pv λm g o=>?_;symm;exact q _ M m (B5 i _) e g
theorem so5{H H':Hp}{p:A4}{o:HO}(h:H p=A5)(s:As H H'):As H (upd H' p o):=λb u q=>by rw[Au (Bb q h)];exact s _ _ q
theorem KG{L:List NK}{q r:NK}(h:r∈BH L q):r∈L\/r=q:=by
 unfold BH at h;split at h;.exact .inl h
 .exact(aU.mp h).imp id aO.mp
set_option tactic.hygienic true in
theorem iS{L:List NK}{q:NK}{y:Option (List Int)}:y∈(BH L q).map (aJ Prod.fst)↔y∈L.map (aJ Prod.fst)\/y=q.map Prod.fst:=by
 unfold BH;split;.rename_i h;exact⟨.inl,λz=>z.elim id λe=>by rw[e];exact h⟩
 .rw[aG,aU];exact⟨λz=>z.imp id λe=>aO.mp e,λz=>z.imp id λe=>by rw[e];exact aO.mpr rfl⟩
theorem iT{L:List NK}{q:NK}:(BH L q).length<=L.length+1:=by
 unfold BH;split;.omega
 .rw[aA];exact ag _
theorem Kr{L:PN}:∀{A:List NK},(∀r∈L.foldl (λl x=>BH l x.2) A,r∈A\/∃x∈L,r=x.2)/\(∀y,y∈(L.foldl (λl x=>BH l x.2) A).map (aJ Prod.fst)↔y∈A.map (aJ Prod.fst)\/∃x∈L,y=x.2.map Prod.fst)/\(L.foldl (λl x=>BH l x.2) A).length<=A.length+L.length:=by
 induction L with
 |nil=>exact λ{A}=>⟨λr h=>.inl h,λy=>⟨.inl,λz=>z.elim id λ⟨_,h,_⟩=>nomatch h⟩,ag _⟩
 |cons x L f=>
  intro A;rw[List.foldl_cons];obtain⟨g,d,j⟩:=f (A:=BH A x.2);refine⟨λr i=>?_,λy=>?_,?_⟩
  .rcases g r i with z|⟨b,a,e⟩;.exact(KG z).imp id λe=>⟨x,az,e⟩
   .exact .inr ⟨b,ay _ a,e⟩
  .rw[d,iS];constructor
   .rintro((z|z)|⟨b,a,e⟩);.exact .inl z
    .exact .inr ⟨x,az,z⟩
    .exact .inr ⟨b,ay _ a,e⟩
   .rintro(z|⟨b,a,e⟩);.exact .inl (.inl z)
    .rcases ao.mp a with z|z;.rw[<-z];exact .inl (.inr e)
     .exact .inr ⟨b,z,e⟩
  .have:=iT (L:=A) (q:=x.2);rw[bD];omega
theorem iU{L:PN}{r:NK}(h:r∈BP L):∃x∈L,r=x.2:=((Kr (A:=[])).1 r h).resolve_left λz=>nomatch z
theorem Ql{L:PN}{y:Option (List Int)}:y∈(BP L).map (aJ Prod.fst)↔∃x∈L,y=x.2.map Prod.fst:=((Kr (A:=[])).2.1 y).trans ⟨λz=>z.resolve_left (λz=>nomatch z),.inr⟩
theorem iV{L:PN}:(BP L).length<=L.length:=by have:=(Kr (L:=L) (A:=[])).2.2;simpa[BP]using this
theorem iW{H:Hp}{v:V}{o:Option K3}(h:Ld3 H v o):∃q:NK,v=nkV q/\q.map Prod.fst=o.map BD.kI/\∀r,q=A0 r->H r.2=A0 (.tup (r.1.map V.int)):=by
 cases o with
 |none=>cases h;exact⟨A5,rfl,rfl,λ_ z=>nomatch z⟩
 |some k=>obtain⟨p,rfl,a⟩:=h;exact⟨A0 (BD.kI k,p),rfl,rfl,λr z=>by cases z;exact HR a⟩
theorem iX{H:Hp}{q:NK}{o:Option K3}(h:q.map Prod.fst=o.map BD.kI)(a:∀r,q=A0 r->H r.2=A0 (.tup (r.1.map V.int))):Ld3 H (nkV q) o:=by
 cases o with
 |none=>
  cases q with
  |none=>rfl
  |some r=>cases h
 |some k=>
  cases q with
  |none=>cases h
  |some r=>have e:r.1=BD.kI k:=Option.some.inj h;have:=a r rfl;rw[e]at this;exact⟨r.2,rfl,this⟩
theorem iY{F:List K3}{os:List (Option K3)}{k:K3}:k∈fl3 F os↔k∈F/\A0 k∈os:=by
 constructor
 .intro h;refine⟨QD h,?_⟩;obtain⟨o,d,e⟩:=cc.mp h;split at e;.rw[<-e];exact d
  .cases e
 .rintro⟨b,a⟩;exact cc.mpr ⟨A0 k,a,by rw[if_pos (show inK F (A0 k)=A2 from decide_eq_true b)]⟩
def Pq(H:Hp)(f:K3->Option K3)(x:A4×NK)(k:K3):Prop:=H x.1=A0 (.tup [nkV x.2,.bl A2])/\x.2.map Prod.fst=(f k).map BD.kI/\∀r,x.2=A0 r->H r.2=A0 (.tup (r.1.map V.int))
theorem Pq.mono{H H':Hp}(s:As H H'){f:K3->Option K3}{x:A4×NK}{k:K3}(h:Pq H f x k):Pq H' f x k:=⟨s _ _ h.1,h.2.1,λr e=>s _ _ (h.2.2 r e)⟩
theorem Qm{f g:Type}{P:f->g->Prop}:∀{l:List f},(∀a∈l,∃b,P a b)->∃e,B4 P l e
 | [],_=>⟨[],trivial⟩
 |a::l,h=>by obtain⟨b,i⟩:=h a az;obtain⟨e,d⟩:=Qm λx j=>h x (ay _ j);exact⟨b::e,i,d⟩
theorem Ks{b:Type}{l:List b}{i:Nat}{a:b}(h:l[i]?=A0 a):l.take (i+1)=l.take i++[a]:=by rw[bj,h];rfl
def Fa:Sp:=λi H Q _=>∃(bd D:A4)(g b e d:Nat)(f:Option Nat)(F:List K3)(a:List Bool),i=[.ref bd,.ref D,.str (tx a)]/\IsB H bd g b e d f/\1<=b/\1<=d/\H D=A0 (.dT (dK3 F))/\Lsd g b e d f F/\a.length<=900/\∀(o:Option Nat)(h:Hp),As H h->Is5 g b e d f a o->Q (oV o) h
theorem iZ{C:Rc}(hN:C.N.length=8)(d6:C.fs "_law_behind"=A0 C4):∀vs H Q E,Fa vs H Q E->tSs C HY {nx:=λ_ O=>Q .non O,rt:=Q} (L2.BA C.N vs) H:=by
 intro vs H Q E h;obtain⟨bd,D,B,h0,A,h1,t,F,f,rfl,hB,c0,c1,hD,hL,f4,q⟩:=h;rw[BW hN];unfold HY;have f3:F.length<=300:=by have:=hL.sub.length_le;have:=(Cn hB.bs hB.b0 hB.b1 (h0:=h0) (h1:=h1)).1;omega
 have c7:=(Cn hB.bs hB.b0 hB.b1 (h0:=h0) (h1:=h1)).2;have c5:∀k∈F,D5 k:=λk b=>c7 k (hL.mem b);have kf:∀{w:List Bool},fK B h0 A h1 t w=A2↔Kk B h0 A h1 t F w:=Kq c0 c1 hL;symm;refine fg (.inl hD) λl as hl c8=>?_;have hA:=KI c8.1 c8.2;generalize as.map V.ref=xs at hA⊢;obtain⟨s1,e1⟩:=snw hl (.lst xs);have d2:=DI s1 hA;generalize upd H l _=H1 at s1 e1 d2⊢;have d1:∀(K:List V)(G:List K3)(Hx:Hp)n,B4 (Be Hx) K G->(∀k,k∈G↔∃U∈F,Cf B h0 A h1 t F U (f.take n) k)->decide (K=[])=!(fK B h0 A h1 t (f.take n)):=by
  intro K G Hx n ha hm;cases K with
  |nil=>
   cases G with
   |cons _ _=>exact ha.elim
   |nil=>
    cases e:fK B h0 A h1 t (f.take n)with
    |false=>rfl
    |true=>obtain⟨k,b,Z,X⟩:=kf.mp e;exact absurd ((hm Z).mpr ⟨k,b,X⟩) av
  |cons u K=>
   cases G with
   |nil=>exact ha.elim
   |cons g G=>obtain⟨U,b,X⟩:=(hm g).mp az;rw[kf.mpr ⟨U,b,g,X⟩];rfl
 symm;refine Ot (Ow (λi σ O=>(∃(l:A4)(K:List V)(G:List K3)(x4 x5 x6 x7:Option V),σ=[A0 (.ref bd),A0 (.ref D),A0 (.str (tx f)),A0 (.ref l),x4,x5,x6,x7]/\O l=A0 (.lst K)/\B4 (Be O) K G/\(∀k,k∈G↔∃U∈F,Cf B h0 A h1 t F U (f.take i) k)/\G.length<=300)/\As H O/\∀j,j<i->fK B h0 A h1 t (f.take j)=A2) ⟨⟨l,xs,F,_,_,_,_,rfl,e1,d2,λk=>⟨λz=>⟨k,z,rfl⟩,λ⟨U,z,e⟩=>by cases e;exact z⟩,f3⟩,s1,λj z=>absurd z (Nat.not_lt_zero _)⟩ ?_ ?_)
 .rintro i c σ H3 pp hc e3⟨⟨l,K,G,x4,x5,x6,x7,rfl,b6,a7,hm,hG⟩,s3,a2⟩;have hi:=BO hc;refine Do (SqT.of Aw) ?_;have b2:=B5 e3 (.tup [.int i,.str (tx [c])]);have s4:=s3.trans b2;have d0:=b2 _ _ b6;have d3:=DI b2 a7;generalize upd H3 pp (.tup [.int i,.str (tx [c])])=H4 at s4 d0 d3⊢;symm;refine⟨by decide,λp5 b7=>?_⟩;obtain⟨s5,e5⟩:=snw b7 (.lst []);have a:=s4.trans s5;have p:=s5 _ _ d0;have J:=DI s5 d3;generalize upd H4 p5 _=H5 at s5 e5 a p J⊢;refine ds (SqL.of p) (SqL.of e5) dt ?_;rw[d1 K G H5 i J hm];cases he:fK B h0 A h1 t (f.take i)with
  |false=>symm;exact q (A0 i) _ a (.inr ⟨i,rfl,⋯,he,a2⟩)
  |true=>
   symm;(try rw[PX]);symm;have d8:=J.len;have c2:∀k∈G,k∈F:=λk b=>by obtain⟨U,Y,X⟩:=(hm k).mp b;exact FV Y X
   refine CO (SqL.of p) (DF (vs:=K) (λn T O=>n<=K.length/\∃L:PN,T=(L.map λx=>V.ref x.1)/\As H5 O/\B4 (Pq O λk=>lb B h0 A h1 t k (bit c)) L (G.take n)) ⟨aN _,[],rfl,As.refl _,trivial⟩ (λn T O pv=>by obtain⟨_,_,_,s,_⟩:=pv;exact SqL.of (s _ _ p)) ?_ ?_);.rintro n T H6 u R hu⟨_,L,rfl,s6,hP⟩hR;obtain⟨k,b,pk,rfl,f2⟩:=J.getL hu;have hn:=BO hu;have e9:=c2 k (ar b);have c4:=hP.len;rw[aH]at c4;symm;refine Az d6 ?_;symm;rw[show(if c=A2 then(1:Int)else 0)=((bit c:Nat):Int)by cases c<;>rfl];refine KL (hB.mono (B9 (a.trans s6))) (s6 _ _ f2) Qd (c5 k e9).1 λv H7 s7 hv=>?_;obtain⟨x,rfl,d7,e4⟩:=iW hv;symm;refine⟨by show 2<=A7;decide,λp8 f1=>?_⟩;obtain⟨s8,e8⟩:=snw f1 (.tup [nkV x,.bl A2]);generalize upd H7 p8 _=H8 at s8 e8⊢;refine⟨by rw[af];exact BQ ⋯,hR _ _ ⟨hn,L++[(p8,x)],by rw[aG];rfl,s6.trans (s7.trans s8),?_⟩⟩;rw[Ks b];exact(hP.mono λ_ _ z=>z.mono (s7.trans s8)).snoc ⟨e8,d7,λr e=>s8 _ _ (e4 r e)⟩
   .rintro T H6⟨_,L,rfl,s6,hP⟩p7 f0;rw[d8,aZ]at hP;obtain⟨s7,e7⟩:=snw f0 (.lst (L.map λx=>V.ref x.1));have a1:=hP.mono λ_ _ z=>Pq.mono s7 z;have b4:=s6.trans s7;generalize upd H6 p7 _=H7 at s7 e7 a1 b4⊢;have c4:=a1.len;have a9:∀x∈L,∃k∈G,Pq H7 (λk=>lb B h0 A h1 t k (bit c)) x k:=λx I=>by obtain⟨n,e⟩:=bI I;obtain⟨k,b,X⟩:=a1.getL e;exact⟨k,ar b,X⟩
    have e0:∀k∈G,∀Z,lb B h0 A h1 t k (bit c)=A0 Z->D5 Z:=λk b Z e=>c7 Z ((EU c0 c1 (hL.mem (c2 k b)) Qd).1 Z e);refine fq e7 ⋯ (λx I=>?_) λd hd=>?_
    .obtain⟨k,b,S,M,g3⟩:=a9 x I;refine⟨S,λr e=>⟨g3 r e,?_⟩⟩;rw[e]at M;dsimp only at M;cases z:lb B h0 A h1 t k (bit c)with
     |none=>rw[z]at M;cases M
     |some Z=>rw[z]at M;have e2:r.1=BD.kI Z:=Option.some.inj M;rw[e2];exact HM (e0 k b Z z)
    obtain⟨s8,e8⟩:=snw hd (B3 d (BP L));have d4:=(a.trans b4).free hd;have c6:=(a.trans b4).trans s8;have c3:∀x∈BP L,∃o:Option K3,x.map Prod.fst=o.map BD.kI/\(∀r,x=A0 r->H7 r.2=A0 (.tup (r.1.map V.int))):=λx I=>by obtain⟨y,hy,rfl⟩:=iU I;obtain⟨k,b,S,M,g3⟩:=a9 y hy;exact⟨_,M,g3⟩
    have a8:∀r,A0 r∈BP L->upd H7 d (B3 d (BP L)) r.2=A0 (.tup (r.1.map V.int)):=λr hr=>by obtain⟨_,_,h⟩:=c3 _ hr;exact s8 _ _ (h r rfl)
    generalize upd H7 d _=H8 at s8 e8 c6 a8⊢;symm;refine eT e8 a8 λo0=>?_;have sF:As H (upd H8 d (.frz o0 (B3 d (BP L)))):=so5 d4 c6;have eF:upd H8 d (.frz o0 (B3 d (BP L))) d=A0 (.frz o0 (B3 d (BP L))):=Aw;have tF:∀r,A0 r∈BP L->upd H8 d (.frz o0 (B3 d (BP L))) r.2=A0 (.tup (r.1.map V.int)):=λr hr=>by have h:=a8 r hr;rw[Au (λz=>by rw[z,e8]at h;unfold B3 at h;cases h)];exact h
    generalize upd H8 d _=HF at sF eF tF⊢;have d5:=sF _ _ hD;obtain⟨os,a0⟩:=Qm (P:=λ(x:NK)(o:Option K3)=>x.map Prod.fst=o.map BD.kI/\Ld3 HF (nkV x) o) (l:=BP L) λx I=>by obtain⟨o,S,_⟩:=c3 x I;exact⟨o,S,iX S λr e=>tF r (by rw[<-e];exact I)⟩
    have e6:=a0.len;have f5:=iV (L:=L);refine P6 (ks:=(BP L).map nkV) (λn T O=>n<=os.length/\O=HF/\B4 (Be HF) T (fl3 F (os.take n))) ⟨aN _,rfl,trivial⟩ (λn T O pv=>⟨B3 d (BP L),by rw[pv.2.1];exact eF⟩) ?_ ?_
    .rintro n T H9 x R I⟨_,rfl,hy⟩hR;rw[aj]at I;obtain⟨x',d9,rfl⟩:=aY.mp I;obtain⟨o,ho,_,hv⟩:=a0.getL d9;have hn:=BO ho;have f6:=hy.len;have:(fl3 F (os.take n)).length<=n:=by unfold fl3;exact aF (cP ..) (by rw[aH];exact Nat.min_le_left _ _)
     symm;refine QC (C:=C) d5 c5 hv ?_;have et:=KM (F:=F) (os:=os.take n) (o:=o);rw[<-Ks ho]at et;cases b5:inK F o with
     |false=>rw[b5]at et;symm;exact hR _ _ ⟨hn,rfl,by rw[et];simpa using hy⟩
     |true=>
      rw[b5,if_pos rfl]at et;cases o with
      |none=>cases b5
      |some k=>symm;refine⟨BQ ⋯,hR _ _ ⟨hn,rfl,?_⟩⟩;rw[et];exact hy.snoc hv
    .rintro T H9⟨_,rfl,hy⟩b9 b8;rw[af,e6,aZ]at hy;obtain⟨a5,c9⟩:=snw b8 (.lst T);have a4:=DI a5 hy;have a3:=sF.trans a5;generalize upd H9 b9 _=f7 at a5 c9 a4 a3⊢;symm;refine⟨⟨b9,T,fl3 F os,_,_,_,_,rfl,c9,a4,λk=>?_,?_⟩,a3,λj hj=>?_⟩
     .rw[iY,Ks hc];have b:A0 k∈os↔∃g∈G,lb B h0 A h1 t g (bit c)=A0 k:=by
       constructor
       .intro z;obtain⟨n,e⟩:=bI z;obtain⟨x,I,S,_⟩:=a0.get e;have:x.map Prod.fst∈(BP L).map (aJ Prod.fst):=cU (ar I);obtain⟨y,a6,ey⟩:=Ql.mp this;obtain⟨g,hg,_,M,_⟩:=a9 y a6;refine⟨g,hg,?_⟩;rw[S,M]at ey;dsimp only at ey;cases z2:lb B h0 A h1 t g (bit c)with
        |none=>rw[z2]at ey;cases ey
        |some k2=>rw[z2]at ey;rw[HK (Option.some.inj ey)]
       .rintro⟨g,hg,e⟩;obtain⟨n,eg⟩:=bI hg;obtain⟨y,a6,_,M,_⟩:=a1.get eg;have:y.2.map Prod.fst∈(BP L).map (aJ Prod.fst):=Ql.mpr ⟨y,ar a6,rfl⟩;obtain⟨x,I,ex⟩:=aB.mp this;obtain⟨m,em⟩:=bI I;obtain⟨o,ho,S,_⟩:=a0.getL em;dsimp only at M;rw[S,M,e]at ex;cases o with
        |none=>cases ex
        |some k2=>rw[<-HK (Option.some.inj ex)];exact ar ho
      rw[b];constructor;.rintro⟨b3,g,hg,e⟩;obtain⟨U,Y,X⟩:=(hm g).mp hg;exact⟨U,Y,Qe.mpr ⟨g,X,e,b3⟩⟩
      .rintro⟨U,Y,X⟩;obtain⟨g,S,e,b3⟩:=Qe.mp X;exact⟨b3,g,(hm g).mpr ⟨U,Y,S⟩,e⟩
     .have:(fl3 F os).length<=os.length:=by unfold fl3;exact cP ..
      omega
     .by_cases e:j=i;.rw[e];exact he
      .exact a2 j ⋯
 .rintro σ H3⟨⟨l,K,G,x4,x5,x6,x7,rfl,b6,a7,hm,hG⟩,s3,a2⟩;symm;refine⟨by decide,λp5 b7=>?_⟩;obtain⟨s5,e5⟩:=snw b7 (.lst []);have a:=s3.trans s5;have p:=s5 _ _ b6;have J:=DI s5 a7;generalize upd H3 p5 _=H5 at s5 e5 a p J⊢;refine iB p e5 ?_;rw[d1 K G H5 _ J hm,aZ,Bool.not_not];cases he:fK B h0 A h1 t f with
  |true=>symm;exact q A5 _ a (.inl ⟨rfl,he⟩)
  |false=>symm;exact⟨bG (BQ ⋯),q (A0 f.length) _ a (.inr ⟨_,rfl,ag _,by rw[aZ];exact he,a2⟩)⟩
theorem ia{H:Hp}{n:Nat}{o:Option Nat}:Eqv H n (oV o) (oV o):=by
 cases o with
 |none=>exact Eqv.non
 |some k=>exact Eqv.int
def Ea:Sp:=λh H Q _=>∃(bd D:A4)(f b e d s:Nat)(F:List K3)(a:List Bool),h=[.ref bd,.ref D,.str (tx a)]/\IsB H bd f b e d (A0 s)/\1<=b/\1<=d/\H D=A0 (.dT (dK3 F))/\Lsd f b e d (A0 s) F/\a.length<=60/\∀g,As H g->Q (.bl A2) g
structure FsRight(C:Rc):Prop where
 lf:C.fs "_law_fault"=A0 Fa
 same:C.fs "_law_same"=A0 (DG 1)
 fault:C.fs "fault_at"=A0 CQ
 keeps:C.fs "keeps"=A0 CS
 next:C.fs "next_bits"=A0 FY
 spread:C.fs "spread_of"=A0 FZ
theorem ib{C:Rc}(hN:C.N.length=6)(j:FsRight C):∀T H Q E,Ea T H Q E->tSs C HZ {nx:=λ_ H'=>Q .non H',rt:=Q} (L2.BA C.N T) H:=by
 intro T H Q E h;obtain⟨bd,D,e,g,d,f,s,F,a,rfl,r,w,t,hD,O,a3,q⟩:=h;rw[BW hN];unfold HZ;symm;refine Az j.lf ?_;symm;refine⟨bd,D,e,g,d,f,A0 s,F,a,rfl,r,w,t,hD,O,⋯,λo H1 s1 hI=>?_⟩;symm;refine Az j.same ?_;symm;refine Az j.fault ?_;symm;refine⟨bd,e,g,d,f,A0 s,a,rfl,r.mono (B9 s1),w,t,⋯,λU H2 s2 a2=>?_⟩;obtain rfl:=a2.uniq hI;have a1:=s1.trans s2;symm;refine⟨oV U,oV U,rfl,ia,λH3 s3=>?_⟩;have y:=a1.trans s3;symm;refine Az j.same ?_;symm;refine Az j.keeps ?_;symm;refine⟨bd,e,g,d,f,A0 s,a,rfl,r.mono (B9 y),w,t,⋯,λH4 s4=>?_⟩;have a0:=y.trans s4;symm;rw[hI.non];refine⟨_,_,rfl,Eqv.bl,λH5 s5=>?_⟩;have I:=a0.trans s5;symm;refine Jt (Ox (l:=[A6,A2]) (λi xs H'=>i<=2/\As H5 H'/\xs=Cd (([A6,A2].take i).filter λb=>fK e g d f (A0 s) (a++[b]))) ⟨aN _,As.refl _,rfl⟩ ?_ ?_)
 .rintro i xs P c K hc⟨_,J,rfl⟩B;have hi:i<2:=BO hc;have et:([A6,A2].take (i+1)).filter (λb=>fK e g d f (A0 s) (a++[b]))=([A6,A2].take i).filter (λb=>fK e g d f (A0 s) (a++[b]))++[c].filter (λb=>fK e g d f (A0 s) (a++[b])):=by rw[bj,hc,List.filter_append];rfl
  have a4:(([A6,A2].take i).filter λb=>fK e g d f (A0 s) (a++[b])).length<=2:=aF (bJ ..) (by rw[aH];exact Nat.min_le_right ..);have A:=I.trans J;symm;refine Az j.lf ?_;symm;refine⟨Cp ⋯,?_⟩;refine⟨bd,D,e,g,d,f,A0 s,F,a++[c],rfl,r.mono (B9 A),w,t,A _ _ hD,O,by rw[aA,bU];omega,λu H7 s7 hu=>?_⟩;symm;rw[hu.non];cases hs:fK e g d f (A0 s) (a++[c])with
  |true=>symm;refine⟨by rw[Px];exact BQ ⋯,B _ _ ⟨hi,J.trans s7,?_⟩⟩;rw[et,cF,if_pos hs,Py];rfl
  |false=>symm;refine B _ _ ⟨hi,J.trans s7,?_⟩;rw[et,cF,if_neg (by rw[hs];exact al)];simp
 .rintro xs P⟨_,J,rfl⟩L S;have Y:=B5 S (.lst (Cd (([A6,A2].take 2).filter λb=>fK e g d f (A0 s) (a++[b]))));have e7:upd P L (.lst (Cd (([A6,A2].take 2).filter λb=>fK e g d f (A0 s) (a++[b])))) L=A0 (.lst (Cd (([A6,A2].take 2).filter λb=>fK e g d f (A0 s) (a++[b])))):=Aw;show tSs C _ _ _ (upd P L (.lst (Cd (([A6,A2].take 2).filter λb=>fK e g d f (A0 s) (a++[b])))));have p:=I.trans (J.trans Y);generalize upd P L _=H7 at e7 p⊢;symm;refine Az j.same ?_;symm;refine Az j.next ?_;symm;refine⟨bd,e,g,d,f,A0 s,a,rfl,r.mono (B9 p),w,t,⋯,λH8 s8=>?_⟩;have Z:=p.trans s8;symm;refine⟨rfl,?_⟩;refine Pz (SqL.of (s8 _ _ e7)) ?_ ?_;.exact aF (bJ ..) (by decide)
  refine⟨_,_,rfl,Eqv.str,λH9 s9=>?_⟩;have n:=Z.trans s9;symm;have hn:=hI.non;cases U with
  |some k=>simp only[oV];symm;exact q _ n
  |none=>
   have hk:fK e g d f (A0 s) a=A2:=hn.symm;have X:∀m∈F,m.2.2<=s:=λm R=>by have:=(ET.mp (O.mem R)).2.2.2;have:=KF.mp this;exact this
   obtain⟨l,hl⟩:=iL X ((Kq w t O).mp hk);simp only[oV];symm;refine Az j.spread ?_;symm;refine⟨a,rfl,⋯,λa5 M m x hM R=>?_⟩;have G:=(n.trans x) _ _ r.at';have:=hl M hM;have:=hl m R;symm;refine Bv (SqT.of G) (v:=oV (A0 s)) rfl ?_;simp only[oV];symm;rw[decide_eq_true (show M-m<=(s:Int)by omega)];exact q _ (n.trans x)
def Fb(K:W.Frag):Sp:=λd H Q _=>∃(a:A4)(b:List Int),d=[.ref a]/\SqL K H a (b.map V.int)/\b.length<=63/\∀e,Q (.bl A2) e
structure FsLaw(C:Rc):Prop where
 box:C.fs "_law_box"=A0 (FI C.K)
 bounds:C.fs "_law_bounds"=A0 K04.ER
 take:C.fs "_law_take"=A0 CA
 last:C.fs "_law_lasting"=A0 EV
 row:C.fs "_law_row"=A0 EK
 kept:C.fs "_law_kept_row"=A0 EX
 right:C.fs "_law_right"=A0 Ea
 keeps:C.fs "keeps"=A0 CS
 fault:C.fs "fault_at"=A0 CQ
theorem ic{K:W.Frag}{H:Hp}{Q:VK}{x b:Bool}(q:Q (.bl (decide (V.bl x=.bl b))) H):BG K .Is (.bl x) (.bl b) H Q:=⟨b,rfl,rfl,q⟩
theorem ie{C:Rc}(hN:C.N.length=11)(F:FsLaw C):∀vs H Q E,Fb C.K vs H Q E->tSs C Hb {nx:=λ_ B=>Q .non B,rt:=Q} (L2.BA C.N vs) H:=by
 intro vs H Q E h;obtain⟨a,ns,rfl,hs,j4,q⟩:=h;rw[BW hN];unfold Hb;symm;refine DY hs ?_;rw[af];symm;obtain⟨N,eN,i9,j8⟩:∃N:Int,N=1+(if(ns.length:Int)<3 then(ns.length:Int)else 3)/\1<=N/\N<=4:=by refine⟨_,rfl,?_,?_⟩<;>split<;>omega
 rw[<-eN];refine Ju ⋯ ⋯ (Gd (λi σ B=>(∃x1 x2 x3 x4 x5 x6 X x8 x9 A,σ=[A0 (.ref a),x1,x2,x3,x4,x5,x6,X,x8,x9,A])/\SqL C.K B a (ns.map V.int)) ⟨⟨_,_,_,_,_,_,_,_,_,_,rfl⟩,hs⟩ ?_ ?_)
 .rintro i σ H0 hi⟨⟨x1,x2,x3,x4,x5,x6,X,x8,x9,A,rfl⟩,a9⟩;have hi:i<4:=by omega
  symm;refine Az F.box ?_;symm;refine⟨a,ns,_,rfl,a9,⋯,⋯,λb hb=>?_⟩;have c4:=(B5 hb (BV b 0)).seq a9;have a8:upd H0 b (BV b 0) b=A0 (BV b 0):=Aw;generalize upd H0 b (BV b 0)=H1 at c4 a8⊢;symm;refine Az F.bounds ?_;symm;refine⟨b,0,rfl,a8,⋯,λp u l t f sp H2 g2 hB a0 b0 a1 b1=>?_⟩;obtain⟨n2,d7,i7,_⟩:=g2.boxed a8 ⋯;have d1:=g2.seq c4;symm;refine Bv (SqT.of hB.at') (v:=oV sp) rfl ?_;symm;generalize hD:DV C _ _=D0;have a7:∀(p:A4)(u l t f s:Nat)(n:Nat)(H4:Hp),IsB H4 p u l t f (A0 s)->1<=l->1<=f->H4 b=A0 (BV b n)->n<=100->SqL C.K H4 a (ns.map V.int)->D0.nx [A0 (.ref a),A0 (.int (0+i)),A0 (.ref b),A0 (.ref p),x4,x5,x6,X,x8,x9,A] H4:=by
   intro p u l t f s n H4 hB c0 c1 hb hn a5;rw[<-hD];symm;refine Az F.last ?_;symm;refine⟨p,u,l,t,f,A0 s,rfl,hB,c0,c1,λD G H5 hD0 s5 h9 hL=>?_⟩;have a4:=hB.mono (B9 s5);have c3:=s5 _ _ hb;have e6:=s5.seq a5;symm;refine Az F.row ?_;symm;refine⟨b,n,rfl,c3,⋯,λe H6 h2 g6=>?_⟩;symm;refine KC (Cp ⋯) ?_;have P:(e.take 12).length<=60:=by rw[aH];omega
   generalize e.take 12=e at P;clear h2;symm;refine⟨by decide,λpr c7=>?_⟩;obtain⟨s7,e7⟩:=snw c7 (.lst [.str (tx []),.str (tx e)]);have f1:Go 100 H5 (upd H6 pr (.lst [.str (tx []),.str (tx e)])):=(g6.trans (Go.of_same (c:=0) s7)).mono ⋯;generalize upd H6 pr _=H7 at e7 f1⊢;have b2:∀{c:Nat}{B:Hp},Go c H5 B->B D=A0 (.dT (dK3 G)):=λg=>g.oth D _ h9 λ_ z=>by cases z
   have a3:∀{c:Nat}{B:Hp},Go c H5 B->IsB B p u l t f (A0 s):=λg=>⟨g.tup a4.at',a4.b0,a4.b1,a4.bs⟩;symm;intro pd g5;obtain⟨s8,e8⟩:=snw g5 (.dK []);have S:Go 100 H5 (upd H7 pd (.dK [])):=(f1.trans (Go.of_same (c:=0) s8)).mono ⋯;have b4:=s8 _ _ e7;generalize upd H7 pd _=H8 at e8 S b4⊢;refine ft (.inl (b2 S)) e8 ?_;rw[iC];generalize i2:DV C _ _=D2;have Ar:∀(R:List (List Bool))(r:List Bool)(x6:Option V)(L:Hp),(∀y∈R++[r],y.length<=60)->R.length<=3->L pr=A0 (.lst ((R++[r]).map λy=>V.str (tx y)))->Go 300 H5 L->D2.nx [A0 (.ref a),A0 (.int (0+i)),A0 (.ref b),A0 (.ref p),A0 (.ref D),A0 (.ref pr),x6,X,x8,x9,A] L:=by
    intro R r x6 L hR j9 e9 Y;rw[<-i2];symm;refine CO (SqL.of e9) (bz (xs:=(R++[r]).map λy=>V.str (tx y)) (λj σ B=>(∃X,σ=[A0 (.ref a),A0 (.int (0+i)),A0 (.ref b),A0 (.ref p),A0 (.ref D),A0 (.ref pr),x6,X,x8,x9,A])/\As L B) ⟨⟨_,rfl⟩,As.refl _⟩ (λj σ B _ pv=>SqL.of (pv.2 _ _ e9)) ?_ ?_);.rintro j x σ T U⟨⟨X,rfl⟩,M⟩;rw[aj]at U;obtain⟨w,hw,rfl⟩:=aY.mp U;have h5:=hR w (ar hw);symm;refine Az F.right ?_;symm;have d:=Y.trans (Go.of_same (c:=0) M);refine⟨p,D,u,l,t,f,s,G,w,rfl,a3 d,c0,c1,b2 d,hL,h5,λa2 i1=>?_⟩;symm;exact⟨⟨_,rfl⟩,M.trans i1⟩
    .rintro σ T⟨⟨X,rfl⟩,M⟩;have d:Go 300 H5 T:=(Y.trans (Go.of_same (c:=0) M)).mono ⋯;have J:=M _ _ e9;have i8:=hR r (ap _ (aO.mpr rfl));obtain⟨e2,m,e0,_⟩:=d.boxed c3 ⋯;symm;refine Bi (SqL.of J) (v:=.str (tx r)) (by rw[aG];exact II _ _) ?_;symm;refine Az F.take ?_;symm;refine⟨bG (BQ ⋯),?_⟩;refine DH m (Go.refl (c:=0)) ⋯ ⋯ ⋯ λj3 a2 h3 j7 O _=>?_;obtain⟨at',rfl⟩:=aT h3;symm;refine Pw (Cp ⋯) ?_;symm;refine KC (Cp ⋯) ?_;symm;refine⟨by show 2<=A7;decide,λf6 d5=>?_⟩;obtain⟨h6,b9⟩:=snw d5 (.lst [.str (tx (r.drop at')),.str (tx (r.take at'))]);have b8:=(d.trans O).trans (Go.of_same (c:=0) h6);generalize upd a2 f6 _=k0 at b9 b8⊢;symm;refine Az F.keeps ?_;symm;refine⟨p,u,l,t,f,A0 s,r,rfl,a3 b8,c0,c1,⋯,λg0 c2=>?_⟩;have b3:=b8.trans (Go.of_same (c:=0) c2);cases hk:fK u l t f (A0 s) r with
     |false=>symm;exact⟨⟨_,_,_,_,_,_,_,_,_,_,rfl⟩,b3.seq e6⟩
     |true=>
      symm;refine CO (SqL.of (c2 _ _ b9)) (DF (vs:=[V.str (tx (r.drop at')),V.str (tx (r.take at'))]) (λj ys B=>As g0 B/\ys=(aL j A2).map V.bl) ⟨As.refl _,rfl⟩ (λj ys B pv=>SqL.of (pv.1 _ _ (c2 _ _ b9))) ?_ ?_)
      .rintro j ys d9 x R' U⟨Z,rfl⟩g8;obtain⟨w,rfl,hw,f3⟩:∃w:List Bool,x=.str (tx w)/\w.length<=60/\fK u l t f (A0 s) w=A2:=by
        match j,U with
        |0,U=>cases U;exact⟨_,rfl,by rw[cW];omega,iI hk _⟩
        |1,U=>cases U;exact⟨_,rfl,by rw[aH];omega,Qg hk _⟩
        |j+2,U=>cases U
       have hj:j<2:=BO U;symm;refine Az F.keeps ?_;symm;refine⟨p,u,l,t,f,A0 s,w,rfl,a3 (b3.trans (Go.of_same (c:=0) Z)),c0,c1,⋯,λg1 b5=>?_⟩;rw[f3];refine⟨by rw[af,List.length_replicate];exact BQ ⋯,g8 _ _ ⟨Z.trans b5,?_⟩⟩;rw[List.replicate_succ',aG];rfl
      .rintro ys d9⟨Z,rfl⟩f7 c6;rw[show[V.str (tx (r.drop at')),V.str (tx (r.take at'))].length=2 from rfl];obtain⟨b5,d4⟩:=snw c6 (.lst ((aL 2 A2).map V.bl));have c8:=b3.trans (Go.of_same (c:=0) (Z.trans b5));generalize upd d9 f7 _=g1 at d4 c8⊢;symm;refine Oy (bs:=aL 2 A2) (SqL.of d4) ?_;symm;exact⟨⟨_,_,_,_,_,_,_,_,_,_,rfl⟩,c8.seq e6⟩
   by_cases hG:G=[]
   .rw[decide_eq_true hG];symm;exact Ar [[]] e x6 H8 (λy hy=>by
     simp only[List.cons_append,df,ao,av,or_false]at hy;rcases hy with rfl|rfl;.exact aN _
     .exact P) (by show 1<=3;decide) b4 (S.mono ⋯)
   .rw[decide_eq_false hG];obtain⟨n8,d0,j1,_⟩:=S.boxed c3 ⋯;have c9:∀(w n9:Nat)(L:Hp),w<=40->Go 110 H5 L->L pr=A0 (.lst [.str (tx []),.str (tx e)])->L b=A0 (BV b n9)->n9<=300->tSs C (.cons (.expr (.met .append (.var 5) (.cons (.call "_law_kept_row" (.cons (.var 2) (.cons (.var 3) (.cons (.var 4) (.cons (.var 6) .nil))))) .nil))) .nil) D2 [A0 (.ref a),A0 (.int (0+i)),A0 (.ref b),A0 (.ref p),A0 (.ref D),A0 (.ref pr),A0 (.int w),X,x8,x9,A] L:=by
     intro w n9 L hw Y e9 a6 h4;symm;refine⟨tyL e9 rfl,?_⟩;refine Az F.kept ?_;symm;refine⟨b,p,D,n9,u,l,t,f,A0 s,G,w,rfl,a6,⋯,a3 Y,b2 Y,hL,hG,⋯,λr T hr d=>?_⟩;have J:=d.lst e9;have I:=Y.trans d;have d2:H5 pr=A5:=g6.free _ c7;refine eH (K:=C.K) J (BQ (by show 2<=1000;decide)) ?_;symm;exact Ar [[],e] r _ _ (λy hy=>by
      simp only[List.cons_append,df,ao,av,or_false]at hy;rcases hy with rfl|rfl|rfl;.exact aN _
      .exact P
      .omega) (by show 2<=3;decide) Aw ((I.upd d2).mono ⋯)
    symm;refine Az F.take ?_;symm;refine DH d0 (Go.refl (c:=0)) ⋯ (by decide) (by decide) λw0 L h8 j6 Y _=>?_;obtain⟨w,rfl⟩:=aT h8;obtain⟨n9,a6,h4,_⟩:=Y.boxed d0 ⋯;have e9:=Y.lst b4;symm;refine Az F.take ?_;symm;refine DH a6 (Go.refl (c:=0)) ⋯ (by decide) (by decide) λz T i6 j2 d _=>?_;obtain⟨e2,m,e0,_⟩:=d.boxed a6 ⋯;have J:=d.lst e9;have I:=(S.trans Y).trans d;symm;refine Bu (λhc=>?_) λhc=>?_;.symm;refine Az F.take ?_;symm;refine DH m (Go.refl (c:=0)) ⋯ (by decide) (by decide) λy0 a2 f4 j0 O _=>?_;obtain⟨y,rfl⟩:=aT f4;obtain⟨f8,e5,i3,_⟩:=O.boxed m ⋯;exact c9 y f8 a2 ⋯ ((I.trans O).mono ⋯) (O.lst J) e5 ⋯
    .simp only[OY];exact c9 w e2 T ⋯ (I.mono ⋯) J m ⋯
  clear hD;cases sp with
  |some s=>symm;exact a7 p u l t f s n2 H2 hB ⋯ ⋯ d7 ⋯ d1
  |none=>
   rw[show decide (oV A5=V.non)=A2 from rfl];symm;refine eE (SqT.of hB.at') (by simp[HT.sIx]) λp1 b6=>?_;rw[show DL [nV u,nV l,nV t,nV f,oV A5] A5 (A0 4)=[nV u,nV l,nV t,nV f]from rfl];obtain⟨s3,e3⟩:=snw b6 (.tup [nV u,nV l,nV t,nV f]);have f2:=s3 _ _ d7;have d6:=s3.seq d1;generalize upd H2 p1 _=H3 at e3 f2 d6⊢;symm;refine⟨by show 8<=A7;decide,λp4 f5=>?_⟩;obtain⟨s4,e4⟩:=snw f5 (.lst [.int 1,.int 2,.int 3,.int 4,.int 5,.int 6,.int 7,.int 16]);have b7:=s4 _ _ f2;have c5:=s4 _ _ e3;have a5:=s4.seq d6;generalize upd H3 p4 _=H4 at e4 b7 c5 a5⊢;refine Az F.take ?_;symm;refine DH b7 (Go.refl (c:=0)) ⋯ (by decide) (by decide) λe H6 i5 i4 g6 _=>?_;obtain⟨n6,f9,j5,_⟩:=g6.boxed b7 ⋯;obtain⟨s,g3,g4⟩:∃s:Nat,atI [V.int 1,.int 2,.int 3,.int 4,.int 5,.int 6,.int 7,.int 16] e=A0 (nV s)/\s<=16:=by
    rcases(by omega:e=0\/e=1\/e=2\/e=3\/e=4\/e=5\/e=6\/e=7)with rfl|rfl|rfl|rfl|rfl|rfl|rfl|rfl;.exact⟨1,rfl,by decide⟩
    .exact⟨2,rfl,by decide⟩
    .exact⟨3,rfl,by decide⟩
    .exact⟨4,rfl,by decide⟩
    .exact⟨5,rfl,by decide⟩
    .exact⟨6,rfl,by decide⟩
    .exact⟨7,rfl,by decide⟩
    .exact⟨16,rfl,by decide⟩
   refine Bi (SqL.of (g6.lst e4)) g3 ?_;symm;refine⟨by show 1<=A7;decide,λp7 h7=>?_⟩;obtain⟨s7,e7⟩:=snw h7 (.tup [nV s]);have d8:=s7 _ _ (g6.tup c5);have f0:=s7 _ _ f9;have d3:=s7.seq (g6.seq a5);generalize upd H6 p7 _=H7 at e7 d8 f0 d3⊢;refine eG (SqT.of d8) (SqT.of e7) (by show 5<=A7;decide) (λz=>by cases z) (λ_ z=>by cases z) λ_ _ p8 i0=>?_;obtain⟨s8,e8⟩:=snw i0 (.tup ([nV u,nV l,nV t,nV f]++[nV s]));symm;exact a7 p8 u l t f s n6 _ ⟨e8,hB.b0,hB.b1,λs' z=>by cases z;exact g4⟩ ⋯ ⋯ (s8 _ _ f0) ⋯ (s8.seq d3)
 .rintro σ H0⟨⟨x1,x2,x3,x4,x5,x6,X,x8,x9,A,rfl⟩,a9⟩;symm;refine Az F.keeps ?_;symm;refine⟨by show 5<=A7;decide,λp1 b6=>?_⟩;obtain⟨s1,e1⟩:=snw b6 (.tup [nV 1,nV 1,nV 2,nV 2,oV (A0 1)]);show CS _ (upd H0 p1 (.tup [nV 1,nV 1,nV 2,nV 2,oV (A0 1)])) _ _;generalize upd H0 p1 _=H1 at e1⊢;refine⟨p1,1,1,2,2,A0 1,[],rfl,⟨e1,by decide,by decide,λs z=>by cases z;decide⟩,by decide,by decide,by decide,λH2 s2=>?_⟩;rw[Qi 4 ⋯];symm;refine ic ?_;rw[decide_eq_true rfl];symm;refine Az F.fault ?_;symm;refine⟨by show 5<=A7;decide,λp3 g7=>?_⟩;obtain⟨s3,e3⟩:=snw g7 (.tup [nV 3,nV 3,nV 1,nV 1,oV (A0 2)]);show CQ _ (upd H2 p3 (.tup [nV 3,nV 3,nV 1,nV 1,oV (A0 2)])) _ _;generalize upd H2 p3 _=H3 at e3⊢;refine⟨p3,3,3,1,1,A0 2,[A6],rfl,⟨e3,by decide,by decide,λs z=>by cases z;decide⟩,by decide,by decide,by decide,λo H4 s4 hI=>?_⟩;have hn:∀w,fK 3 3 1 1 (A0 2) w=A6:=λw=>Qi 8 ⋯;obtain rfl:o=A0 0:=by
   rcases hI with⟨_,z⟩|⟨k,rfl,_,_,hj⟩;.rw[hn]at z;cases z
   .cases k with
    |zero=>rfl
    |succ k=>have:=hj 0 (Nat.zero_lt_succ _);rw[hn]at this;cases this
  simp only[oV];symm;exact q _
def top(i:Nat):Ap:=PySem.Challenge.pw_runbound_k05_sums_within_bounds.main.body.getD i (.Pass ⟨0,0,0,0⟩)
theorem ig:mSs KN QF (A_ (top 1)) HU (BB (top 1))=A2:=⋯
theorem ii:FnScope KN ["machine","rooms","bit"] (A_ (top 1)):=⟨rfl,rfl,rfl,⋯,rfl,⋯,⋯⟩
theorem ij:mSs KO QG (A_ (top 2)) Gr (BB (top 2))=A2:=⋯
theorem ik:FnScope KO ["machine","rooms"] (A_ (top 2)):=⟨rfl,rfl,rfl,⋯,rfl,⋯,⋯⟩
theorem il:mSs KP QH (A_ (top 3)) Gs (BB (top 3))=A2:=⋯
theorem im:FnScope KP ["machine","numbers"] (A_ (top 3)):=⟨rfl,rfl,rfl,⋯,rfl,⋯,⋯⟩
theorem io:mSs KQ QI (A_ (top 4)) Gu (BB (top 4))=A2:=⋯
theorem ip:FnScope KQ ["machine"] (A_ (top 4)):=⟨rfl,rfl,rfl,⋯,rfl,⋯,⋯⟩
theorem iq:mSs KR QJ (A_ (top 6)) Gw (BB (top 6))=A2:=⋯
theorem ir:FnScope KR ["bounds"] (A_ (top 6)):=⟨rfl,rfl,rfl,⋯,rfl,⋯,⋯⟩
theorem iu:mSs KS QL (A_ (top 7)) Gx (BB (top 7))=A2:=⋯
theorem iv:FnScope KS ["bounds","room","bit"] (A_ (top 7)):=⟨rfl,rfl,rfl,⋯,rfl,⋯,⋯⟩
theorem iw:mSs KU QM (A_ (top 8)) Gy (BB (top 8))=A2:=⋯
theorem ix:FnScope KU ["bounds","rooms"] (A_ (top 8)):=⟨rfl,rfl,rfl,⋯,rfl,⋯,⋯⟩
theorem iy:mSs KW QN (A_ (top 9)) Gz (BB (top 9))=A2:=⋯
theorem iz:FnScope KW ["bounds"] (A_ (top 9)):=⟨rfl,rfl,rfl,⋯,rfl,⋯,⋯⟩
theorem i_:mSs KY QO (A_ (top 10)) K04.HC (BB (top 10))=A2:=⋯
theorem jA:FnScope KY ["bounds","row"] (A_ (top 10)):=⟨rfl,rfl,rfl,⋯,rfl,⋯,⋯⟩
theorem jB:mSs KZ QP (A_ (top 11)) K04.HD (BB (top 11))=A2:=⋯
theorem jC:FnScope KZ ["bounds","row"] (A_ (top 11)):=⟨rfl,rfl,rfl,⋯,rfl,⋯,⋯⟩
theorem jD:mSs Ka QQ (A_ (top 12)) K04.HE (BB (top 12))=A2:=⋯
theorem jE:FnScope Ka ["bounds","row"] (A_ (top 12)):=⟨rfl,rfl,rfl,⋯,rfl,⋯,⋯⟩
theorem jF:mSs Kb QR (A_ (top 14)) HB (BB (top 14))=A2:=⋯
theorem jG:FnScope Kb ["row"] (A_ (top 14)):=⟨rfl,rfl,rfl,⋯,rfl,⋯,⋯⟩
theorem jH:mSs Kc QS (A_ (top 15)) HV (BB (top 15))=A2:=⋯
theorem jI:FnScope Kc ["row"] (A_ (top 15)):=⟨rfl,rfl,rfl,⋯,rfl,⋯,⋯⟩
theorem jJ:mSs HW Kd (A_ (top 17)) Gk (BB (top 17))=A2:=⋯
theorem jK:FnScope HW ["_law_script","_law_k"] (A_ (top 17)):=⟨rfl,rfl,rfl,⋯,rfl,⋯,⋯⟩
theorem jL:mSs HX Ke (A_ (top 18)) Gm (BB (top 18))=A2:=⋯
theorem jM:FnScope HX ["_law_script","_law_k"] (A_ (top 18)):=⟨rfl,rfl,rfl,⋯,rfl,⋯,⋯⟩
theorem jN:mSs Kf QT (A_ (top 19)) Gn (BB (top 19))=A2:=⋯
theorem jO:FnScope Kf ["_law_box_here","_law_many"] (A_ (top 19)):=⟨rfl,rfl,rfl,⋯,rfl,⋯,⋯⟩
theorem jP:mSs Kg QU (A_ (top 20)) K04.HG (BB (top 20))=A2:=⋯
theorem jQ:FnScope Kg ["_law_box_here"] (A_ (top 20)):=⟨rfl,rfl,rfl,⋯,rfl,⋯,⋯⟩
theorem jR:mSs Kh QV (A_ (top 21)) K06.HH (BB (top 21))=A2:=⋯
theorem jS:FnScope Kh ["_law_bounds_here","_law_state","_law_bit"] (A_ (top 21)):=⟨rfl,rfl,rfl,⋯,rfl,⋯,⋯⟩
theorem jT:mSs Ki QW (A_ (top 22)) K06.HI (BB (top 22))=A2:=⋯
theorem jU:FnScope Ki ["_law_bounds_here","_law_left","_law_state"] (A_ (top 22)):=⟨rfl,rfl,rfl,⋯,rfl,⋯,⋯⟩
theorem jV:mSs Kj QX (A_ (top 23)) K06.HJ (BB (top 23))=A2:=⋯
theorem jW:FnScope Kj ["_law_bounds_here"] (A_ (top 23)):=⟨rfl,rfl,rfl,⋯,rfl,⋯,⋯⟩
theorem jX:mSs Kl QY (A_ (top 24)) HY (BB (top 24))=A2:=⋯
theorem jY:FnScope Kl ["_law_bounds_here","_law_left","_law_row_here"] (A_ (top 24)):=⟨rfl,rfl,rfl,⋯,rfl,⋯,⋯⟩
theorem jZ:mSs Km QZ (A_ (top 25)) K07.HS (BB (top 25))=A2:=⋯
theorem ja:FnScope Km ["_law_box_here","_law_bounds_here","_law_left","_law_many"] (A_ (top 25)):=⟨rfl,rfl,rfl,⋯,rfl,⋯,⋯⟩
theorem jb:mSs Kn Qa (A_ (top 26)) Gp (BB (top 26))=A2:=⋯
theorem jc:FnScope Kn ["_law_box_here"] (A_ (top 26)):=⟨rfl,rfl,rfl,⋯,rfl,⋯,⋯⟩
theorem Qn:mSs EY FU (A_ (top 27)) FH (BB (top 27))=A2:=⋯
theorem Qp:FnScope EY ["_law_found","_law_due"] (A_ (top 27)):=⟨rfl,rfl,rfl,⋯,rfl,⋯,⋯⟩
theorem jd:mSs Ko Qc (A_ (top 28)) HZ (BB (top 28))=A2:=⋯
theorem je:FnScope Ko ["_law_bounds_here","_law_left","_law_row_here"] (A_ (top 28)):=⟨rfl,rfl,rfl,⋯,rfl,⋯,⋯⟩
theorem jf:mSs Ha Kp (A_ (top 29)) Hb (BB (top 29))=A2:=⋯
theorem jg:FnScope Ha ["_law_script"] (A_ (top 29)):=⟨rfl,rfl,rfl,⋯,rfl,⋯,⋯⟩
end
open TM BD BE TE K06 SR K07
set_option hygiene false in
local macro_rules| `(tactic|walk_at"o")=> `(tactic|(intro vs H Q E h;repeat(first|(obtain⟨rfl,_⟩:=h;rfl)|(obtain⟨_,h⟩:=h))))
def FnD(K:W.Frag)(x:AM)(st:Ap):Prop:=∃(f:A4)(a:Aq),W.nsIn K AN x=A0 (A0 (.ref f))/\Fun K x x st f a
theorem BX{K:W.Frag}{x:AM}{st:Ap}{f:A4}{i:A1}{m g:Option A4}{e:Array (Option A1)}{kV d j b h:A1}(a:W.nsIn K AN x=A0 (A0 (.ref f)))(l:K.lookup f=A0 ⟨i,m,.func (W.fnOf x x (De st) (BB st) (A_ st) .none kV d j g b h),e⟩)(c:W.codeIn K b x=A2)(k:W.keepIn K (.ref f)=A2):FnD K x st:=⟨f,_,a,TH l c k⟩
set_option hygiene false in
local macro_rules| `(tactic|walk_at"b")=> `(tactic|(intro _ _ _ _ _ _ us hl;first|exact eZ (P:=λus=>bindArgs _ ({pos:=us}:Args)=pure (bZ _ us)) (λ_ _ _=>rfl) us hl|exact eY (P:=λus=>bindArgs _ ({pos:=us}:Args)=pure (bZ _ us)) (λ_ _=>rfl) us hl|exact eX (P:=λus=>bindArgs _ ({pos:=us}:Args)=pure (bZ _ us)) (λ_=>rfl) us hl|exact ec (P:=λus=>bindArgs _ ({pos:=us}:Args)=pure (bZ _ us)) (λ_ _ _ _=>rfl) us hl))
noncomputable section
theorem jh{l:W.OpenLaw}{w:AK}{K:W.Frag}{h:AJ}{mg:AM->Option A1}{fa:A4}(X:K.In h)(G:h.Ns AN mg)(o7:mg "law"=A0 (.ref fa))
  (p1:FnD K "rooms_behind" (top 1))
  (p2:FnD K "lasting" (top 2))
  (p3:FnD K "part_of" (top 3))
  (p4:FnD K "trimmed" (top 4))
  (p5:FnD K "rooms_in_bounds" (top 6))
  (p6:FnD K "room_behind" (top 7))
  (p7:FnD K "machine_in_bounds" (top 8))
  (p8:FnD K "machine_of" (top 9))
  (p9:FnD K "fault_at" (top 10))
  (h5:FnD K "keeps" (top 11))
  (h9:FnD K "next_bits" (top 12))
  (g0:FnD K "sums" (top 14))
  (i7:FnD K "spread_of" (top 15))
  (q3:FnD K "_law_cell_at" (top 17))
  (h1:FnD K "_law_box" (top 18))
  (o4:FnD K "_law_take" (top 19))
  (k8:FnD K "_law_bounds" (top 20))
  (j5:FnD K "_law_behind" (top 21))
  (l0:FnD K "_law_leads" (top 22))
  (o9:FnD K "_law_lasting" (top 23))
  (l5:FnD K "_law_fault" (top 24))
  (k7:FnD K "_law_kept_row" (top 25))
  (i6:FnD K "_law_row" (top 26))
  (i0:FnD K "_law_same" (top 27))
  (o0:FnD K "_law_right" (top 28))
  (o3:FnD K "law" (top 29))
  (z1:W.nsIn K AN "~"=A0 A5)
  (z2:W.nsIn K AN "^"=A0 A5)
  (z3:W.nsIn K AN "%"=A0 A5)
  (z4:W.nsIn K AN "int"=A0 A5)
  (z5:W.nsIn K AN "sorted"=A0 A5)
  (z6:W.nsIn K AN "set"=A0 A5)
  (z7:W.nsIn K AN "enumerate"=A0 A5)
  (z8:W.nsIn K AN "tuple"=A0 A5)
  (z9:W.nsIn K AN "len"=A0 A5)
  (q7:W.nsIn K AN "list"=A0 A5)
  (q4:W.nsIn K AN "range"=A0 A5)
  (e4:W.nsIn K AN "max"=A0 A5)
  (o1:W.nsIn K AN "min"=A0 A5)
  (q6:W.nsIn K AN "abs"=A0 A5)
  (i1:W.nsIn K AN "dict"=A0 A5)
  (h2:W.nsIn K AN "all"=A0 A5)
  (l8:W.nsIn K AN "bool"=A0 A5)
  (l4:W.nsIn K AN "isinstance"=A0 A5)
  (k5:W.nsIn K AN "str"=A0 A5)
  (q9:W.nsIn K AN "zip"=A0 A5):
  ∃fd:Aq,(∀(s:A3)(v:A1),BindsTo s fd ⟨[v],[]⟩ [("_law_script",v)])/\∀base:AJ,K.In base->base.Ns AN mg->FnOk l.prog w K mg base CX0 60 fa fd ["_law_script"] (Fb K):=by
 obtain⟨f1,g1,a1,F1⟩:=p1;obtain⟨f2,g2,a2,F2⟩:=p2;obtain⟨f3,g3,a3,F3⟩:=p3;obtain⟨f4,g4,a4,F4⟩:=p4;obtain⟨f5,g5,a5,F5⟩:=p5;obtain⟨f6,g6,a6,F6⟩:=p6;obtain⟨f7,g7,a7,F7⟩:=p7;obtain⟨f8,g8,a8,F8⟩:=p8;obtain⟨f9,g9,a9,F9⟩:=p9;obtain⟨u1,u2,l7,p⟩:=h5;obtain⟨s2,s7,i8,H⟩:=h9;obtain⟨t6,u5,l3,T⟩:=g0;obtain⟨u6,t2,e5,E⟩:=i7;obtain⟨w4,t3,j2,L⟩:=q3;obtain⟨w3,t5,k4,D⟩:=h1;obtain⟨w1,s4,l9,g⟩:=o4;obtain⟨u3,w2,i3,U⟩:=k8;obtain⟨w0,w6,j7,j⟩:=j5;obtain⟨u7,t9,j9,I⟩:=l0;obtain⟨t1,s3,i2,Y⟩:=o9;obtain⟨s5,t0,f0,J⟩:=l5;obtain⟨t4,t7,h8,R⟩:=k7;obtain⟨u8,s6,o8,b0⟩:=i6;obtain⟨j3,w5,q0,i⟩:=i0;obtain⟨t8,s9,i9,S⟩:=o0;obtain⟨u0,u9,c0,c9⟩:=o3;obtain⟨r7,r4,d1,c1,e1,d7,c5,d9,r9,rfl,s1,u4⟩:=i.ex;obtain⟨r5,r6,c7,d2,d6,d8,e0,d3,r8,rfl,s8,v0⟩:=c9.ex;have e:=o7.symm.trans (W.mg_of X G c0);cases e;have b1:=F1.binds (ps:=["machine","rooms","bit"]) ⋯;have m1:=W.mg_of X G a1;have b2:=F2.binds (ps:=["machine","rooms"]) ⋯;have m2:=W.mg_of X G a2;have b3:=F3.binds (ps:=["machine","numbers"]) ⋯;have m3:=W.mg_of X G a3;have b4:=F4.binds (ps:=["machine"]) ⋯;have m4:=W.mg_of X G a4;have b5:=F5.binds (ps:=["bounds"]) ⋯;have m5:=W.mg_of X G a5;have b6:=F6.binds (ps:=["bounds","room","bit"]) ⋯;have m6:=W.mg_of X G a6;have b7:=F7.binds (ps:=["bounds","rooms"]) ⋯;have m7:=W.mg_of X G a7;have b8:=F8.binds (ps:=["bounds"]) ⋯;have m8:=W.mg_of X G a8;have b9:=F9.binds (ps:=["bounds","row"]) ⋯;have m9:=W.mg_of X G a9;have Q:=p.binds (ps:=["bounds","row"]) ⋯;have O:=W.mg_of X G l7;have j1:=H.binds (ps:=["bounds","row"]) ⋯;have e2:=W.mg_of X G i8;have e7:=T.binds (ps:=["row"]) ⋯;have q8:=W.mg_of X G l3;have j8:=E.binds (ps:=["row"]) ⋯;have q5:=W.mg_of X G e5;have k0:=L.binds (ps:=["_law_script","_law_k"]) ⋯;have l6:=W.mg_of X G j2;have r0:=D.binds (ps:=["_law_script","_law_k"]) ⋯;have e8:=W.mg_of X G k4;have r:=g.binds (ps:=["_law_box_here","_law_many"]) ⋯;have t:=W.mg_of X G l9;have h7:=U.binds (ps:=["_law_box_here"]) ⋯;have h0:=W.mg_of X G i3;have y:=j.binds (ps:=["_law_bounds_here","_law_state","_law_bit"]) ⋯;have u:=W.mg_of X G j7;have j0:=I.binds (ps:=["_law_bounds_here","_law_left","_law_state"]) ⋯;have m0:=W.mg_of X G j9;have k6:=Y.binds (ps:=["_law_bounds_here"]) ⋯;have h6:=W.mg_of X G i2;have k2:=J.binds (ps:=["_law_bounds_here","_law_left","_law_row_here"]) ⋯;have o5:=W.mg_of X G f0;have j4:=R.binds (ps:=["_law_box_here","_law_bounds_here","_law_left","_law_many"]) ⋯;have e3:=W.mg_of X G h8;have i4:=b0.binds (ps:=["_law_box_here"]) ⋯;have k3:=W.mg_of X G o8;have c2:=i.binds (ps:=["_law_found","_law_due"]) ⋯;have c8:=W.mg_of X G q0;have e6:=S.binds (ps:=["_law_bounds_here","_law_left","_law_row_here"]) ⋯;have l1:=W.mg_of X G i9;have s0:=W.mg_of X G c0;have b:=W.mg_none_of X G z1;have a:=W.mg_none_of X G z2;have d:=W.mg_none_of X G z3;have M:=W.mg_none_of X G z4;have n5:=W.mg_none_of X G z5;have n6:=W.mg_none_of X G z6;have n7:=W.mg_none_of X G z7;have n8:=W.mg_none_of X G z8;have q:=W.mg_none_of X G z9;have o:=W.mg_none_of X G q7;have f:=W.mg_none_of X G q4;have r3:=W.mg_none_of X G e4;have d5:=W.mg_none_of X G o1;have p0:=W.mg_none_of X G q6;have c6:=W.mg_none_of X G i1;have a0:=W.mg_none_of X G h2;have c4:=W.mg_none_of X G l8;have c3:=W.mg_none_of X G l4;have d4:=W.mg_none_of X G k5;have d0:=W.mg_none_of X G q9;refine⟨W.fnOf "law" "law" (De (top 29)) (BB (top 29)) (A_ (top 29)) .none c7 d2 d6 d8 e0 d3,λs v=>.of_eq rfl,λbase _ _=>?_⟩;have O1:=BS (P:=l.prog) (w:=w) (mg:=mg) (base:=base) (k:=0) F1 {N:=KN,B:=QF,K:=K,fs:=Ax []} ii rfl HU ig (sp:=FX) ⋯ (BR mN) (mC ⟨M,(mC ⟨n5,mN⟩)⟩) ⟨b,a,d⟩ ⋯ ⋯ rfl rfl (iN rfl  );have O2:=BS (P:=l.prog) (w:=w) (mg:=mg) (base:=base) (k:=0) F2 {N:=KO,B:=QG,K:=K,fs:=Ax []} ik rfl Gr ij (sp:=FK) ⋯ (BR mN) (mC ⟨n6,mN⟩) ⟨b,a,d⟩ ⋯ ⋯ rfl rfl (gH rfl  );have O3:=BS (P:=l.prog) (w:=w) (mg:=mg) (base:=base) (k:=0) F3 {N:=KP,B:=QH,K:=K,fs:=Ax []} im rfl Gs il (sp:=FQ) ⋯ (BR mN) (mC ⟨n7,(mC ⟨n8,mN⟩)⟩) ⟨b,a,d⟩ ⋯ ⋯ rfl rfl (gR rfl  );have O4:=BS (P:=l.prog) (w:=w) (mg:=mg) (base:=base) (k:=1) F4 {N:=KQ,B:=QI,K:=K,fs:=Ax [("lasting",FK),("part_of",FQ)]} ip rfl Gu io (sp:=FR) ⋯ (BR (mC ⟨⟨_,_,_,(O2).mono ⋯,m2,F2.kp,b2⟩,(mC ⟨⟨_,_,_,(O3).mono ⋯,m3,F3.kp,b3⟩,mN⟩)⟩)) (mC ⟨q,(mC ⟨o,(mC ⟨f,mN⟩)⟩)⟩) ⟨b,a,d⟩ ⋯ ⋯ rfl rfl (gU rfl (show Ax _ "lasting"=A0 (FK)from BC) (show Ax _ "part_of"=A0 (FQ)from((B1 ⋯).trans BC)));have O5:=BS (P:=l.prog) (w:=w) (mg:=mg) (base:=base) (k:=0) F5 {N:=KR,B:=QJ,K:=K,fs:=Ax []} ir rfl Gw iq (sp:=FM) ⋯ (BR mN) (mC ⟨o,(mC ⟨f,mN⟩)⟩) ⟨b,a,d⟩ ⋯ ⋯ rfl rfl (gK rfl  );have O6:=BS (P:=l.prog) (w:=w) (mg:=mg) (base:=base) (k:=0) F6 {N:=KS,B:=QL,K:=K,fs:=Ax []} iv rfl Gx iu (sp:=FO) ⋯ (BR mN) mN ⟨b,a,d⟩ ⋯ ⋯ rfl rfl (gL rfl  );have O7:=BS (P:=l.prog) (w:=w) (mg:=mg) (base:=base) (k:=1) F7 {N:=KU,B:=QM,K:=K,fs:=Ax [("room_behind",FO)]} ix rfl Gy iw (sp:=FP) ⋯ (BR (mC ⟨⟨_,_,_,(O6).mono ⋯,m6,F6.kp,b6⟩,mN⟩)) (mC ⟨n7,(mC ⟨n8,mN⟩)⟩) ⟨b,a,d⟩ ⋯ ⋯ rfl rfl (gO rfl (show Ax _ "room_behind"=A0 (FO)from BC));have O8:=BS (P:=l.prog) (w:=w) (mg:=mg) (base:=base) (k:=2) F8 {N:=KW,B:=QN,K:=K,fs:=Ax [("trimmed",FR),("machine_in_bounds",FP),("rooms_in_bounds",FM)]} iz rfl Gz iy (sp:=FT) ⋯ (BR (mC ⟨⟨_,_,_,(O4).mono ⋯,m4,F4.kp,b4⟩,(mC ⟨⟨_,_,_,(O7).mono ⋯,m7,F7.kp,b7⟩,(mC ⟨⟨_,_,_,(O5).mono ⋯,m5,F5.kp,b5⟩,mN⟩)⟩)⟩)) mN ⟨b,a,d⟩ ⋯ ⋯ rfl rfl (hW rfl (show Ax _ "trimmed"=A0 (FR)from BC) (show Ax _ "machine_in_bounds"=A0 (FP)from((B1 ⋯).trans BC)) (show Ax _ "rooms_in_bounds"=A0 (FM)from((B1 ⋯).trans ((B1 ⋯).trans BC))));have O9:=BS (P:=l.prog) (w:=w) (mg:=mg) (base:=base) (k:=3) F9 {N:=KY,B:=QO,K:=K,fs:=Ax [("machine_of",FT),("rooms_behind",FX)]} jA rfl K04.HC i_ (sp:=CQ) ⋯ (BR (mC ⟨⟨_,_,_,(O8).mono ⋯,m8,F8.kp,b8⟩,(mC ⟨⟨_,_,_,(O1).mono ⋯,m1,F1.kp,b1⟩,mN⟩)⟩)) (mC ⟨n7,(mC ⟨q,(mC ⟨o,(mC ⟨f,mN⟩)⟩)⟩)⟩) ⟨b,a,d⟩ ⋯ ⋯ rfl rfl (iO rfl (show Ax _ "machine_of"=A0 (FT)from BC) (show Ax _ "rooms_behind"=A0 (FX)from((B1 ⋯).trans BC)));have Z:=BS (P:=l.prog) (w:=w) (mg:=mg) (base:=base) (k:=4) p {N:=KZ,B:=QP,K:=K,fs:=Ax [("fault_at",CQ)]} jC rfl K04.HD jB (sp:=CS) ⋯ (BR (mC ⟨⟨_,_,_,(O9).mono ⋯,m9,F9.kp,b9⟩,mN⟩)) mN ⟨b,a,d⟩ ⋯ ⋯ rfl rfl (iP rfl (show Ax _ "fault_at"=A0 (CQ)from BC));have e9:=BS (P:=l.prog) (w:=w) (mg:=mg) (base:=base) (k:=5) H {N:=Ka,B:=QQ,K:=K,fs:=Ax [("keeps",CS)]} jE rfl K04.HE jD (sp:=FY) ⋯ (BR (mC ⟨⟨_,_,_,(Z).mono ⋯,O,p.kp,Q⟩,mN⟩)) mN ⟨b,a,d⟩ ⋯ ⋯ rfl rfl (iQ rfl (show Ax _ "keeps"=A0 (CS)from BC));have k1:=BS (P:=l.prog) (w:=w) (mg:=mg) (base:=base) (k:=0) T {N:=Kb,B:=QR,K:=K,fs:=Ax []} jG rfl HB jF (sp:=FS) ⋯ (BR mN) mN ⟨b,a,d⟩ ⋯ ⋯ rfl rfl (gX rfl  );have i5:=BS (P:=l.prog) (w:=w) (mg:=mg) (base:=base) (k:=1) E {N:=Kc,B:=QS,K:=K,fs:=Ax [("sums",FS)]} jI rfl HV jH (sp:=FZ) ⋯ (BR (mC ⟨⟨_,_,_,(k1).mono ⋯,q8,T.kp,e7⟩,mN⟩)) (mC ⟨r3,(mC ⟨d5,mN⟩)⟩) ⟨b,a,d⟩ ⋯ ⋯ rfl rfl (iR rfl (show Ax _ "sums"=A0 (FS)from BC));have o2:=BS (P:=l.prog) (w:=w) (mg:=mg) (base:=base) (k:=0) L {N:=HW,B:=Kd,K:=K,fs:=Ax []} jK rfl Gk jJ (sp:=EJ K) ⋯ (BR mN) (mC ⟨q,mN⟩) ⟨b,a,d⟩ ⋯ ⋯ rfl rfl (fv (C:={N:=HW,B:=Kd,K:=K,fs:=Ax []}) rfl  );have q1:=f_ (BS (P:=l.prog) (w:=w) (mg:=mg) (base:=base) (k:=1) D {N:=HX,B:=Ke,K:=K,fs:=Ax [("_law_cell_at",EJ K)]} jM rfl Gm jL (sp:=K5 K) ⋯ (BR (mC ⟨⟨_,_,_,(o2).mono ⋯,l6,L.kp,k0⟩,mN⟩)) (mC ⟨p0,(mC ⟨M,mN⟩)⟩) ⟨b,a,d⟩ ⋯ ⋯ rfl rfl (fw (C:={N:=HX,B:=Ke,K:=K,fs:=Ax [("_law_cell_at",EJ K)]}) rfl (show Ax _ "_law_cell_at"=A0 (EJ K)from BC)));have x:=fz rfl (BS (P:=l.prog) (w:=w) (mg:=mg) (base:=base) (k:=0) g {N:=Kf,B:=QT,K:=K,fs:=Ax []} jO rfl Gn jN (sp:=Gq) ⋯ (BR mN) mN ⟨b,a,d⟩ ⋯ ⋯ rfl rfl (fy rfl  ));have n0:=BS (P:=l.prog) (w:=w) (mg:=mg) (base:=base) (k:=1) U {N:=Kg,B:=QU,K:=K,fs:=Ax [("_law_take",CA)]} jQ rfl K04.HG jP (sp:=K04.ER) ⋯ (BR (mC ⟨⟨_,_,_,(x).mono ⋯,t,g.kp,r⟩,mN⟩)) mN ⟨b,a,d⟩ ⋯ ⋯ rfl rfl (K04.ga rfl (show Ax _ "_law_take"=A0 (CA)from BC));have A:=BS (P:=l.prog) (w:=w) (mg:=mg) (base:=base) (k:=0) j {N:=Kh,B:=QV,K:=K,fs:=Ax []} jS rfl K06.HH jR (sp:=C4) ⋯ (BR mN) mN ⟨b,a,d⟩ ⋯ ⋯ rfl rfl (gh rfl  );have q2:=BS (P:=l.prog) (w:=w) (mg:=mg) (base:=base) (k:=1) I {N:=Ki,B:=QW,K:=K,fs:=Ax [("_law_behind",C4)]} jU rfl K06.HI jT (sp:=ES) ⋯ (BR (mC ⟨⟨_,_,_,(A).mono ⋯,u,j.kp,y⟩,mN⟩)) mN ⟨b,a,d⟩ ⋯ ⋯ rfl rfl (gi rfl (show Ax _ "_law_behind"=A0 (C4)from BC));have o6:=BS (P:=l.prog) (w:=w) (mg:=mg) (base:=base) (k:=2) Y {N:=Kj,B:=QX,K:=K,fs:=Ax [("_law_behind",C4),("_law_leads",ES)]} jW rfl K06.HJ jV (sp:=EV) ⋯ (BR (mC ⟨⟨_,_,_,(A).mono ⋯,u,j.kp,y⟩,(mC ⟨⟨_,_,_,(q2).mono ⋯,m0,I.kp,j0⟩,mN⟩)⟩)) (mC ⟨c6,(mC ⟨q,(mC ⟨f,mN⟩)⟩)⟩) ⟨b,a,d⟩ ⋯ ⋯ rfl rfl (hJ rfl (show Ax _ "_law_behind"=A0 (C4)from BC) (show Ax _ "_law_leads"=A0 (ES)from((B1 ⋯).trans BC)));have h3:=BS (P:=l.prog) (w:=w) (mg:=mg) (base:=base) (k:=1) J {N:=Kl,B:=QY,K:=K,fs:=Ax [("_law_behind",C4)]} jY rfl HY jX (sp:=Fa) ⋯ (BR (mC ⟨⟨_,_,_,(A).mono ⋯,u,j.kp,y⟩,mN⟩)) (mC ⟨c6,(mC ⟨n7,(mC ⟨M,(mC ⟨q,(mC ⟨o,mN⟩)⟩)⟩)⟩)⟩) ⟨b,a,d⟩ ⋯ ⋯ rfl rfl (iZ rfl (show Ax _ "_law_behind"=A0 (C4)from BC));have l2:=BS (P:=l.prog) (w:=w) (mg:=mg) (base:=base) (k:=1) R {N:=Km,B:=QZ,K:=K,fs:=Ax [("_law_take",CA),("_law_behind",C4)]} ja rfl K07.HS jZ (sp:=K07.EX) ⋯ (BR (mC ⟨⟨_,_,_,(x).mono ⋯,t,g.kp,r⟩,(mC ⟨⟨_,_,_,(A).mono ⋯,u,j.kp,y⟩,mN⟩)⟩)) (mC ⟨M,(mC ⟨q,(mC ⟨f,(mC ⟨n5,mN⟩)⟩)⟩)⟩) ⟨b,a,d⟩ ⋯ ⋯ rfl rfl (K07.iA rfl (show Ax _ "_law_take"=A0 (CA)from BC) (show Ax _ "_law_behind"=A0 (C4)from((B1 ⋯).trans BC)));have k9:=BS (P:=l.prog) (w:=w) (mg:=mg) (base:=base) (k:=1) b0 {N:=Kn,B:=Qa,K:=K,fs:=Ax [("_law_take",CA)]} jc rfl Gp jb (sp:=EK) ⋯ (BR (mC ⟨⟨_,_,_,(x).mono ⋯,t,g.kp,r⟩,mN⟩)) (mC ⟨M,(mC ⟨q,mN⟩)⟩) ⟨b,a,d⟩ ⋯ ⋯ rfl rfl (gA rfl (show Ax _ "_law_take"=A0 (CA)from BC));have h4:∀n,FnOk l.prog w K mg base CX0 (n+0+1) j3 (W.fnOf "_law_same" "_law_same" (De (top 27)) (BB (top 27)) (A_ (top 27)) .none d1 c1 e1 d7 c5 d9) ["_law_found","_law_due"] (DG n):=by
  intro n;induction n with
  |zero=>exact BS (P:=l.prog) (w:=w) (mg:=mg) (base:=base) (k:=0+0) i {N:=EY,B:=FU,K:=K,fs:=Ax []} Qp rfl FH Qn ⋯ (BR mN) (mC ⟨a0,(mC ⟨c4,(mC ⟨M,(mC ⟨c3,(mC ⟨q,(mC ⟨o,(mC ⟨d4,(mC ⟨n8,(mC ⟨d0,mN⟩)⟩)⟩)⟩)⟩)⟩)⟩)⟩)⟩) ⟨b,a,d⟩ ⋯ ⋯ rfl rfl (PY (C:={N:=EY,B:=FU,K:=K,fs:=Ax []}) rfl (λm h=>absurd h ⋯))
  |succ m ih=>exact BS (P:=l.prog) (w:=w) (mg:=mg) (base:=base) (k:=m+0+1) i {N:=EY,B:=FU,K:=K,fs:=Ax [("_law_same",DG m)]} Qp rfl FH Qn ⋯ (BR (mC ⟨⟨_,_,_,(ih).mono ⋯,c8,i.kp,c2⟩,mN⟩)) (mC ⟨a0,(mC ⟨c4,(mC ⟨M,(mC ⟨c3,(mC ⟨q,(mC ⟨o,(mC ⟨d4,(mC ⟨n8,(mC ⟨d0,mN⟩)⟩)⟩)⟩)⟩)⟩)⟩)⟩)⟩) ⟨b,a,d⟩ ⋯ ⋯ rfl rfl (PY (C:={N:=EY,B:=FU,K:=K,fs:=Ax [("_law_same",DG m)]}) rfl (λm h=>by cases h;exact(show Ax _ "_law_same"=A0 (DG m)from BC)))
 have j6:=BS (P:=l.prog) (w:=w) (mg:=mg) (base:=base) (k:=6) S {N:=Ko,B:=Qc,K:=K,fs:=Ax [("_law_fault",Fa),("_law_same",DG 1),("fault_at",CQ),("keeps",CS),("next_bits",FY),("spread_of",FZ)]} je rfl HZ jd (sp:=Ea) ⋯ (BR (mC ⟨⟨_,_,_,(h3).mono ⋯,o5,J.kp,k2⟩,(mC ⟨⟨_,_,_,(h4 1).mono ⋯,c8,i.kp,c2⟩,(mC ⟨⟨_,_,_,(O9).mono ⋯,m9,F9.kp,b9⟩,(mC ⟨⟨_,_,_,(Z).mono ⋯,O,p.kp,Q⟩,(mC ⟨⟨_,_,_,(e9).mono ⋯,e2,H.kp,j1⟩,(mC ⟨⟨_,_,_,(i5).mono ⋯,q5,E.kp,j8⟩,mN⟩)⟩)⟩)⟩)⟩)⟩)) mN ⟨b,a,d⟩ ⋯ ⋯ rfl rfl (ib rfl ⟨(show Ax _ "_law_fault"=A0 (Fa)from BC),(show Ax _ "_law_same"=A0 (DG 1)from((B1 ⋯).trans BC)),(show Ax _ "fault_at"=A0 (CQ)from((B1 ⋯).trans ((B1 ⋯).trans BC))),(show Ax _ "keeps"=A0 (CS)from((B1 ⋯).trans ((B1 ⋯).trans ((B1 ⋯).trans BC)))),(show Ax _ "next_bits"=A0 (FY)from((B1 ⋯).trans ((B1 ⋯).trans ((B1 ⋯).trans ((B1 ⋯).trans BC))))),(show Ax _ "spread_of"=A0 (FZ)from((B1 ⋯).trans ((B1 ⋯).trans ((B1 ⋯).trans ((B1 ⋯).trans ((B1 ⋯).trans BC))))))⟩);exact BS (P:=l.prog) (w:=w) (mg:=mg) (base:=base) (k:=59) c9 {N:=Ha,B:=Kp,K:=K,fs:=Ax [("_law_box",FI K),("_law_bounds",K04.ER),("_law_take",CA),("_law_lasting",EV),("_law_row",EK),("_law_kept_row",K07.EX),("_law_right",Ea),("keeps",CS),("fault_at",CQ)]} jg rfl Hb jf (sp:=Fb K) ⋯ (BR (mC ⟨⟨_,_,_,(q1).mono ⋯,e8,D.kp,r0⟩,(mC ⟨⟨_,_,_,(n0).mono ⋯,h0,U.kp,h7⟩,(mC ⟨⟨_,_,_,(x).mono ⋯,t,g.kp,r⟩,(mC ⟨⟨_,_,_,(o6).mono ⋯,h6,Y.kp,k6⟩,(mC ⟨⟨_,_,_,(k9).mono ⋯,k3,b0.kp,i4⟩,(mC ⟨⟨_,_,_,(l2).mono ⋯,e3,R.kp,j4⟩,(mC ⟨⟨_,_,_,(j6).mono ⋯,l1,S.kp,e6⟩,(mC ⟨⟨_,_,_,(Z).mono ⋯,O,p.kp,Q⟩,(mC ⟨⟨_,_,_,(O9).mono ⋯,m9,F9.kp,b9⟩,mN⟩)⟩)⟩)⟩)⟩)⟩)⟩)⟩)⟩)) (mC ⟨a0,(mC ⟨q,(mC ⟨d5,(mC ⟨f,mN⟩)⟩)⟩)⟩) ⟨b,a,d⟩ ⋯ ⋯ rfl rfl (ie (C:={N:=Ha,B:=Kp,K:=K,fs:=Ax [("_law_box",FI K),("_law_bounds",K04.ER),("_law_take",CA),("_law_lasting",EV),("_law_row",EK),("_law_kept_row",K07.EX),("_law_right",Ea),("keeps",CS),("fault_at",CQ)]}) rfl ⟨(show Ax _ "_law_box"=A0 (FI K)from BC),(show Ax _ "_law_bounds"=A0 (K04.ER)from((B1 ⋯).trans BC)),(show Ax _ "_law_take"=A0 (CA)from((B1 ⋯).trans ((B1 ⋯).trans BC))),(show Ax _ "_law_lasting"=A0 (EV)from((B1 ⋯).trans ((B1 ⋯).trans ((B1 ⋯).trans BC)))),(show Ax _ "_law_row"=A0 (EK)from((B1 ⋯).trans ((B1 ⋯).trans ((B1 ⋯).trans ((B1 ⋯).trans BC))))),(show Ax _ "_law_kept_row"=A0 (K07.EX)from((B1 ⋯).trans ((B1 ⋯).trans ((B1 ⋯).trans ((B1 ⋯).trans ((B1 ⋯).trans BC)))))),(show Ax _ "_law_right"=A0 (Ea)from((B1 ⋯).trans ((B1 ⋯).trans ((B1 ⋯).trans ((B1 ⋯).trans ((B1 ⋯).trans ((B1 ⋯).trans BC))))))),(show Ax _ "keeps"=A0 (CS)from((B1 ⋯).trans ((B1 ⋯).trans ((B1 ⋯).trans ((B1 ⋯).trans ((B1 ⋯).trans ((B1 ⋯).trans ((B1 ⋯).trans BC)))))))),(show Ax _ "fault_at"=A0 (CQ)from((B1 ⋯).trans ((B1 ⋯).trans ((B1 ⋯).trans ((B1 ⋯).trans ((B1 ⋯).trans ((B1 ⋯).trans ((B1 ⋯).trans ((B1 ⋯).trans BC)))))))))⟩)
theorem ji{l:W.OpenLaw}{q:AA}{g:List AM}{H:(AM->Option A1)->AJ->Prop}{d:DefRec}{K:Params->W.Frag}{bs:List A4}{m t:Nat}(hn:l.most=A0 63)(A:d.params.defaults=[])(e:∀P,bs=(K P).map (·.1))
  (F:∀(w:AK)(mg:AM->Option A1)(C:A4)(h:AJ),(K w.params).In h->h.Ns AN mg->mg d.name=A0 (.ref C)->
   ∃B:Aq,(∀(s:A3)(u:A1),BindsTo s B ⟨[u],[]⟩ [("_law_script",u)])/\∀b:AJ,(K w.params).In b->b.Ns AN mg->FnOk l.prog w (K w.params) mg b CX0 60 C B ["_law_script"] (Fb (K w.params))):
  W.WalkX q g H (W.X.obsZ bs) (W.X.valZ K m t) l.row.toRowW d [] (λf vs=>PySem.call f vs):=
 λw i p mg I G y a o M S v T kV J h2 O R E U j r D L=>L2.TF (YP:=λw h=>(K w.params).In h) (n:=63) (k:=60) (x:="_law_script") (CX:=λ_=>CX0) (sp:=λw=>Fb (K w.params)) hn (by decide) A ⟨rfl,by decide,by decide,rfl⟩ (λ_ _ Y=>Y) F (λ_ _ a Q N _ Z=>⟨a,Q,rfl,Z,N,λ_=>rfl⟩) (λ_ _ _ _ _ z=>z) w i p mg I G (W.InK.keeps w _ _ (W.X.z_facts e y).2.1 L.keeps) a o M S v T kV J h2 O R E U j r D
end
end K05
end
open PySem PySem.W PyProof.Rows
namespace PySem.W.Fast
noncomputable section
def tw9672259537910141613:=0
def tw13025722975228326578:=0
def tw13832032205129408967:=0
def tw7952056050600887165:=0
def tw16483479240389994030:=0
def tw7358828958841320742:=0
def tw15057537022431166818:=0
def tw10219839423277249910:=0
def tw13431175613052094124:=0
def tw8373174336301720133:=0
def tw10088989595859952429:=0
def tw3041363420930317010:=0
def tw5979460044071777929:=0
def tw9058266189275731094:=0
def tw10182878043684462972:=0
def tw14451416363868075051:=0
def tw18215326274514150017:=0
def tw6139058488791096958:=0
def tw13729004463785945407:=0
def tw7621467405081725539:=0
def tw4342981190683837207:=0
def tw3690219911110150715:=0
def tw8329611943793330562:=0
def tw16681130222123993701:=0
def tw16850411763564958944:=0
def tw13799882184543880344:=0
def tw13235950909497205517:=0
def tw3819737485073180856:=0
def tw2070106605878243550:=0
def tw17631933320227249418:=0
def tw16130216055575044746:=0
def tw17700421392704877232:=0
def tw17911542310980461253:=0
def tw9703402295274435096:=0
def tw5986702638193737566:=0
def tw17572736391541380778:=0
def tw12500519075387284187:=0
def tw4697859171165300865:=0
def tw2024784896031049244:=0
def tw6903012775441575253:=0
def tw15383262160282202563:=0
def tw7171814907274316058:=0
def tw847465930135162220:=0
def tw3570776886541885725:=0
end
end PySem.W.Fast
set_option maxRecDepth 100000 in
set_option maxHeartbeats 0 in
theorem PySem.Challenge.cw_runbound_k05_sums_within_bounds_holds : PySem.Challenge.rw_runbound_k05_sums_within_bounds.Holds := by
 w_on; o_law; z_head; (case hw => w_witness2)
 k_fill
 refine K05.ji (l := PySem.Challenge.rw_runbound_k05_sums_within_bounds) rfl rfl (fun _ => rfl) ?F
 case F =>
  intro w mg fa h KX G hmg
  refine' K05.jh KX G hmg (K05.BX _ _ _ _) (K05.BX _ _ _ _) (K05.BX _ _ _ _) (K05.BX _ _ _ _) (K05.BX _ _ _ _) (K05.BX _ _ _ _) (K05.BX _ _ _ _) (K05.BX _ _ _ _) (K05.BX _ _ _ _) (K05.BX _ _ _ _) (K05.BX _ _ _ _) (K05.BX _ _ _ _) (K05.BX _ _ _ _) (K05.BX _ _ _ _) (K05.BX _ _ _ _) (K05.BX _ _ _ _) (K05.BX _ _ _ _) (K05.BX _ _ _ _) (K05.BX _ _ _ _) (K05.BX _ _ _ _) (K05.BX _ _ _ _) (K05.BX _ _ _ _) (K05.BX _ _ _ _) (K05.BX _ _ _ _) (K05.BX _ _ _ _) (K05.BX _ _ _ _) _ _ _ _ _ _ _ _ _ _ _ _ _ _ _ _ _ _ _ _
  all_goals try k_is
  all_goals try k_is
