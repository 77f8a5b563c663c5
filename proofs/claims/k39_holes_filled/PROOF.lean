import PyProof.Rows.All
import Wide.All
import OpenK.AllK
import Wide.FinOn
import Lean
import PyProof.EqAt
import PyProof.EqKinds
import PyProof.TupleCall
import PyProof.SetRoads
import PyProof.Rows.SetFrom
import PyProof.TupleKey
import PyProof.IsRules
import KE.KSetDisp
import PyProof.Rows.TupAdd
import PyProof.Rows.SortStr
import PyProof.Rows.SortWalk
import PyProof.CollectIter
import PyProof.Rows.Tup
import PyProof.TupleOfSeq
import PyProof.DictFindH
import PyProof.Rows.SortShell
import PyProof.ReprRoads
import PyProof.CallStr
import PyProof.SeqRoads2
import KE.KSortTup
import KE.KDictList
import PyProof.IsiH_list
import PyProof.FactsAll.dict_1
import KE.KUnpack
import KE.KDictSum
import PyProof.Rows.CallKwBuiltin
import KE.KEqDict
import PyProof.FactsAll.dict_4
import KE.KTops
import PySem.Challenge.RW_runbound_k39_holes_filled
local macro_rules|`(command|def $i:declId $s:optDeclSig := $v:term)=>`(command|noncomputable def $i $s := $v)
local macro_rules | `(⋯) => `(by first | decide +kernel | omega | (dsimp only; decide +kernel) | walk_at "b" | walk_at "o")
open PySem renaming wpAny_bind → aa,wpAny_pure → af,wpAny_holding → aR,wpAny_newObj_type → aS,wpAny_call_entry → aV,wpAny_callSpecial?_slot → aY,wpAny_setState_of → bB,wpAny_field → bD,wpAny_setField → bI,wpAny_askSetting → bL,wpAny_isInstance → bR,wpAny_truthy_bool → bT,wpAny_seqItems → bV,wpAny_of_eq → bZ,wpAny_attempt → ci,wpAny_rule → ck,wpAny_standAt → cw,wpAny_specialOf → cy,wpAny_setField_rec → cB,wpAny_typeNameOfWhole_keyiter → cE,wpAny_dictEntries → cJ,wpAny_Call_Name_kw → cR,wpAny_mono → cX,wpAny_passesOwn → cY,wpAny_typeNameOf_keyiter → da,wpAny_handled → dy,wpAny_pyIter_list → dz
open List renaming length_map → ac,getElem?_eq_getElem → ae,getElem?_map → aj,mem_append_right → am,mem_of_getElem? → ao,mem_cons → ap,mem_map → ar,not_mem_nil → av,mem_cons_of_mem → ax,mem_cons_self → ay,length_append → aB,map_append → aC,size_toArray → aE,mem_singleton → aF,range → aG,mem_filter → aH,mem_range → aI,map_cons → aK,mem_append → aL,length_take → aM,take_succ → aO,take_length → aQ,map_map → aU,getElem?_eq_some_iff → aW,append_assoc → bc,length_range → bf,getElem?_eq_none → bi,contains_iff_mem → bj,length_filter_le → bn,mem_append_left → bq,any_eq_true → br,length_cons → bv,length_singleton → bx,take_append_drop → bG,getElem?_eq_none_iff → bH,take_of_length_le → bK,filter_cons → bM,getElem_mem → bQ,replicate → bU,ext_getElem? → bW,getElem?_append_right → bX,nodup_cons → cc,getElem?_append_left → ce,pairwise_iff_getElem → cf,zip → cj,length_eq_zero_iff → cn,mem_iff_getElem → cq,pairwise_lt_range → cr,getElem?_range → cv,drop_eq_getElem_cons → cx,eq_nil_iff_forall_not_mem → cA,pairwise_map → cI,filterMap_cons → cK,length → cL,length_nil → cN,map_congr_left → cO,idxOf_lt_length_of_mem → cP,filter_append → cU,getElem?_set_ne → cV,append_nil → cZ,filter_sublist → db,nodup_range → dc,all_eq_true → de,eq_nil_of_length_eq_zero → df,nodup_nil → dg,find?_cons → du,mem_of_mem_drop → dA,mem_of_mem_take → dB,getElem?_of_mem → dC
open PySem.Heap renaming get?_push_of_some → ag,lt_size → aq,get?_push_size → au,get?_update_self → aT,size_push → bu,SameBut → bP,get?_update_other → dh,ExtBut → dr
open Nat renaming le_refl → ah,lt_of_lt_of_le → al,ne_of_lt → az,zero_le → aJ,le_trans → aN,lt_irrefl → bC,lt_succ_of_lt → bE,le_add_right → bF,ne_of_gt → bJ,le_of_lt → bO,not_lt_zero → cg,lt_of_le_of_lt → cm,le_of_lt_succ → cu,lt_succ_self → cC,mul_assoc → cF,add_sub_cancel_left → cG,add_sub_cancel → dj,lt_or_ge → dl,le_succ → dq,lt_trichotomy → dv,mod_eq_of_lt → dD,pow_succ → dF
open Bool renaming and_eq_true → ai,false_ne_true → aD,or_eq_true → aX,false_eq_true → ba,not_eq_true' → bp,eq_iff_iff → cz
open Array renaming length_toList → ak,getElem?_eq_getElem → aA,getElem?_eq_some_iff → bb,toList_append → bo,getElem?_toList → bA,getD_eq_getD_getElem? → bN,mem_toList_iff → bY,size_map → cH,getElem?_eq_none_iff → cQ,toList_reverse → cW,mem_of_getElem? → dm,toList_push → dw,toList_map → dE
open Option renaming map_eq_some_iff → aP
open Int renaming eq_ofNat_of_zero_le → aZ,toNat_natCast → bg,emod_lt_of_pos → di
open Option renaming some → A0,none → A6
open PySem renaming Value → A2,Addr → A4,Shared → A5,Expr → A8,sizeLine → A9,wpAny → AA,SetTable → AB,Program → AC,model → AD,Str → AI,Builtin → AK,World → AL,Heap → AM,Around → AN,Obj.data_mapFields → AO,mainGlobals → AQ,tupleKeyHash → AR,sysModules → AS,Obj → AT,compareOp → AU,NameKind → AW,Scope → AX,starEach → AY,rawInt → AZ,intKind → Aa,cellsFrom → Ab,eval → Ac,codeAny_builtin → Ad,builtinLookup_eq_fast → Af,PyData.str → Ag,Paired.length → Ah,codeAny_mono → Ai,Paired → Aj,comprehension → Ak,assignEach → Al,cLine → Am,firstArgMember → An,Stmt → Ao,binaryOp → Ap,bootBuiltins → Aq,FuncData → Ar,isSubtype_type → As,DictEntry → At,theTreesLotGoes → Au,typeLookup_type → Av
open Bool renaming true → A3,false → A7
open PyProof.Rows renaming wpS_bind → AE,SortSt → AF,Keyed → AG,wpS_pure → AH,pendingOf → AJ,arrOf → AV,failedOf → Ae
set_option genSizeOf false
set_option Elab.async false
set_option compiler.extract_closed false
set_option linter.all false
set_option maxRecDepth 100000
set_option tactic.hygienic false
noncomputable section
namespace L2
open PySem PySem.Spec PyProof.Rows
section
variable{prog:AC}{w:AL}{A:AN}{E:A2->A5->Prop}{s:A5}
theorem FX(s:A5):s.TypeIs .none "NoneType":=rfl
theorem FY{Q:Int->A5->Prop}(h:Q 0xFCA86420 {s with toks:=s.toks+1}):AA (AD prog w) A (pyHash .none) Q E s:=by
 unfold pyHash;have a:[A2.none].any A2.onHeap=A7:=rfl;refine aa ?_;rw[cRoomFor,if_neg (by rw[a];exact aD)];refine af ?_;refine aa (cy (FX s) F.slot_NoneType_hash.lookup ?_);show AA _ _ (if(A0 (A2.builtin "NoneType.__hash__")==A0 A2.none)=A3 then _ else _) Q E s;rw[if_neg (by rw[beq_builtin_none];exact aD)];refine aa (cy (FX s) F.slot_NoneType_hash.lookup ?_);show AA _ _ (callSpecialIfBoundUnlessNone? (.none) "__hash__" _>>=_) Q E s;refine aa (wpAny_callSpecialIfBoundUnlessNone?_slot (FX s) F.slot_NoneType_hash
  (aV F.slot_NoneType_hash (FX s) F.entry_NoneType_hash
   (show AA _ _ (do ret (<-mkInt 0xFCA86420)) _ _ s from wpAny_ret_mkInt ?_) (F.args_NoneType_hash_1 _)));exact af h
end
inductive Key where
 |inl(i:Int)|inr(x:AI)|non
 deriving DecidableEq
def Dz:Key->A2->Bool
 | .inl k,v=>A2.isInt k v
 | .inr x,v=>A2.isStrOf x v
 | .non,.none=>A3
 | .non,_=>A7
def RG(w:AL):Key->Int
 | .inl k=>hashInt k
 | .inr x=>hashStr w x
 | .non=>0xFCA86420
theorem Cw:∀{k:Key}{v:A2},Dz k v=A3->(∃i t,k=Key.inl i/\v=A2.int i t)\/(∃x t,k=Key.inr x/\v=A2.str x t)\/(k=Key.non/\v=A2.none)
 | .inl i,v,h=>by obtain⟨t,e⟩:=A2.isInt_shape (k:=i) (v:=v) h;exact .inl ⟨i,t,rfl,e⟩
 | .inr x,v,h=>by obtain⟨t,e⟩:=A2.isStrOf_shape (x:=x) (v:=v) h;exact .inr (.inl ⟨x,t,rfl,e⟩)
 | .non,v,h=>by cases v<;>first|exact .inr (.inr ⟨rfl,rfl⟩)|cases h
theorem RH(i:Int)(t:Tok):Dz (.inl i) (.int i t)=A3:=by simp[Dz,A2.isInt]
theorem RI(x:AI)(t:Tok):Dz (.inr x) (.str x t)=A3:=by simp[Dz,A2.isStrOf]
theorem RJ(a b:Int):decide ((Key.inl a:Key)=Key.inl b)=(a==b):=by
 by_cases e:a=b;.rw[e,decide_eq_true rfl,beq_self_eq_true]
 .rw[decide_eq_false (λq=>e (Key.inl.inj q)),beq_eq_false_iff_ne.mpr e]
theorem RK(a b:AI):decide ((Key.inr a:Key)=Key.inr b)=decide (a=b):=by
 by_cases e:a=b;.rw[e,decide_eq_true rfl,decide_eq_true rfl]
 .rw[decide_eq_false (λq=>e (Key.inr.inj q)),decide_eq_false e]
theorem D_{a b:Key}(h:a≠b):decide (a=b)=A7:=decide_eq_false h
def BQ(prog:AC)(w:AL):PySem.KeyKind prog w Key where
 is:=Dz
 hash:=RG w
 inj:=λv a b g l=>by
  rcases Cw g with⟨i,t,rfl,rfl⟩|⟨x,t,rfl,rfl⟩|⟨rfl,rfl⟩<;>rcases Cw l with⟨j,u,rfl,e⟩|⟨y,u,rfl,e⟩|⟨rfl,e⟩<;>
   first|rfl|(injection e with f _;rw[f])|exact nomatch e
 byValue:=λk v h=>by rcases Cw h with⟨i,t,rfl,rfl⟩|⟨x,t,rfl,rfl⟩|⟨rfl,rfl⟩<;>rfl
 pyHash:=λd h=>by
  rcases Cw d with⟨i,t,rfl,rfl⟩|⟨x,t,rfl,rfl⟩|⟨rfl,rfl⟩;.exact wpAny_pyHash_int h
  .exact wpAny_pyHash_str h
  .exact FY h
 eqBool:=λ{A E s a b u v Q}hu d h=>by
  rcases Cw hu with⟨i,t,rfl,rfl⟩|⟨x,t,rfl,rfl⟩|⟨rfl,rfl⟩
  .rcases Cw d with⟨j,u,rfl,rfl⟩|⟨y,u,rfl,rfl⟩|⟨rfl,rfl⟩;.rw[RJ]at h;exact wpAny_eqBool_int h
   .rw[D_ (a:=Key.inl i) (b:=Key.inr y) (λq=>nomatch q)]at h;exact SeqAt.EqAt.int_str i t y u _ _ _ _ h
   .rw[D_ (a:=Key.inl i) (b:=Key.non) (λq=>nomatch q)]at h;exact SeqAt.EqAt.int_none i t _ _ _ _ h
  .rcases Cw d with⟨j,u,rfl,rfl⟩|⟨y,u,rfl,rfl⟩|⟨rfl,rfl⟩;.rw[D_ (a:=Key.inr x) (b:=Key.inl j) (λq=>nomatch q)]at h;exact SeqAt.EqAt.str_int x t j u _ _ _ _ h
   .rw[RK]at h;exact wpAny_eqBool_str h
   .rw[D_ (a:=Key.inr x) (b:=Key.non) (λq=>nomatch q)]at h;exact SeqAt.EqAt.str_none x t _ _ _ _ h
  .rcases Cw d with⟨j,u,rfl,rfl⟩|⟨y,u,rfl,rfl⟩|⟨rfl,rfl⟩;.rw[D_ (a:=Key.non) (b:=Key.inl j) (λq=>nomatch q)]at h;exact SeqAt.EqAt.none_int j u _ _ _ _ h
   .rw[D_ (a:=Key.non) (b:=Key.inr y) (λq=>nomatch q)]at h;exact SeqAt.EqAt.none_str y u _ _ _ _ h
   .rw[decide_eq_true rfl]at h;exact SeqAt.EqAt.same .none _ _ _ _ h
 «strs»:=λk x t v h=>by
  rcases Cw h with⟨i,u,rfl,e⟩|⟨y,u,rfl,e⟩|⟨rfl,e⟩;.exact nomatch e
  .injection e with f _;subst f;cases v<;>rfl
  .exact nomatch e
theorem RL(prog:AC)(w:AL)(i:Int)(t:Tok):(BQ prog w).is (.inl i) (.int i t)=A3:=RH i t
theorem RM(prog:AC)(w:AL)(x:AI)(t:Tok):(BQ prog w).is (.inr x) (.str x t)=A3:=RI x t
inductive V where
 |non|bl(b:Bool)|int(i:Int)|str(x:AI)|byt(b:Array UInt8)|flt(b:UInt64)|ref(a:A4)|ty(n:String)
 deriving DecidableEq
def B0:V->A2->Prop
 | .non,u=>u=A2.none
 | .bl b,u=>u=A2.bool b
 | .int i,u=>∃t,u=A2.int i t
 | .str x,u=>∃t,u=A2.str x t
 | .byt b,u=>∃t,u=A2.bytes b t
 | .flt b,u=>∃t,u=A2.float b t
 | .ref a,u=>u=A2.ref a
 | .ty n,u=>u=A2.type n
abbrev B5:List V->List A2->Prop:=Aj B0
theorem B5.length{xs:List V}{a:List A2}(r:B5 xs a):xs.length=a.length:=Ah r
theorem B5.get:∀{a:List V}{b:List A2}{i:Nat}{x:V},B5 a b->a[i]?=A0 x->∃u,b[i]?=A0 u/\B0 x u
 |_,_,_,_,.nil,e=>by simp at e
 |_,_,0,_,.cons r _,e=>by simp at e;subst e;exact⟨_,rfl,r⟩
 |_,_,i+1,x,.cons _ t,e=>by obtain⟨u,f,d⟩:=B5.get (i:=i) (x:=x) t (by simpa using e);exact⟨u,by simpa using f,d⟩
theorem B5.set{x:V}{u:A2}(r:B0 x u):∀{a:List V}{b:List A2}(i:Nat),B5 a b->B5 (a.set i x) (b.set i u)
 |_,_,_,.nil=>.nil
 |_,_,0,.cons _ t=>.cons r t
 |_,_,i+1,.cons q t=>.cons q (B5.set r i t)
theorem B5.append:∀{a e:List V}{d b:List A2},B5 a d->B5 e b->B5 (a++e) (d++b)
 |_,_,_,_,.nil,s=>s
 |_,_,_,_,.cons r t,s=>.cons r (B5.append t s)
def CD:Option V->Option A2->Prop
 |A0 v,A0 u=>B0 v u
 |A6,A6=>True
 |_,_=>False
def KV{a:Type}:List (a×V)->List (a×A2)->Prop:=Aj λ(p:a×V)(q:a×A2)=>p.1=q.1/\B0 p.2 q.2
def kV:Key->V
 | .inl i=>.int i
 | .inr x=>.str x
 | .non=>.non
inductive HO where
 |lst(xs:List V)
 |tup(xs:List V)
 |dK(kvs:List (Key×V))|dT(kvs:List (List Key×V))
 |set(S:Int->Bool)(n:Nat)
 |ins(C dx:A4)(fs:List (AI×V))
 |own(x:A4)
 |xd(fs:List (AI×V))
 |met(f x:A4)
 |rng(lo hi:Int)
 |frz(o:AT)(u:HO)
 |tbl(ps:Array A2)
 |ext(φ:AM->Prop)
abbrev Hp:=A4->Option HO
def upd(H:Hp)(a:A4)(o:HO):Hp:=λb=>if b=a then A0 o else H b
theorem A_{H:Hp}{a:A4}{o:HO}:upd H a o a=A0 o:=by unfold upd;rw[if_pos rfl]
theorem Ay{H:Hp}{a b:A4}{o:HO}(h:b≠a):upd H a o b=H b:=by unfold upd;rw[if_neg h]
theorem Hc{H:Hp}{a:A4}{o u:HO}:upd (upd H a o) a u=upd H a u:=by funext b;unfold upd;split<;>rfl
theorem RN{H:Hp}{a b:A4}{o u:HO}(h:H a=A0 o)(h':H b=A0 u)(d:o≠u):a≠b:=by intro e;subst e;rw[h]at h';exact d (Option.some.inj h')
theorem Bm{H:Hp}{a b:A4}{o:HO}(h:H a=A0 o)(h':H b=A6):a≠b:=by intro e;subst e;rw[h]at h';cases h'
def E2(h:AM)(a:A4)(items:Array A2):Prop:=∃o,h.get? a=A0 o/\o.cls=.type "tuple"/\(∃n,o.data=.seq items n)/\o.dict=A6
theorem E2.tup{h:AM}{a:A4}{items:Array A2}(x:E2 h a items):IsTup h a items:=let⟨o,e,c,⟨n,d⟩,_⟩:=x;⟨o,e,c,n,d⟩
theorem E2.new(h:AM)(items:Array A2):E2 (h.push {cls:=.type "tuple",data:=.seq items}) h.objs.size items:=⟨_,au _ rfl,rfl,⟨_,rfl⟩,rfl⟩
section
variable(P:AC)(w:AL)
def B7(H:Hp)(h:AM)(a:A4):HO->Prop
 | .lst e=>e.length<=A9/\∃(b:List A2)(n:Nat),B5 e b/\h.get? a=A0 {cls:=.type "list",data:=.seq b.toArray n}
 | .tup e=>e.length<=A9/\∃b:List A2,B5 e b/\E2 h a b.toArray
 | .dK d=>d.length<=A9/\(a==AS)=A7/\∃s,KV d s/\h.DictOf (BQ P w) a s
 | .dT d=>d.length<=A9/\(a==AS)=A7/\∃e:List (List Key×A4×A2),
   Aj (λ(p:List Key×V)(q:List Key×A4×A2)=>p.1=q.1/\H q.2.1=A0 (.tup (p.1.map kV))/\B0 p.2 q.2.2) d e/\
   ∃o r B,h.get? a=A0 o/\o.ExactDict/\o.data=.dict r B/\r.toList=e.map (entryOfKey (tupleKind (BQ P w)))/\(e.map (·.1)).Nodup
 | .set S n=>h.SetOf (Aa P w) a S n
 | .ins C i g=>H i=A0 (.own a)/\g.length<=1000/\i≠a/\h.get? a=A0 (W.instObj C i)/\
   ∃mA,h.Ns1 i mA/\(∀f,CD (g.lookup f) (mA f))/\PySem.Within mA (g.map (·.1))
 | .own _=>∃o,h.get? a=A0 o
 | .xd g=>∃mA,h.Ns1 a mA/\∀f,CD (g.lookup f) (mA f)
 | .rng y A=>∃t u v,h.get? a=A0 {cls:=.type "range",data:=.fields #[.int y t,.int A u,.int 1 v]}
 | .frz o u=>h.get? a=A0 o/\B7 H h a u
 | .tbl D=>h.get? a=A0 {cls:=.none,data:=.fields D}
 | .met f x=>h.get? a=A0 (W.methodObj (.ref f) (.ref x))
 | .ext j=>j h/\(∃o,h.get? a=A0 o)/\∀m l:AM,j m->(∀o,m.get? a=A0 o->l.get? a=A0 o)->j l
def HOk(H:Hp)(h:AM):Prop:=∀a o,H a=A0 o->B7 P w H h a o
end
section
variable{P:AC}{w:AL}{H H':Hp}{h h':AM}{a:A4}{o:HO}
theorem B7.lt(x:B7 P w H h a o):a<h.objs.size:=by
 cases o with
 |lst g=>obtain⟨_,_,_,_,e⟩:=x;exact aq e
 |tup g=>obtain⟨_,_,_,p⟩:=x;exact p.tup.lt
 |dK b=>obtain⟨_,_,_,_,o,_,_,e,_⟩:=x;exact aq e
 |dT b=>obtain⟨_,_,_,_,o,_,_,e,_⟩:=x;exact aq e
 |set S n=>obtain⟨o,_,_,_,e,_⟩:=x;exact aq e
 |ins C i d=>obtain⟨_,_,_,e,_⟩:=x;exact aq e
 |own y=>obtain⟨_,e⟩:=x;exact aq e
 |xd d=>obtain⟨_,⟨_,_,_,e,_⟩,_⟩:=x;exact aq e
 |rng j l=>obtain⟨_,_,_,e⟩:=x;exact aq e
 |frz r u=>obtain⟨e,_⟩:=x;exact aq e
 |tbl m=>exact aq (show h.get? a=A0 _ from x)
 |met f y=>exact aq (show h.get? a=A0 _ from x)
 |ext q=>obtain⟨_,⟨_,e⟩,_⟩:=x;exact aq e
theorem Paired.mapP{i g:Type}{F G:i->g->Prop}:∀{d:List i}{e:List g},Aj F d e->(∀a b,F a b->G a b)->Aj G d e
 |_,_,.nil,_=>.nil
 |_,_,.cons r t,f=>.cons (f _ _ r) (Paired.mapP t f)
theorem B7.stay(x:B7 P w H h a o)(k:∀b u,(b=a\/H b=A0 (.own a))->h.get? b=A0 u->h'.get? b=A0 u)
  (G:∀b,H b=A0 (.own a)->H' b=A0 (.own a))(J:∀b m,H b=A0 (.tup m)->H' b=A0 (.tup m)):B7 P w H' h' a o:=by
 induction o with
 |lst m=>obtain⟨z,l,n,r,e⟩:=x;exact⟨z,l,n,r,k _ _ (.inl rfl) e⟩
 |tup m=>obtain⟨z,l,r,g,e,c⟩:=x;exact⟨z,l,r,g,k _ _ (.inl rfl) e,c⟩
 |dK A=>obtain⟨z,y,M,r,g,j,i,e,c⟩:=x;exact⟨z,y,M,r,g,j,i,k _ _ (.inl rfl) e,c⟩
 |dT A=>obtain⟨z,y,m,r,g,j,i,e,c⟩:=x;exact⟨z,y,m,Paired.mapP r λp q z=>⟨z.1,J _ _ z.2.1,z.2.2⟩,g,j,i,k _ _ (.inl rfl) e,c⟩
 |set S n=>obtain⟨g,j,i,t,e,c⟩:=x;exact⟨g,j,i,t,k _ _ (.inl rfl) e,c⟩
 |ins C N E=>obtain⟨d,z,I,e,mA,⟨s,j,i,L,c⟩,r⟩:=x;exact⟨G _ d,z,I,k _ _ (.inl rfl) e,mA,⟨s,j,i,k _ _ (.inr d) L,c⟩,r⟩
 |own y=>obtain⟨g,e⟩:=x;exact⟨g,k _ _ (.inl rfl) e⟩
 |xd E=>obtain⟨mA,⟨s,j,i,e,c⟩,r⟩:=x;exact⟨mA,⟨s,j,i,k _ _ (.inl rfl) e,c⟩,r⟩
 |rng O Q=>obtain⟨t,u,v,e⟩:=x;exact⟨t,u,v,k _ _ (.inl rfl) e⟩
 |frz g u K=>obtain⟨e,q⟩:=x;exact⟨k _ _ (.inl rfl) e,K q⟩
 |tbl D=>have e:h.get? a=A0 {cls:=.none,data:=.fields D}:=x;show h'.get? a=A0 {cls:=.none,data:=.fields D};exact k a _ (.inl rfl) e
 |met f y=>have e:h.get? a=A0 (W.methodObj (.ref f) (.ref y)):=x;show h'.get? a=A0 (W.methodObj (.ref f) (.ref y));exact k a _ (.inl rfl) e
 |ext R=>obtain⟨p,⟨o,e⟩,B⟩:=x;exact⟨B _ _ p λo q=>k _ _ (.inl rfl) q,⟨o,k _ _ (.inl rfl) e⟩,B⟩
theorem HOk.lt(x:HOk P w H h)(e:H a=A0 o):a<h.objs.size:=(x a o e).lt
theorem HOk.fresh(x:HOk P w H h)(e:h.objs.size<=a):H a=A6:=by
 cases q:H a with
 |none=>rfl
 |some u=>exact absurd (al (x.lt q) e) (bC _)
theorem HOk.kept(x:HOk P w H h)(k:∀b u,h.get? b=A0 u->h'.get? b=A0 u):HOk P w H h':=λa o e=>
 (x a o e).stay (λb u _ q=>k b u q) (λ_ q=>q) λ_ _ q=>q
theorem HOk.laid(x:HOk P w H h)(k:∀b u,h.get? b=A0 u->h'.get? b=A0 u)(i:h.objs.size<=a)(d:B7 P w (upd H a o) h' a o):HOk P w (upd H a o) h':=λb u e=>by
 have g:=x.fresh i;by_cases f:b=a;.subst f;rw[A_]at e;cases e;exact d
 .rw[Ay f]at e;exact(x b u e).stay (λc v _ q=>k c v q) (λc q=>by rw[Ay (Bm q g)];exact q) λc j q=>by rw[Ay (Bm q g)];exact q
end
def Rd(H:Hp)(a:A4)(u:HO):Prop:=H a=A0 u\/∃o,H a=A0 (.frz o u)
theorem Rd.ok{P:AC}{w:AL}{H:Hp}{h:AM}{a:A4}{u:HO}(r:Rd H a u)(x:HOk P w H h):B7 P w H h a u:=by
 rcases r with r|⟨o,r⟩;.exact x a u r
 .obtain⟨_,q⟩:=x a _ r;exact q
def Mut:Option HO->Prop
 |A0 (.lst _)=>True
 |A0 (.dK _)=>True
 |A0 (.dT _)=>True
 |A0 (.set _ _)=>True
 |A0 (.ins _ _ _)=>True
 |A0 (.ext _)=>True
 |_=>False
section
variable{P:AC}{w:AL}{H:Hp}{h h':AM}{x e:A4}{o':HO}
theorem HOk.write(ok:HOk P w H h)(j:Mut (H x))(p:e=x\/H e=A0 (.own x))(k:∀b u,b≠e->h.get? b=A0 u->h'.get? b=A0 u)(m:∃u,h'.get? e=A0 u)
  (n:B7 P w (upd H x o') h' x o'):HOk P w (upd H x o') h':=λb u q=>by
 have d:∀c y,H c=A0 (.own y)->c≠x:=λc y r z=>by subst z;rw[r]at j;exact j
 have f:∀c l,H c=A0 (.tup l)->c≠x:=λc l r z=>by subst z;rw[r]at j;exact j
 by_cases i:b=x;.subst i;rw[A_]at q;cases q;exact n
 .rw[Ay i]at q;by_cases a:b=e
  .have o:H b=A0 (.own x):=by
    rcases p with z|z;.exact absurd (a.trans z) i
    .rw[a];exact z
   rw[q]at o;cases o;obtain⟨v,s⟩:=m;exact⟨v,by rw[a];exact s⟩
  .refine(ok b u q).stay (λc v g r=>k c v ?_ r) (λc r=>by rw[Ay (d c b r)];exact r) λc l r=>by rw[Ay (f c l r)];exact r
   rcases g with rfl|g;.exact a
   .rintro rfl;rcases p with z|z;.exact d c b g z
    .rw[g]at z;cases z;exact i rfl
end
structure Un(fs ex:List A4)(H H':Hp)(h h':AM):Prop where
 keep:∀b o,h.get? b=A0 o->H b=A6->b∉fs->b∉ex->h'.get? b=A0 o
 slot:∀b o,h.get? b=A0 o->H b=A6->b∈fs->b∉ex->∃sl,h'.get? b=A0 {o with slots:=sl}
 free:∀b o,h.get? b=A0 o->H b=A6->b∉ex->H' b=A6
 there:∀b o,h.get? b=A0 o->b∉ex->∃o',h'.get? b=A0 o'
 tups:∀b xs,H b=A0 (.tup xs)->H' b=A0 (.tup xs)
 frzs:∀b o u,H b=A0 (.frz o u)->H' b=A0 (.frz o u)
 tbls:∀b ps,H b=A0 (.tbl ps)->∃more,H' b=A0 (.tbl (ps++more))
section
variable{fs fs' ex ex':List A4}{H H1 H2:Hp}{h h1 h2 h':AM}{a x e:A4}{o:HO}
theorem Un.any(u:Un fs ex H H1 h h1){b:A4}{d:AT}(q:h.get? b=A0 d)(n:H b=A6)(g:b∉ex):∃i,h1.get? b=A0 {d with slots:=i}:=by
 by_cases f:b∈fs;.exact u.slot b d q n f g
 .exact⟨d.slots,u.keep b d q n f g⟩
theorem Un.kept(k:∀b u,h.get? b=A0 u->h'.get? b=A0 u):Un fs ex H H h h':=
 ⟨λb d q _ _ _=>k b d q,λb d q _ _ _=>⟨d.slots,k b d q⟩,λ_ _ _ n _=>n,λb d q _=>⟨d,k b d q⟩,λ_ _ q=>q,λ_ _ _ q=>q,λ_ f q=>⟨#[],by rw[q];simp⟩⟩
theorem Un.refl:Un fs ex H H h h:=Un.kept λ_ _ q=>q
theorem Un.laid(k:∀b u,h.get? b=A0 u->h'.get? b=A0 u)(f:h.objs.size<=a)(d:H a=A6):Un fs ex H (upd H a o) h h' where
 keep:=λb u q _ _ _=>k b u q
 slot:=λb u q _ _ _=>⟨u.slots,k b u q⟩
 free:=λb u q n _=>by rw[Ay (az (al (aq q) f))];exact n
 there:=λb u q _=>⟨u,k b u q⟩
 tups:=λb g q=>by rw[Ay (Bm q d)];exact q
 frzs:=λb u g q=>by rw[Ay (Bm q d)];exact q
 tbls:=λb i q=>⟨#[],by rw[Ay (Bm q d),q];simp⟩
theorem Un.write(f:Mut (H x))(m:e=x\/H e=A0 (.own x))(k:∀b u,b≠e->h.get? b=A0 u->h'.get? b=A0 u)(g:∃u,h'.get? e=A0 u):Un fs ex H (upd H x o) h h':=by
 have l:∀b,H b=A6->b≠x:=λb n z=>by subst z;rw[n]at f;exact f
 have j:∀b,H b=A6->b≠e:=λb n z=>by
  subst z;rcases m with r|r;.exact l b n r
  .rw[n]at r;cases r
 have i:∀b u,H b=A0 u->¬Mut (A0 u)->b≠x:=λb u q s z=>by subst z;rw[q]at f;exact s f
 refine⟨λb u q n _ _=>k b u (j b n) q,λb u q n _ _=>⟨u.slots,k b u (j b n) q⟩,λb u q n _=>by rw[Ay (l b n)];exact n,λb u q _=>?_,
  λb p q=>by rw[Ay (i b _ q λz=>z)];exact q,λb u p q=>by rw[Ay (i b _ q λz=>z)];exact q,λb t q=>⟨#[],by rw[Ay (i b _ q λz=>z),q];simp⟩⟩;by_cases d:b=e;.subst d;exact g
 .exact⟨u,k b u d q⟩
end
def trk(h:AM)(H:Hp):List A4:=(aG h.objs.size).filter λa=>(H a).isSome
def Cy(h:AM)(H:Hp):AM:=W.hideAll h (trk h H)
theorem RO(h:AM)(H:Hp):(Cy h H).objs.size=h.objs.size:=W.hideAll_size _ _
theorem RP{h:AM}{H:Hp}{b:A4}{o:AT}(e:h.get? b=A0 o)(n:H b=A6):(Cy h H).get? b=A0 o:=
 W.hideAll_get _ e λa=>by have q:(H b).isSome=A3:=(aH.mp a).2;rw[n]at q;simp at q
theorem RQ{h:AM}{H:Hp}{b:A4}{o:AT}(e:(Cy h H).get? b=A0 o):h.get? b=A0 o/\H b=A6:=by
 have a:h.get? b=A0 o:=W.of_hideAll (trk h H) e;refine⟨a,?_⟩;cases q:H b with
 |none=>rfl
 |some x=>have d:b∈trk h H:=aH.mpr ⟨aI.mpr (aq a),by simp[q]⟩;have z:(Cy h H).get? b=A6:=W.hideAll_none (trk h H) d;rw[z]at e;cases e
def RR(g h:AM)(L:A4):List (A4×AT):=(aG h.objs.size).filterMap λa=>if a=L\/(g.get? a).isSome=A3 then A6 else(h.get? a).map λo=>(a,o)
def Aw(g h:AM)(L d:A4):List (A4×AT):=(RR g h L).filter λp=>decide (p.1≠d)
structure Mod(K:W.Frag)(mg:AI->Option A2)(base:AM):Prop where
 kin:K.In base
 glob:base.Ns AQ mg
 blt:∃mb,base.Ns builtinsNs mb/\∀x:AI,x≠"__name__"->mb x=Aq x
 nolimit:base.NoLimit
set_option genInjectivity false
structure Cx where
 prog:AC
 w:AL
 K:W.Frag
 mg:AI->Option A2
 base:AM
 A:AN
 N:List AI
 s₀:A5
 H₀:Hp
 env:Env
 outer:List Env
 stack:List Env
 ex:List A4
 fn:AI->Bool
 calm:Bool
 pn:List (A4×AT)
 xe:A2->A5->Prop
set_option genInjectivity true
def frs(l:List Env):List A4:=l.filterMap (·.frame)
abbrev Cx.fs(X:Cx):List A4:=frs X.outer
def Vis(sc:AX)(x:AI):Prop:=sc.names.lookup x=A0 .local\/sc.names.lookup x=A0 .cell\/sc.names.lookup x=A0 .free
def Loc(sc:AX)(x:AI):Prop:=sc.names.lookup x=A0 .local\/sc.names.lookup x=A0 .cell
def RS(env:Env)(h:AM)(m:AI->Option A2)(x:AI)(u:A2):Prop:=
 (env.kindOf x=A0 .local/\m x=A0 u)\/((env.kindOf x=A0 .cell\/env.kindOf x=A0 .free)/\∃c,env.cells.lookup x=A0 c/\h.IsCell c (A0 u))
structure Cx.Ok(X:Cx):Prop where
 mod:Mod X.K X.mg X.base
 kind:X.env.scope.kind=.function
 glob:X.env.globals=AQ
 blt:X.env.builtins=builtinsNs
 above:X.s₀.heap.objs.size<=X.env.locals
 inj:∀x y c,X.env.cells.lookup x=A0 c->X.env.cells.lookup y=A0 c->x=y
 has:∀x,(X.env.kindOf x=A0 .cell\/X.env.kindOf x=A0 .free)->∃c,X.env.cells.lookup x=A0 c
 cab:∀x c,X.fn x=A3->X.env.cells.lookup x=A0 c->X.s₀.heap.objs.size<=c
 hd:X.calm=A3->X.A.handled=A6
 frames:X.A.frames=A0 X.stack
 stk:X.stack=X.outer\/(X.stack=X.env::X.outer/\X.env.frame=A0 X.env.locals)
 exf:∀b∈X.ex,b≠X.env.locals/\∀x c,X.env.cells.lookup x=A0 c->c≠b
 bs:∀b o,X.base.get? b=A0 o->X.s₀.heap.get? b=A0 o/\X.H₀ b=A6
 bsz:X.base.objs.size<=X.s₀.heap.objs.size
 noex:∀b o,X.base.get? b=A0 o->b∉X.ex
 exfs:∀b∈X.ex,b∉X.fs
 funs:X.s₀.heap.FunFrames X.base X.outer
 frf:∀b∈X.fs,X.H₀ b=A6
structure Inv(X:Cx)(p_:List (A4×AT))(σ:List (Option V))(H:Hp)(s:A5):Prop where
 ok:X.Ok
 os:s.os=X.s₀.os
 bare:AllBare s.gens
 base:Un X.fs X.ex X.H₀ H X.s₀.heap s.heap
 loc:∃m,s.heap.Ns X.env.locals m/\∀(i:Nat)(x:AI)(v:V),X.N[i]?=A0 x->σ[i]?=A0 (A0 v)->Vis X.env.scope x->∃u,B0 v u/\RS X.env s.heap m x u
 cell:∀x c,X.env.cells.lookup x=A0 c->∃v,s.heap.IsCell c v
 free:H X.env.locals=A6
 freeC:∀x c,X.env.cells.lookup x=A0 c->H c=A6
 pin:∀p∈X.pn++p_,s.heap.get? p.1=A0 p.2/\H p.1=A6/\p.1≠X.env.locals/\p.1∉X.fs/\∀v,p.2.data≠.cell v
 hok:HOk X.prog X.w H s.heap
 len:σ.length=X.N.length
section
variable{X:Cx}{p_:List (A4×AT)}{σ:List (Option V)}{H H':Hp}{s:A5}{h':AM}
theorem Cx.Ok.nofr(ok:X.Ok){b:A4}{o:AT}(e:X.base.get? b=A0 o):b∉X.fs:=λa=>by have:=(ok.funs.mem a).1;rw[e]at this;cases this
theorem Inv.bs(I:Inv X p_ σ H s):∀b o,X.base.get? b=A0 o->s.heap.get? b=A0 o/\H b=A6:=λb o e=>
 ⟨I.base.keep b o (I.ok.bs b o e).1 (I.ok.bs b o e).2 (I.ok.nofr e) (I.ok.noex b o e),I.base.free b o (I.ok.bs b o e).1 (I.ok.bs b o e).2 (I.ok.noex b o e)⟩
theorem Inv.bk(I:Inv X p_ σ H s):∀b o,X.base.get? b=A0 o->s.heap.get? b=A0 o:=λb o e=>(I.bs b o e).1
theorem Inv.mod(I:Inv X p_ σ H s):Mod X.K X.mg X.base:=I.ok.mod
theorem Inv.kIn(I:Inv X p_ σ H s):X.K.In s.heap:=I.ok.mod.kin.keeps I.bk
theorem Inv.fr(I:Inv X p_ σ H s):∃m,Fr X.base X.env.locals s.heap m:=
 let⟨m,a,_⟩:=I.loc
 ⟨m,a,I.bk,aN I.ok.bsz I.ok.above⟩
theorem Inv.lt(I:Inv X p_ σ H s):X.env.locals<s.heap.objs.size:=let⟨_,a,_⟩:=I.loc;a.lt
theorem Inv.sz(I:Inv X p_ σ H s):X.s₀.heap.objs.size<=s.heap.objs.size:=aN I.ok.above (bO I.lt)
theorem Inv.nofs(I:Inv X p_ σ H s){a:A4}(h:s.heap.objs.size<=a):a∉X.fs:=λb=>by obtain⟨_,o,d,_⟩:=I.ok.funs.mem b;exact absurd (al (aq d) (aN I.sz h)) (bC _)
theorem Inv.cne(I:Inv X p_ σ H s):∀x c,X.env.cells.lookup x=A0 c->c≠X.env.locals:=λx c e z=>by obtain⟨v,o,f,d⟩:=I.cell x c e;obtain⟨m,⟨i,h,g,a,b,_⟩,_⟩:=I.loc;rw[z,a]at f;cases f;rw[b]at d;cases d
theorem Inv.funs(I:Inv X p_ σ H s):s.heap.FunFrames X.base X.outer:=by
 have f:∀(l:List Env),(∀b∈frs l,b∈X.fs)->X.s₀.heap.FunFrames X.base l->s.heap.FunFrames X.base l:=by
  intro l;induction l with
  |nil=>intro _ _;trivial
  |cons v r q=>intro h t;obtain⟨j,⟨L,o,a,i,m,p⟩,n⟩:=t;have g:L∈X.fs:=h L (by unfold frs;rw[cK,a];exact ay);obtain⟨w,e⟩:=I.base.slot L o m (I.ok.frf L g) g λz=>I.ok.exfs L z g;exact⟨j,⟨L,_,a,i,e,p⟩,q (λb d=>h b (by unfold frs;rw[cK,a];exact ax _ d)) n⟩
 exact f X.outer (λ_ d=>d) I.ok.funs
theorem Inv.stack(I:Inv X p_ σ H s):s.heap.FunFrames X.base X.stack:=by
 rcases I.ok.stk with e|⟨e,a⟩;.rw[e];exact I.funs
 .rw[e];obtain⟨m,b,_⟩:=I.loc;refine .cons (by rw[I.ok.kind];decide) a b ?_ I.funs;exact AM.get?_none_of_le (aN I.ok.bsz I.ok.above)
theorem Inv.stkSub(I:Inv X p_ σ H s):∀b∈frs X.stack,b∈X.env.locals::X.fs:=λb a=>by
 rcases I.ok.stk with e|⟨e,d⟩;.rw[e]at a;exact ax _ a
 .rw[e]at a;unfold frs at a;rw[cK,d]at a;exact a
theorem Inv.stkFree(I:Inv X p_ σ H s):∀b∈frs X.stack,H b=A6:=λb a=>by
 rcases ap.mp (I.stkSub b a)with e|a;.rw[e];exact I.free
 .obtain⟨_,o,d,_⟩:=I.ok.funs.mem a;exact I.base.free b o d (I.ok.frf b a) λz=>I.ok.exfs b z a
theorem Inv.step{g':Array GenState}{t':Nat}{d':Drawn}{ch:List A4}(I:Inv X p_ σ H s)
  (h:∀b∈ch,(b∈X.ex\/X.s₀.heap.objs.size<=b)/\b≠X.env.locals/\(∀x c,X.env.cells.lookup x=A0 c->c≠b)/\∀p∈X.pn++p_,p.1≠b)
  (keep:∀b o,b≠X.env.locals->b∉X.fs->b∉ch->s.heap.get? b=A0 o->H b=A6->h'.get? b=A0 o)
  (slot:∀b o,b≠X.env.locals->b∈X.fs->b∉ch->s.heap.get? b=A0 o->H b=A6->∃L,h'.get? b=A0 {o with slots:=L})(free:∀b o,b∉ch->s.heap.get? b=A0 o->H b=A6->H' b=A6)
  (there:∀b o,b∉ch->s.heap.get? b=A0 o->∃D,h'.get? b=A0 D)
  (tups:∀b y,H b=A0 (.tup y)->H' b=A0 (.tup y))(frzs:∀b o u,H b=A0 (.frz o u)->H' b=A0 (.frz o u))(tbls:∀b G,H b=A0 (.tbl G)->∃more,H' b=A0 (.tbl (G++more)))
  (ns:∀m,s.heap.Ns X.env.locals m->h'.Ns X.env.locals m)(M:HOk X.prog X.w H' h')(Z:AllBare g'):
  Inv X p_ σ H' {s with heap:=h',gens:=g',drawn:=d',toks:=t'}:=by
 have C:∀b o,X.s₀.heap.get? b=A0 o->b≠X.env.locals:=λb o e=>az (al (aq e) I.ok.above);have t:∀b o,X.s₀.heap.get? b=A0 o->b∉X.ex->b∉ch:=λb o e a A=>by
  rcases(h b A).1 with z|z;.exact a z
  .exact absurd (al (aq e) z) (bC _)
 have f:∀x c,X.env.cells.lookup x=A0 c->∀v,s.heap.IsCell c v->h'.IsCell c v:=λx c e v⟨o,B,J⟩=>by
  have g:c∉ch:=λz=>(h c z).2.2.1 x c e rfl;by_cases N:c∈X.fs;.obtain⟨L,q⟩:=slot c o (I.cne x c e) N g B (I.freeC x c e);exact⟨_,q,J⟩
  .exact⟨o,keep c o (I.cne x c e) N g B (I.freeC x c e),J⟩
 refine⟨I.ok,I.os,Z,⟨λb o e n A a=>?_,λb o e n A a=>?_,λb o e n a=>?_,λb o e a=>?_,λb y e=>tups b y (I.base.tups b y e),λb o y e=>frzs b o y (I.base.frzs b o y e),λb G e=>?_⟩,?_,λx c e=>?_,?_,λx c e=>?_,λp O=>?_,M,I.len⟩;.exact keep b o (C b o e) A (t b o e a) (I.base.keep b o e n A a) (I.base.free b o e n a)
 .obtain⟨L,j⟩:=I.base.slot b o e n A a;obtain⟨K,E⟩:=slot b _ (C b o e) A (t b o e a) j (I.base.free b o e n a);exact⟨K,E⟩
 .obtain⟨D,j⟩:=I.base.there b o e a;exact free b D (t b o e a) j (I.base.free b o e n a)
 .obtain⟨D,j⟩:=I.base.there b o e a;exact there b D (t b o e a) j
 .obtain⟨T,j⟩:=I.base.tbls b G e;obtain⟨U,E⟩:=tbls b _ j;exact⟨T++U,by rw[E,Array.append_assoc]⟩
 .obtain⟨m,R,Y⟩:=I.loc;refine⟨m,ns m R,λi x v j E S=>?_⟩;obtain⟨u,r,l⟩:=Y i x v j E S;refine⟨u,r,?_⟩;rcases l with l|⟨k,c,e,z⟩;.exact .inl l
  .exact .inr ⟨k,c,e,f x c e _ z⟩
 .obtain⟨v,z⟩:=I.cell x c e;exact⟨v,f x c e v z⟩
 .obtain⟨m,⟨o,_,_,B,_⟩,_⟩:=I.loc;exact free _ o (λz=>(h _ z).2.1 rfl) B I.free
 .obtain⟨v,o,B,J⟩:=I.cell x c e;exact free c o (λz=>(h c z).2.2.1 x c e rfl) B (I.freeC x c e)
 .obtain⟨e,n,P,Q,d⟩:=I.pin p O;have g:p.1∉ch:=λz=>(h p.1 z).2.2.2 p O rfl;exact⟨keep p.1 p.2 P Q g e n,free p.1 p.2 g e n,P,Q,d⟩
theorem Inv.un{t':Nat}(I:Inv X p_ σ H s)(u:Un X.fs [] H H' s.heap h')(h:HOk X.prog X.w H' h'):Inv X p_ σ H' {s with heap:=h',toks:=t'}:=by obtain⟨m,⟨o,v,t,i,r⟩,_⟩:=id I.loc;obtain⟨x,p⟩:=u.any i I.free (by simp);exact I.step (g':=s.gens) (d':=s.drawn) (ch:=[]) (λ_ z=>nomatch z) (λb o _ f _ e n=>u.keep b o e n f (by simp)) (λb o _ f _ e n=>u.slot b o e n f (by simp)) (λb o _ e n=>u.free b o e n (by simp)) (λb o _ e=>u.there b o e (by simp)) u.tups u.frzs u.tbls (λq l=>by obtain⟨y,d,g,a,j⟩:=l;rw[i]at a;cases a;exact⟨_,d,g,p,j⟩) h I.bare
theorem Inv.call{g':Array GenState}{t':Nat}{d':Drawn}{ch:List A4}(I:Inv X p_ σ H s)(u:Un (frs X.stack) ch H H' s.heap h')(j:HOk X.prog X.w H' h')(y:AllBare g')
  (f:∀b∈ch,(b∈X.ex\/X.s₀.heap.objs.size<=b)/\b≠X.env.locals/\(∀x c,X.env.cells.lookup x=A0 c->c≠b)/\∀p∈X.pn++p_,p.1≠b):
  Inv X p_ σ H' {s with heap:=h',gens:=g',drawn:=d',toks:=t'}:=by obtain⟨m,⟨o,C,B,l,r⟩,_⟩:=id I.loc;obtain⟨D,i⟩:=u.any l I.free λz=>(f _ z).2.1 rfl;exact I.step (ch:=ch) f (λb o i t a e n=>u.keep b o e n (λz=>(ap.mp (I.stkSub b z)).elim i t) a) (λb o _ _ a e n=>u.any e n a) (λb o a e n=>u.free b o e n a) (λb o a e=>u.there b o e a) u.tups u.frzs u.tbls (λA v=>by obtain⟨E,g,h,d,q⟩:=v;rw[l]at d;cases d;exact⟨_,g,h,i,q⟩) j y
theorem Inv.turned{t':Nat}{it:A4}(I:Inv X p_ σ H s)(k:∀b o,b≠it->s.heap.get? b=A0 o->h'.get? b=A0 o)(g:H it=A6)(f:it≠X.env.locals)
  (h1:it∈X.ex\/X.s₀.heap.objs.size<=it)(j:∀x c,X.env.cells.lookup x=A0 c->c≠it)(w:∀p∈X.pn++p_,p.1≠it):Inv X p_ σ H {s with heap:=h',toks:=t'}:=by
 have d:∀b u,H b=A0 u->b≠it:=λb u e z=>by rw[z,g]at e;cases e
 refine I.step (g':=s.gens) (d':=s.drawn) (ch:=[it]) (λb h=>?_) (λb o _ _ a e _=>k b o (λz=>a (by simp[z])) e) (λb o _ _ a e _=>⟨o.slots,k b o (λz=>a (by simp[z])) e⟩) (λ_ _ _ _ n=>n)
  (λb o a e=>⟨o,k b o (λz=>a (by simp[z])) e⟩) (λ_ _ e=>e) (λ_ _ _ e=>e) (λb A e=>⟨#[],by rw[e];simp⟩) (λm t=>?_) (λb u e=>?_) I.bare
 .have e:b=it:=by simpa using h
  subst e;exact⟨h1,f,j,w⟩
 .obtain⟨o,y,l,i,r⟩:=t;exact⟨o,y,l,k _ o (Ne.symm f) i,r⟩
 .refine(I.hok b u e).stay (λc v a q=>k c v ?_ q) (λ_ q=>q) λ_ _ q=>q;rcases a with z|z;.rw[z];exact d b u e
  .exact d c _ z
theorem Inv.tok(I:Inv X p_ σ H s)(t:Nat):Inv X p_ σ H {s with toks:=t}:=I.un (h':=s.heap) (t':=t) Un.refl I.hok
theorem Inv.kept{t':Nat}(I:Inv X p_ σ H s)(k:∀b u,s.heap.get? b=A0 u->h'.get? b=A0 u):Inv X p_ σ H {s with heap:=h',toks:=t'}:=I.un (Un.kept k) (I.hok.kept k)
theorem Inv.laid{a:A4}{o:HO}{t':Nat}(I:Inv X p_ σ H s)(k:∀b u,s.heap.get? b=A0 u->h'.get? b=A0 u)(d:s.heap.objs.size<=a)(e:B7 X.prog X.w (upd H a o) h' a o):
  Inv X p_ σ (upd H a o) {s with heap:=h',toks:=t'}:=I.un (Un.laid k d (I.hok.fresh d)) (I.hok.laid k d e)
theorem Inv.write{x e:A4}{o:HO}{t':Nat}(I:Inv X p_ σ H s)(f:Mut (H x))(g:e=x\/H e=A0 (.own x))(k:∀b u,b≠e->s.heap.get? b=A0 u->h'.get? b=A0 u)(a:∃u,h'.get? e=A0 u)
  (d:B7 X.prog X.w (upd H x o) h' x o):Inv X p_ σ (upd H x o) {s with heap:=h',toks:=t'}:=I.un (Un.write f g k a) (I.hok.write f g k a d)
theorem Inv.weak{a:List (Option V)}(I:Inv X p_ σ H s)(f:a.length=σ.length)(w:∀(i:Nat)v,a[i]?=A0 (A0 v)->σ[i]?=A0 (A0 v)):Inv X p_ a H s:=
 ⟨I.ok,I.os,I.bare,I.base,let⟨m,g,b⟩:=I.loc;⟨m,g,λi x v d e h=>b i x v d (w i v e) h⟩,I.cell,I.free,I.freeC,I.pin,I.hok,f.trans I.len⟩
theorem Inv.pins_of{a:List (A4×AT)}(I:Inv X p_ σ H s)(h:∀p∈a,s.heap.get? p.1=A0 p.2/\H p.1=A6/\p.1≠X.env.locals/\p.1∉X.fs/\∀v,p.2.data≠.cell v):Inv X a σ H s:=
 ⟨I.ok,I.os,I.bare,I.base,I.loc,I.cell,I.free,I.freeC,λp b=>(aL.mp b).elim (λz=>I.pin p (bq _ z)) (h p),I.hok,I.len⟩
theorem Kh{N:List AI}(f:N.Nodup){i j:Nat}{x:AI}(a:N[i]?=A0 x)(b:N[j]?=A0 x):i=j:=by obtain⟨h,d⟩:=aW.mp a;obtain⟨g,e⟩:=aW.mp b;exact(List.getElem_inj f).mp (d.trans e.symm)
theorem Hd{M:Model}{A:AN}{E:A2->A5->Prop}{i:Nat}{x:AI}{v:V}{u:A2}{Q:Unit->A5->Prop}(I:Inv X p_ σ H s)(hN:X.N.Nodup)(hi:X.N[i]?=A0 x)(B:Loc X.env.scope x)(r:B0 v u)
  (h:∀s',Inv X p_ (σ.set i (A0 v)) H s'->(∃a,bP a s.heap s'.heap/\(a=X.env.locals\/X.env.cells.lookup x=A0 a))->Q () s')(hf:X.fn x=A3\/X.env.scope.names.lookup x=A0 .local:=by first|exact .inl rfl|exact .inr rfl|assumption):AA M A (storeName X.env x u) Q E s:=by
 obtain⟨m,hn,hl⟩:=id I.loc;have P:(X.env.scope.kind== .class||(X.env.scope.kind== .module&&X.env.locals !=X.env.globals))=A7:=by rw[I.ok.kind];rfl
 have J:i<σ.length:=by rw[I.len];exact(aW.mp hi).1
 have cne:=I.cne;have l:∀{a:A4}{h':AM},(∃o,s.heap.get? a=A0 o/\H a=A6)->bP a s.heap h'->HOk X.prog X.w H h':=λ{a h'}ha f b ob e=>by
  obtain⟨_,_,C⟩:=ha;refine(I.hok b ob e).stay (λc Z t q=>(f.2 c ?_).trans q) (λ_ q=>q) λ_ _ q=>q;rintro rfl;rcases t with rfl|t;.rw[C]at e;cases e
  .rw[C]at t;cases t
 rcases B with G|G
 .refine wpAny_storeName_local G hn (λh' a0 f=>?_) P;obtain⟨oL,_,_,a1,_⟩:=id hn;refine h _ ⟨I.ok,I.os,I.bare,⟨λb o e n K B=>?_,λb o e n K B=>?_,I.base.free,λb o e B=>?_,I.base.tups,I.base.frzs,I.base.tbls⟩,⟨_,a0,λj y v' g D e3=>?_⟩,λy c e=>?_,I.free,I.freeC,λp hp=>?_,l ⟨oL,a1,I.free⟩ f,by simpa using I.len⟩ ⟨_,f,.inl rfl⟩;.exact(f.2 b (az (al (aq e) I.ok.above))).trans (I.base.keep b o e n K B)
  .obtain⟨sl,g⟩:=I.base.slot b o e n K B;exact⟨sl,(f.2 b (az (al (aq e) I.ok.above))).trans g⟩
  .obtain⟨o',g⟩:=I.base.there b o e B;exact⟨o',(f.2 b (az (al (aq e) I.ok.above))).trans g⟩
  .by_cases O:j=i;.subst O;rw[hi]at g;cases g;rw[List.getElem?_set_self J]at D;cases D;exact⟨u,r,.inl ⟨G,by simp⟩⟩
   .rw[cV (Ne.symm O)]at D;obtain⟨u',r',q⟩:=hl j y v' g D e3;refine⟨u',r',?_⟩;rcases q with⟨k,e⟩|⟨k,c,e,z⟩;.refine .inl ⟨k,?_⟩;have:y≠x:=λe=>O (Kh hN g (e▸hi));simp[this,e]
    .exact .inr ⟨k,c,e,z.sameBut f (cne y c e)⟩
  .obtain⟨Z,z⟩:=I.cell y c e;exact⟨Z,z.sameBut f (cne y c e)⟩
  .obtain⟨e,n,Y,nf,d⟩:=I.pin p hp;exact⟨(f.2 p.1 Y).trans e,n,Y,nf,d⟩
 .have L:X.fn x=A3:=by
   rcases hf with z|z;.exact z
   .rw[z]at G;cases G
  obtain⟨c,t⟩:=I.ok.has x (.inl G);obtain⟨Z,z⟩:=I.cell x c t;refine wpAny_storeName_cell I.ok.kind G t z (λh' U f=>?_);obtain⟨oc,T,R⟩:=id z;refine h {s with heap:=h'} ⟨I.ok,I.os,I.bare,⟨λb o e n K B=>?_,λb o e n K B=>?_,I.base.free,λb o e B=>?_,I.base.tups,I.base.frzs,I.base.tbls⟩,⟨m,hn.sameBut f (Ne.symm (cne x c t)),λj y v' g D e3=>?_⟩,λy c' e=>?_,I.free,I.freeC,λp hp=>?_,l ⟨oc,T,I.freeC x c t⟩ f,by simpa using I.len⟩ ⟨c,f,.inr t⟩;.exact(f.2 b (az (al (aq e) (I.ok.cab x c L t)))).trans (I.base.keep b o e n K B)
  .obtain⟨sl,g⟩:=I.base.slot b o e n K B;exact⟨sl,(f.2 b (az (al (aq e) (I.ok.cab x c L t)))).trans g⟩
  .obtain⟨o',g⟩:=I.base.there b o e B;exact⟨o',(f.2 b (az (al (aq e) (I.ok.cab x c L t)))).trans g⟩
  .by_cases O:j=i;.subst O;rw[hi]at g;cases g;rw[List.getElem?_set_self J]at D;cases D;exact⟨u,r,.inr ⟨.inl G,c,t,U⟩⟩
   .rw[cV (Ne.symm O)]at D;obtain⟨u',r',q⟩:=hl j y v' g D e3;refine⟨u',r',?_⟩;rcases q with q|⟨k,c',e,z'⟩;.exact .inl q
    .refine .inr ⟨k,c',e,z'.sameBut f ?_⟩;rintro rfl;exact O (Kh hN g (I.ok.inj _ _ _ e t▸hi))
  .by_cases S:c'=c;.subst S;exact⟨_,U⟩
   .obtain⟨w2,z2⟩:=I.cell y c' e;exact⟨w2,z2.sameBut f S⟩
  .obtain⟨e,n,Y,nf,d⟩:=I.pin p hp;refine⟨(f.2 p.1 ?_).trans e,n,Y,nf,d⟩;intro q;rw[q,T]at e;have q':oc=p.2:=Option.some.inj e;exact d Z (by rw[<-q'];exact R)
theorem Ki{M:Model}{A:AN}{E:A2->A5->Prop}{i:Nat}{x:AI}{v:V}{u:A2}{Q:Unit->A5->Prop}(I:Inv X p_ σ H s)(d:X.N.Nodup)(hi:X.N[i]?=A0 x)(e:Loc X.env.scope x)(r:B0 v u)
  (h:∀a,Inv X p_ (σ.set i (A0 v)) H a->Q () a)(b:X.fn x=A3\/X.env.scope.names.lookup x=A0 .local:=by first|exact .inl rfl|exact .inr rfl|assumption):AA M A (storeName X.env x u) Q E s:=
 Hd I d hi e r (λa f _=>h a f) b
theorem Inv.call'{s':A5}{ch:List A4}(I:Inv X p_ σ H s)(f:s'.os=s.os)(u:Un (frs X.stack) ch H H' s.heap s'.heap)(d:HOk X.prog X.w H' s'.heap)(g:AllBare s'.gens)
  (a:∀b∈ch,(b∈X.ex\/X.s₀.heap.objs.size<=b)/\b≠X.env.locals/\(∀x c,X.env.cells.lookup x=A0 c->c≠b)/\∀p∈X.pn++p_,p.1≠b):Inv X p_ σ H' s':=by obtain⟨h',g',d',t',h⟩:=s';have e:h=s.os:=f;subst e;exact I.call (g':=g') (t':=t') (d':=d') u d g a
end
abbrev XK:=A2->Option A4->Hp->Prop
abbrev St:=List (Option V)
abbrev VK:=V->Hp->Prop
abbrev TE:=St->Hp->VK->Prop
abbrev TT:=St->Hp->(Bool->Hp->Prop)->Prop
abbrev TA:=St->Hp->(List V->Hp->Prop)->Prop
structure Ends where
 nx:St->Hp->Prop
 rt:VK
 bk:St->Hp->Prop:=λ_ _=>False
 ct:St->Hp->Prop:=λ_ _=>False
abbrev TS:=Ends->St->Hp->Prop
def EP(X:Cx)(b:List (A4×AT))(σ:St)(Q:VK)(u:A2)(s':A5):Prop:=∃v a,Inv X b σ a s'/\B0 v u/\Q v a
def TP(X:Cx)(d:List (A4×AT))(σ:St)(Q:Bool->Hp->Prop)(b:Bool)(s':A5):Prop:=∃a,Inv X d σ a s'/\Q b a
def AP(X:Cx)(d:List (A4×AT))(σ:St)(Q:List V->Hp->Prop)(e:List A2)(s':A5):Prop:=∃b a,Inv X d σ a s'/\B5 b e/\Q b a
def SP(X:Cx)(d:List (A4×AT))(D:Ends)(f:Flow)(s':A5):Prop:=
 match f with
 | .next=>∃a b,Inv X d a b s'/\D.nx a b
 | .brk=>∃a b,Inv X d a b s'/\D.bk a b
 | .cont=>∃a b,Inv X d a b s'/\D.ct a b
 | .ret u=>∃v a b,Inv X d a b s'/\B0 v u/\D.rt v b
def PE(X:Cx)(e:A8)(t:TE):Prop:=
 ∀(b:List (A4×AT))(s:A5)(a:St)(H:Hp)(Q:VK),Inv X b a H s->t a H Q->AA (AD X.prog X.w) X.A (Ac e X.env) (EP X b a Q) X.xe s
def PT(X:Cx)(e:A8)(t:TT):Prop:=
 ∀(b:List (A4×AT))(s:A5)(a:St)(H:Hp)(Q:Bool->Hp->Prop),Inv X b a H s->t a H Q->AA (AD X.prog X.w) X.A (isTrue e X.env (Ac e X.env)) (TP X b a Q) X.xe s
def PW(X:Cx)(e:A8)(t:TT):Prop:=
 ∀(a:Sem A2)(d:List (A4×AT))(s:A5)(b:St)(H:Hp)(Q:Bool->Hp->Prop),Inv X d b H s->t b H Q->AA (AD X.prog X.w) X.A (isTrue e X.env a) (TP X d b Q) X.xe s
theorem PW.pt{X:Cx}{e:A8}{t:TT}(h:PW X e t):PT X e t:=h _
def PA(X:Cx)(es:List A8)(t:TA):Prop:=
 ∀(pos:Pos)(b:List (A4×AT))(s:A5)(a:St)(H:Hp)(Q:List V->Hp->Prop),Inv X b a H s->t a H Q->AA (AD X.prog X.w) X.A (spliced (backTo pos (AY es X.env))) (AP X b a Q) X.xe s
def PS(X:Cx)(st:Ao)(t:TS):Prop:=
 ∀(b:List (A4×AT))(s:A5)(a:St)(H:Hp)(D:Ends),Inv X b a H s->t D a H->AA (AD X.prog X.w) X.A (exec st X.env) (SP X b D) X.xe s
def PSs(X:Cx)(st:List Ao)(t:TS):Prop:=
 ∀(b:List (A4×AT))(s:A5)(a:St)(H:Hp)(D:Ends),Inv X b a H s->t D a H->AA (AD X.prog X.w) X.A (execs st X.env) (SP X b D) X.xe s
theorem thn{d:Type}{t:Sem d}{Q b:d->A5->Prop}{M:Model}{A:AN}{E:A2->A5->Prop}{s:A5}(h:AA M A t Q E s)(e:∀a s,Q a s->b a s):AA M A t b E s:=cX h e λ_ _ x=>x
section
variable{X:Cx}
theorem bin{a b:A8}{o m:TE}(p:PE X a o)(B:PE X b m){i:List (A4×AT)}{s:A5}{σ:St}{H:Hp}{R:V->V->Hp->Prop}(I:Inv X i σ H s)(h:o σ H λx l=>m σ l λy d=>R x y d)
  {n:Type}{Q:n->A5->Prop}{f:A2->A2->Sem n}
  (t:∀v u j x y d,Inv X i σ d j->B0 x v->B0 y u->R x y d->AA (AD X.prog X.w) X.A (f v u) Q X.xe j):
  AA (AD X.prog X.w) X.A (Ac a X.env) (λv e=>AA (AD X.prog X.w) X.A (Ac b X.env) (λu g=>AA (AD X.prog X.w) X.A (f v u) Q X.xe g) X.xe e) X.xe s:=by refine thn (p i s σ H _ I h) λv r⟨x,l,E,r1,q⟩=>?_;refine thn (B i r σ l _ E q) λu j⟨y,d,C,r2,D⟩=>?_;exact t v u j x y d C r1 r2 D
def He(i:Nat):TE:=λa H Q=>∃v,a[i]?=A0 (A0 v)/\Q v H
def tC(v:V):TE:=λ_ H Q=>Q v H
theorem RT{i:Nat}{x:AI}{pos:Pos}(p:X.N[i]?=A0 x)(y:Vis X.env.scope x)(f:(x==("__debug__":AI))=A7:=by decide)(g:(x==("__classdict__":AI))=A7:=by decide):PE X (.Name x pos) (He i):=by
 intro o s t H Q I h;obtain⟨v,e,h⟩:=h;obtain⟨m,n,w⟩:=I.loc;obtain⟨u,r,l⟩:=w i x v p e y;have d:EP X o t Q u s:=⟨v,H,I,r,h⟩;rcases l with⟨b,q⟩|⟨b,c,j,a⟩;.exact wpAny_Name (wpAny_loadName_local I.ok.kind b n q d) f
 .rcases b with b|b;.exact wpAny_Name (wpAny_loadName_cell I.ok.kind b j a d) f
  .exact wpAny_Name (wpAny_loadName_free I.ok.kind b j a d g) f
theorem RU{i j pos}:PE X (.Constant (.int i) j pos) (tC (.int i)):=λ_ _ _ H _ I h=>wpAny_Constant_int ⟨.int i,H,I.tok _,⟨_,rfl⟩,h⟩
theorem RV{b j pos}:PE X (.Constant (.bool b) j pos) (tC (.bl b)):=λ_ _ _ H _ I h=>Constant_bool ⟨.bl b,H,I,rfl,h⟩
theorem RW{j pos}:PE X (.Constant .none j pos) (tC .non):=λ_ _ _ H _ I h=>Constant_none ⟨.non,H,I,rfl,h⟩
theorem RX{x j pos}:PE X (.Constant (.str x) j pos) (tC (.str x)):=λ_ _ _ H _ I h=>Calls.Constant_str ⟨.str x,H,I.tok _,⟨_,rfl⟩,h⟩
def Gl(X:Cx)(x:AI):Prop:=X.env.kindOf x=A0 .globalImplicit
theorem Kj{E:A2->A5->Prop}{e:List (A4×AT)}{s:A5}{σ:St}{H:Hp}{x:AI}{u:A2}{pos:Pos}{Q:A2->A5->Prop}(I:Inv X e σ H s)(b:Gl X x)(d:X.mg x=A0 u)(h:Q u s)
  (a:(x==("__debug__":AI))=A7:=by decide):AA (AD X.prog X.w) X.A (Ac (.Name x pos) X.env) Q E s:=
 Calls.Name_function_global I.ok.kind b (Calls.loadGlobal_global (by rw[I.ok.glob];exact I.mod.glob.keeps I.bk) d h) a
theorem Cf{E:A2->A5->Prop}{d:List (A4×AT)}{s:A5}{σ:St}{H:Hp}{x:AI}{u:A2}{pos:Pos}{Q:A2->A5->Prop}(I:Inv X d σ H s)(i:Gl X x)(g:X.mg x=A6)(j:Aq x=A0 u)(h:Q u s)
  (a:x≠"__name__":=by decide)(e:(x==("__debug__":AI))=A7:=by decide):AA (AD X.prog X.w) X.A (Ac (.Name x pos) X.env) Q E s:=by obtain⟨l,f,b⟩:=I.mod.blt;exact Calls.Name_function_global I.ok.kind i (Calls.loadGlobal_builtin (by rw[I.ok.glob];exact I.mod.glob.keeps I.bk) g (by rw[I.ok.blt];exact f.keeps I.bk) ((b x a).trans j) h) e
theorem RY{x:AI}{v:V}{u:A2}{pos:Pos}(d:Gl X x)(e:X.mg x=A6)(f:Aq x=A0 u)(r:B0 v u)(b:x≠"__name__":=by decide)(a:(x==("__debug__":AI))=A7:=by decide):PE X (.Name x pos) (tC v):=
 λ_ _ _ H _ I h=>Cf I d e f ⟨v,H,I,r,h⟩ b a
variable{a b:A8}{ta tb:TE}{pos:Pos}
def PC(X:Cx)(op:CmpOp)(a b:A8)(t:TE):Prop:=
 ∀(g:List (A4×AT))(s:A5)(f:St)(H:Hp)(Q:VK),Inv X g f H s->t f H Q->
  AA (AD X.prog X.w) X.A (Ac a X.env) (λv e=>AA (AD X.prog X.w) X.A (Ac b X.env) (λu d=>AA (AD X.prog X.w) X.A (AU op v u) (EP X g f Q) X.xe d) X.xe e) X.xe s
def tB(t:TE):TT:=λd H Q=>t d H λx e=>∃c,x=.bl c/\Q c e
theorem Kl{op:CmpOp}{t:TE}(h:PC X op a b t)(h1:behindInMarks op b=A7:=by rfl):PE X (.Compare a [op] [b] pos) t:=λe s d H Q I hw=>wpAny_Compare1 (h e s d H Q I hw) h1
theorem Km{op:CmpOp}{t:TE}(h:PC X op a b t)(h1:behindInMarks op b=A7:=by rfl):PT X (.Compare a [op] [b] pos) (tB t):=by intro g s l H Q I hw;refine wpAny_isTrue_Compare1 (thn (h g s l H _ I hw) λv m h1=>thn h1 λu o f=>thn f λc n⟨x,i,j,r1,e⟩=>?_) h1;obtain⟨d,rfl,q⟩:=e;cases r1;exact bT ⟨i,j,q⟩
variable{tA tB':TT}{Aw:List A8}
def Ea(t u:TT):TT:=λd H Q=>t d H λc e=>if c=A3 then u d e Q else Q A7 e
def tOr(t u:TT):TT:=λd H Q=>t d H λc e=>if c=A3 then Q A3 e else u d e Q
def Hf(t:TT):TT:=λd H Q=>t d H λc e=>Q (!c) e
theorem RZ(d:PT X a tA):PW X (.BoolOp .And [a] pos) tA:=by
 intro i g s f H Q I h;refine isTrue_and (thn (d g s f H Q I h) λc j e=>?_);cases c with
 |true=>exact isTrue_and_nil e
 |false=>exact e
theorem Ra(d:PT X a tA):PW X (.BoolOp .Or [a] pos) tA:=by
 intro i g s f H Q I h;refine isTrue_or (thn (d g s f H Q I h) λc j e=>?_);cases c with
 |false=>exact isTrue_or_nil e
 |true=>exact e
theorem Kn(l:PT X a tA)(m:PW X (.BoolOp .And (b::Aw) pos) tB'):PW X (.BoolOp .And (a::b::Aw) pos) (Ea tA tB'):=by
 intro j i s d H Q I h;refine isTrue_and (thn (l i s d H _ I h) λc n⟨e,f,g⟩=>?_);cases c with
 |true=>exact m j i n d e Q f g
 |false=>exact⟨e,f,g⟩
theorem Ko(l:PT X a tA)(m:PW X (.BoolOp .Or (b::Aw) pos) tB'):PW X (.BoolOp .Or (a::b::Aw) pos) (tOr tA tB'):=by
 intro j i s d H Q I h;refine isTrue_or (thn (l i s d H _ I h) λc n⟨e,f,g⟩=>?_);cases c with
 |true=>exact⟨e,f,g⟩
 |false=>exact m j i n d e Q f g
theorem Rb(d:PT X a tA):PT X (.UnaryOp .Not a pos) (Hf tA):=by intro g s e H Q I h;exact isTrue_not (d g s e H (λc f=>Q (!c) f) I h)
def FZ(ta tb:TE):TE:=λd H Q=>ta d H λx e=>∃c,x=.bl c/\if c=A3 then tb d e Q else Q (.bl A7) e
def Fa(ta tb:TE):TE:=λd H Q=>ta d H λx e=>∃c,x=.bl c/\if c=A3 then Q (.bl A3) e else tb d e Q
def Hg(ta:TE):TE:=λd H Q=>ta d H λx e=>∃c,x=.bl c/\Q (.bl (!c)) e
theorem Kp{op}{t:TE}(h:PE X a t):PE X (.BoolOp op [a] pos) t:=λe s d H Q I hw=>BoolOp_one (h e s d H Q I hw)
theorem Kq(j:PE X a ta)(l:PE X (.BoolOp .And (b::Aw) pos) tb):PE X (.BoolOp .And (a::b::Aw) pos) (FZ ta tb):=by
 intro i s e H Q I h;refine BoolOp_and (thn (j i s e H _ I h) λv m⟨x,f,g,r1,d⟩=>?_);obtain⟨c,rfl,d⟩:=d;cases r1;refine bT ?_;cases c with
 |true=>exact l i m e f Q g d
 |false=>exact⟨.bl A7,f,g,rfl,d⟩
theorem Kr(j:PE X a ta)(l:PE X (.BoolOp .Or (b::Aw) pos) tb):PE X (.BoolOp .Or (a::b::Aw) pos) (Fa ta tb):=by
 intro i s e H Q I h;refine BoolOp_or (thn (j i s e H _ I h) λv m⟨x,f,g,r1,d⟩=>?_);obtain⟨c,rfl,d⟩:=d;cases r1;refine bT ?_;cases c with
 |false=>exact l i m e f Q g d
 |true=>exact⟨.bl A3,f,g,rfl,d⟩
theorem Re(e:PE X a ta):PE X (.UnaryOp .Not a pos) (Hg ta):=by intro j s f H Q I h;refine UnaryOp_ (thn (e j s f H _ I h) λv l⟨x,g,i,r1,d⟩=>?_);obtain⟨c,rfl,d⟩:=d;cases r1;exact not_of (bT ⟨.bl (!c),g,i,rfl,d⟩)
def tIf(t:TT)(ta tb:TE):TE:=λd H Q=>t d H λc e=>if c=A3 then ta d e Q else tb d e Q
theorem Rf{c:A8}(o:PT X c tA)(m:PE X a ta)(n:PE X b tb):PE X (.IfExp c a b pos) (tIf tA ta tb):=by
 intro f s e H Q I h;refine wpAny_IfExp (thn (o f s e H _ I h) λd l⟨g,i,j⟩=>?_);cases d with
 |true=>exact m f l e g Q i j
 |false=>exact n f l e g Q i j
end
def SqL(K:W.Frag)(H:Hp)(a:A4)(xs:List V):Prop:=
 Rd H a (.lst xs)\/
  ∃(o:AT)(b:Array A2)(n:Nat),K.lookup a=A0 o/\o.cls=.type "list"/\o.dict=A6/\o.data=.seq b n/\b.size<=A9/\B5 xs b.toList
def SqT(K:W.Frag)(H:Hp)(a:A4)(xs:List V):Prop:=
 Rd H a (.tup xs)\/
  ∃(o:AT)(b:Array A2)(n:Nat),K.lookup a=A0 o/\o.cls=.type "tuple"/\o.data=.seq b n/\b.size<=A9/\B5 xs b.toList
def Rg:A2->Option V
 | .none=>A0 .non
 | .bool b=>A0 (.bl b)
 | .int i _=>A0 (.int i)
 | .str x _=>A0 (.str x)
 | .bytes b _=>A0 (.byt b)
 | .float b _=>A0 (.flt b)
 | .ref a=>A0 (.ref a)
 | .type n=>A0 (.ty n)
 |_=>A6
theorem B0.abs{x:V}{u:A2}(r:B0 x u):Rg u=A0 x:=by
 cases x with
 |non=>cases r;rfl
 |bl _=>cases r;rfl
 |int _=>obtain⟨t,rfl⟩:=r;rfl
 |str _=>obtain⟨t,rfl⟩:=r;rfl
 |byt _=>obtain⟨t,rfl⟩:=r;rfl
 |flt _=>obtain⟨t,rfl⟩:=r;rfl
 |ref _=>cases r;rfl
 |ty _=>cases r;rfl
theorem B0.inj{x y:V}{u:A2}(r:B0 x u)(q:B0 y u):x=y:=Option.some.inj (r.abs.symm.trans q.abs)
theorem B5.inj:∀{a d:List V}{b:List A2},B5 a b->B5 d b->a=d
 |_,_,_,.nil,.nil=>rfl
 |_,_,_,.cons r t,.cons f e=>by rw[r.inj f,B5.inj t e]
section
variable{X:Cx}{p_:List (A4×AT)}{σ:St}{H:Hp}{s:A5}{a:A4}{xs ys:List V}
theorem SqL.of{K:W.Frag}(h:H a=A0 (.lst xs)):SqL K H a xs:=.inl (.inl h)
theorem SqT.of{K:W.Frag}(h:H a=A0 (.tup xs)):SqT K H a xs:=.inl (.inl h)
theorem Inv.list(I:Inv X p_ σ H s)(h:SqL X.K H a xs):∃b:List A2,B5 xs b/\PlainL s.heap a b.toArray/\xs.length<=A9:=by
 rcases h with h|⟨o,b,n,g,f,d,i,j,r⟩;.obtain⟨z,b,n,r,e⟩:=h.ok I.hok;exact⟨b,r,⟨_,n,e,rfl,rfl,rfl⟩,z⟩
 .refine⟨b.toList,r,⟨o,n,I.kIn a o g,f,d,by simpa using i⟩,?_⟩;have e:=r.length;simp only[ak]at e;omega
theorem Inv.tuple(I:Inv X p_ σ H s)(h:SqT X.K H a xs):∃b:List A2,B5 xs b/\IsTup s.heap a b.toArray/\xs.length<=A9:=by
 rcases h with h|⟨o,b,n,f,d,g,i,r⟩;.obtain⟨z,b,r,p⟩:=h.ok I.hok;exact⟨b,r,p.tup,z⟩
 .refine⟨b.toList,r,⟨o,I.kIn a o f,d,n,by simpa using g⟩,?_⟩;have e:=r.length;simp only[ak]at e;omega
theorem Inv.list_inj(I:Inv X p_ σ H s)(h:SqL X.K H a xs)(h':SqL X.K H a ys):xs=ys:=by
 obtain⟨f,r,⟨o,n,e,_,_,d⟩,_⟩:=I.list h;obtain⟨b,l,⟨p,m,g,_,_,i⟩,_⟩:=I.list h';rw[e]at g;cases g;rw[d]at i;injection i with j _;have:f=b:=by simpa using congrArg Array.toList j
 subst this;exact r.inj l
theorem Inv.tuple_inj(I:Inv X p_ σ H s)(h:SqT X.K H a xs)(h':SqT X.K H a ys):xs=ys:=by
 obtain⟨f,r,⟨o,e,_,n,d⟩,_⟩:=I.tuple h;obtain⟨b,l,⟨p,g,_,m,i⟩,_⟩:=I.tuple h';rw[e]at g;cases g;rw[d]at i;injection i with j _;have:f=b:=by simpa using congrArg Array.toList j
 subst this;exact r.inj l
end
abbrev Cx.wish(X:Cx)(E:A2->A5->Prop):Cx:={X with xe:=E}
abbrev Cx.nox(X:Cx):Cx:=X.wish λ_ _=>False
theorem Cx.Ok.wish{X:Cx}(ok:X.Ok)(E:A2->A5->Prop):(X.wish E).Ok:=
 ⟨ok.mod,ok.kind,ok.glob,ok.blt,ok.above,ok.inj,ok.has,ok.cab,ok.hd,ok.frames,ok.stk,ok.exf,ok.bs,ok.bsz,ok.noex,ok.exfs,ok.funs,ok.frf⟩
theorem Cx.Ok.unwish{X:Cx}{E:A2->A5->Prop}(ok:(X.wish E).Ok):X.Ok:=
 ⟨ok.mod,ok.kind,ok.glob,ok.blt,ok.above,ok.inj,ok.has,ok.cab,ok.hd,ok.frames,ok.stk,ok.exf,ok.bs,ok.bsz,ok.noex,ok.exfs,ok.funs,ok.frf⟩
section
variable{X:Cx}{p_:List (A4×AT)}{σ:St}{H:Hp}{s:A5}{E:A2->A5->Prop}
theorem Inv.wish(I:Inv X p_ σ H s)(E:A2->A5->Prop):Inv (X.wish E) p_ σ H s:=⟨I.ok.wish E,I.os,I.bare,I.base,I.loc,I.cell,I.free,I.freeC,I.pin,I.hok,I.len⟩
theorem Inv.unwish(I:Inv (X.wish E) p_ σ H s):Inv X p_ σ H s:=⟨I.ok.unwish,I.os,I.bare,I.base,I.loc,I.cell,I.free,I.freeC,I.pin,I.hok,I.len⟩
theorem SP.unwish{D:Ends}{f:Flow}{s':A5}(h:SP (X.wish E) p_ D f s'):SP X p_ D f s':=by
 cases f with
 |next=>obtain⟨a,b,I,q⟩:=h;exact⟨a,b,I.unwish,q⟩
 |brk=>obtain⟨a,b,I,q⟩:=h;exact⟨a,b,I.unwish,q⟩
 |cont=>obtain⟨a,b,I,q⟩:=h;exact⟨a,b,I.unwish,q⟩
 |ret u=>obtain⟨v,a,b,I,r,q⟩:=h;exact⟨v,a,b,I.unwish,r,q⟩
theorem PSs.nox{st:List Ao}{t:TS}(h:PSs X.nox st t):PSs X st t:=λp_ s σ H D I hw=>
 cX (h p_ s σ H D (I.wish _) hw) (λ_ _ q=>q.unwish) λ_ _ z=>False.elim z
end
section
variable{X:Cx}{st:Ao}{Aw:List Ao}{t u:TS}{e:A8}{te:TE}{pos:Pos}
def Hh:TS:=λD a H=>D.nx a H
def Hi(t u:TS):TS:=λD a H=>t {D with nx:=u D} a H
theorem Rh:PSs X [] Hh:=λ_ _ a H _ I h=>wpAny_execs_nil ⟨a,H,I,h⟩
theorem Ri(h1:PS X st t)(g:PSs X Aw u):PSs X (st::Aw) (Hi t u):=by
 intro b s d H D I h;refine wpAny_execs_cons (thn (h1 b s d H {D with nx:=u D} I h) λf i q=>?_);cases f with
 |next=>obtain⟨a,j,l,q⟩:=q;exact g b i a j D l q
 |ret v=>exact q
 |brk=>exact q
 |cont=>exact q
def Hj:TS:=λD a H=>D.bk a H
theorem Rj:PS X (.Break pos) Hj:=λ_ _ a H _ I h=>wpAny_Break ⟨a,H,I,h⟩
theorem Inv.quiet{a:List (A4×AT)}{σ:St}{H:Hp}{s:A5}(I:Inv X a σ H s):interactive X.env=A7:=by simp[interactive,I.ok.kind]
def Hk(te:TE):TS:=λD a H=>te a H λ_ b=>D.nx a b
theorem Rk(b:PE X e te)(hs:swapsWith e A6 pos.line X.env=pure A7:=by rfl):PS X (.Expr e pos) (Hk te):=by intro i s a H D I h;exact wpAny_Expr_any (thn (b i s a H _ I h) λv j⟨x,d,f,r1,g⟩=>⟨a,d,f,g⟩) I.quiet hs
def Hl(te:TE):TS:=λD a H=>te a H D.rt
theorem Rl(b:PE X e te):PS X (.Return (A0 e) pos) (Hl te):=by intro i s a H D I h;exact wpAny_Return_some (thn (b i s a H _ I h) λv j⟨x,d,f,r1,g⟩=>⟨x,a,d,f,r1,g⟩)
def Hm(c:TT)(t u:TS):TS:=λD a H=>c a H λb d=>if b=A3 then t D a d else u D a d
theorem Rn{c:A8}{a b:List Ao}{l:TT}(p:PT X c l)(o:PSs X a t)(q:PSs X b u):PS X (.If c a b pos) (Hm l t u):=by
 intro f s g H D I h;refine wpAny_If (thn (p f s g H _ I h) λd j⟨m,n,i⟩=>?_);cases d with
 |true=>exact o f j g m D n i
 |false=>exact q f j g m D n i
end
abbrev TG:=V->St->Hp->(St->Hp->Prop)->Prop
abbrev TGs:=List V->St->Hp->(St->Hp->Prop)->Prop
def PG(X:Cx)(a:A8)(t:TG):Prop:=
 ∀(e:List (A4×AT))(s:A5)(d:St)(H:Hp)(v:V)(u:A2)(Q:St->Hp->Prop),Inv X e d H s->B0 v u->t v d H Q->
  AA (AD X.prog X.w) X.A (assign a X.env u) (λ_ g=>∃b f,Inv X e b f g/\Q b f) X.xe s
def PGs(X:Cx)(h:List A8)(t:TGs):Prop:=
 ∀(d:List (A4×AT))(s:A5)(b:St)(H:Hp)(f:List V)(g:List A2)(Q:St->Hp->Prop),Inv X d b H s->B5 f g->t f b H Q->
  AA (AD X.prog X.w) X.A (assignInOrder ((Al h X.env).map (·.2)) g) (λ_ i=>∃a e,Inv X d a e i/\Q a e) X.xe s
abbrev Hn:=V->V->V->Hp->(Hp->Prop)->Prop
def Ks(X:Cx)(t:Hn):Prop:=
 ∀(d:List (A4×AT))(s:A5)(b:St)(H:Hp)(o i v:V)(a f u:A2)(Q:Hp->Prop),Inv X d b H s->B0 o a->B0 i f->B0 v u->t o i v H Q->
  AA (AD X.prog X.w) X.A (setItem a f u) (λ_ g=>∃e,Inv X d b e g/\Q e) X.xe s
abbrev TIp:=V->V->Hp->VK->Prop
def PIp(X:Cx)(op:Operator)(t:TIp):Prop:=
 ∀(b:List (A4×AT))(s:A5)(a:St)(H:Hp)(x y:V)(v u:A2)(Q:VK),Inv X b a H s->B0 x v->B0 y u->t x y H Q->
  AA (AD X.prog X.w) X.A (inplaceOp op v u) (EP X b a Q) X.xe s
section
variable{X:Cx}{pos:Pos}
def C8(i:Nat):TG:=λv a H Q=>Q (a.set i (A0 v)) H
theorem Ro{i:Nat}{x:AI}(b:X.N.Nodup)(hi:X.N[i]?=A0 x)(d:Loc X.env.scope x)(a:X.fn x=A3\/X.env.scope.names.lookup x=A0 .local:=by first|exact .inl rfl|exact .inr rfl|assumption):PG X (.Name x pos) (C8 i):=by intro j s f H v u Q I r h;exact wpAny_assign_Name (Ki I b hi d r (λg e=>⟨_,H,e,h⟩) a)
def Ho:TGs:=λb a H Q=>b=[]/\Q a H
def Hq(t:TG)(u:TGs):TGs:=λe b H Q=>∃v r,e=v::r/\t v b H λa d=>u r a d Q
theorem Rp:PGs X [] Ho:=by intro b s a H d f Q I r h;obtain⟨e,h⟩:=h;subst e;cases r;exact assignInOrder_nil ⟨a,H,I,h⟩
theorem Rr{e:A8}{es:List A8}{t:TG}{u:TGs}(h1:PG X e t)(i:PGs X es u)
  (hs:(Al (e::es) X.env).map (·.2)=assign e X.env::(Al es X.env).map (·.2):=by rfl):PGs X (e::es) (Hq t u):=by
 intro b s n H q o Q I r h;obtain⟨v,p,g,h⟩:=h;subst g;cases r with
 |cons r j=>rw[hs];refine assignInOrder_cons (thn (h1 b s n H _ _ _ I r h) λ_ f⟨a,l,m,d⟩=>?_);exact i b f a l _ _ Q m j d
def Rt(K:W.Frag)(n:Nat)(t:TGs):TG:=λv d H Q=>∃a b,v=.ref a/\SqT K H a b/\b.length=n/\t b d H Q
theorem Ru{es:List A8}{k:Nat}{t:TGs}{n:Nat}(l:X.calm=A3)(h:PGs X es t)
  (j:(Al es X.env).length=n:=by rfl)(d:(Al es X.env).findIdx? (·.1)=A6:=by rfl):PG X (.Tuple es k pos) (Rt X.K n t):=by intro g s i H v u Q I r hw;obtain⟨a,y,m,C,B,hw⟩:=hw;subst m;cases r;obtain⟨p,f,w,D⟩:=I.tuple C;refine assign_Tuple_tuple (I.ok.hd l) w (by simp[j,<-B,f.length]) d λA q=>?_;have x:Inv X g i H {s with heap:=A}:=I.kept (t':=s.toks) λb o e=>q b o (az (aq e)) e;exact h g _ i H y _ Q x (by simpa using f) hw
def Hr(f g:TE)(t:Hn):TG:=λv a H Q=>f a H λo d=>g a d λi b=>t o i v b λe=>Q a e
theorem Rv{o i:A8}{f g:TE}{t:Hn}(w:PE X o f)(hi:PE X i g)(hs:Ks X t)
  (l:∀v,assign (.Subscript o i pos) X.env v=(do
   let a<-holding [v] (Ac o X.env)
   let b<-holding [v,a] (Ac i X.env)
   standAt pos
   holding [v,a,b] (setItem a b v)
   release [v,a,b] []):=by intro _;rfl):PG X (.Subscript o i pos) (Hr f g t):=by intro e s d H v u Q I r h;rw[l];refine aa (aR (thn (w e s d H _ I h) λa p⟨x,D,E,r1,n⟩=>?_));refine aa (aR (thn (hi e p d D _ E n) λb G⟨y,q,B,r2,C⟩=>?_));refine aa (cw (aa (aR (thn (hs e G d q x y v a b u _ B r1 r2 r C) λ_ J⟨A,m,j⟩=>?_))));exact wpAny_release ⟨d,A,m,j⟩
def CM(b:TE)(g:TG):TS:=λD a H=>b a H λx d=>g x a d D.nx
theorem Fb{a e:A8}{d:TE}{g:TG}(n:PE X e d)(o:PG X a g)(hs:swapsWithSole [a] e pos.line X.env=pure A7:=by rfl)(hw:swappedStores [a] e X.env=pure A6:=by rfl)
  (h1:(Al [a] X.env).map (·.2)=[assign a X.env]:=by rfl):PS X (.Assign [a] e pos) (CM d g):=by intro b s f H D I h;refine wpAny_Assign_stores (thn (n b s f H _ I h) λv j⟨x,l,m,r1,i⟩=>?_) hs hw;rw[h1];exact thn (o b j f l x v _ m r1 i) λ_ p q=>q
def Hs(i:Nat)(d:TE)(f:TIp):TS:=λD a H=>∃x,a[i]?=A0 (A0 x)/\d a H λy e=>f x y e λz b=>D.nx (a.set i (A0 z)) b
theorem Kt{i:Nat}{x:AI}{e:A8}{q:TE}{op:Operator}{o:TIp}{f:Pos}(R:X.N.Nodup)(hi:X.N[i]?=A0 x)(n:Loc X.env.scope x)(Y:PE X e q)(O:PIp X op o)(K:X.fn x=A3\/X.env.scope.names.lookup x=A0 .local:=by first|exact .inl rfl|exact .inr rfl|assumption):
  PS X (.AugAssign (.Name x f) op e pos) (Hs i q o):=by
 intro j s t H D I h;obtain⟨v,L,h⟩:=h;obtain⟨m,B,Z⟩:=I.loc;have vis:Vis X.env.scope x:=by rcases n with k|k;exact .inl k;exact .inr (.inl k)
 obtain⟨u,r,l⟩:=Z i x v hi L vis;refine wpAny_AugAssign_Name ?_;have p:AA (AD X.prog X.w) X.A (Ac e X.env) (λw g=>AA (AD X.prog X.w) X.A (inplaceOp op u w) (λr d=>AA (AD X.prog X.w) X.A (storeName X.env x r) (λ_=>SP X j D .next) X.xe d) X.xe g) X.xe s:=by refine thn (Y j s t H _ I h) λw J⟨y,S,T,r1,G⟩=>?_;refine thn (O j J t S v y u w _ T r r1 G) λz s2⟨zv,M,P,r2,Q⟩=>?_;exact Ki P R hi n r2 (λs3 E=>⟨_,M,E,Q⟩) K
 rcases l with⟨a,U⟩|⟨a,c,C,b⟩;.exact wpAny_loadName_local I.ok.kind a B U p
 .rcases a with a|a;.exact wpAny_loadName_cell I.ok.kind a C b p
  .rcases n with k|k;.have:X.env.scope.names.lookup x=A0 .free:=a;rw[k]at this;cases this
   .have:X.env.scope.names.lookup x=A0 .free:=a;rw[k]at this;cases this
def ipI(f:Int->Int->Int):TIp:=λx y H Q=>∃i j,x=.int i/\y=.int j/\Q (.int (f i j)) H
theorem Rw:PIp X .Add (ipI λi j=>i+j):=by intro d s f H x y v u Q I r1 r2 h;obtain⟨i,j,a,b,q⟩:=h;subst a;subst b;obtain⟨t,rfl⟩:=r1;obtain⟨e,rfl⟩:=r2;exact iadd_int ⟨.int _,H,I.tok _,⟨_,rfl⟩,q⟩
theorem Rx:PIp X .Sub (ipI λi j=>i-j):=by intro d s f H x y v u Q I r1 r2 h;obtain⟨i,j,a,b,q⟩:=h;subst a;subst b;obtain⟨t,rfl⟩:=r1;obtain⟨e,rfl⟩:=r2;exact isub_int ⟨.int _,H,I.tok _,⟨_,rfl⟩,q⟩
end
section
variable{X:Cx}{pos:Pos}
def Ht(c:TT)(h:TS):TS:=λD a H=>∃W:Nat->St->Hp->Prop,(∃m,W m a H)/\∀m a H,W m a H->
 c a H λb f=>if b=A3 then∃N:St->Hp->Prop,(∀d g,N d g->∃e,e<m/\W e d g)/\h {D with nx:=N,ct:=N,bk:=D.nx} a f else D.nx a f
theorem Ry{c:A8}{e:List Ao}{B:TT}{y:TS}(C:PassesOwn (AD X.prog X.w) X.A X.env X.xe)(M:PT X c B)(Q:PSs X e y):PS X (.While c e [] pos) (Ht B y):=by
 intro q s Y H D I h;obtain⟨W,⟨P,Z⟩,j⟩:=h;refine wpAny_While (codeAny_whileLoop (λn S=>∃i L,Inv X q i L S/\W n i L) ?_ P ⟨Y,H,I,Z⟩);rintro n O⟨d,K,T,R⟩;refine cY C (thn (M q O d K _ T (j n d K R)) λb U⟨E,G,m⟩=>?_);cases b with
 |true=>
  obtain⟨N,J,m⟩:=m;rw[if_pos rfl];refine cY C (thn (Q q U d E _ G m) λf s3 l=>?_);cases f with
  |next=>obtain⟨a,g,o,r⟩:=l;obtain⟨p,t,x⟩:=J a g r;exact⟨p,t,a,g,o,x⟩
  |cont=>obtain⟨a,g,o,r⟩:=l;obtain⟨p,t,x⟩:=J a g r;exact⟨p,t,a,g,o,x⟩
  |brk=>exact l
  |ret v=>exact l
 |false=>rw[if_neg aD];exact wpAny_execs_nil ⟨d,E,G,m⟩
end
structure It where
 go:Nat->Hp->Prop
 yld:Nat->Hp->V->Hp->Prop
 stop:Nat->Hp->Prop
def BW(X:Cx)(a:List (A4×AT))(H:Hp)(b:A4):Prop:=
 H b=A6/\b≠X.env.locals/\b∉X.fs/\(b∈X.ex\/X.s₀.heap.objs.size<=b)/\(∀x c,X.env.cells.lookup x=A0 c->c≠b)/\∀p∈X.pn++a,p.1≠b
theorem Inv.fpOk{X:Cx}{d:List (A4×AT)}{σ:St}{H H':Hp}{s:A5}{b:A4}(I:Inv X d σ H s)(a:s.heap.objs.size<=b)(g:H' b=A6):BW X d H' b:=by
 refine⟨g,bJ (al I.lt a),I.nofs a,.inr (aN I.sz a),λx c e z=>?_,λp f z=>?_⟩;.obtain⟨v,q⟩:=I.cell x c e;exact absurd (al q.lt (by rw[z];exact a)) (bC _)
 .exact absurd (al (aq (I.pin p f).1) (by rw[z];exact a)) (bC _)
structure Turn(P:AC)(w:AL)(K:W.Frag)(tg:A8)(J:It)(fp:List A4)(it:A4)(tn:Nat->AM->Prop):Prop where
 mem:it∈fp
 obj:∀i h,tn i h->∀b∈fp,∃o,h.get? b=A0 o/\∀v,o.data≠.cell v
 keep:∀i h h',tn i h->(∀b∈fp,∀o,h.get? b=A0 o->h'.get? b=A0 o)->tn i h'
 item:∀(X:Cx),X.prog=P->X.w=w->X.K=K->X.calm=A3->∀(i:Nat)(p_:List (A4×AT))(s:A5)(σ:St)(H:Hp)(E:A2->A5->Prop),Inv X p_ σ H s->(∀b∈fp,BW X p_ H b)->tn i s.heap->J.go i H->
  AA (AD P w) X.A (pyNext (.ref it)) (λr s1=>∃u,r=A0 u/\
   AA (AD P w) X.A (letOwnedTupleGo tg (.ref it) u) (λ_ s2=>∃x H',Inv X p_ σ H' s2/\B0 x u/\J.yld i H x H'/\tn (i+1) s2.heap/\∀b∈fp,H' b=A6) E s1) E s
 done:∀(X:Cx),X.prog=P->X.w=w->X.K=K->X.calm=A3->∀(i:Nat)(p_:List (A4×AT))(s:A5)(σ:St)(H:Hp)(E:A2->A5->Prop),Inv X p_ σ H s->(∀b∈fp,BW X p_ H b)->tn i s.heap->J.stop i H->
  AA (AD P w) X.A (pyNext (.ref it)) (λr s1=>r=A6/\Inv X p_ σ H s1) E s
 self:∀(A:AN)(i:Nat)(s:A5)(Q:A2->A5->Prop)(E:A2->A5->Prop),tn i s.heap->Q (.ref it) s->AA (AD P w) A (pyIter (.ref it)) Q E s
abbrev TI:=St->Hp->(It->Hp->Prop)->Prop
def PIE(X:Cx)(h:List (A4×AT))(σ:St)(j:A8)(R:It->Hp->Prop)(a:A2)(g:A5):Prop:=
 ∃(f:A4)(i:List A4)(e:Nat->AM->Prop)(J:It)(d:Hp),a=.ref f/\Inv X h σ d g/\Turn X.prog X.w X.K j J i f e/\e 0 g.heap/\(∀b∈i,BW X h d b)/\R J d
def PI(X:Cx)(e a:A8)(g:TI):Prop:=
 ∀(d:List (A4×AT))(s:A5)(b:St)(H:Hp)(R:It->Hp->Prop),Inv X d b H s->g b H R->
  AA (AD X.prog X.w) X.A (Ac a X.env) (λv f=>AA (AD X.prog X.w) X.A (pyIter v) (PIE X d b e R) X.xe f) X.xe s
theorem E3{M:Model}{A:AN}{E:A2->A5->Prop}{s:A5}{b:A8}{it:A4}{u:A2}{o:AT}{n:String}{vs:Array A2}{Q:Unit->A5->Prop}(e:s.heap.get? it=A0 o)(g:o.cls=.type n)(d:o.data=.fields vs)
  (f:["enumerate","zip","dict_itemiterator","dict_reverseitemiterator","odict_iterator","itertools.zip_longest","itertools.pairwise"].contains n=A7)(a:Q () s):AA M A (letOwnedTupleGo b (.ref it) u) Q E s:=by
 unfold letOwnedTupleGo;cases b<;>first
  |exact af a
  |(cases u<;>first
    |exact af a
    |(refine aa (wpAny_load e ?_);rw[g,d];show AA M A (if(["enumerate","zip","dict_itemiterator","dict_reverseitemiterator","odict_iterator","itertools.zip_longest","itertools.pairwise"].contains n&&vs[0]?==A0 (AZ _))=A3 then _ else _) Q E s;rw[if_neg (by intro h;rw[f,Bool.false_and]at h;cases h)];exact af a))
def Itl(K:W.Frag)(a:A4):It:=
 ⟨λi H=>∃b x,SqL K H a b/\b[i]?=A0 x,λi H x d=>d=H/\∀b,SqL K H a b->b[i]?=A0 x,λi H=>∃b,SqL K H a b/\b.length<=i⟩
def Itt(K:W.Frag)(a:A4):It:=
 ⟨λi H=>∃b x,SqT K H a b/\b[i]?=A0 x,λi H x d=>d=H/\∀b,SqT K H a b->b[i]?=A0 x,λi H=>∃b,SqT K H a b/\b.length<=i⟩
def Itr(a:Int)(n:Nat):It:=⟨λi _=>i<n,λi H x b=>b=H/\x=.int (a+i),λi _=>n<=i⟩
theorem Rz{P:AC}{w:AL}{K:W.Frag}{Q:A8}(a it:A4):Turn P w K Q (Itl K a) [it] it (λi h=>h.IsListIter it a i)where
 mem:=by simp
 obj:=λi h f b g=>by
  have e:b=it:=by simpa using g
  subst e;obtain⟨o,e,c,d⟩:=f;exact⟨o,e,λv z=>by rw[d]at z;cases z⟩
 keep:=λi h m f k=>f.at λo e=>k it (by simp) o e
 item:=by intro X D hw y M i N s O H E I l f L;subst D hw y;obtain⟨Z,x,n,G⟩:=L;obtain⟨C,r,p,hz⟩:=I.list n;obtain⟨u,hu,U⟩:=r.get G;obtain⟨J,B,R,q,t,A⟩:=l it (by simp);refine wpAny_pyNext_list_item f p.isList (x:=u) (by simpa using hu) λm j sb=>?_;have S:Inv X N O H {s with heap:=m}:=I.turned (t':=s.toks) (λb o g e=>(sb.2 b g).trans e) J B q t A;obtain⟨o,e,c,d⟩:=id j;exact⟨u,rfl,E3 (s:={s with heap:=m}) e c d (by decide) ⟨x,H,S,U,⟨rfl,λys T=>by rw[I.list_inj T n];exact G⟩,j,λb g=>(l b g).1⟩⟩
 done:=by intro X D hw y M i N s O H E I l f L;subst D hw y;obtain⟨Z,n,G⟩:=L;obtain⟨C,r,p,hz⟩:=I.list n;obtain⟨J,B,R,q,t,A⟩:=l it (by simp);have hl:=r.length;exact wpAny_pyNext_list_end (I.ok.hd M) f p.isList (by simp;omega) λm Y=>⟨rfl,I.turned (t':=s.toks) (λb o g e=>Y b o g e) J B q t A⟩
 self:=λ_ _ _ _ _ f h=>wpAny_pyIter_listiter f h
theorem R_{P:AC}{w:AL}{K:W.Frag}{Q:A8}(a it:A4):Turn P w K Q (Itt K a) [it] it (λi h=>h.IsTupleIter it a i)where
 mem:=by simp
 obj:=λi h f b g=>by
  have e:b=it:=by simpa using g
  subst e;obtain⟨o,e,c,d⟩:=f;exact⟨o,e,λv z=>by rw[d]at z;cases z⟩
 keep:=λi h n f k=>f.at λo e=>k it (by simp) o e
 item:=by intro X D hw A M i N s O H E I m f L;subst D hw A;obtain⟨Z,x,q,G⟩:=L;obtain⟨j,t,p,hz⟩:=I.tuple q;obtain⟨u,hu,U⟩:=t.get G;obtain⟨J,C,R,r,y,B⟩:=m it (by simp);refine wpAny_pyNext_tuple_item f (show s.heap.IsTuple a j.toArray from p) (x:=u) (by simpa using hu) λn l sb=>?_;have S:Inv X N O H {s with heap:=n}:=I.turned (t':=s.toks) (λb o g e=>(sb.2 b g).trans e) J C r y B;obtain⟨o,e,c,d⟩:=id l;exact⟨u,rfl,E3 (s:={s with heap:=n}) e c d (by decide) ⟨x,H,S,U,⟨rfl,λys T=>by rw[I.tuple_inj T q];exact G⟩,l,λb g=>(m b g).1⟩⟩
 done:=by intro X D hw A M i N s O H E I m f L;subst D hw A;obtain⟨Z,q,G⟩:=L;obtain⟨j,t,p,hz⟩:=I.tuple q;obtain⟨J,C,R,r,y,B⟩:=m it (by simp);have hl:=t.length;exact wpAny_pyNext_tuple_end (I.ok.hd M) f (show s.heap.IsTuple a j.toArray from p) (by simp;omega) λn Y=>⟨rfl,I.turned (t':=s.toks) (λb o g e=>Y b o g e) J C r y B⟩
 self:=λ_ _ _ _ _ f h=>wpAny_pyIter_tupleiter f h
theorem S0{P:AC}{w:AL}{K:W.Frag}{M:A8}(it:A4)(j:Int)(n:Nat):Turn P w K M (Itr j n) [it] it (λi h=>IsRangeIter h it (j+(i:Nat)*1) ((n:Int)-(i:Nat)) 1)where
 mem:=by simp
 obj:=λi h a b d=>by
  have e:b=it:=by simpa using d
  subst e;exact⟨_,a,λv z=>by have N:Data.fields _=Data.cell v:=z;cases N⟩
 keep:=λi h l a k=>k it (by simp) _ a
 item:=by intro X A hw x q i G s J H E I g a C;subst A hw x;obtain⟨B,y,O,m,p,r⟩:=g it (by simp);have W:=Walks.range (prog:=X.prog) (w:=X.w) (I.ok.hd q) it j 1 n;refine W.item i s _ _ C a λv l D S f L=>?_;obtain⟨t,rfl⟩:=S;have Q:Inv X G J H {s with heap:=l,toks:=D}:=I.turned (λb o d e=>L b o (by simpa using d) e) B y m p r;refine⟨_,rfl,E3 (s:={s with heap:=l,toks:=D}) (n:="range_iterator") f rfl rfl (by decide) ⟨.int (j+i),H,Q,⟨t,?_⟩,⟨rfl,rfl⟩,f,λb d=>(g b d).1⟩⟩;rw[Int.mul_one]
 done:=by intro X A hw x q i G s J H E I g a C;subst A hw x;obtain⟨B,y,O,m,p,r⟩:=g it (by simp);exact wpAny_pyNext_range_end (I.ok.hd q) a (by have:n<=i:=C;omega) λl R=>⟨rfl,I.turned (t':=s.toks) (λb o d e=>R b o d e) B y m p r⟩
 self:=λ_ _ _ _ _ a h=>wpAny_pyIter_rangeiter a h
section
variable{X:Cx}{tg:A8}
theorem Ku{f:List (A4×AT)}{σ:St}{H:Hp}{s:A5}{R:It->Hp->Prop}{E:A2->A5->Prop}{a hi:Int}{t u v:Tok}{d:Nat}(I:Inv X f σ H s)(h1:-(2^62)<=a)(l:a<2^62)(m:-(2^62)<=hi)(h:hi<2^62)
  (q:R (Itr a (hi-a).toNat) H):AA (AD X.prog X.w) X.A (pyIter (.ref s.heap.objs.size)) (PIE X f σ tg R) E {s with heap:=s.heap.push {cls:=.type "range",data:=.fields #[.int a t,.int hi u,.int 1 v]},toks:=d}:=by
 refine wpAny_pyIter_range (IsRange.new ..) (small_one h1 l m h) ?_;have g:Inv X f σ H {s with heap:=s.heap.push {cls:=.type "range",data:=.fields #[.int a t,.int hi u,.int 1 v]},toks:=d}:=I.kept λb o e=>ag _ e;refine⟨(s.heap.push {cls:=.type "range",data:=.fields #[.int a t,.int hi u,.int 1 v]}).objs.size,[(s.heap.push {cls:=.type "range",data:=.fields #[.int a t,.int hi u,.int 1 v]}).objs.size],_,_,H,rfl,
  g.kept (t':=d) λb o e=>ag _ e,S0 _ a (hi-a).toNat,?_,λb j=>?_,q⟩
 .have i:a+((0:Nat):Int)*1=a:=by simp
  have n:(((hi-a).toNat:Nat):Int)-((0:Nat):Int)=AK.Range.rangeSize a hi 1:=by rw[rangeSize_one];split<;>omega
  show IsRangeIter _ _ (a+((0:Nat):Int)*1) ((((hi-a).toNat:Nat):Int)-((0:Nat):Int)) 1;rw[i,n];exact au _ rfl
 .have e:b=(s.heap.push {cls:=.type "range",data:=.fields #[.int a t,.int hi u,.int 1 v]}).objs.size:=by simpa using j
  subst e;exact g.fpOk (ah _) (g.hok.fresh (ah _))
def Hu(e:TA):TI:=λa H R=>e a H λd b=>∃j:Int,d=[.int j]/\-(2^62)<=j/\j<2^62/\R (Itr 0 j.toNat) b
def Hv(e:TA):TI:=λa H R=>e a H λd b=>∃i j:Int,d=[.int i,.int j]/\(-(2^62)<=i/\i<2^62/\-(2^62)<=j/\j<2^62)/\R (Itr i (j-i).toNat) b
theorem S1{a:A8}{d:TA}{p pos:Pos}(v:Gl X "range")(n:X.mg "range"=A6)(f:PA X [a] d)(hs:AY [a] X.env=[(A7,Ac a X.env)]:=by rfl):PI X tg (.Call (.Name "range" p) [a] [] pos) (Hu d):=by
 intro g s o H R I h;refine Call_ (Cf I v n boot_range (PyProof.Rows.callWith_type1 (thn (f pos g s o H _ I h) λx w⟨A,y,m,r1,b⟩=>?_) hs rfl));obtain⟨j,e,b,i,q⟩:=b;subst e;cases r1 with
 |cons r l=>cases l;obtain⟨t,rfl⟩:=r;exact call_range_1 (Ku m ⋯ ⋯ b i (by simpa using q))
theorem S2{a b:A8}{l:TA}{p pos:Pos}(C:Gl X "range")(A:X.mg "range"=A6)(n:PA X [a,b] l)(hs:AY [a,b] X.env=[(A7,Ac a X.env),(A7,Ac b X.env)]:=by rfl)(d:AY [b] X.env=[(A7,Ac b X.env)]:=by rfl):
  PI X tg (.Call (.Name "range" p) [a,b] [] pos) (Hv l):=by
 intro v s B H R I h;refine Call_ (Cf I C A boot_range (PyProof.Rows.callWith_type1 (thn (n pos v s B H _ I h) λE D⟨K,J,y,r1,f⟩=>?_) (by rw[hs,d]) (by rw[d];rfl)));obtain⟨i,j,e,⟨f,x,m,w⟩,q⟩:=f;subst e;cases r1 with
 |cons r g=>
  cases g with
  |cons o g=>cases g;obtain⟨t,rfl⟩:=r;obtain⟨G,rfl⟩:=o;exact call_range_2 (Ku y f x m w q)
def Hw(n:TI)(g:TG)(h:TS):TS:=λD a H=>n a H λJ j=>∃W:Nat->Nat->St->Hp->Prop,(∃m,W 0 m a j)/\∀i m a H,W i m a H->
 (J.stop i H/\D.nx a H)\/(J.go i H/\∃N:St->Hp->Prop,(∀d b,N d b->∃f,f<m/\W (i+1) f d b)/\∀x b,J.yld i H x b->g x a b λe l=>h {D with nx:=N,ct:=N,bk:=D.nx} e l)
def C3(fp:List A4)(h:AM):List (A4×AT):=fp.filterMap λb=>(h.get? b).map λo=>(b,o)
theorem CN{fp:List A4}{h:AM}{b:A4}{o:AT}(a:b∈fp)(e:h.get? b=A0 o):(b,o)∈C3 fp h:=List.mem_filterMap.mpr ⟨b,a,by rw[e];rfl⟩
theorem Hx{fp:List A4}{h:AM}{p:A4×AT}(a:p∈C3 fp h):p.1∈fp/\h.get? p.1=A0 p.2:=by
 obtain⟨b,f,e⟩:=List.mem_filterMap.mp a;cases q:h.get? b with
 |none=>rw[q]at e;cases e
 |some o=>rw[q]at e;have d:(b,o)=p:=Option.some.inj e;subst d;exact⟨f,q⟩
theorem Inv.pinned{a:List (A4×AT)}{σ:St}{H:Hp}{s:A5}{fp:List A4}(I:Inv X a σ H s)(h:∀b∈fp,BW X a H b)(j:∀b∈fp,∃o,s.heap.get? b=A0 o/\∀v,o.data≠.cell v):Inv X (a++C3 fp s.heap) σ H s:=
 I.pins_of λp i=>(aL.mp i).elim (λz=>I.pin p (am _ z)) λz=>by obtain⟨g,e⟩:=Hx z;obtain⟨n,m,l,_⟩:=h p.1 g;obtain⟨o,f,d⟩:=j p.1 g;rw[e]at f;cases f;exact⟨e,n,m,l,d⟩
theorem Inv.unpinned{a pl:List (A4×AT)}{σ:St}{H:Hp}{s:A5}(I:Inv X (a++pl) σ H s):Inv X a σ H s:=I.pins_of λp b=>I.pin p (am _ (bq _ b))
theorem S3{y:A8}{E:List Ao}{wi:TI}{g:TG}{tb:TS}{pos:Pos}(S:PassesOwn (AD X.prog X.w) X.A X.env X.xe)(hc:X.calm=A3)(hi:PI X tg y wi)(hg:PG X tg g)(t:PSs X E tb)
  (hs:∀x,foldedSetIterable y X.env x=pure x:=by intro _;rfl):PS X (.For tg y E [] pos) (Hw wi g tb):=by
 intro K s σ H D I h;refine wpAny_For (thn (hi K s σ H _ I h) λv s1 h1=>thn h1 λa3 s2 h2=>?_) hs;obtain⟨it,P,tn,J,H2,e,I2,T,st2,f2,W,⟨m0,w0⟩,Y⟩:=h2;subst e;have q:∀{C:Hp},(∀b∈P,C b=A6)->∀b∈P,BW X K C b:=λhn b t=>⟨hn b t,(f2 b t).2⟩;refine codeAny_forLoop_any (λn s'=>∃i j C,Inv X K j C s'/\tn i s'.heap/\(∀b∈P,C b=A6)/\W i n j C) ?_ m0 ⟨0,σ,H2,I2,st2,λb t=>(f2 b t).1,w0⟩;rintro n s3⟨i,p,Z,I3,O,U,w3⟩;rcases Y i n p Z w3 with⟨R,qn⟩|⟨go,N,hN,Q⟩;.refine cY S (thn (T.done X rfl rfl rfl hc i K s3 p Z X.xe I3 (q U) O R) λr s4⟨hr,I4⟩=>?_);subst hr;exact wpAny_execs_nil ⟨p,Z,I4,qn⟩
 .refine cY S (thn (T.item X rfl rfl rfl hc i K s3 p Z X.xe I3 (q U) O go) λr s4⟨u,hr,h4⟩=>?_);subst hr;refine cY S (thn h4 λ_ s5⟨x,H5,I5,r5,y5,L,a0⟩=>?_);have a2:=I5.pinned (q a0) (T.obj _ _ L);refine cY S (thn (hg _ s5 p H5 x u _ a2 r5 (Q x H5 y5)) λ_ s6⟨a1,H6,I6,q6⟩=>?_);refine cY S (thn (t _ s6 a1 H6 _ I6 q6) λf s7 G=>?_);have again:∀{a:St}{l:Hp},Inv X (K++C3 P s5.heap) a l s7->N a l->∃m,m<n/\∃i j C,Inv X K j C s7/\tn i s7.heap/\(∀b∈P,C b=A6)/\W i m j C:=λ{a l}B M=>by obtain⟨m',hm,w7⟩:=hN a l M;refine⟨m',hm,i+1,a,l,B.unpinned,T.keep _ _ _ L λb t o e=>(B.pin (b,o) (am _ (am _ (CN t e)))).1,λb t=>?_,w7⟩;obtain⟨o,e,d⟩:=T.obj _ _ L b t;exact(B.pin (b,o) (am _ (am _ (CN t e)))).2.1
  cases f with
  |next=>obtain⟨a,l,B,M⟩:=G;exact again B M
  |cont=>obtain⟨a,l,B,M⟩:=G;exact again B M
  |brk=>obtain⟨a,l,B,G⟩:=G;exact⟨a,l,B.unpinned,G⟩
  |ret v=>obtain⟨x7,a,l,B,r7,G⟩:=G;exact⟨x7,a,l,B.unpinned,r7,G⟩
end
theorem S4{K:W.Frag}{a:A4}{xs:List V}{g:TG}{n:TS}{D:Ends}{σ:St}{H:Hp}(b:Nat->St->Hp->Prop)(h0:b 0 σ H)(v:∀i σ H,i<=xs.length->b i σ H->SqT K H a xs)
  (hs:∀i x σ H,xs[i]?=A0 x->b i σ H->g x σ H λf l=>n {D with nx:=b (i+1),ct:=b (i+1),bk:=D.nx} f l)(s:∀σ H,b xs.length σ H->D.nx σ H):
  ∃W:Nat->Nat->St->Hp->Prop,(∃m,W 0 m σ H)/\∀i m σ H,W i m σ H->
   ((Itt K a).stop i H/\D.nx σ H)\/((Itt K a).go i H/\∃N:St->Hp->Prop,(∀d h,N d h->∃o,o<m/\W (i+1) o d h)/\∀x h,(Itt K a).yld i H x h->g x σ h λf l=>n {D with nx:=N,ct:=N,bk:=D.nx} f l):=by
 refine⟨λi m σ H=>m=xs.length-i/\i<=xs.length/\b i σ H,⟨xs.length,by simp,aJ _,h0⟩,?_⟩;rintro i m σ H⟨rfl,r,p⟩;have q:=v i σ H r p;by_cases j:i<xs.length;.refine .inr ⟨⟨xs,xs[i],q,by simp[j]⟩,b (i+1),λd h t=>⟨xs.length-(i+1),⋯,rfl,j,t⟩,λx h y=>?_⟩;obtain⟨e,y⟩:=y;subst e;exact hs i x σ _ (y xs q) p
 .have e:i=xs.length:=by omega
  subst e;exact .inl ⟨⟨xs,q,ah _⟩,s σ H p⟩
theorem S5{j:Int}{n:Nat}{g:TG}{o:TS}{D:Ends}{σ:St}{H:Hp}(d:Nat->St->Hp->Prop)(h0:d 0 σ H)
  (hs:∀i σ H,i<n->d i σ H->g (.int (j+i)) σ H λb l=>o {D with nx:=d (i+1),ct:=d (i+1),bk:=D.nx} b l)(r:∀σ H,d n σ H->D.nx σ H):
  ∃W:Nat->Nat->St->Hp->Prop,(∃m,W 0 m σ H)/\∀i m σ H,W i m σ H->
   ((Itr j n).stop i H/\D.nx σ H)\/((Itr j n).go i H/\∃N:St->Hp->Prop,(∀a h,N a h->∃q,q<m/\W (i+1) q a h)/\∀x h,(Itr j n).yld i H x h->g x σ h λb l=>o {D with nx:=N,ct:=N,bk:=D.nx} b l):=by
 refine⟨λi m σ H=>m=n-i/\i<=n/\d i σ H,⟨n,by simp,aJ _,h0⟩,?_⟩;rintro i m σ H⟨rfl,t,p⟩;by_cases f:i<n;.refine .inr ⟨f,d (i+1),λa h s=>⟨n-(i+1),⋯,rfl,f,s⟩,λx h y=>?_⟩;obtain⟨e,y⟩:=y;subst e y;exact hs i σ _ f p
 .have e:i=n:=by omega
  subst e;exact .inl ⟨ah _,r σ H p⟩
abbrev R2:=V->V->Hp->VK->Prop
def OpR(X:Cx)(f:A2->A2->Sem A2)(r:R2):Prop:=
 ∀(b:List (A4×AT))(s:A5)(a:St)(H:Hp)(x y:V)(v u:A2)(Q:VK),Inv X b a H s->B0 x v->B0 y u->r x y H Q->
  AA (AD X.prog X.w) X.A (f v u) (EP X b a Q) X.xe s
def UnR(X:Cx)(f:A2->Sem A2)(r:V->Hp->VK->Prop):Prop:=
 ∀(b:List (A4×AT))(s:A5)(a:St)(H:Hp)(x:V)(v:A2)(Q:VK),Inv X b a H s->B0 x v->r x H Q->
  AA (AD X.prog X.w) X.A (f v) (EP X b a Q) X.xe s
def BI(X:Cx)(f:A2)(r:List V->Hp->VK->Prop):Prop:=
 ∀(d:List (A4×AT))(s:A5)(a:St)(H:Hp)(b:List V)(e:List A2)(Q:VK),Inv X d a H s->B5 b e->r b H Q->
  AA (AD X.prog X.w) X.A (call f e) (EP X d a Q) X.xe s
def S6(X:Cx)(r:V->Hp->(Bool->Hp->Prop)->Prop):Prop:=
 ∀(b:List (A4×AT))(s:A5)(a:St)(H:Hp)(x:V)(v:A2)(Q:Bool->Hp->Prop),Inv X b a H s->B0 x v->r x H Q->
  AA (AD X.prog X.w) X.A (truthy v) (TP X b a Q) X.xe s
def tOp(r:R2)(f d:TE):TE:=λa H Q=>f a H λx e=>d a e λy b=>r x y b Q
def tUn(r:V->Hp->VK->Prop)(d:TE):TE:=λa H Q=>d a H λx b=>r x b Q
def rI(C:Int->Int->Prop)(g:Int->Int->V):R2:=λx y H Q=>∃i j,x=.int i/\y=.int j/\C i j/\Q (g i j) H
def rI0(g:Int->Int->V):R2:=λx y H Q=>∃i j,x=.int i/\y=.int j/\Q (g i j) H
def rU(g:Int->V):V->Hp->VK->Prop:=λx H Q=>∃i,x=.int i/\Q (g i) H
section
variable{X:Cx}{a b c:A8}{ta tb tc:TE}{pos:Pos}
theorem Hy(m:PE X a ta)(q:PE X b tb){i:List (A4×AT)}{s:A5}{σ:St}{H:Hp}{R:V->V->Hp->Prop}(I:Inv X i σ H s)
  (h:ta σ H λx l=>tb σ l λy d=>R x y d){Q:A2->A5->Prop}{f:A2->A2->Sem A2}
  (p:∀v u j x y d,Inv X i σ d j->B0 x v->B0 y u->R x y d->AA (AD X.prog X.w) X.A (f v u) Q X.xe j):
  AA (AD X.prog X.w) X.A (Ac a X.env) (λv e=>AA (AD X.prog X.w) X.A (Ac b X.env) (λu g=>AA (AD X.prog X.w) X.A (f v u) Q X.xe g) X.xe e) X.xe s:=by refine thn (m i s σ H _ I h) λv o⟨x,l,B,r1,n⟩=>?_;refine thn (q i o σ l _ B n) λu j⟨y,d,r,r2,t⟩=>?_;exact p v u j x y d r r1 r2 t
theorem S7{op:Operator}{r:R2}(g:OpR X (Ap op) r)(d:PE X a ta)(e:PE X b tb):PE X (.BinOp a op b pos) (tOp r ta tb):=by intro i s n H Q I h;exact wpAny_BinOp (Hy d e I h λv u m x y f j l o q=>g i m n f x y v u Q j l o q)
theorem S8{op:UnaryOp}{r:V->Hp->VK->Prop}(g:UnR X (unaryOp op) r)(f:PE X a ta):PE X (.UnaryOp op a pos) (tUn r ta):=by intro e s d H Q I h;exact UnaryOp_ (thn (f e s d H _ I h) λv m⟨x,i,j,r1,l⟩=>g e m d i x v Q j r1 l)
theorem opI{f:A2->A2->Sem A2}{C:Int->Int->Prop}{g:Int->Int->Int}
  (rule:∀(i j:Int)(t u:Tok)(s:A5)(Q:A2->A5->Prop)(E:A2->A5->Prop),C i j->Q (.int (g i j) s.toks) {s with toks:=s.toks+1}->AA (AD X.prog X.w) X.A (f (.int i t) (.int j u)) Q E s):
  OpR X f (rI C λi j=>.int (g i j)):=by intro n s o H x y v u Q I e m h;obtain⟨i,j,rfl,rfl,d,q⟩:=h;obtain⟨t,rfl⟩:=e;obtain⟨l,rfl⟩:=m;exact rule i j t l s _ _ d ⟨.int (g i j),H,I.tok _,⟨_,rfl⟩,q⟩
theorem Hz{f:A2->A2->Sem A2}{g:Int->Int->Int}
  (rule:∀(i j:Int)(t u:Tok)(s:A5)(Q:A2->A5->Prop)(E:A2->A5->Prop),Q (.int (g i j) s.toks) {s with toks:=s.toks+1}->AA (AD X.prog X.w) X.A (f (.int i t) (.int j u)) Q E s):
  OpR X f (rI0 λi j=>.int (g i j)):=by intro m s n H x y v u Q I d l h;obtain⟨i,j,rfl,rfl,q⟩:=h;obtain⟨t,rfl⟩:=d;obtain⟨e,rfl⟩:=l;exact rule i j t e s _ _ ⟨.int (g i j),H,I.tok _,⟨_,rfl⟩,q⟩
theorem Fc{f:A2->A2->Sem A2}{g:Int->Int->Bool}
  (rule:∀(i j:Int)(t u:Tok)(s:A5)(Q:A2->A5->Prop)(E:A2->A5->Prop),Q (.bool (g i j)) s->AA (AD X.prog X.w) X.A (f (.int i t) (.int j u)) Q E s):
  OpR X f (rI0 λi j=>.bl (g i j)):=by intro m s n H x y v u Q I d l h;obtain⟨i,j,rfl,rfl,q⟩:=h;obtain⟨t,rfl⟩:=d;obtain⟨e,rfl⟩:=l;exact rule i j t e s _ _ ⟨.bl (g i j),H,I,rfl,q⟩
def S9(i j:Int):Prop:=0<j/\j<1073741824
def H_(i j:Int):Prop:=0<=j/\j<=1000000/\i.natAbs<2^64
def Fd(i j:Int):Prop:=(-(2^64)<i/\i<2^64)\/(-(2^64)<j/\j<2^64)
theorem Fd.ok{i j:Int}(h:Fd i j):IntMulOk i j:=by
 rcases h with⟨e,d⟩|⟨e,d⟩;.exact .of_left (intBits_le_64 e d)
 .exact .of_right (intBits_le_64 e d)
theorem SA(k:Nat):(0:Int)<=2^k:=by rw[two_pow_cast];exact Int.natCast_nonneg _
theorem SC:OpR X (Ap .Add) (rI0 λi j=>.int (i+j)):=Hz λ_ _ _ _ _ _ _ q=>add_int q
theorem SE:OpR X (Ap .Sub) (rI0 λi j=>.int (i-j)):=Hz λ_ _ _ _ _ _ _ q=>sub_int q
theorem SF:OpR X (Ap .FloorDiv) (rI S9 λi j=>.int (i/j)):=opI λi j _ _ _ _ _ d q=>by have f:(0:Int)<j:=d.1;have e:j<1073741824:=d.2;exact floordiv_int ⋯ (by rw[Int.fdiv_eq_ediv_of_nonneg i ⋯];exact q) (.inl (PyProof.noPylong_small ⋯))
theorem SH:OpR X (Ap .Mod) (rI (λ_ j=>0<j) λi j=>.int (i%j)):=opI λi j _ _ _ _ _ d q=>by have e:(0:Int)<j:=d;exact mod_int' ⋯ (by rw[Int.fmod_eq_emod_of_nonneg i ⋯];exact q)
theorem SJ:OpR X (Ap .Pow) (rI H_ λi j=>.int (i^j.toNat)):=opI λ_ _ _ _ _ _ _ d q=>pow_int_small d.1 d.2.1 d.2.2 q
theorem SK:OpR X (Ap .RShift) (rI (λ_ j=>0<=j) λi j=>.int (i/2^j.toNat)):=opI λi j _ _ _ _ _ d q=>
 rshift_int d (by rw[Int.fdiv_eq_ediv_of_nonneg i (SA _)];exact q)
theorem SL:OpR X (Ap .BitAnd) (rI0 λi j=>.int (AK.bitAnd i j)):=Hz λ_ _ _ _ _ _ _ q=>and_int q
theorem unI{f:A2->Sem A2}{g:Int->Int}
  (rule:∀(i:Int)(t:Tok)(s:A5)(Q:A2->A5->Prop)(E:A2->A5->Prop),Q (.int (g i) s.toks) {s with toks:=s.toks+1}->AA (AD X.prog X.w) X.A (f (.int i t)) Q E s):
  UnR X f (rU λi=>.int (g i)):=by intro j s e H x v Q I d h;obtain⟨i,rfl,q⟩:=h;obtain⟨t,rfl⟩:=d;exact rule i t s _ _ ⟨.int (g i),H,I.tok _,⟨_,rfl⟩,q⟩
theorem SM:UnR X (unaryOp .USub) (rU λi=>.int (-i)):=unI λ_ _ _ _ _ q=>neg_int q
end
def E4:V->V->Bool
 | .non,.non=>A3| .non,.int _=>A3| .int _,.non=>A3| .non,.bl _=>A3| .bl _,.non=>A3| .non,.str _=>A3| .str _,.non=>A3
 | .int _,.int _=>A3| .bl _,.bl _=>A3| .str _,.str _=>A3| .byt _,.byt _=>A3
 | .int _,.str _=>A3| .str _,.int _=>A3| .bl _,.str _=>A3| .str _,.bl _=>A3
 |_,_=>A7
def rEq:R2:=λx y H Q=>E4 x y=A3/\Q (.bl (decide (x=y))) H
def rNe:R2:=λx y H Q=>E4 x y=A3/\Q (.bl (!decide (x=y))) H
theorem I0{i j:Int}:decide (V.int i=V.int j)=(i==j):=by rw[cz];simp
theorem Kv{i j:Bool}:decide (V.bl i=V.bl j)=(i==j):=by rw[cz];simp
theorem Kw{i j:AI}:decide (V.str i=V.str j)=(i==j):=by rw[cz];simp
theorem Kx{i j:Array UInt8}:decide (V.byt i=V.byt j)=(i.toList==j.toList):=by rw[cz];cases i;cases j;simp
section
variable{X:Cx}{a b c:A8}{ta tb tc:TE}{pos:Pos}
theorem BR{f:List (A4×AT)}{σ:St}{H:Hp}{s:A5}{Q:VK}{k d:Bool}(I:Inv X f σ H s)(q:Q (.bl k) H)(e:k=d):EP X f σ Q (.bool d) s:=by subst e;exact⟨.bl k,H,I,rfl,q⟩
theorem SN:OpR X (AU .Eq) rEq:=by
 intro l s m H x y v u Q I g d h;obtain⟨f,q⟩:=h;cases x with
 |non=>
  cases g;cases y with
  |non=>cases d;exact PySem.EqNone.eq_none_none (BR I q (by simp))
  |bl j=>cases d;exact PySem.EqNone.eq_none_bool (BR I q (by simp))
  |int j=>obtain⟨e,rfl⟩:=d;exact PySem.EqNone.eq_none_int (BR I q (by simp))
  |str j=>obtain⟨e,rfl⟩:=d;exact PySem.EqNone.eq_none_str (BR I q (by simp))
  |_=>exact absurd (show A7=A3 from f) aD
 |bl i=>
  cases g;cases y with
  |non=>cases d;exact PySem.EqNone.eq_bool_none (BR I q (by simp))
  |bl j=>cases d;exact eq_bool (BR I q Kv)
  |str j=>obtain⟨e,rfl⟩:=d;exact PySem.EqMixed.eq_bool_str (BR I q (by simp))
  |_=>exact absurd (show A7=A3 from f) aD
 |int i=>
  obtain⟨t,rfl⟩:=g;cases y with
  |non=>cases d;exact PySem.EqNone.eq_int_none (BR I q (by simp))
  |int j=>obtain⟨e,rfl⟩:=d;exact eq_int (BR I q I0)
  |str j=>obtain⟨e,rfl⟩:=d;exact PySem.EqMixed.eq_int_str (BR I q (by simp))
  |_=>exact absurd (show A7=A3 from f) aD
 |str i=>
  obtain⟨t,rfl⟩:=g;cases y with
  |non=>cases d;exact PySem.EqNone.eq_str_none (BR I q (by simp))
  |bl j=>cases d;exact PySem.EqMixed.eq_str_bool (BR I q (by simp))
  |int j=>obtain⟨e,rfl⟩:=d;exact PySem.EqMixed.eq_str_int (BR I q (by simp))
  |str j=>obtain⟨e,rfl⟩:=d;exact eq_str (BR I q Kw)
  |_=>exact absurd (show A7=A3 from f) aD
 |byt i=>
  obtain⟨t,rfl⟩:=g;cases y with
  |byt j=>obtain⟨e,rfl⟩:=d;exact W.eq_bytes (BR I q Kx)
  |_=>exact absurd (show A7=A3 from f) aD
 |_=>cases y<;>exact absurd (show A7=A3 from f) aD
theorem SQ:OpR X (AU .NotEq) rNe:=by
 intro l s m H x y v u Q I g d h;obtain⟨f,q⟩:=h;cases x with
 |non=>
  cases g;cases y with
  |non=>cases d;exact PySem.EqNone.ne_none_none (BR I q (by simp))
  |bl j=>cases d;exact PySem.EqNone.ne_none_bool (BR I q (by simp))
  |int j=>obtain⟨e,rfl⟩:=d;exact PySem.EqNone.ne_none_int (BR I q (by simp))
  |str j=>obtain⟨e,rfl⟩:=d;exact PySem.EqNone.ne_none_str (BR I q (by simp))
  |_=>exact absurd (show A7=A3 from f) aD
 |bl i=>
  cases g;cases y with
  |non=>cases d;exact PySem.EqNone.ne_bool_none (BR I q (by simp))
  |bl j=>cases d;exact ne_bool (BR I q (congrArg not Kv))
  |str j=>obtain⟨e,rfl⟩:=d;exact PySem.EqMixed.ne_bool_str (BR I q (by simp))
  |_=>exact absurd (show A7=A3 from f) aD
 |int i=>
  obtain⟨t,rfl⟩:=g;cases y with
  |non=>cases d;exact PySem.EqNone.ne_int_none (BR I q (by simp))
  |int j=>obtain⟨e,rfl⟩:=d;exact ne_int (BR I q (congrArg not I0))
  |str j=>obtain⟨e,rfl⟩:=d;exact PySem.EqMixed.ne_int_str (BR I q (by simp))
  |_=>exact absurd (show A7=A3 from f) aD
 |str i=>
  obtain⟨t,rfl⟩:=g;cases y with
  |non=>cases d;exact PySem.EqNone.ne_str_none (BR I q (by simp))
  |bl j=>cases d;exact PySem.EqMixed.ne_str_bool (BR I q (by simp))
  |int j=>obtain⟨e,rfl⟩:=d;exact PySem.EqMixed.ne_str_int (BR I q (by simp))
  |str j=>obtain⟨e,rfl⟩:=d;exact ne_str (BR I q (congrArg not Kw))
  |_=>exact absurd (show A7=A3 from f) aD
 |byt i=>
  obtain⟨t,rfl⟩:=g;cases y with
  |byt j=>obtain⟨e,rfl⟩:=d;exact W.ne_bytes (BR I q (congrArg not Kx))
  |_=>exact absurd (show A7=A3 from f) aD
 |_=>cases y<;>exact absurd (show A7=A3 from f) aD
theorem SS:OpR X (AU .Lt) (rI0 λi j=>.bl (decide (i<j))):=Fc λ_ _ _ _ _ _ _ q=>lt_int q
theorem SU:OpR X (AU .LtE) (rI0 λi j=>.bl (decide (i<=j))):=Fc λ_ _ _ _ _ _ _ q=>le_int q
theorem SV:OpR X (AU .Gt) (rI0 λi j=>.bl (decide (j<i))):=Fc λ_ _ _ _ _ _ _ q=>gt_int q
theorem SW:OpR X (AU .GtE) (rI0 λi j=>.bl (decide (j<=i))):=Fc λ_ _ _ _ _ _ _ q=>ge_int q
theorem SX:OpR X (AU .Is) (λx y H Q=>y=.non/\Q (.bl (decide (x=.non))) H):=by
 intro g s f H x y v u Q I d e h;obtain⟨rfl,q⟩:=h;cases e;refine is_none_gen (BR I q ?_);cases x<;>first
  |(cases d;rfl)
  |(obtain⟨t,rfl⟩:=d;rfl)
theorem SY:OpR X (AU .IsNot) (λx y H Q=>y=.non/\Q (.bl (!decide (x=.non))) H):=by
 intro g s f H x y v u Q I d e h;obtain⟨rfl,q⟩:=h;cases e;refine isnot_none_gen (BR I q ?_);cases x<;>first
  |(cases d;rfl)
  |(obtain⟨t,rfl⟩:=d;rfl)
theorem OpR.or{f:A2->A2->Sem A2}{r e:R2}(h:OpR X f r)(h':OpR X f e):OpR X f (λx y H Q=>r x y H Q\/e x y H Q):=by
 intro i s d H x y v u Q I j g q;rcases q with q|q;.exact h i s d H x y v u Q I j g q
 .exact h' i s d H x y v u Q I j g q
theorem SZ{op:CmpOp}{r:R2}(g:OpR X (AU op) r)(d:PE X a ta)(e:PE X b tb)(m:behindInMarks op b=A7):PE X (.Compare a [op] [b] pos) (tOp r ta tb):=by intro i s o H Q I h;exact wpAny_Compare1 (Hy d e I h λv u n x y f j l p q=>g i n o f x y v u Q j l p q) m
def CO(t:TE):TT:=λd H Q=>t d H λx e=>∃k,x=.bl k/\Q k e
theorem Ky{op:CmpOp}{r:R2}(p:OpR X (AU op) r)(i:PE X a ta)(n:PE X b tb)(C:behindInMarks op b=A7):PT X (.Compare a [op] [b] pos) (CO (tOp r ta tb)):=by
 intro d s f H Q I h;refine wpAny_isTrue_Compare1 (thn (i d s f H _ I h) λv m⟨x,A,B,r1,l⟩=>thn (n d m f A _ B l) λu D⟨y,o,t,r2,w⟩=>
  thn (p d D f o x y v u _ t r1 r2 w) λc G⟨z,q,j,E,k,e,g⟩=>?_) C;subst e;cases E;exact bT ⟨q,j,g⟩
def DI(r i:R2)(ta tb tc:TE):TE:=λd H Q=>ta d H λx h=>tb d h λy g=>r x y g λz e=>∃k,z=.bl k/\
 (if k=A3 then tc d e λj f=>i y j f Q else Q (.bl A7) e)
theorem Sa{op f:CmpOp}{r m:R2}(E:OpR X (AU op) r)(j:OpR X (AU f) m)(p:PE X a ta)(C:PE X b tb)(q:PE X c tc)
  (R:lastMarks [op,f] [b,c]=A7:=by with_unfolding_all rfl):PE X (.Compare a [op,f] [b,c] pos) (DI r m ta tb tc):=by
 intro g s i H Q I h;refine Compare_chain (thn (p g s i H _ I h) λv A⟨x,O,P,r1,t⟩=>chain_link (thn (C g A i O _ P t) λu S⟨y,D,J,r2,N⟩=>
  thn (E g S i D x y v u _ J r1 r2 N) λd G⟨z,o,n,Y,k,e,l⟩=>?_)) R;subst e;cases Y;refine bT ?_;cases k with
 |false=>exact ite_ff ⟨.bl A7,o,n,rfl,l⟩
 |true=>exact ite_tt (chain_last (thn (q g G i o _ n l) λU T⟨K,M,B,w,L⟩=>j g T i M y K u U Q B r2 w L))
theorem Sb{op f:CmpOp}{r m:R2}(J:OpR X (AU op) r)(j:OpR X (AU f) m)(p:PE X a ta)(E:PE X b tb)(q:PE X c tc)
  (Z:lastMarks [op,f] [b,c]=A7:=by with_unfolding_all rfl):PT X (.Compare a [op,f] [b,c] pos) (CO (DI r m ta tb tc)):=by
 intro g s i H Q I h;refine isTrue_chain (thn (p g s i H _ I h) λv B⟨x,T,Y,r1,t⟩=>test_link (thn (E g B i T _ Y t) λu s2⟨y,G,L,r2,S⟩=>
  thn (J g s2 i G x y v u _ L r1 r2 S) λd K⟨z,o,n,r3,k,e,l⟩=>?_)) Z;subst e;cases r3;refine bT ?_;cases k with
 |false=>obtain⟨k',D,M⟩:=l;cases D;exact ite_ff ⟨o,n,M⟩
 |true=>refine ite_tt (test_last (thn (q g K i o _ n l) λw' s4⟨N,R,C,w,O⟩=>thn (j g s4 i R y N u w' _ C r2 w O) λd' s5⟨z2,A,U,P,k2,e2,q5⟩=>?_));subst e2;cases P;exact bT ⟨A,U,q5⟩
def Eb(K:W.Frag)(x:V)(H:Hp)(k:Bool):Prop:=
 match x with
 | .non=>k=A7
 | .bl b=>k=b
 | .int i=>k=(i !=0)
 | .str y=>y.length<=A9/\k=((y.length:Int)!=0)
 | .byt y=>y.size<=A9/\k=((y.size:Int)!=0)
 | .ref p=>(∃d,SqL K H p d/\k=!d.isEmpty)\/(∃d,SqT K H p d/\k=!d.isEmpty)\/∃e,H p=A0 (.dK e)/\k=!e.isEmpty
 |_=>False
theorem Sc{e:Type}{d:List (e×V)}{vs:List (e×A2)}(r:KV d vs):(!vs.isEmpty)=!d.isEmpty:=by cases r<;>rfl
theorem Kz{xs:List V}{d:List A2}(r:B5 xs d):(!d.toArray.isEmpty)=!xs.isEmpty:=by cases r<;>simp
theorem E5:(A9:Nat)<2^63:=by rw[sizeLine_eq];decide
theorem Se:S6 X (λx H Q=>∃k,Eb X.K x H k/\Q k H):=by
 intro J s L H x v Q I l h;obtain⟨k,e,q⟩:=h;have M:=E5;have G:A9=16777216:=sizeLine_eq;cases x with
 |non=>cases l;have d:k=A7:=e;subst d;exact truthy_none ⟨H,I,q⟩
 |bl b=>cases l;have d:k=b:=e;subst d;exact bT ⟨H,I,q⟩
 |int i=>obtain⟨t,rfl⟩:=l;have d:k=(i !=0):=e;subst d;exact PySem.P.truthy_int ⟨H,I,q⟩
 |str y=>obtain⟨t,rfl⟩:=l;obtain⟨E,d⟩:y.length<=A9/\k=((y.length:Int)!=0):=e;subst d;exact PySem.P.truthy_str ⋯ ⟨H,I.tok _,q⟩
 |byt y=>obtain⟨t,rfl⟩:=l;obtain⟨E,d⟩:y.size<=A9/\k=((y.size:Int)!=0):=e;subst d;exact W.truthy_bytes ⋯ ⟨H,I.tok _,q⟩
 |ref p=>
  cases l;have d:(∃j,SqL X.K H p j/\k=!j.isEmpty)\/(∃j,SqT X.K H p j/\k=!j.isEmpty)\/∃f,H p=A0 (.dK f)/\k=!f.isEmpty:=e;rcases d with⟨j,n,d⟩|⟨j,n,d⟩|⟨f,n,d⟩;.subst d;obtain⟨A,r,B,C⟩:=I.list n;have g:=r.length;exact wpAny_truthy_list B.isList (by simp only[aE];omega) ⟨H,I.tok _,by rw[Kz r];exact q⟩
  .subst d;obtain⟨A,r,B,C⟩:=I.tuple n;have g:=r.length;exact truthy_tuple B (by simp only[aE];omega) ⟨H,I.tok _,by rw[Kz r];exact q⟩
  .subst d;obtain⟨C,D,o,r,m⟩:f.length<=A9/\(p==AS)=A7/\∃o,KV f o/\s.heap.DictOf (BQ X.prog X.w) p o:=I.hok p _ n;have g:f.length=o.length:=Ah r;exact wpAny_truthy_dict D m ⋯ ⟨H,I.tok _,by rw[Sc r];exact q⟩
 |_=>exact(show False from e).elim
theorem Sf(i:PE X a ta)(o:∀d,isTrue a X.env d=(do let v<-d;standAt a.pos;holding [v] (truthy v))):
  PT X a (λe H Q=>ta e H λx g=>∃k,Eb X.K x g k/\Q k g):=by intro f s e H Q I h;exact isTrue_plain (thn (i f s e H _ I h) λv l⟨x,m,n,r1,j⟩=>Se f l e m x v Q n r1 j) (o _)
theorem Sh:OpR X (Ap .Add) (λx y H Q=>∃i j,x=.str i/\y=.str j/\i.length+j.length<=A9/\Q (.str (i++j)) H):=by intro m s n H x y v u Q I d f h;obtain⟨i,j,rfl,rfl,g,q⟩:=h;obtain⟨t,rfl⟩:=d;obtain⟨e,rfl⟩:=f;exact add_str (λe l=>⟨.str (i++j),H,I.tok _,⟨_,rfl⟩,q⟩) g
theorem CP{x:V}{d:List A2}(r:B5 [x] d):∃u,d=[u]/\B0 x u:=by
 cases r with
 |cons r1 r2=>cases r2;exact⟨_,rfl,r1⟩
theorem I9{x y:V}{e:List A2}(r:B5 [x,y] e):∃u d,e=[u,d]/\B0 x u/\B0 y d:=by
 cases r with
 |cons r1 r2=>
  cases r2 with
  |cons g f=>cases f;exact⟨_,_,rfl,r1,g⟩
theorem Si:BI X (.builtin "abs") (λd H Q=>∃i,d=[.int i]/\Q (.int (if i<0 then -i else i)) H):=by intro f s e H d g Q I r h;obtain⟨i,rfl,q⟩:=h;obtain⟨u,rfl,t,rfl⟩:=CP r;exact call_abs_int λu j=>⟨.int (if i<0 then -i else i),H,I.tok _,⟨_,rfl⟩,q⟩
theorem Sj(f:X.calm=A3):BI X (.builtin "max") (λe H Q=>∃i j,e=[.int i,.int j]/\Q (.int (if j>i then j else i)) H):=by
 intro m s o H e g Q I r h;obtain⟨i,j,rfl,q⟩:=h;obtain⟨u,v,rfl,⟨t,rfl⟩,⟨n,rfl⟩⟩:=I9 r;refine max_two_ints (I.ok.hd f) λp l k=>⟨_,H,I.kept k,?_,q⟩;by_cases d:j>i;.rw[if_pos d,if_pos d];exact⟨_,rfl⟩
 .rw[if_neg d,if_neg d];exact⟨_,rfl⟩
theorem Sk(f:X.calm=A3):BI X (.builtin "min") (λe H Q=>∃i j,e=[.int i,.int j]/\Q (.int (if j<i then j else i)) H):=by
 intro m s o H e g Q I r h;obtain⟨i,j,rfl,q⟩:=h;obtain⟨u,v,rfl,⟨t,rfl⟩,⟨n,rfl⟩⟩:=I9 r;refine min_two_ints (I.ok.hd f) λp l k=>⟨_,H,I.kept k,?_,q⟩;by_cases d:j<i;.rw[if_pos d,if_pos d];exact⟨_,rfl⟩
 .rw[if_neg d,if_neg d];exact⟨_,rfl⟩
theorem Sl:BI X (.type "int") (λd H Q=>(∃i,d=[.int i]/\Q (.int i) H)\/∃k,d=[.bl k]/\Q (.int (if k then 1 else 0)) H):=by
 intro f s e H d g Q I r h;rcases h with⟨i,rfl,q⟩|⟨k,rfl,q⟩;.obtain⟨u,rfl,t,rfl⟩:=CP r;exact call_int_int ⟨.int i,H,I,⟨_,rfl⟩,q⟩
 .obtain⟨u,rfl,r1⟩:=CP r;cases r1;exact call_int_bool ⟨.int (if k then 1 else 0),H,I.tok _,⟨_,rfl⟩,q⟩
def K_(K:W.Frag)(x:V)(H:Hp)(n:Nat):Prop:=
 match x with
 | .str y=>y.length<=A9/\n=y.length
 | .byt y=>y.size<=A9/\n=y.size
 | .ref p=>(∃d,SqL K H p d/\n=d.length)\/∃d,SqT K H p d/\n=d.length
 |_=>False
theorem Sm:BI X (.builtin "len") (λd H Q=>∃x n,d=[x]/\K_ X.K x H n/\Q (.int n) H):=by
 intro C s D H d A Q I r h;obtain⟨x,n,rfl,e,q⟩:=h;obtain⟨u,rfl,j⟩:=CP r;have E:=E5;have B:A9=16777216:=sizeLine_eq;cases x with
 |str y=>obtain⟨t,rfl⟩:=j;obtain⟨v,g⟩:y.length<=A9/\n=y.length:=e;subst g;exact len_str ⋯ ⟨.int _,H,I.tok _,⟨_,rfl⟩,q⟩
 |byt y=>obtain⟨t,rfl⟩:=j;obtain⟨v,g⟩:y.size<=A9/\n=y.size:=e;subst g;exact W.len_bytes ⋯ ⟨.int _,H,I.tok _,⟨_,rfl⟩,q⟩
 |ref p=>
  cases j;have g:(∃d,SqL X.K H p d/\n=d.length)\/∃d,SqT X.K H p d/\n=d.length:=e;rcases g with⟨d,o,g⟩|⟨d,o,g⟩;.subst g;obtain⟨l,i,m,w⟩:=I.list o;have f:=i.length;exact Calls.call_len_list m.isList (by simp only[aE];omega) ⟨.int d.length,H,I.tok _,⟨_,by simp only[aE];rw[f]⟩,q⟩
  .subst g;obtain⟨l,i,m,w⟩:=I.tuple o;have f:=i.length;exact len_tuple m (by simp only[aE];omega) ⟨.int d.length,H,I.tok _,⟨_,by simp only[aE];rw[f]⟩,q⟩
 |_=>exact(show False from e).elim
end
structure ObjM(h:AM)(x dx C:A4)(mA:AI->Option A2):Prop where
 obj:h.get? x=A0 (W.instObj C dx)
 ns:h.Ns1 dx mA
 ne:dx≠x
set_option tactic.hygienic true in
theorem Sn{h:AM}{dx:A4}{mA:AI->Option A2}(n:h.Ns1 dx mA):∃od,h.get? dx=A0 od/\∀name,W.lookIn name od=A0 (mA name):=by
 obtain⟨o,es,ep,ho,hd,hk,_,hm⟩:=n;refine⟨o,ho,λname=>?_⟩;have e:=hm name;unfold nsFind findBy at e;rw[<-Array.find?_toList]at e;unfold W.lookIn;rw[hd];dsimp only;split;.rename_i y q;rw[q]at e;exact congrArg A0 e
 .rename_i q;rw[q]at e;have a:es.toList.any (·.refKey)=A7:=by rw[List.any_eq_false];intro y hy;obtain⟨z,t,hkey⟩:=hk y (bY.mp hy);simp[At.refKey,hkey]
  have a':¬es.toList.any (·.refKey)=A3:=by rw[a];exact aD
  rw[if_neg a'];exact congrArg A0 e
theorem ObjM.look{h:AM}{x b C:A4}{mA:AI->Option A2}(I:ObjM h x b C mA):∃a,W.InstAt h x (W.instObj C b) C (A0 a)/\∀name,W.lookIn name a=A0 (mA name):=
 let⟨a,d,e⟩:=Sn I.ns
 ⟨a,⟨I.obj,rfl,rfl,d⟩,e⟩
theorem CD.some_of{v:V}{o:Option A2}(r:CD (A0 v) o):∃u,o=A0 u/\B0 v u:=by
 cases o with
 |none=>exact(show False from r).elim
 |some u=>exact⟨u,rfl,r⟩
section
variable{P:AC}{w:AL}{H H':Hp}{h h':AM}{a C dx:A4}{fs fs':List (AI×V)}
theorem Sq(b:HOk P w H h)(e:H a=A0 (.ins C dx fs)):∃mA,ObjM h a dx C mA/\(∀f,CD (fs.lookup f) (mA f))/\PySem.Within mA (fs.map (·.1))/\fs.length<=1000/\H dx=A0 (.own a):=by obtain⟨d,z,g,i,mA,n,r,q⟩:=(show B7 P w H h a (.ins C dx fs)from b a _ e);exact⟨mA,⟨i,n,g⟩,r,q,z,d⟩
end
structure Cls(K:W.Frag)(C:A4):Prop where
 pg:W.plainGet K C AI.empty=A3
 hd:W.hasDictIn K C=A3
 po:W.plainOver K C=A3
 sa:W.findIn K (.ref C) "__setattr__"=A0 (A0 (.builtin "object.__setattr__"))
theorem Cls.get{K:W.Frag}{C:A4}(c:Cls K C)(f:AI):W.plainGet K C f=A3:=c.pg
section
variable{X:Cx}{p_:List (A4×AT)}{σ:St}{H:Hp}{s:A5}{A:AN}{E:A2->A5->Prop}{Q:A2->A5->Prop}{c:A2}{b:Bool}
inductive TyOf(K:W.Frag)(H:Hp):V->A2->Prop where
 |non:TyOf K H .non (.type "NoneType")
 |bl(x:Bool):TyOf K H (.bl x) (.type "bool")
 |int(i:Int):TyOf K H (.int i) (.type "int")
 |str(x:AI):TyOf K H (.str x) (.type "str")
 |flt(x:UInt64):TyOf K H (.flt x) (.type "float")
 |lst{a:A4}{xs:List V}(e:H a=A0 (.lst xs)):TyOf K H (.ref a) (.type "list")
 |frz{a:A4}{o:AT}{xs:List V}(e:H a=A0 (.frz o (.lst xs))):TyOf K H (.ref a) (.type "list")
 |tup{a:A4}{xs:List V}(e:H a=A0 (.tup xs)):TyOf K H (.ref a) (.type "tuple")
 |dK{a:A4}{kvs:List (Key×V)}(e:H a=A0 (.dK kvs)):TyOf K H (.ref a) (.type "dict")
 |dT{a:A4}{kvs:List (List Key×V)}(e:H a=A0 (.dT kvs)):TyOf K H (.ref a) (.type "dict")
 |ins{a C dx:A4}{fs:List (AI×V)}(e:H a=A0 (.ins C dx fs))(cl:Cls K C)(ha:W.findIn K (.ref C) "__class__"=A0 (A0 (.builtin "object.__class__")))
   (hn:W.specialIn K (.builtin "object.__class__") "__get__"=A0 (A0 (.builtin "getset_descriptor.__get__")))(htk:W.takesIn K (.builtin "object.__class__")=A0 A3)
   (hm:W.mroIn K C (.type "object")=A0 A3):TyOf K H (.ref a) (.ref C)
theorem Sr{x:V}{u t:A2}(I:Inv X p_ σ H s)(d:B0 x u)(ty:TyOf X.K H x t)(e:W.kitOne X.K t c=A0 b)(h:∀G,Q (.bool b) {s with toks:=G}):
  AA (AD X.prog X.w) A (call (.builtin "isinstance") [u,c]) Q E s:=by
 cases ty with
 |non=>cases(show u=A2.none from d);exact W.kia_one W.kitx_none I.kIn True.intro e (λz=>nomatch z) h
 |bl y=>cases(show u=A2.bool y from d);exact W.kia_one W.kitx_bool I.kIn True.intro e (λz=>nomatch z) h
 |int i=>obtain⟨t,q⟩:=(show∃t,u=A2.int i t from d);cases q;exact W.kia_one W.kitx_int I.kIn True.intro e (λz=>nomatch z) h
 |str y=>obtain⟨t,q⟩:=(show∃t,u=A2.str y t from d);cases q;exact W.kia_one W.kitx_str I.kIn True.intro e (λz=>nomatch z) h
 |flt y=>obtain⟨t,q⟩:=(show∃t,u=A2.float y t from d);cases q;exact W.kia_one W.kitx_float I.kIn True.intro e (λz=>nomatch z) h
 | @lst a l f=>cases(show u=A2.ref a from d);obtain⟨_,_,n,_,g⟩:=(show B7 X.prog X.w H s.heap a (.lst l)from I.hok a _ f);exact W.kia_one W.kitx_list I.kIn ⟨_,g,rfl⟩ e (λz=>nomatch z) h
 | @frz a P l f=>cases(show u=A2.ref a from d);obtain⟨_,_,_,n,_,g⟩:=(show B7 X.prog X.w H s.heap a (.frz P (.lst l))from I.hok a _ f);exact W.kia_one W.kitx_list I.kIn ⟨_,g,rfl⟩ e (λz=>nomatch z) h
 | @tup a l f=>cases(show u=A2.ref a from d);obtain⟨_,_,_,p⟩:=(show B7 X.prog X.w H s.heap a (.tup l)from I.hok a _ f);obtain⟨o,g,m,_⟩:=p;exact W.kia_one W.kitx_tuple I.kIn ⟨o,g,m⟩ e (λz=>nomatch z) h
 | @dK a j f=>cases(show u=A2.ref a from d);obtain⟨_,_,R,_,p⟩:=(show B7 X.prog X.w H s.heap a (.dK j)from I.hok a _ f);obtain⟨o,N,L,g,m,_⟩:=p;exact W.kia_one W.kitx_dict I.kIn ⟨o,g,m.1⟩ e (λz=>nomatch z) h
 | @dT a j f=>cases(show u=A2.ref a from d);obtain⟨_,_,l,_,o,N,L,g,m,_⟩:=(show B7 X.prog X.w H s.heap a (.dT j)from I.hok a _ f);exact W.kia_one W.kitx_dict I.kIn ⟨o,g,m.1⟩ e (λz=>nomatch z) h
 | @ins a C S T f v B D r M=>cases(show u=A2.ref a from d);obtain⟨mA,O,_⟩:=Sq I.hok f;obtain⟨U,J,_⟩:=O.look;exact W.kia_one (W.kitx_own (v.get _) v.hd B D r M) I.kIn J e (λz=>nomatch z) h
end
structure Room(k:Nat)(A:AN):Prop where
 hd:A.handled=A6
 dp:A.depth+3*k+5<recursionLimit
 un:A.units+16*k+200<Am
 gd:A.guards=A0 []
theorem Room.mono{j k:Nat}{A:AN}(r:Room k A)(h:j<=k):Room j A:=⟨r.hd,by have:=r.dp;omega,by have:=r.un;omega,r.gd⟩
theorem Room.deeper{k:Nat}{A:AN}(r:Room (k+1) A)(env:Env):Room k (A.deeper env):=
 ⟨r.hd,by have:=r.dp;show A.depth+1+3*k+5<_;omega,by have:=r.un;show A.units+3+16*k+200<_;omega,r.gd⟩
theorem Room.depth{k:Nat}{A:AN}(r:Room k A):A.depth<recursionLimit:=by have:=r.dp;omega
theorem Room.units{k:Nat}{A:AN}(r:Room k A):A.units+64<Am:=by have:=r.un;omega
def C4:TA:=λ_ H Q=>Q [] H
def Bw(g:TE)(f:TA):TA:=λa H Q=>g a H λx e=>f a e λd b=>Q (x::d) b
section
variable{X:Cx}{e:A8}{es:List A8}{te:TE}{t:TA}{pos:Pos}
theorem E6:PA X [] C4:=λ_ _ _ _ H Q I h=>Calls.spliced_nil ⟨[],H,I,.nil,h⟩
theorem Da(d:PE X e te)(j:PA X es t)(hs:AY (e::es) X.env=(A7,Ac e X.env)::AY es X.env:=by rfl):PA X (e::es) (Bw te t):=by intro pos a s b H Q I h;rw[hs];show AA _ _ (spliced ((A7,Ac e X.env)::backTo pos (AY es X.env))) _ _ s;refine Calls.spliced_cons (thn (d a s b H _ I h) λu g⟨x,n,o,r1,f⟩=>?_);exact thn (j pos a g b n _ o f) λq r⟨p,i,l,r2,m⟩=>⟨x::p,i,l,.cons r1 r2,m⟩
def IA(t:TA):TE:=λd H Q=>t d H λa b=>a.length<=A9/\∀p,b p=A6->Q (.ref p) (upd b p (.tup a))
def IB(t:TA):TE:=λd H Q=>t d H λa b=>a.length<=A9/\∀p,b p=A6->Q (.ref p) (upd b p (.lst a))
theorem Ss{g}(h:PA X es t):PE X (.Tuple es g pos) (IA t):=by intro l s n H Q I o;refine wpAny_Tuple_spliced (thn (h pos l s n H _ I o) λi a⟨m,d,f,r,z,q⟩=>⟨by rw[<-r.length];exact z,?_⟩);have j:d a.heap.objs.size=A6:=f.hok.fresh (ah _);refine⟨.ref a.heap.objs.size,upd d a.heap.objs.size (.tup m),f.laid (t':=a.toks) (λb u e=>ag _ e) (ah _) ?_,rfl,q _ j⟩;exact⟨z,i,r,⟨_,au _ rfl,rfl,⟨_,rfl⟩,rfl⟩⟩
theorem Su(h:PA X es t):PE X (.List es pos) (IB t):=by intro j s m H Q I n;refine wpAny_List_spliced (thn (h pos j s m H _ I n) λg a⟨l,d,f,r,z,q⟩=>⟨by rw[<-r.length];exact z,?_⟩);have i:d a.heap.objs.size=A6:=f.hok.fresh (ah _);refine⟨.ref a.heap.objs.size,upd d a.heap.objs.size (.lst l),f.laid (t':=a.toks) (λb u e=>ag _ e) (ah _) ?_,rfl,q _ i⟩;exact⟨z,g,0,r,au _ rfl⟩
end
abbrev Sp:=List V->Hp->VK->XK->Prop
abbrev CXT:=List Env->Hp->A5->XK->A2->A5->Prop
structure Env0(P:AC)(w:AL)(K:W.Frag)(mg:AI->Option A2)(base:AM)(A:AN)(outer:List Env)(s:A5)(H:Hp):Prop where
 frames:A.frames=A0 outer
 mod:Mod K mg base
 bs:∀b o,base.get? b=A0 o->s.heap.get? b=A0 o/\H b=A6
 bsz:base.objs.size<=s.heap.objs.size
 funs:s.heap.FunFrames base outer
 frf:∀b∈frs outer,H b=A6
 hok:HOk P w H s.heap
 bare:AllBare s.gens
def CE(a:List Env)(P:AC)(w:AL)(H:Hp)(s:A5)(Q:VK)(u:A2)(s':A5):Prop:=
 ∃v b,s'.os=s.os/\AllBare s'.gens/\Un (frs a) [] H b s.heap s'.heap/\HOk P w b s'.heap/\B0 v u/\Q v b
def CR(CX:CXT)(a:List Env)(P:AC)(w:AL)(H:Hp)(s:A5)(Q:VK)(E:XK)(r:Result)(s':A5):Prop:=
 match r with
 | .ok (.ret u)=>CE a P w H s Q u s'
 | .ok _=>False
 | .error e=>CX a H s E e s'
structure FnOk(P:AC)(w:AL)(K:W.Frag)(mg:AI->Option A2)(base:AM)(CX:CXT)(k:Nat)(f:A4)(fd:Ar)(ps:List AI)(sp:Sp):Prop where
 len:∀vs H Q E,sp vs H Q E->vs.length=ps.length
 run:∀(A:AN)(outer:List Env)(s:A5)(H:Hp)(args:Args)(us:List A2)(vs:List V)(Q:VK)(E:XK),Room k A->Env0 P w K mg base A outer s H->BindsTo s fd args (ps.zip us)->B5 vs us->sp vs H Q E->
  codeAny (AD P w) A (.call (.ref f) args) (CR CX outer P w H s Q E) s
theorem FnOk.mono{P:AC}{w:AL}{K:W.Frag}{mg:AI->Option A2}{base:AM}{CX:CXT}{j k:Nat}{f:A4}{d:Ar}{ps:List AI}{sp:Sp}(F:FnOk P w K mg base CX j f d ps sp)(h:j<=k):
  FnOk P w K mg base CX k f d ps sp:=⟨F.len,λA a s H b e i Q E g=>F.run A a s H b e i Q E (g.mono h)⟩
section
variable{X:Cx}{p_:List (A4×AT)}{σ:St}{H:Hp}{s s':A5}
theorem Inv.env0(I:Inv X p_ σ H s):Env0 X.prog X.w X.K X.mg X.base X.A X.stack s H:=
 ⟨I.ok.frames,I.ok.mod,I.bs,aN I.ok.bsz I.sz,I.stack,I.stkFree,I.hok,I.bare⟩
theorem Inv.after{Q:VK}{u:A2}(I:Inv X p_ σ H s)(h:CE X.stack X.prog X.w H s Q u s'):EP X p_ σ Q u s':=by obtain⟨v,j,os,a,l,f,r,q⟩:=h;obtain⟨i,g,d,t,e⟩:=s';obtain rfl:e=s.os:=os;exact⟨v,j,I.call (h':=i) (g':=g) (d':=d) (t':=t) (ch:=[]) l f a (λb z=>absurd z (by simp)),r,q⟩
end
def Fe(sp:Sp)(a:List V)(E:XK)(t:TA):TE:=λb H Q=>t b H λd e=>sp (d++a) e Q E
def CW(K:W.Frag)(d:Ar)(ps:List AI)(b:List A2):Prop:=
 ∀(s:A5)(a:List A2),K.In s.heap->(a++b).length=ps.length->BindsTo s d ⟨a,[]⟩ (ps.zip (a++b))
theorem CW.all{K:W.Frag}{d:Ar}{ps:List AI}(h:∀a:List A2,a.length=ps.length->bindArgs d ⟨a,[]⟩=pure (ps.zip a)):CW K d ps []:=λs a _ b=>by rw[cZ]at b⊢;exact .of_eq (h a b)
structure FnScope(N P:List AI)(sc:AX):Prop where
 kind:sc.kind=.function
 co:sc.isCoroutine=A7
 gen:sc.isGenerator=A7
 nd:N.Nodup
 pre:N.take P.length=P
 par:∀x∈P,sc.names.lookup x=A0 .local\/sc.names.lookup x=A0 .cell
 nofree:∀y∈sc.names,y.2≠.free
theorem L0{kindOf:AI->Option AW}{x:AI}:∀{a:List (AI×A2)}{m:AI->Option A2},(∀v,(x,v)∉a)->bindL kindOf a m x=m x
 | [],_,_=>rfl
 |(n,v)::r,m,h=>by
  unfold bindL;rw[L0 λw hw=>h w (ax _ hw)];split
  .have:x≠n:=by rintro rfl;exact h v ay
   simp[this]
  .rfl
theorem L4{kindOf:AI->Option AW}{x:AI}:∀{a:List (AI×A2)}{m:AI->Option A2},(∀v,(x,v)∉a)->bindC kindOf a m x=m x
 | [],_,_=>rfl
 |(n,v)::r,m,h=>by
  unfold bindC;rw[L4 λw hw=>h w (ax _ hw)];split;.rfl
  .have:x≠n:=by rintro rfl;exact h v ay
   simp[this]
theorem L5{kindOf:AI->Option AW}{x:AI}{v:A2}:∀{P:List AI}{a:List A2}{i:Nat}{m:AI->Option A2},P.Nodup->P[i]?=A0 x->a[i]?=A0 v->kindOf x=A0 .local->
  bindL kindOf (P.zip a) m x=A0 v
 | [],_,_,_,_,h,_,_=>by simp at h
 |_::_,[],_,_,_,_,h,_=>by simp at h
 |p::P,w::a,0,m,e,d,b,f=>by simp at d b;subst d;subst b;show bindL kindOf ((p,w)::P.zip a) m p=_;unfold bindL;rw[L0 λv g=>(cc.mp e).1 (List.of_mem_zip g).1,if_pos f];simp
 |p::P,w::a,i+1,m,e,d,b,f=>by show bindL kindOf ((p,w)::P.zip a) m x=_;unfold bindL;exact L5 (i:=i) (cc.mp e).2 (by simpa using d) (by simpa using b) f
theorem L6{kindOf:AI->Option AW}{x:AI}{v:A2}:∀{P:List AI}{a:List A2}{i:Nat}{m:AI->Option A2},P.Nodup->P[i]?=A0 x->a[i]?=A0 v->kindOf x≠A0 .local->
  bindC kindOf (P.zip a) m x=A0 v
 | [],_,_,_,_,h,_,_=>by simp at h
 |_::_,[],_,_,_,_,h,_=>by simp at h
 |p::P,w::a,0,m,e,d,b,f=>by simp at d b;subst d;subst b;show bindC kindOf ((p,w)::P.zip a) m p=_;unfold bindC;rw[L4 λv g=>(cc.mp e).1 (List.of_mem_zip g).1,if_neg f];simp
 |p::P,w::a,i+1,m,e,d,b,f=>by show bindC kindOf ((p,w)::P.zip a) m x=_;unfold bindC;exact L6 (i:=i) (cc.mp e).2 (by simpa using d) (by simpa using b) f
def BJ(N:List AI)(vs:List V):St:=vs.map A0++bU (N.length-vs.length) A6
def E7(CX:CXT)(P:AC)(w:AL)(K:W.Frag)(mg:AI->Option A2)(base:AM)(N:List AI)(b:AI)(a:AX)(f:A4)(g:A2)(A:AN)(outer:List Env)(s:A5)(H:Hp)(E:XK):Cx where
 prog:=P
 w:=w
 K:=K
 mg:=mg
 base:=base
 A:=A.deeper (envOfC b a s.heap.objs.size f g)
 N:=N
 s₀:=s
 H₀:=H
 env:=envOfC b a s.heap.objs.size f g
 outer:=outer
 stack:=envOfC b a s.heap.objs.size f g::outer
 ex:=[]
 calm:=A3
 fn:=λ_=>A3
 pn:=[]
 xe:=λe i=>AA (AD P w) (A.deeper (envOfC b a s.heap.objs.size f g)) (leaving (envOfC b a s.heap.objs.size f g) e) (λ_ d=>CX outer H s E e d) (λh d=>CX outer H s E h d) i
theorem IC{sc:AX}{n:Nat}{x:AI}(h:sc.names.lookup x=A0 .cell):∃c,(Ab n sc.names []).lookup x=A0 c:=by have q:=W.cellsFrom_some sc.names n [] (.inl h);exact Option.isSome_iff_exists.mp q
theorem Sw{CX:CXT}{P:AC}{w:AL}{K:W.Frag}{mg:AI->Option A2}{base:AM}{N ps:List AI}{j:AI}{d:AX}{f:A4}{D:A2}{A:AN}{g:List Env}{s L:A5}{H:Hp}{E:XK}{J:List A2}{vs:List V}
  (S:FnScope N ps d)(R:A.handled=A6)(m:Env0 P w K mg base A g s H)(Y:vs.length=ps.length)(r:B5 vs J)
  (x:InCallC s s.heap.objs.size (bindL (envOfC j d s.heap.objs.size f D).kindOf (ps.zip J) λ_=>A6) (Ab (s.heap.objs.size+1) d.names []) (bindC (envOfC j d s.heap.objs.size f D).kindOf (ps.zip J) λ_=>A6) L):
  Inv (E7 CX P w K mg base N j d f D A g s H E) [] (BJ N vs) H L:=by
 have T:ps.length<=N.length:=by have:=congrArg cL S.pre;rw[aM]at this;omega
 obtain⟨I,U,rfl,M⟩:=x.done;have t:∀b:A4,b∉(E7 CX P w K mg base N j d f D A g s H E).ex:=λb z=>absurd (show b∈([]:List A4)from z) (by simp);refine⟨⟨m.mod,S.kind,rfl,rfl,ah _,λy z c I l=>?_,λy o=>?_,λy c _ h=>?_,λ_=>R,AN.frames_deeper m.frames,.inr ⟨rfl,rfl⟩,λb z=>absurd z (t b),m.bs,m.bsz,λb _ _=>t b,λb z=>absurd z (t b),m.funs,m.frf⟩,
  rfl,m.bare,Un.kept M,⟨_,x.toInCall.ns,λi y v I l X=>?_⟩,λy c h=>⟨_,x.cell y c h⟩,m.hok.fresh (ah _),λy c h=>?_,λp B=>absurd (show p∈([]:List (A4×AT))from B) (by simp),m.hok.kept M,?_⟩;.exact name_of_addr x.apart (PySem.mem_of_lookup I) (PySem.mem_of_lookup l)
 .have o:d.names.lookup y=A0 .cell\/d.names.lookup y=A0 .free:=o;rcases o with o|o;.exact IC o
  .exact absurd rfl (S.nofree _ (PySem.mem_of_lookup o))
 .exact bO (x.above y c (PySem.mem_of_lookup h))
 .have G:i<vs.length:=by
   unfold BJ at l;by_cases G:i<vs.length;.exact G
   .rw[bX (by simpa using G)]at l;rw[List.getElem?_replicate]at l;split at l<;>cases l
  have O:vs[i]?=A0 v:=by
   unfold BJ at l;rw[ce (by simpa using G),aj]at l;cases e:vs[i]? with
   |none=>rw[e]at l;cases l
   |some a=>rw[e]at l;cases l;rfl
  obtain⟨u,hu,Q⟩:=r.get O;have B:ps[i]?=A0 y:=by rw[<-S.pre,List.getElem?_take_of_lt ⋯];exact I
  have C:ps.Nodup:=by rw[<-S.pre];exact S.nd.sublist (List.take_sublist _ _)
  refine⟨u,Q,?_⟩;rcases S.par y (ao B)with k|k;.exact .inl ⟨k,L5 C B hu k⟩
  .obtain⟨c,e⟩:=IC (n:=s.heap.objs.size+1) k;refine .inr ⟨.inl k,c,e,?_⟩;have q:=x.cell y c e;rw[L6 C B hu (by show d.names.lookup y≠_;rw[k];decide)]at q;exact q
 .exact m.hok.fresh (bO (x.above y c (PySem.mem_of_lookup h)))
 .unfold BJ;show _=N.length;rw[aB,ac,List.length_replicate];omega
theorem Sy{CX:CXT}{P:AC}{w:AL}{K:W.Frag}{mg:AI->Option A2}{base:AM}{k:Nat}{f:A4}{name g:AI}{i:Arguments}{j:List Ao}{a:AX}{dV kV L pm h ct oc:A2}{an od:Option A4}
  {T:Array (Option A2)}{N ps:List AI}{sp:Sp}(lk:K.lookup f=A0 ⟨oc,od,.func (W.fnOf name g i j a dV kV L pm an h ct),T⟩)(Y:W.codeIn K h g=A3)(S:FnScope N ps a)
  (len:∀vs H Q E,sp vs H Q E->vs.length=ps.length)
  (B:∀(A:AN)(d:List Env)(s:A5)(H:Hp)(vs:List V)(Q:VK)(E:XK),Room k (A.deeper (envOfC g a s.heap.objs.size f h))->sp vs H Q E->
   ∃t,PSs (E7 CX P w K mg base N g a f h A d s H E) j t/\t {nx:=λ_ m=>Q .non m,rt:=Q} (BJ N vs) H):
  FnOk P w K mg base CX (k+1) f (W.fnOf name g i j a dV kV L pm an h ct) ps sp:=by
 refine⟨len,λA d s H Z us vs Q E U G hb r D=>?_⟩;have hl:=len _ _ _ _ D;have KX:K.In s.heap:=G.mod.kin.keeps λb o e=>(G.bs b o e).1;have O:s.heap.NoLimit:=G.mod.nolimit.keeps λb o e=>(G.bs b o e).1;have p:∀y∈ps.zip us,a.names.lookup y.1=A0 .local\/(a.names.lookup y.1=A0 .cell/\((Ab (s.heap.objs.size+1) a.names []).lookup y.1).isSome=A3):=λ⟨n,v⟩hy=>by
  rcases S.par n (List.of_mem_zip hy).1 with q|q;.exact .inl q
  .exact .inr ⟨q,W.cellsFrom_some _ _ _ (.inl q)⟩
 refine codeAny_call_function U.depth (KX _ _ lk) rfl S.co S.gen rfl (W.codeRec_of KX Y) (hb _ _ _ _ ?_);refine wpAny_newFunctionEnv_cells S.kind p λa0 he s1 x=>?_;subst he;refine⟨O.keeps x.toInCall.keep,codeAny_func ?_⟩;obtain⟨t,ht,hq⟩:=B A d s H vs Q E (U.deeper _) D;have I:Inv (E7 CX P w K mg base N g a f h A d s H E) [] (BJ N vs) H s1:=Sw S U.hd G hl r x;refine cX (ht [] s1 (BJ N vs) H _ I hq) (λfl X C=>?_) λe X C=>C;have M:∀{l:St}{m:Hp}{v:V}{u:A2},Inv (E7 CX P w K mg base N g a f h A d s H E) [] l m X->B0 v u->Q v m->CE d P w H s Q u X:=
  λ{l m v u}J R q=>⟨v,m,J.os,J.bare,J.base,J.hok,R,q⟩;cases fl with
 |ret u=>obtain⟨v,l,m,J,R,q⟩:=C;exact M J R q
 |next=>obtain⟨l,m,J,q⟩:=C;exact M (v:=V.non) (u:=A2.none) J rfl q
 |brk=>obtain⟨_,_,_,q⟩:=C;exact False.elim q
 |cont=>obtain⟨_,_,_,q⟩:=C;exact False.elim q
section
variable{X:Cx}{x:AI}{p pos:Pos}{e:A8}{es:List A8}{t:TA}{id T:String}{r:List V->Hp->VK->Prop}
def tCB(r:List V->Hp->VK->Prop)(t:TA):TE:=λa H Q=>t a H λd b=>r d b Q
theorem Sz(j:BI X (.builtin id) r)(y:Gl X x)(v:X.mg x=A6)(A:Aq x=A0 (.builtin id))(g:PA X (e::es) t)(i:x≠"__name__":=by decide)(b:(x==("__debug__":AI))=A7:=by decide)
  (w:AY (e::es) X.env=(A7,Ac e X.env)::AY es X.env:=by rfl)(a:(backTo pos (AY es X.env)).any (·.1)=A7:=by rfl):PE X (.Call (.Name x p) (e::es) [] pos) (tCB r t):=by intro d s f H Q I h;refine cR (Cf I y v A ?_ i b);exact PyProof.Rows.callWith_builtin1 (thn (g pos d s f H _ I h) λn m⟨B,o,q,r1,l⟩=>j d m f o B n Q q r1 l) w a
theorem L7(j:BI X (.type T) r)(y:Gl X x)(v:X.mg x=A6)(A:Aq x=A0 (.type T))(g:PA X (e::es) t)(i:x≠"__name__":=by decide)(b:(x==("__debug__":AI))=A7:=by decide)
  (w:AY (e::es) X.env=(A7,Ac e X.env)::AY es X.env:=by rfl)(a:(backTo pos (AY es X.env)).any (·.1)=A7:=by rfl):PE X (.Call (.Name x p) (e::es) [] pos) (tCB r t):=by intro d s f H Q I h;refine cR (Cf I y v A ?_ i b);exact PyProof.Rows.callWith_type1 (thn (g pos d s f H _ I h) λn m⟨B,o,q,r1,l⟩=>j d m f o B n Q q r1 l) w a
end
end L2
namespace HT
open PySem PyProof.Rows
section
open PySem.SeqAt
open PySem.AutoSeq1 (wpAny_loadPart')
open PySem.MeetsSeq PySem.MeetsSeq2 PySem.MeetsSeq3
end
end HT
namespace L2
open PySem PySem.Spec PyProof.Rows
abbrev TO:=St->Hp->(Option Int->Hp->Prop)->Prop
def PO(X:Cx)(e:Option A8)(t:TO):Prop:=
 ∀(b:List (A4×AT))(s:A5)(a:St)(H:Hp)(Q:Option Int->Hp->Prop),Inv X b a H s->t a H Q->
  AA (AD X.prog X.w) X.A (evalPart e X.env) (λu f=>∃o d,Inv X b a d f/\IsPart u o/\Q o d) X.xe s
def ID:TO:=λ_ H Q=>Q A6 H
def IE(t:TE):TO:=λa H Q=>t a H λx b=>∃i,x=.int i/\Q (A0 i) b
theorem S_{ns:List Int}:∀{a:List A2},B5 (ns.map V.int) a->IntsAre a ns:=by
 induction ns with
 |nil=>intro a r;rw[List.map_nil]at r;cases r;exact .nil
 |cons n ns b=>
  intro a r;rw[aK]at r;cases r with
  |cons r1 r2=>obtain⟨t,e⟩:=r1;subst e;exact .cons n t (b r2)
section
variable{X:Cx}{e:A8}{te:TE}{lo hi:Option A8}{tl th:TO}{pos p2:Pos}
theorem T0:PO X A6 ID:=by intro b s a H Q I h;rw[evalPart_none];exact af ⟨A6,H,I,.none,h⟩
theorem T3(h:PE X e te):PO X (A0 e) (IE te):=by intro b s g H Q I hw;rw[evalPart_some];refine thn (h b s g H _ I hw) λu j⟨x,d,f,r1,a⟩=>?_;obtain⟨i,rfl,q⟩:=a;obtain⟨t,rfl⟩:=r1;exact⟨A0 i,d,f,.int i t,q⟩
def SlR(X:Cx)(r:V->Option Int->Option Int->Hp->VK->Prop):Prop:=
 ∀(d:List (A4×AT))(s:A5)(b:St)(H:Hp)(x:V)(v f a:A2)(lo hi:Option Int)(g:A4)(Q:VK),Inv X d b H s->B0 x v->s.heap.IsSliceOf g f a .none->IsPart f lo->IsPart a hi->r x lo hi H Q->
  ∃T id,typeLookup (.type T) "__getitem__"=pure (A0 (.builtin id))/\s.TypeIs v T/\AA (AD X.prog X.w) X.A (getItem v (.ref g)) (EP X d b Q) X.xe s
theorem SlR.or{r a:V->Option Int->Option Int->Hp->VK->Prop}(h:SlR X r)(h':SlR X a):SlR X (λx lo hi H Q=>r x lo hi H Q\/a x lo hi H Q):=by
 intro f s m H x v n l lo hi j Q I g d i b q;rcases q with q|q;.exact h f s m H x v n l lo hi j Q I g d i b q
 .exact h' f s m H x v n l lo hi j Q I g d i b q
def tSl(r:V->Option Int->Option Int->Hp->VK->Prop)(te:TE)(tl th:TO):TE:=λa H Q=>te a H λx d=>tl a d λl b=>th a b λu f=>r x l u f Q
theorem T4{r:V->Option Int->Option Int->Hp->VK->Prop}(C:SlR X r)(N:PE X e te)(O:PO X lo tl)(hu:PO X hi th):PE X (.Subscript e (.Slice lo hi A6 p2) pos) (tSl r te tl th):=by intro d s f H Q I h;refine Subscript_ (thn (N d s f H _ I h) λv p⟨x,J,K,r1,o⟩=>?_);refine wpAny_Slice (thn (O d p f J _ K o) λi M⟨l,B,D,G,E⟩=>thn (hu d M f B _ D E) λg a⟨u,j,n,t,m⟩=>?_);rw[evalPart_none];refine af ?_;have y:Inv X d f j {a with heap:=a.heap.push {cls:=.type "slice",data:=.fields #[i,g,.none]}}:=n.kept (t':=a.toks) λb R q=>ag _ q;obtain⟨T,id,hT,L,P⟩:=C d {a with heap:=a.heap.push {cls:=.type "slice",data:=.fields #[i,g,.none]}} f j x v i g l u a.heap.objs.size Q y r1 (AM.IsSliceOf.new ..) G t m;show AA (AD X.prog X.w) X.A (subscriptTail e (.Slice lo hi A6 p2) v (.ref a.heap.objs.size)) (EP X d f Q) X.xe {a with heap:=a.heap.push {cls:=.type "slice",data:=.fields #[i,g,.none]}};exact tail_any (ops:=[.ref a.heap.objs.size,v]) L hT P (by with_unfolding_all rfl)
def IF(K:W.Frag):V->Option Int->Option Int->Hp->VK->Prop:=λ_ _ _ _ _=>False
theorem T5:SlR X (IF X.K):=λ_ _ _ _ _ _ _ _ _ _ _ _ _ _ _ _ _ h=>h.elim
def L8(K:W.Frag):R2:=λ_ _ _ _=>False
theorem T6:OpR X (Ap .Add) (L8 X.K):=λ_ _ _ _ _ _ _ _ _ _ _ _ h=>h.elim
end
def ixN(n:Nat)(i:Int):Option Nat:=if 0<=i then(if i<n then A0 i.toNat else A6)else if -(n:Int)<=i then A0 (i+n).toNat else A6
def atI{a:Type}(xs:List a)(i:Int):Option a:=(ixN xs.length i).bind λj=>xs[j]?
theorem L9{n:Nat}{i:Int}{j:Nat}(h:ixN n i=A0 j):seqIndex? i n=A0 j/\j<n/\-(n:Int)<=i/\i<n:=by
 unfold ixN at h;by_cases b:0<=i
 .rw[if_pos b]at h;by_cases a:i<n;.rw[if_pos a]at h;have e:i.toNat=j:=Option.some.inj h;exact⟨by rw[seqIndex_of b a,e],⋯,⋯,a⟩
  .rw[if_neg a]at h;cases h
 .rw[if_neg b]at h;by_cases a:-(n:Int)<=i;.rw[if_pos a]at h;have e:(i+n).toNat=j:=Option.some.inj h;exact⟨by rw[seqIndex_neg ⋯ a,e],⋯,a,⋯⟩
  .rw[if_neg a]at h;cases h
theorem IG{a:Type}{xs:List a}{i:Int}{v:a}(h:atI xs i=A0 v):∃j,seqIndex? i xs.length=A0 j/\xs[j]?=A0 v/\j<xs.length/\-(xs.length:Int)<=i/\i<xs.length:=by
 unfold atI at h;cases e:ixN xs.length i with
 |none=>rw[e]at h;cases h
 |some j=>rw[e]at h;obtain⟨d,b,g,f⟩:=L9 e;exact⟨j,d,h,b,g,f⟩
theorem Db{a:Type}{xs:List a}{j:Nat}{v:a}(h:xs[j]?=A0 v):atI xs (j:Int)=A0 v:=by
 have b:j<xs.length:=(aW.mp h).1;have e:ixN xs.length (j:Int)=A0 j:=by unfold ixN;rw[if_pos ⋯,if_pos ⋯];simp
 unfold atI;rw[e];exact h
def LA(b:A8):Prop:=∀o i,subscripted b A7 o i=operate [o,i] (getItem o i)
def IxR(X:Cx)(r:R2):Prop:=
 ∀(b a:A8)(e:List (A4×AT))(s:A5)(d:St)(H:Hp)(x y:V)(v u:A2)(Q:VK),Inv X e d H s->B0 x v->B0 y u->r x y H Q->
  subscripted a A7 v u=operate [v,u] (getItem v u)->AA (AD X.prog X.w) X.A (subscriptTail b a v u) (EP X e d Q) X.xe s
def MtR(X:Cx)(id:String)(r:V->List V->Hp->VK->Prop):Prop:=
 ∀(d:List (A4×AT))(s:A5)(a:St)(H:Hp)(x:V)(b:List V)(v:A2)(e:List A2)(Q:VK),Inv X d a H s->B0 x v->B5 b e->r x b H Q->
  AA (AD X.prog X.w) X.A (call (.builtin id) (v::e)) (EP X d a Q) X.xe s
section
variable{X:Cx}{a b:A8}{ta tb:TE}{pos:Pos}
theorem IxR.or{r f:R2}(h:IxR X r)(h':IxR X f):IxR X (λx y H Q=>r x y H Q\/f x y H Q):=by
 intro e d i s l H x y v u Q I j m q g;rcases q with q|q;.exact h e d i s l H x y v u Q I j m q g
 .exact h' e d i s l H x y v u Q I j m q g
theorem T7{r:R2}(g:IxR X r)(d:PE X a ta)(e:PE X b tb)(hs:LA b):PE X (.Subscript a b pos) (tOp r ta tb):=by intro i s n H Q I h;exact Subscript_ (Hy d e I h λv u m x y f j l o q=>g a b i m n f x y v u Q j l o q (hs _ _))
def CF(K:W.Frag):R2:=λx y H Q=>∃p d i v,x=.ref p/\y=.int i/\SqL K H p d/\atI d i=A0 v/\Q v H
def CG(K:W.Frag):R2:=λx y H Q=>∃p d i v,x=.ref p/\y=.int i/\SqT K H p d/\atI d i=A0 v/\Q v H
def LB:R2:=λx y H Q=>∃z i c,x=.str z/\y=.int i/\z.length<=A9/\atI z.cps.toList i=A0 c/\Q (.str ⟨#[c]⟩) H
theorem T8:IxR X (CF X.K):=by
 intro n m D s E H x y v u Q I L R h B;obtain⟨p,Y,i,z,rfl,rfl,S,O,q⟩:=h;cases L;obtain⟨t,rfl⟩:=R;obtain⟨f,r,g,Z⟩:=I.list S;obtain⟨j,e,J,U,G,N⟩:=IG O;obtain⟨w,A,l⟩:=r.get J;have P:=r.length;have T:=E5;have d:EP X D E Q w s:=⟨z,H,I,l,q⟩;by_cases C:0<=i
 .have o:i.toNat=j:=by rw[seqIndex_of C N]at e;exact Option.some.inj e
  exact item_listR g.isList C ⋯ (by rw[o];simpa using A) d B
 .have o:(i+(f.toArray.size:Int)).toNat=j:=by rw[seqIndex_neg ⋯ G]at e;rw[aE,<-P];exact Option.some.inj e
  exact subscriptTail_builtinR (x:=w) g.isList.typeIs slot_list_getitem.lookup
   (wpAny_getItem_list_neg (Q:=λr M=>r=w/\EP X D E Q r M) g.isList ⋯ (by rw[aE]<;>omega) ⋯ (by rw[o];simpa using A) ⟨rfl,d⟩) B
theorem T9:IxR X (CG X.K):=by
 intro f e l s n H x y v u Q I C M h A;obtain⟨p,T,i,z,rfl,rfl,N,J,q⟩:=h;cases C;obtain⟨t,rfl⟩:=M;obtain⟨D,r,m,U⟩:=I.tuple N;obtain⟨j,G,B,R,P,S⟩:=IG J;obtain⟨w,o,d⟩:=r.get B;have L:=r.length;have O:=E5;have g:EP X l n Q w s:=⟨z,H,I,d,q⟩;exact subscriptTail_builtinR (x:=w) m.typeIs slot_tuple_getitem.lookup
  (getItem_tuple (j:=j) (Q:=λr E=>r=w/\EP X l n Q r E) m ⋯ ⋯ (by rw[aE,<-L];exact G) (by simpa using o) ⟨rfl,g⟩) A
theorem TB:IxR X LB:=by
 intro e d D s J H x y v u Q I o B h l;obtain⟨z,i,c,rfl,rfl,K,w,q⟩:=h;obtain⟨t,rfl⟩:=o;obtain⟨E,rfl⟩:=B;obtain⟨j,f,n,G,g,p⟩:=IG w;have A:z.cps.toList.length=z.length:=by simp[AI.length]
 rw[A]at f g p;have C:=E5;exact tail_any (typeIs_str s z t) slot_str_getitem.lookup (getItem_str (c:=c) (by have m:decide (i< -(2^63:Int))=A7:=decide_eq_false ⋯;have r:decide (i≥2^63)=A7:=decide_eq_false ⋯;rw[m,r,Bool.or_false]) (by rw[f];simpa using n) ⟨.str ⟨#[c]⟩,H,I.tok _,⟨_,rfl⟩,q⟩) l
def rIx(K:W.Frag):R2:=λx y H Q=>CF K x y H Q\/CG K x y H Q\/LB x y H Q
theorem TC:IxR X (rIx X.K):=T8.or (T9.or TB)
theorem TD(d:List A2)(n j:Nat)(u:A2):AT.mapSeq (·.setIfInBounds j u) {cls:=.type "list",data:=.seq d.toArray n}={cls:=.type "list",data:=.seq (d.set j u).toArray n}:=by simp[AT.mapSeq]
theorem Inv.lst{f:List (A4×AT)}{σ:St}{H:Hp}{s:A5}{p:A4}{xs:List V}(I:Inv X f σ H s)(h:H p=A0 (.lst xs)):
  ∃(d:List A2)(n:Nat),B5 xs d/\s.heap.get? p=A0 {cls:=.type "list",data:=.seq d.toArray n}/\xs.length<=A9:=by obtain⟨z,d,n,r,e⟩:=I.hok p _ h;exact⟨d,n,r,e,z⟩
theorem Inv.lstUpd{l:List (A4×AT)}{σ:St}{H:Hp}{s:A5}{p:A4}{xs i:List V}{d its':List A2}{n g:Nat}{f:AT->AT}(I:Inv X l σ H s)(h:H p=A0 (.lst xs))
  (o:s.heap.get? p=A0 {cls:=.type "list",data:=.seq d.toArray n})(j:f {cls:=.type "list",data:=.seq d.toArray n}={cls:=.type "list",data:=.seq its'.toArray g})(r:B5 i its')(v:i.length<=A9)(t:Nat):
  Inv X l σ (upd H p (.lst i)) {s with heap:=s.heap.update p f,toks:=t}:=by
 have e:(s.heap.update p f).get? p=A0 {cls:=.type "list",data:=.seq its'.toArray g}:=by rw[aT f o (by rw[j]<;>rfl),j]
 refine I.write (x:=p) (e:=p) (by rw[h];trivial) (.inl rfl) (λb u m q=>(dh _ _ (Ne.symm m)).trans q) ⟨_,e⟩ ?_;exact⟨v,its',g,r,e⟩
def Cz:V->V->V->Hp->(Hp->Prop)->Prop:=λo i v H Q=>∃p d k j,o=.ref p/\i=.int k/\H p=A0 (.lst d)/\ixN d.length k=A0 j/\Q (upd H p (.lst (d.set j v)))
theorem TF:Ks X Cz:=by
 intro D s G H o i v P O u Q I L C B h;obtain⟨p,E,k,j,rfl,rfl,x,K,q⟩:=h;cases L;obtain⟨t,rfl⟩:=C;obtain⟨d,n,r,g,J⟩:=I.lst x;obtain⟨e,N,A,m⟩:=L9 K;have l:=r.length;have M:=E5;have w:Inv X D G (upd H p (.lst (E.set j v))) {s with heap:=s.heap.update p (AT.mapSeq (·.setIfInBounds j u))}:=
  I.lstUpd x g (TD d n j u) (r.set B j) (by rw[List.length_set];exact J) s.toks;by_cases y:0<=k
 .have f:k.toNat=j:=by rw[seqIndex_of y m]at e;exact Option.some.inj e
  exact W.ki_setAt g y ⋯ (by rw[aE,<-l];exact m) (by rw[f];exact⟨_,w,q⟩)
 .have f:(k+(d.toArray.size:Int)).toNat=j:=by rw[seqIndex_neg ⋯ A]at e;rw[aE,<-l];exact Option.some.inj e
  exact W.ki_setBack g ⋯ (by rw[aE,<-l];exact A) ⋯ (by rw[f];exact⟨_,w,q⟩)
def IH(K:W.Frag):V->Option Int->Option Int->Hp->VK->Prop:=λ_ _ _ _ _=>False
theorem TH:SlR X (IH X.K):=λ_ _ _ _ _ _ _ _ _ _ _ _ _ _ _ _ _ h=>h.elim
def rIn(K:W.Frag)(neg:Bool):R2:=λ_ _ _ _=>False
theorem TJ:OpR X (AU .In) (rIn X.K A7):=λ_ _ _ _ _ _ _ _ _ _ _ _ h=>h.elim
theorem TK:OpR X (AU .NotIn) (rIn X.K A3):=λ_ _ _ _ _ _ _ _ _ _ _ _ h=>h.elim
theorem BI.or{f:A2}{r i:List V->Hp->VK->Prop}(h:BI X f r)(h':BI X f i):BI X f (λd H Q=>r d H Q\/i d H Q):=by
 intro j s e H d l Q I g q;rcases q with q|q;.exact h j s e H d l Q I g q
 .exact h' j s e H d l Q I g q
theorem TN:BI X (.type "list") (λE H Q=>∃p j,E=[.ref p]/\(SqL X.K H p j\/SqT X.K H p j)/\∀l,H l=A6->Q (.ref l) (upd H l (.lst j))):=by
 intro G s L H E M Q I r h;obtain⟨p,j,rfl,x,q⟩:=h;obtain⟨u,rfl,J⟩:=CP r;cases J;have t:∀(d:List A2),B5 j d->j.length<=A9->∀(f:AM)(i:Nat),(∀b D,s.heap.get? b=A0 D->f.get? b=A0 D)->
   f.get? s.heap.objs.size=A0 {cls:=.type "list",dict:=A6,data:=.seq d.toArray i,slots:=#[]}->EP X G L Q (.ref s.heap.objs.size) {s with heap:=f}:=λd g v f i kp e=>
  ⟨.ref s.heap.objs.size,_,I.laid (t':=s.toks) kp (ah _) (show B7 X.prog X.w _ f _ (.lst j)from⟨v,d,i,g,e⟩),rfl,q _ (I.hok.fresh (ah _))⟩;rcases x with x|x;.obtain⟨d,g,C,v⟩:=I.list x;have m:=g.length;obtain⟨o,A,y,n,B⟩:=C.isList;exact call_list_seq p (.inl rfl) A y B (λf i kp e=>t d g v f i kp e) (by simp only[aE]<;>omega)
 .obtain⟨d,g,C,v⟩:=I.tuple x;have m:=g.length;obtain⟨o,A,y,n,B⟩:=C;exact call_list_seq p (.inr rfl) A y B (λf i kp e=>t d g v f i kp e) (by simp only[aE]<;>omega)
theorem TQ:BI X (.type "tuple") (λx H Q=>∃p f,x=[.ref p]/\((SqL X.K H p f/\∀l,H l=A6->Q (.ref l) (upd H l (.tup f)))\/(SqT X.K H p f/\Q (.ref p) H))):=by
 intro n s y H x D Q I r h;obtain⟨p,f,rfl,h⟩:=h;obtain⟨u,rfl,B⟩:=CP r;cases B;rcases h with⟨m,q⟩|⟨m,q⟩
 .obtain⟨d,i,j,A⟩:=I.list m;have v:=i.length;refine call_tuple_list j.isList (λg kp=>?_) (by simp only[aE]<;>omega);have t:Inv X n y H {s with heap:=g}:=I.kept (t':=s.toks) kp;have C:Inv X n y (upd H g.objs.size (.tup f)) {s with heap:=g.push {cls:=.type "tuple",data:=.seq d.toArray}}:=
   t.laid (t':=s.toks) (λb o e=>ag _ e) (ah _) (show B7 X.prog X.w _ _ _ (.tup f)from⟨A,d,i,E2.new _ _⟩);exact⟨.ref g.objs.size,_,C,rfl,q _ (t.hok.fresh (ah _))⟩
 .obtain⟨d,i,j,A⟩:=I.tuple m;exact call_tuple_same j ⟨.ref p,H,I,rfl,q⟩
def tyV(K:W.Frag)(T:String)(x:V)(H:Hp):Prop:=match x with
 | .str _=>T="str"
 | .int _=>T="int"
 | .ref p=>(T="list"/\∃e,SqL K H p e)\/(T="tuple"/\((∃o,K.lookup p=A0 o/\o.cls=.type "tuple"/\o.dict=A6)\/∃e,H p=A0 (.tup e)))\/
   (T="dict"/\((∃d,H p=A0 (.dK d))\/∃d,H p=A0 (.dT d)))\/(T="set"/\∃S n,H p=A0 (.set S n))
 |_=>False
theorem LC{w:List (A4×AT)}{σ:St}{H:Hp}{s:A5}{T:String}{x:V}{v:A2}(I:Inv X w σ H s)(r:B0 x v)(ty:tyV X.K T x H):
  s.TypeIs v T/\∀a,v=.ref a->∃m,s.heap.get? a=A0 m/\m.dict=A6:=by
 cases x with
 |str z=>obtain⟨t,rfl⟩:=r;cases(show T="str"from ty);exact⟨typeIs_str s z t,λ_ e=>nomatch e⟩
 |int i=>obtain⟨t,rfl⟩:=r;cases(show T="int"from ty);exact⟨typeIs_int s i t,λ_ e=>nomatch e⟩
 |ref p=>
  cases r;rcases ty with⟨rfl,A,B⟩|⟨rfl,⟨o,d,q,g⟩|⟨A,d⟩⟩|⟨rfl,d⟩|⟨rfl,S,n,d⟩;.obtain⟨y,_,l,_⟩:=I.list B;refine⟨l.isList.typeIs,λa e=>?_⟩;cases e;obtain⟨o,n,e,c,g,_⟩:=l;exact⟨o,e,g⟩
  .refine⟨⟨o,I.kIn p o d,q⟩,λa e=>?_⟩;cases e;exact⟨o,I.kIn _ o d,g⟩
  .obtain⟨_,_,_,o,e,c,_,g⟩:=I.hok p _ d;refine⟨⟨o,e,c⟩,λa h=>?_⟩;cases h;exact⟨o,e,g⟩
  .have z:∃o,s.heap.get? p=A0 o/\o.ExactDict:=by
    rcases d with⟨j,d⟩|⟨j,d⟩;.obtain⟨_,_,_,_,o,_,_,e,f,_⟩:=I.hok p _ d;exact⟨o,e,f⟩
    .obtain⟨_,_,_,_,o,_,_,e,f,_⟩:=I.hok p _ d;exact⟨o,e,f⟩
   obtain⟨o,e,f⟩:=z;refine⟨⟨o,e,f.1⟩,λa h=>?_⟩;cases h;exact⟨o,e,f.2.1⟩
  .obtain⟨o,_,_,_,e,f,_⟩:=I.hok p _ d;refine⟨⟨o,e,f.1⟩,λa h=>?_⟩;cases h;exact⟨o,e,f.2.1⟩
 |_=>exact False.elim ty
def TR(K:W.Frag)(T:String)(r:V->List V->Hp->VK->Prop)(f:TE):TE:=λe H Q=>f e H λx d=>tyV K T x d/\r x [] d Q
def tBM(K:W.Frag)(T:String)(r:V->List V->Hp->VK->Prop)(h:TE)(t:TA):TE:=λd H Q=>h d H λx e=>tyV K T x e/\t d e λg f=>r x g f Q
variable{o e:A8}{es:List A8}{to:TE}{t:TA}{name:AI}{apos cpos:Pos}{T id:String}{r:V->List V->Hp->VK->Prop}
theorem TU(C:PlainAttrs T)(g:Slot T name id)(i:typeOf (.builtin id)=pure (.type "method_descriptor"))(A:MtR X id r)(q:PE X o to)
  (f:attributeBase o name X.env (Ac o X.env)=Ac o X.env:=by rfl)(d:(apos.endLine==cpos.line)=A3:=by rfl):PE X (.Call (.Attribute o name apos) [] [] cpos) (TR X.K T r to):=by intro j s m H Q I h;refine wpAny_Call_method0_late f d (thn (q j s m H _ I h) λv p⟨x,y,l,r1,ty,n⟩=>?_);obtain⟨B,w⟩:=LC l r1 ty;exact⟨T,id,C,g,i,B,w,Calls.callWith_builtin rfl (PySem.evalArgs_none (A j p m y x [] v [] Q l r1 .nil n))⟩
theorem TV(P:PlainAttrs T)(i:Slot T name id)(m:typeOf (.builtin id)=pure (.type "method_descriptor"))(M:MtR X id r)(D:PE X o to)(w:PA X (e::es) t)
  (g:attributeBase o name X.env (Ac o X.env)=Ac o X.env:=by rfl)
  (j:((backTo cpos (AY (e::es) X.env)).all (λx=>!x.1)&&(backToKw cpos (keywordEach [] X.env)).all (λx=>x.1.isSome)
   &&decide ((e::es).length+([]:List Keyword).length+(if([]:List Keyword).isEmpty then 0 else 1)<30))=A3:=by rfl)
  (f:(apos.endLine==cpos.line)=A3:=by rfl)(hs:AY (e::es) X.env=(A7,Ac e X.env)::AY es X.env:=by rfl)(d:(backTo cpos (AY es X.env)).any (·.1)=A7:=by rfl):
  PE X (.Call (.Attribute o name apos) (e::es) [] cpos) (tBM X.K T r to t):=by intro l s n H Q I h;refine wpAny_Call_method_late g j f rfl (thn (D l s n H _ I h) λv A⟨x,L,q,r1,ty,y⟩=>?_);obtain⟨N,E⟩:=LC q r1 ty;refine⟨T,id,P,i,m,N,E,?_⟩;have p:=w cpos l A n L _ q y;rw[hs]at p⊢;refine Calls.callWith_builtin (by show(A7||(backTo cpos (AY es X.env)).any (·.1))=A7;rw[d]<;>rfl) (Calls.evalArgs_plain ?_);exact thn p λB O⟨R,C,G,r2,J⟩=>M l O n C x R v B Q G r1 r2 J
end
def MtM(X:Cx)(id:String)(r:V->List V->Hp->VK->Prop):Prop:=
 ∀(d:List (A4×AT))(s:A5)(a:St)(H:Hp)(x:V)(b:List V)(v:A2)(e:List A2)(Q:VK),Inv X d a H s->B0 x v->B5 b e->r x b H Q->
  AA (AD X.prog X.w) X.A (call (.builtin id) (v::e)) (EP X d a Q) X.xe s
theorem B5.one:∀{x:V}{a:List A2},B5 [x] a->∃u,a=[u]/\B0 x u
 |_,_,.cons r .nil=>⟨_,rfl,r⟩
theorem B5.zero:∀{a:List A2},B5 [] a->a=[]
 |_,.nil=>rfl
section
variable{X:Cx}{p_:List (A4×AT)}{σ:St}{H:Hp}{s:A5}{l b:A4}{xs ys zs:List V}
theorem Inv.lset{a its':List A2}{n:Nat}{f:Array A2->Array A2}{t':Nat}(I:Inv X p_ σ H s)(g:H l=A0 (.lst xs))
  (e:s.heap.get? l=A0 {cls:=.type "list",data:=.seq a.toArray n})(d:f a.toArray=its'.toArray)(j:B5 ys its')(i:ys.length<=A9):
  Inv X p_ σ (upd H l (.lst ys)) {s with heap:=s.heap.update l (AT.mapSeq f),toks:=t'}:=by have q:=PySem.IsL.update e f;rw[d]at q;refine I.write (x:=l) (e:=l) (by rw[g];exact trivial) (.inl rfl) (λm u h hu=>(dh s.heap (AT.mapSeq f) (Ne.symm h)).trans hu) ⟨_,q⟩ ?_;exact⟨i,its',_,j,q⟩
theorem Inv.lstM(I:Inv X p_ σ H s)(d:H l=A0 (.lst xs)):xs.length<=A9/\∃(a:List A2)(n:Nat),B5 xs a/\xs.length=a.length/\s.heap.get? l=A0 {cls:=.type "list",data:=.seq a.toArray n}:=by obtain⟨z,a,n,r,e⟩:=I.hok l _ d;exact⟨z,a,n,r,r.length,e⟩
end
section
variable{X:Cx}
def LD:V->List V->Hp->VK->Prop:=λx b H Q=>∃l a y,x=.ref l/\b=[y]/\H l=A0 (.lst a)/\a.length<A9/\Q .non (upd H l (.lst (a++[y])))
theorem TW:MtM X "list.append" LD:=by intro j s o H x w v i Q I f d h;obtain⟨l,m,y,rfl,rfl,b,t,q⟩:=h;cases f;obtain⟨u,rfl,g⟩:=d.one;obtain⟨z,a,n,r,p,e⟩:=I.lstM b;refine call_meets F.slot_list_append ⟨_,e,rfl⟩ F.entry_list_append (F.args_list_append_2 _ _) (PySem.list_append l a.toArray n u (by rw[aE];omega)) ⟨e,?_⟩;refine⟨.non,_,I.lset (its':=a++[u]) b e (by simp) (r.append (.cons g .nil)) ?_,rfl,q⟩;rw[aB,bx];omega
def LF:R2:=λ_ _ _ _=>False
theorem TX:OpR X (Ap .Add) LF:=λ_ _ _ _ _ _ _ _ _ _ _ _ h=>h.elim
def LG:R2:=λ_ _ _ _=>False
theorem TY:OpR X (Ap .Mult) LG:=λ_ _ _ _ _ _ _ _ _ _ _ _ h=>h.elim
end
end L2
namespace Att
open PySem PySem.W PySem.Calls PyProof.Rows
theorem TZ{P:Params}{h:AM}:∀(d:List Int)(e:List A2),WellAll P h e (d.map WData.int)->IntsAre e d:=by
 intro d;induction d with
 |nil=>intro e w;rw[List.map_nil]at w;cases w;exact .nil
 |cons n d f=>
  intro e w;rw[aK]at w;cases w with
  |cons a b=>cases a;exact .cons _ _ (f _ b)
theorem Ta{l:OpenLaw}{n:Nat}(v:l.most=A0 n){P:Params}{h:AM}{args:List WData}{e:List A2}
  (f:l.row.toRowW.claim.pre args=A3)(p:WellAll P h e args):
  ∃a t b,e=[A2.ref a]/\args=[WData.list (b.map WData.int)]/\h.get? a=A0 {cls:=.type "list",data:=.seq t.toArray}/\IntsAre t b/\b.length<=n:=by
 have o:WShape.hasAll [] args [.list .int]=A3:=(pre_splitW f).1;have s:l.pre.holds [] {args:=args}=A3:=(pre_splitW f).2;obtain⟨d,r,rfl,C,y⟩:=hasAllW_cons o;obtain rfl:=hasAllW_nil y;obtain⟨E,rfl,D⟩:=hasW_list C;obtain⟨b,rfl⟩:=items_int D;have i:b.length<=n:=by
  unfold OpenLaw.pre at s;have j:(WTm.not (.lt (.lit (.int (n:Int))) (.len (.arg 0)))).holds [] {args:=[.list (b.map .int)]}=A3:=by have j:=(holds_andW s).1;rw[v]at j;exact j
  have m:=condW_of j (w_not (w_lt w_lit (w_len_list (w_arg rfl))));rw[ac]at m;refine Nat.le_of_not_lt λq=>?_;have B:(n:Int)<((b.length:Nat):Int):=by omega
  first
   |(rw[decide_eq_true B]at m;exact absurd m (by decide))
   |(simp at m;omega)
 cases p with
 |cons w A=>
  cases A;cases w with
  |list x g=>exact⟨_,_,b,rfl,rfl,x,TZ b _ g,i⟩
theorem Tb(l:OpenLaw)(args:List WData):l.row.toRowW.claim.post args (.bool A3) args=A3:=
 postW_of (r:=l.row.toRowW) (X:=(A3==A3))
  (show WShape.has [] (.bool A3) .bool=A3 by first|rfl|decide|simp[WShape.has,WShape.arms,WShape.armsAll])
  (show(WTm.eq .res (.lit (.bool A3))).value [] {args:=args,res:=A0 (.bool A3),after:=args}=A0 (.bool (A3==A3))from w_eq_bool (w_res rfl) w_lit) rfl
theorem Tc{l:OpenLaw}{n:Nat}{q:AC}{g:List AI}{I:(AI->Option A2)->AM->Prop}{YP:AL->AM->Prop}{d:DefRec}
  (M:l.most=A0 n)(y:d.params.defaults=[])
  (call:∀(w:AL)(e b:A5)(mg D:AI->Option A2)(m:A4)(o:AT)(B v i:A2)(a:A4)(vs:List A2)(ns:List Int),
   Ground q g [] I w e mg D b.heap->YP w b.heap->
   b.heap.get? m=A0 o->o.data=.func (docDef d.name d.params d.body d.scope B v i)->b.heap.CodeRec v d.name->mg d.name=A0 (.ref m)->
   b.heap.get? a=A0 {cls:=.type "list",data:=.seq vs.toArray}->IntsAre vs ns->ns.length<=n->b.gens=#[]->
   codeAny (AD l.prog w) callerA (.call (.ref m) ⟨[.ref a],[]⟩) (λr x=>r=.ok (.ret (.bool A3))/\OldK b.heap x.heap/\x.os=b.os/\AllBare x.gens) b):
  WalkO q g I YP l.row.toRowW d [] (λf vs=>PySem.call f vs):=by intro w e b mg D G Y m o B v i R kV P S E J C X H K as t L a0 A O;obtain rfl:R=.none:=Dflts.none J y;obtain rfl:kV=.none:=Dflts.noKw J;obtain⟨a,vs,ns,rfl,rfl,j,h,p⟩:=Ta M t A;refine enter_call (Ai (call w e b mg D m o B v i a vs ns G Y P (fd_plain S) E C j h p X) λr x Z=>?_);obtain⟨rfl,Q,U,N⟩:=Z;exact⟨.inl ⟨.bool A3,.bool A3,[],rfl,λ_=>rfl,.bool A3,Tb l _,λ_=>⟨List.Pairwise.nil,λ_ T=>(nomatch T)⟩⟩,Q,U,N⟩
end Att
namespace L2
open PySem PySem.Spec PyProof.Rows
theorem LH:∀{b:List A2}{a:List Int},IntsAre b a->B5 (a.map V.int) b
 |_,_,.nil=>.nil
 |_,_,.cons n t h=>.cons ⟨t,rfl⟩ (LH h)
def II(H:Hp):Prop:=∀b,H b=A6\/∃o a,H b=A0 (.frz o (.lst a))
theorem Td{P:AC}{w:AL}{K:W.Frag}{mg Y:AI->Option A2}{CX:CXT}{k:Nat}{T a:A4}{fd:Ar}{x:AI}{sp:Sp}{f:A5}{vs:List A2}{ns:List Int}
  (Z:K.In f.heap)(A:f.heap.Ns AQ mg)(i:f.heap.Ns builtinsNs Y)(R:∀x:AI,x≠"__name__"->Y x=Aq x)(I:f.heap.NoLimit)(hg:f.gens=#[])
  (N:f.heap.get? a=A0 {cls:=.type "list",data:=.seq vs.toArray})(hi:IntsAre vs ns)(hl:ns.length<=A9)(hr:Room k callerA)
  (F:∀j:AM,K.In j->j.Ns AQ mg->FnOk P w K mg j CX k T fd [x] sp)(y:∀(s:A5)(u:A2),BindsTo s fd ⟨[u],[]⟩ [(x,u)])
  (Q:∀H:Hp,II H->SqL K H a (ns.map V.int)->sp [.ref a] H (λv _=>v=.bl A3) λ_ _ _=>False)
  (U:∀H e l,CX [] H f (λ_ _ _=>False) e l->False):
  codeAny (AD P w) callerA (.call (.ref T) ⟨[.ref a],[]⟩) (λr l=>r=.ok (.ret (.bool A3))/\OldK f.heap l.heap/\l.os=f.os/\AllBare l.gens) f:=by
 have rv:=LH hi;have G:=hi.length;have t:∀H:Hp,II H->SqL K H a (ns.map V.int)->HOk P w H f.heap->(∀b,H b≠A6->b=a)->(H a≠A6->K.lookup a=A6)->
   codeAny (AD P w) callerA (.call (.ref T) ⟨[.ref a],[]⟩) (λr l=>r=.ok (.ret (.bool A3))/\OldK f.heap l.heap/\l.os=f.os/\AllBare l.gens) f:=by
  intro H hO hS M hA hK;have g:∀{b:A4}{o:AT},f.heap.get? b=A0 o->H b=A6->(Cy f.heap H).get? b=A0 o:=λe n=>RP e n;have X:∀{b:A4}{o:AT}{L:Array At}{C:Nat},f.heap.get? b=A0 o->o.data=.dict L C->H b=A6:=λ{b o L C}e d=>by
   cases q:H b with
   |none=>rfl
   |some u=>have O:b=a:=hA b (by rw[q];simp);subst O;rw[N]at e;cases e;have d':Data.seq vs.toArray _=Data.dict L C:=d;cases d'
  have p:∀{b:A4}{m:AI->Option A2},f.heap.Ns b m->(Cy f.heap H).Ns b m:=λ{b m}⟨o,L,C,e,d,r⟩=>⟨o,L,C,g e (X e d),d,r⟩;have J:K.In (Cy f.heap H):=λb o e=>g (Z b o e) (by
   cases q:H b with
   |none=>rfl
   |some u=>have O:b=a:=hA b (by rw[q];simp);subst O;rw[hK (by rw[q];simp)]at e;cases e);have hM:Mod K mg (Cy f.heap H):=⟨J,p A,⟨Y,p i,R⟩,let⟨mc,h1,h2⟩:=I;⟨mc,p h1,h2⟩⟩;have e0:Env0 P w K mg (Cy f.heap H) callerA [] f H:=⟨rfl,hM,λb o e=>RQ e,Nat.le_of_eq (RO _ _),trivial,λb i=>absurd (show b∈([]:List A4)from i) (by simp),M,.of_eq hg⟩;refine Ai ((F _ J (p A)).run callerA [] f H ⟨[.ref a],[]⟩ [.ref a] [.ref a] _ _ hr e0 (y f (.ref a)) (.cons rfl .nil) (Q H hO hS)) λr l h=>?_;cases r with
  |error e=>exact(U H e l h).elim
  |ok fl=>
   cases fl with
   |next=>exact False.elim h
   |brk=>exact False.elim h
   |cont=>exact False.elim h
   |ret u=>
    obtain⟨v,H',os,D,un,E,r',q⟩:=h;have q':v=.bl A3:=q;subst q';obtain rfl:u=A2.bool A3:=r';refine⟨rfl,OldK.of_keep λb o e=>?_,os,D⟩;cases q:H b with
    |none=>exact un.keep b o e q (by intro z;exact absurd (show b∈([]:List A4)from z) (by simp)) (by simp)
    |some u=>
     rcases hO b with z|⟨ob,xs,z⟩;.rw[q]at z;cases z
     .have z2:=un.frzs b ob _ z;obtain⟨e1,_⟩:=M b _ z;obtain⟨e2,_⟩:=E b _ z2;rw[e]at e1;cases e1;exact e2
 cases S:K.lookup a with
 |some o=>have e:=Z a o S;rw[N]at e;cases e;refine t (λ_=>A6) (λ_=>.inl rfl) (.inr ⟨_,vs.toArray,_,S,rfl,rfl,rfl,by rw[aE,G];exact hl,by simpa using rv⟩) (λb u z=>by have B:(A6:Option HO)=A0 u:=z;cases B) (λb z=>absurd rfl z) λz=>absurd rfl z
 |none=>
  refine t (λb=>if b=a then A0 (.frz {cls:=.type "list",data:=.seq vs.toArray} (.lst (ns.map V.int)))else A6) (λb=>?_) (.inl (.inr ⟨{cls:=.type "list",data:=.seq vs.toArray},if_pos rfl⟩)) (λb u z=>?_) (λb z=>?_) λ_=>S
  .by_cases i:b=a;.exact .inr ⟨_,_,if_pos i⟩
   .exact .inl (if_neg i)
  .by_cases i:b=a;.have B:=(if_pos i).symm.trans z;cases B;subst i;exact⟨N,by rw[ac];exact hl,vs,_,rv,N⟩
   .have B:=(if_neg i).symm.trans z;cases B
  .by_cases i:b=a;.exact i
   .exact absurd (if_neg i) z
theorem Te{l:W.OpenLaw}{n k:Nat}{q:AC}{p:List AI}{P:(AI->Option A2)->AM->Prop}{YP:AL->AM->Prop}{d:DefRec}{K:Params->W.Frag}{CX:AL->CXT}{sp:AL->Sp}{x:AI}
  (N:l.most=A0 n)(D:n<=A9)(A:d.params.defaults=[])(Q:Room k callerA)
  (O:∀(w:AL)(h:AM),YP w h->(K w.params).In h)
  (F:∀(w:AL)(mg:AI->Option A2)(y:A4)(h:AM),(K w.params).In h->h.Ns AQ mg->mg d.name=A0 (.ref y)->
   ∃I:Ar,(∀(s:A5)(u:A2),BindsTo s I ⟨[u],[]⟩ [(x,u)])/\
    ∀i:AM,(K w.params).In i->i.Ns AQ mg->FnOk l.prog w (K w.params) mg i (CX w) k y I [x] (sp w))
  (B:∀(w:AL)(H:Hp)(a:A4)(ns:List Int),ns.length<=n->II H->SqL (K w.params) H a (ns.map V.int)->sp w [.ref a] H (λv _=>v=.bl A3) λ_ _ _=>False)
  (C:∀(w:AL)(H:Hp)(s:A5)(e:A2)(s':A5),CX w [] H s (λ_ _ _=>False) e s'->False):
  W.WalkO q p P YP l.row.toRowW d [] (λf M=>PySem.call f M):=by refine Att.Tc N A λw J t mg mb y o pm cd Z a M ns G Y ho hd a0 E r m j hg=>?_;have L:=O w _ Y;obtain⟨I,R,X⟩:=F w mg y _ L G.T.g E;exact Td L G.T.g G.T.b G.T.builtins G.T.nolimit hg r m (aN j D) Q X R (λH S U=>B w H a ns j S U) λH e s'=>C w H t e s'
def E8(s:Ao):Arguments:=match s with
 | .FunctionDef _ a _ _ _ _ _ _ _ _=>a
 |_=>{posonlyargs:=[],args:=[],vararg:=A6,kwonlyargs:=[],kw_defaults:=[],kwarg:=A6,defaults:=[]}
def BL(s:Ao):List Ao:=match s with
 | .FunctionDef _ _ b _ _ _ _ _ _ _=>b
 |_=>[]
def B4(s:Ao):AX:=match s with
 | .FunctionDef _ _ _ _ _ _ a _ _ _=>a
 |_=>{kind:=.function,names:=[],isGenerator:=A7,isCoroutine:=A7}
abbrev CX0:CXT:=λ_ _ _ _ _ _=>False
abbrev E0:XK:=λ_ _ _=>False
structure Fun(K:W.Frag)(x qual:AI)(st:Ao)(f:A4)(fd:Ar):Prop where
 ex:∃(oc:A2)(od:Option A4)(kV doc pm:A2)(an:Option A4)(cdv ct:A2)(osl:Array (Option A2)),
  fd=W.fnOf x qual (E8 st) (BL st) (B4 st) .none kV doc pm an cdv ct/\K.lookup f=A0 ⟨oc,od,.func fd,osl⟩/\W.codeIn K cdv qual=A3
 kp:W.keepIn K (.ref f)=A3
section
variable{P:AC}{w:AL}{K:W.Frag}{mg:AI->Option A2}{base:AM}
theorem Fun.binds{x a:AI}{st:Ao}{f:A4}{l:Ar}{ps:List AI}(F:Fun K x a st f l)
  (h:∀(kV d g:A2)(i:Option A4)(b j:A2)(e:List A2),e.length=ps.length->bindArgs (W.fnOf x a (E8 st) (BL st) (B4 st) .none kV d g i b j) ⟨e,[]⟩=pure (ps.zip e)):CW K l ps []:=by obtain⟨p,q,kV,d,g,i,b,j,m,rfl,o,n⟩:=F.ex;exact .all (h kV d g i b j)
theorem Tf{x a:AI}{st:Ao}{f:A4}{j:A2}{m g:Option A4}{e:Array (Option A2)}{kV d h b i:A2}(l:K.lookup f=A0 ⟨j,m,.func (W.fnOf x a (E8 st) (BL st) (B4 st) .none kV d h g b i),e⟩)
  (c:W.codeIn K b a=A3)(k:W.keepIn K (.ref f)=A3):Fun K x a st f (W.fnOf x a (E8 st) (BL st) (B4 st) .none kV d h g b i):=⟨⟨j,m,kV,d,h,g,b,i,e,rfl,l,c⟩,k⟩
end
theorem BK{n:Nat}(h:n<=1000):n<A9:=cm h (by decide)
def Ax(H H':Hp):Prop:=∀b o,H b=A0 o->H' b=A0 o
theorem Ax.refl(H:Hp):Ax H H:=λ_ _ h=>h
theorem Ax.trans{H e d:Hp}(a:Ax H e)(b:Ax e d):Ax H d:=λc o h=>b c o (a c o h)
theorem Ax.free{H H':Hp}(e:Ax H H'){l:A4}(h:H' l=Option.none):H l=Option.none:=by
 cases q:H l with
 |none=>rfl
 |some o=>rw[e l o q]at h;cases h
theorem Ax.seq{K:W.Frag}{H H':Hp}{a:A4}{xs:List V}(e:Ax H H')(h:SqL K H a xs):SqL K H' a xs:=by
 rcases h with(h|⟨o,h⟩)|h;.exact .inl (.inl (e _ _ h))
 .exact .inl (.inr ⟨o,e _ _ h⟩)
 .exact .inr h
end L2
namespace PySem
def Rsn(xs:Array Nat):Prop:=xs.toList.Pairwise (· < ·)
theorem DJ{xs:Array Nat}(b:Rsn xs){i j:Nat}(a:i<j)(hj:j<xs.size):xs[i]'⋯<xs[j]:=by have:=cf.mp b i j (by rw[ak];omega) (by rw[ak];omega) a;simpa using this
theorem IJ{xs:Array Nat}(l:Rsn xs)(j:Nat):∀(f g d:Nat),g<=d->d<=xs.size->d-g<=f->(∀i(h:i<xs.size),i<g->xs[i]<j)->(∀i(h:i<xs.size),d<=i->j<=xs[i])->
  AB.below.go xs j f g d<=xs.size/\(∀i(h:i<xs.size),i<AB.below.go xs j f g d->xs[i]<j)/\(∀i(h:i<xs.size),AB.below.go xs j f g d<=i->j<=xs[i])
 |0,g,d,s,m,t,a,b=>by
  have e:g=d:=by omega
  subst e;exact⟨m,a,b⟩
 |f+1,g,d,s,m,t,a,b=>by
  unfold AB.below.go;by_cases q:g<d
  .rw[if_pos q];dsimp only;have p:(g+d)/2<xs.size:=by omega
   have r:xs.getD ((g+d)/2) j=xs[(g+d)/2]:=by simp[Array.getD,p]
   rw[r];by_cases n:xs[(g+d)/2]<j
   .rw[if_pos n];refine IJ l j f _ _ ⋯ m ⋯ (λi h o=>?_) b;by_cases e:i=(g+d)/2;.subst e;exact n
    .exact Nat.lt_trans (DJ l ⋯ p) n
   .rw[if_neg n];refine IJ l j f _ _ ⋯ ⋯ ⋯ a λi h o=>?_;by_cases e:i=(g+d)/2;.subst e;omega
    .have:=DJ l (i:=(g+d)/2) (j:=i) ⋯ h;omega
  .rw[if_neg q];have e:g=d:=by omega
   subst e;exact⟨m,a,b⟩
theorem Ec{xs:Array Nat}(a:Rsn xs)(j:Nat):AB.below xs j<=xs.size/\(∀i(h:i<xs.size),i<AB.below xs j->xs[i]<j)/\(∀i(h:i<xs.size),AB.below xs j<=i->j<=xs[i]):=
 IJ a j _ _ _ (aJ _) (ah _) (ah _) (λ_ _ z=>absurd z (cg _)) λi h z=>absurd h ⋯
theorem LI{xs:Array Nat}(b:Rsn xs){j:Nat}(h:xs[AB.below xs j]?≠A0 j):j∉xs.toList:=by
 intro g;obtain⟨i,a,e⟩:=cq.mp g;rw[ak]at a;rw[Array.getElem_toList]at e;obtain⟨n,f,l⟩:=Ec b j;have d:AB.below xs j<=i:=Nat.le_of_not_lt λz=>by have:=f i a z;omega
 by_cases m:AB.below xs j=i;.rw[m]at h;exact h (by rw[aA a,e])
 .have:=DJ b (i:=AB.below xs j) (j:=i) ⋯ a;have:=l _ ⋯ (ah (AB.below xs j));omega
theorem LJ{xs:Array Nat}(g:Rsn xs){j:Nat}(h:xs[AB.below xs j]?≠A0 j):Rsn (AB.insertAt xs (AB.below xs j) j):=by
 obtain⟨r,p,q⟩:=Ec g j;have n:=LI g h;unfold Rsn;rw[AB.toList_insertAt];first
 |rw[bc,List.singleton_append]
 |skip
 rw[List.pairwise_append,List.pairwise_cons];have hT:∀a∈xs.toList.take (AB.below xs j),a<j:=by intro a f;obtain⟨i,l,e⟩:=cq.mp f;rw[aM,ak]at l;rw[List.getElem_take,Array.getElem_toList]at e;have:=p i ⋯ ⋯;omega
 have m:∀b∈xs.toList.drop (AB.below xs j),j<b:=by intro b d;obtain⟨i,l,e⟩:=cq.mp d;rw[List.length_drop,ak]at l;rw[List.getElem_drop,Array.getElem_toList]at e;have:=q (AB.below xs j+i) ⋯ ⋯;have o:b≠j:=λz=>n (z▸dA d);omega
 refine⟨g.sublist (List.take_sublist _ _),⟨m,g.sublist (List.drop_sublist _ _)⟩,λa f b d=>?_⟩;rcases ap.mp d with rfl|d;.exact hT a f
 .exact Nat.lt_trans (hT a f) (m b d)
theorem IK(t:AB)(hat:Nat->Int)(h:Int):∀(f:Nat)(p:AB.Probe)(j:Nat)(d:Option Nat),(∀x,p.dummy=A0 x->t.place[AB.below t.place x]?≠A0 x)->
  AB.probe.go t hat h f p=A0 (.empty j d)->t.place[AB.below t.place (d.getD j)]?≠A0 (d.getD j)
 |0,p,j,d,m,e=>by unfold AB.probe.go at e;cases e
 |f+1,p,j,d,m,e=>by
  unfold AB.probe.go at e;have g:∀x,t.slot x≠.live (AB.below t.place x)->t.place[AB.below t.place x]?≠A0 x:=by intro x a z;apply a;unfold AB.slot;simp[z]
  have l:∀q:AB.Probe,(t.advance q).dummy=q.dummy:=by intro q;unfold AB.advance;split<;>rfl
  cases b:t.slot p.j with
  |empty=>
   rw[b]at e;injection e with e;injection e with o s;subst o;subst s;cases r:p.dummy with
   |none=>exact g _ (by show t.slot p.j≠_;rw[b];exact λz=>nomatch z)
   |some x=>exact m x r
  |dummy=>rw[b]at e;dsimp only at e;refine IK t hat h f _ j d (λx a=>?_) e;rw[l]at a;injection a with a;subst a;exact g _ (by rw[b];exact λz=>nomatch z)
  |live i=>
   rw[b]at e;dsimp only at e;by_cases n:(hat i==h)=A3;.rw[if_pos n]at e;injection e with e;cases e
   .rw[if_neg n]at e;refine IK t hat h f _ j d (λx a=>?_) e;rw[l]at a;exact m x a
set_option tactic.hygienic true in
theorem Tg{t:AB}{h:Int}{slot:Nat}{b:Bool}(e:t.freeSlot h=A0 (slot,b)):t.place[AB.below t.place slot]?≠A0 slot:=by
 unfold AB.freeSlot at e;split at e;.rename_i j d hm;injection e with e;injection e with e1 e2;subst e1;unfold AB.probe at hm;exact IK t _ h _ _ j d (λx hx=>by unfold AB.probeStart at hx;cases hx) hm
 .cases e
theorem IL(t:AB)(n:Nat):Rsn (t.standIn n).place:=by unfold AB.standIn Rsn;simp only[Array.toList_range];exact cr
def TOk(a:Bool)(t:AB):Prop:=a=A3\/t.led=A3/\Rsn t.place
theorem Th{a:Bool}{t:AB}{n:Nat}(h:TOk a t):TOk a (t.orStandIn n):=by
 unfold AB.orStandIn;split;.exact h
 .rcases h with h|⟨b,_⟩;.exact .inl h
  .exact .inr ⟨b,IL t n⟩
set_option tactic.hygienic true in
theorem Ti{bt:Bool}{t:AB}(es:Array (Int×A2))(hh:Int)(x:A2)(h:TOk bt t):TOk bt (layNew t es hh x).2.1:=by
 unfold layNew;split
 .rename_i slot wd e;refine Th ?_;rcases h with h|⟨h1,h2⟩;.exact .inl h
  .exact .inr ⟨h1,LJ h2 (Tg e)⟩
 .rcases h with h|⟨h1,_⟩;.exact .inl h
  .exact .inr ⟨h1,IL t _⟩
set_option tactic.hygienic true in
theorem Tj{bt:Bool}{t:AB}(es:Array (Int×A2))(wd:Nat)(h:TOk bt t):TOk bt (relayAll t es wd).2.1:=by
 have hs:∀n,TOk bt (t.standIn n):=λn=>by
  rcases h with h|⟨h1,_⟩;.exact .inl h
  .exact .inr ⟨h1,IL t n⟩
 unfold relayAll;split
 .rename_i t' order e;dsimp only;split
  .unfold AB.relaid AB.laid at e;cases ho:AB.layClean (AB.sizeAbove wd-1) (es.map λx=>x.1)with
   |none=>rw[ho]at e;cases e
   |some owner=>
    rw[ho]at e;injection e with e;injection e with e1 e2;subst e1;rcases h with h|⟨h1,_⟩;.exact .inl h
    .refine .inr ⟨h1,?_⟩;unfold Rsn;show List.Pairwise _ (List.map _ _);rw[cI];refine List.Pairwise.filterMap (R:=(· < ·)) _ (λa a' haa b hb b' hb'=>?_) cr;cases hx:owner.getD a A6 with
     |none=>simp[hx]at hb
     |some u=>
      cases hy:owner.getD a' A6 with
      |none=>simp[hy]at hb'
      |some u'=>simp[hx]at hb;simp[hy]at hb';subst hb;subst hb';exact haa
  .exact hs _
 .exact hs _
namespace Ts
open SetTable
def u(x:Nat):Nat->Nat
 |0=>x
 |n+1=>5*u x n+1
theorem IM(x a:Nat):∀b,u x (a+b)=u (u x a) b
 |0=>rfl
 |b+1=>by show 5*u x (a+b)+1=5*u (u x a) b+1;rw[IM x a b]
theorem IN(x:Nat):∀n,u x n=5^n*x+u 0 n
 |0=>by simp[u]
 |n+1=>by
  show 5*u x n+1=5^(n+1)*x+(5*u 0 n+1);rw[IN x n,dF];have:5^n*5*x=5*(5^n*x):=by rw[Nat.mul_comm (5^n) 5,cF]
  omega
theorem IP:∀n,4*u 0 n+1=5^n
 |0=>rfl
 |n+1=>by have:=IP n;rw[dF];show 4*(5*u 0 n+1)+1=_;omega
theorem Tk(k:Nat):∃c,u 0 (2^k)=2^k*(2*c+1):=by
 induction k with
 |zero=>exact⟨0,rfl⟩
 |succ k h=>
  obtain⟨c,a⟩:=h;have b:u 0 (2^(k+1))=5^(2^k)*u 0 (2^k)+u 0 (2^k):=by rw[dF,Nat.mul_two,IM,IN (u 0 (2^k))]
  have g:=IP (2^k);rw[<-g]at b;generalize i:u 0 (2^k)=S at b a;rw[b,dF];generalize 2^k=p at a;refine⟨(2*c+1)*S+c,?_⟩;have d:p*((2*c+1)*S)=S*S:=by rw[<-cF,<-a]
  have e:(4*S+1)*S=4*(S*S)+S:=by rw[Nat.add_mul,Nat.one_mul,cF]
  have f:p*2*(2*((2*c+1)*S+c)+1)=4*(p*((2*c+1)*S))+2*(p*(2*c+1)):=by rw[show 2*((2*c+1)*S+c)+1=2*((2*c+1)*S)+(2*c+1)by omega,Nat.mul_add,Nat.mul_comm p 2];generalize(2*c+1)*S=q;rw[cF 2 p (2*q),Nat.mul_left_comm p 2 q,cF 2 p (2*c+1)];omega
  rw[e,f,d,<-a];omega
theorem Tl(z k:Nat):u z (2^k)%2^(k+1)=(z+2^k)%2^(k+1):=by
 obtain⟨c,f⟩:=Tk k;have d:=IP (2^k);rw[IN,<-d,f,dF];generalize 2^k=p;have e:(4*(p*(2*c+1))+1)*z+p*(2*c+1)=z+p+p*2*(2*(2*c+1)*z+c):=by
  rw[Nat.add_mul,Nat.one_mul,Nat.mul_add (p*2)];have a:4*(p*(2*c+1))*z=p*2*(2*(2*c+1)*z):=by rw[cF p 2,<-cF 2 (2*(2*c+1)) z,<-cF 2 2,Nat.mul_left_comm 4 p,cF p]
  have g:p*(2*c)=p*2*c:=by rw[cF]
  have b:p*(2*c+1)=p*(2*c)+p:=by rw[Nat.mul_add,Nat.mul_one]
  rw[a,b];omega
 rw[e,Nat.add_mul_mod_self_left]
theorem cyc:∀(k x y:Nat),∃n,n<2^k/\u x n%2^k=y%2^k
 |0,x,y=>⟨0,by decide,by rw[Nat.pow_zero,Nat.mod_one,Nat.mod_one]⟩
 |k+1,x,y=>by
  obtain⟨n,j,e⟩:=cyc k x y;have d:0<2^k:=Nat.pow_pos (by decide);have g:2^(k+1)=2*2^k:=by rw[dF,Nat.mul_comm]
  by_cases h:u x n%2^(k+1)=y%2^(k+1);.exact⟨n,⋯,h⟩
  .refine⟨n+2^k,⋯,?_⟩;rw[IM,Tl];generalize u x n=z at e h⊢;rw[g]at h⊢;generalize 2^k=p at e h d⊢;have f:z%(2*p)=z%p\/z%(2*p)=z%p+p:=by have:=Nat.mod_two_eq_zero_or_one (z/p);rw[Nat.mul_comm 2 p,Nat.mod_mul];rcases this with q|q<;>rw[q]<;>simp
   have i:y%(2*p)=y%p\/y%(2*p)=y%p+p:=by have:=Nat.mod_two_eq_zero_or_one (y/p);rw[Nat.mul_comm 2 p,Nat.mod_mul];rcases this with q|q<;>rw[q]<;>simp
   rw[Nat.add_mod,dD (show p<2*p by omega)];have l:=Nat.mod_lt z d;rcases f with b|b<;>rcases i with a|a;.omega
   .rw[b,a,e,dD ⋯]
   .rw[b,a,e,show y%p+p+p=y%p+2*p by omega,Nat.add_mod_right,dD ⋯]
   .omega
end Ts
namespace Ts
open SetTable
def nxt(m:Nat)(p:Probe):Probe:=if p.more>0 then{p with j:=p.j+1,more:=p.more-1}else
 {p with j:=(leap m p.i p.perturb).1,more:=runEnd m (leap m p.i p.perturb).1-(leap m p.i p.perturb).1,i:=(leap m p.i p.perturb).1,perturb:=(leap m p.i p.perturb).2}
def Pj(m:Nat)(h:Int):Nat->Probe
 |0=>{j:=bits h%(m+1),more:=runEnd m (bits h%(m+1))-bits h%(m+1),i:=bits h%(m+1),perturb:=bits h,dummy:=A6}
 |n+1=>nxt m (Pj m h n)
theorem Tn(t:AB)(h:Int):t.probeStart h=Pj t.mask h 0:=rfl
theorem LK(t:AB)(h:Int)(n:Nat):t.advance (Pj t.mask h n)=Pj t.mask h (n+1):=by show t.advance (Pj t.mask h n)=nxt t.mask (Pj t.mask h n);rfl
def Lp(m:Nat)(h:Int):Nat->Nat×Nat
 |0=>(bits h%(m+1),bits h)
 |l+1=>leap m (Lp m h l).1 (Lp m h l).2
def mo(m i:Nat):Nat:=runEnd m i-i
theorem To{m i:Nat}:mo m i<=9:=by unfold mo runEnd;split<;>omega
theorem LL{m i k:Nat}(hi:i<=m)(a:k<=mo m i):i+k<=m:=by unfold mo runEnd at a;split at a<;>omega
def sg(m:Nat)(h:Int):Nat->Nat
 |0=>0
 |l+1=>sg m h l+mo m (Lp m h l).1+1
theorem LM(m:Nat)(h:Int):∀l,sg m h l<=10*l
 |0=>ah _
 |l+1=>by have:=LM m h l;have:=@To m (Lp m h l).1;show sg m h l+mo m (Lp m h l).1+1<=_;omega
theorem IQ{m:Nat}{h:Int}{l b:Nat}(e:Pj m h b={j:=(Lp m h l).1,more:=mo m (Lp m h l).1,i:=(Lp m h l).1,perturb:=(Lp m h l).2,dummy:=A6}):∀k,k<=mo m (Lp m h l).1->Pj m h (b+k)={j:=(Lp m h l).1+k,more:=mo m (Lp m h l).1-k,i:=(Lp m h l).1,perturb:=(Lp m h l).2,dummy:=A6}
 |0,_=>by rw[Nat.add_zero,e];rfl
 |k+1,d=>by have a:=IQ e k ⋯;show nxt m (Pj m h (b+k))=_;rw[a];unfold nxt;rw[if_pos (by show mo m _-k>0;omega)];rfl
theorem IR(m:Nat)(h:Int):∀l,Pj m h (sg m h l)={j:=(Lp m h l).1,more:=mo m (Lp m h l).1,i:=(Lp m h l).1,perturb:=(Lp m h l).2,dummy:=A6}
 |0=>rfl
 |l+1=>by have e:=IQ (IR m h l) _ (ah _);show nxt m (Pj m h (sg m h l+mo m (Lp m h l).1))=_;rw[e];unfold nxt;rw[if_neg (by show¬(_-_>0);omega)];rfl
theorem E9{m:Nat}{h:Int}{l k:Nat}(a:k<=mo m (Lp m h l).1):Pj m h (sg m h l+k)={j:=(Lp m h l).1+k,more:=mo m (Lp m h l).1-k,i:=(Lp m h l).1,perturb:=(Lp m h l).2,dummy:=A6}:=IQ (IR m h l) k a
theorem LN{m:Nat}{h:Int}:∀{l n:Nat},n<sg m h l->∃a b,a<l/\b<=mo m (Lp m h a).1/\n=sg m h a+b
 |0,n,d=>absurd d (cg _)
 |l+1,n,d=>by
  have d:n<sg m h l+mo m (Lp m h l).1+1:=d;by_cases q:n<sg m h l;.obtain⟨a,b,g,e,f⟩:=LN q;exact⟨a,b,⋯,e,f⟩
  .exact⟨l,n-sg m h l,⋯,⋯,⋯⟩
theorem LO{m:Nat}{h:Int}(n:Nat):∃l k,k<=mo m (Lp m h l).1/\n=sg m h l+k:=by
 have a:∀l,l<=sg m h l:=λl=>by
  induction l with
  |zero=>exact ah _
  |succ l g=>show l+1<=sg m h l+mo m (Lp m h l).1+1;omega
 obtain⟨d,b,_,e,f⟩:=LN (m:=m) (h:=h) (l:=n+1) (n:=n) (al (cC n) (a (n+1)));exact⟨d,b,e,f⟩
theorem Tq{m:Nat}{h:Int}{n:Nat}:(Pj m h n).dummy=A6:=by obtain⟨l,k,a,rfl⟩:=LO (m:=m) (h:=h) n;rw[E9 a]
theorem IS{m:Nat}{h:Int}:∀{l:Nat},(Lp m h l).1<=m
 |0=>cu (Nat.mod_lt _ (Nat.succ_pos _))
 |l+1=>cu (Nat.mod_lt _ (Nat.succ_pos _))
theorem Tr{m:Nat}{h:Int}{n:Nat}:(Pj m h n).j<=m:=by obtain⟨l,k,a,rfl⟩:=LO (m:=m) (h:=h) n;rw[E9 a];exact LL IS a
theorem LP{m:Nat}{h:Int}:∀{l:Nat},(Lp m h l).2=bits h/32^l
 |0=>by show bits h=_;simp
 |l+1=>by show(Lp m h l).2/32=_;rw[LP,Nat.div_div_eq_div_mul,dF]
theorem Tt(h:Int):bits h<2^64:=by unfold bits;have:=di h (show(0:Int)<2^64 by decide);have:=Int.emod_nonneg h (show(2^64:Int)≠0 by decide);omega
theorem Tu{m:Nat}{h:Int}{l:Nat}(a:13<=l):(Lp m h l).2=0:=by rw[LP];refine Nat.div_eq_of_lt (al (Tt h) ?_);exact aN (show 2^64<=32^13 by decide) (Nat.pow_le_pow_right (by decide) a)
theorem LQ{m:Nat}{h:Int}:∀{n:Nat},(Lp m h (13+n)).1=u (Lp m h 13).1 n%(m+1)
 |0=>(dD (Nat.lt_succ_of_le IS)).symm
 |n+1=>by show((Lp m h (13+n)).1*5+1+(Lp m h (13+n)).2/32)%(m+1)=(5*u _ n+1)%(m+1);rw[Tu ⋯,LQ (n:=n),Nat.zero_div,Nat.add_zero,Nat.mul_comm];rw[Nat.add_mod,Nat.mul_mod,Nat.mod_mod,<-Nat.mul_mod,<-Nat.add_mod]
theorem LR{m k:Nat}(a:m+1=2^k)(h:Int){y:Nat}(d:y<=m):∃l,l<m+14/\(Lp m h l).1=y:=by obtain⟨n,b,e⟩:=cyc k (Lp m h 13).1 y;refine⟨13+n,⋯,?_⟩;rw[LQ,a,e,<-a,dD ⋯]
theorem Tv{m k:Nat}(b:m+1=2^k)(h:Int){y:Nat}(a:y<=m):∃n,n<10*(m+14)/\(Pj m h n).j=y:=by obtain⟨l,d,e⟩:=LR b h a;have:=LM m h l;exact⟨sg m h l,⋯,by rw[IR];exact e⟩
theorem least{P:Nat->Prop}{n:Nat}(h:P n):∃m,m<=n/\P m/\∀i,i<m->¬P i:=by
 induction n using Nat.strongRecOn with
 |ind n e=>
  by_cases q:∃i,i<n/\P i;.obtain⟨i,a,b⟩:=q;obtain⟨m,g,d,f⟩:=e i a b;exact⟨m,⋯,d,f⟩
  .exact⟨n,ah _,h,λi a b=>q ⟨i,a,b⟩⟩
theorem IT:∀{l b:List Nat},l.Nodup->(∀i∈l,i∈b)->l.length<=b.length
 | [],_,_,_=>aJ _
 |a::l,b,h,j=>by
  have g:a∈b:=j a (by simp);have:=IT (l:=l) (b:=b.erase a) (cc.mp h).2 λi f=>by have d:i≠a:=λe=>(cc.mp h).1 (by rw[<-e];exact f);exact(List.mem_erase_of_ne d).mpr (j i (by simp[f]))
  rw[List.length_erase_of_mem g]at this;have:=List.length_pos_of_mem g;rw[bv];omega
theorem Tw{m:Nat}{l:List Nat}(h:l.length<=m):∃y,y<=m/\y∉l:=Classical.byContradiction λz=>by have:=IT (l:=aG (m+1)) (b:=l) dc λi a=>Classical.byContradiction λq=>z ⟨i,cu (aI.mp a),q⟩;rw[bf]at this;omega
structure TabOk(t:AB)(es:Array (Int×A2)):Prop where
 rise:Rsn t.place
 le:∀p∈t.place.toList,p<=t.mask
 size:t.place.size=es.size
 dum:t.dummies=#[]
 pow:∃k,t.mask+1=2^k
 room:t.place.size<=t.mask
 met:∀q∈t.place.toList.zip es.toList,∃n,(Pj t.mask q.2.1 n).j=q.1/\∀n',n'<n->(Pj t.mask q.2.1 n').j∈t.place.toList
theorem Tx{t:AB}(b:Rsn t.place)(a:t.dummies=#[])(j:Nat):(∃i,t.slot j=.live i/\t.place[i]?=A0 j)\/(t.slot j=.empty/\j∉t.place.toList):=by
 unfold AB.slot;by_cases h:t.place[below t.place j]?=A0 j;.exact .inl ⟨below t.place j,by simp[h],h⟩
 .refine .inr ⟨?_,LI b h⟩;have d:(t.place[below t.place j]?==A0 j)=A7:=by simpa using h
  rw[a];simp only[d];rfl
theorem TabOk.end{t:AB}{es:Array (Int×A2)}(T:TabOk t es)(h:Int):∃N,N<10*(t.mask+14)/\(Pj t.mask h N).j∉t.place.toList/\∀n,n<N->(Pj t.mask h n).j∈t.place.toList:=by obtain⟨y,g,d⟩:=Tw (m:=t.mask) (l:=t.place.toList) (by rw[ak];exact T.room);obtain⟨k,o⟩:=T.pow;obtain⟨n,p,e⟩:=Tv o h g;obtain⟨N,q,b,f⟩:=least (P:=λn=>(Pj t.mask h n).j∉t.place.toList) (n:=n) (by rw[e];exact d);exact⟨N,⋯,b,λi a=>Classical.byContradiction (f i a)⟩
theorem LS{t:AB}(v:Rsn t.place)(D:t.dummies=#[])(hat:Nat->Int)(h:Int){N:Nat}(E:(Pj t.mask h N).j∉t.place.toList)(B:∀n,n<N->(Pj t.mask h n).j∈t.place.toList):∀(f n:Nat),n<=N->N-n<f->
  (probe.go t hat h f (Pj t.mask h n)=A0 (.empty (Pj t.mask h N).j A6)/\∀d i,n<=d->d<N->t.place[i]?=A0 (Pj t.mask h d).j->hat i≠h)\/
  ∃d i,n<=d/\d<N/\t.place[i]?=A0 (Pj t.mask h d).j/\t.slot (Pj t.mask h d).j=.live i/\hat i=h/\probe.go t hat h f (Pj t.mask h n)=A0 (.candidate (Pj t.mask h d).j i (Pj t.mask h (d+1)))/\∀g l,n<=g->g<d->t.place[l]?=A0 (Pj t.mask h g).j->hat l≠h
 |0,n,_,C=>absurd C (cg _)
 |f+1,n,S,C=>by
  have m:∀{i l:Nat}{x:Nat},t.place[i]?=A0 x->t.place[l]?=A0 x->i=l:=by
   intro i l x e J;obtain⟨I,U⟩:=bb.mp e;obtain⟨G,T⟩:=bb.mp J;rcases dv i l with z|z|z;.have:=DJ v z G;omega
   .exact z
   .have:=DJ v z I;omega
  unfold probe.go;rcases Tx v D (Pj t.mask h n).j with⟨i,s,o⟩|⟨s,o⟩
  .rw[s];dsimp only;have y:n<N:=by
    rcases dl n N with z|z;.exact z
    .have e:n=N:=by omega
     subst e;exact absurd (by rw[bY];exact dm o) E
   by_cases r:hat i=h;.right;refine⟨n,i,ah _,y,o,s,r,?_,λg _ a b=>absurd b ⋯⟩;rw[if_pos (by simpa using r),LK]
   .rw[if_neg (by simpa using r),LK];rcases LS v D hat h E B f (n+1) ⋯ ⋯with⟨e,z⟩|⟨d,l,R,P,L,Q,O,M,H⟩
    .left;refine⟨e,λd l K w p=>?_⟩;by_cases q:d=n;.subst q;rw[<-m o p];exact r
     .exact z d l ⋯ w p
    .right;refine⟨d,l,⋯,P,L,Q,O,M,λg A K w p=>?_⟩;by_cases q:g=n;.subst q;rw[<-m o p];exact r
     .exact H g A ⋯ w p
  .rw[s];dsimp only;have e:n=N:=by
    rcases dl n N with z|z;.exact absurd (B n z) o
    .omega
   subst e;left;exact⟨by rw[Tq],λd _ a b=>absurd b ⋯⟩
end Ts
namespace Ts
open SetTable
theorem Tz(j:Nat):has #[] j=A7:=by unfold has;rfl
theorem TabOk.put{t:AB}{es:Array (Int×A2)}(T:TabOk t es){h:Int}{x:A2}{N:Nat}(G:(Pj t.mask h N).j∉t.place.toList)(B:∀n,n<N->(Pj t.mask h n).j∈t.place.toList)(l:es.size+1<=t.mask):
  TabOk (t.put (Pj t.mask h N).j).1 (insertAt es (t.put (Pj t.mask h N).j).2 (h,x)):=by
 have I:=Ec T.rise (Pj t.mask h N).j;have m:t.place[below t.place (Pj t.mask h N).j]?≠A0 (Pj t.mask h N).j:=λz=>G (by rw[bY];exact dm z);have C:(t.put (Pj t.mask h N).j).1={t with place:=insertAt t.place (below t.place (Pj t.mask h N).j) (Pj t.mask h N).j}:=by unfold AB.put;rw[T.dum,Tz];have E:=T.dum;cases t;cases E;rfl
 have o:(t.put (Pj t.mask h N).j).2=below t.place (Pj t.mask h N).j:=rfl;rw[C,o];generalize A:(Pj t.mask h N).j=j at*;generalize b:below t.place j=p at*;have w:(List.take p t.place.toList).length=(List.take p es.toList).length:=by rw[aM,aM,ak,ak,T.size]
 have d:∀y,y∈(insertAt t.place p j).toList↔y=j\/y∈t.place.toList:=by
  intro y;rw[toList_insertAt];conv=>rhs;rw[<-bG p t.place.toList]
  simp only[aL,ap];constructor
  .rintro(a|a|a);.exact .inr (.inl a)
   .exact .inl a
   .exact .inr (.inr a)
  .rintro(a|a|a);.exact .inr (.inl a)
   .exact .inl a
   .exact .inr (.inr a)
 have f:∀{v:Type}(s:Array v)(y:v),(insertAt s p y).size=s.size+1:=λs y=>by rw[<-ak,toList_insertAt];simp only[aB,bv,aM,List.length_drop,ak];omega
 refine⟨?_,?_,?_,T.dum,T.pow,?_,?_⟩;.have:=LJ T.rise (j:=j) (by rw[b];exact m);rw[b]at this;exact this
 .intro y r;rcases(d y).mp r with rfl|r;.rw[<-A];exact Tr
  .exact T.le y r
 .show(insertAt t.place p j).size=_;rw[f,f,T.size]
 .show(insertAt t.place p j).size<=t.mask;rw[f,T.size];exact l
 .show∀q∈(insertAt t.place p j).toList.zip (insertAt es p (h,x)).toList,∃n,(Pj t.mask q.2.1 n).j=q.1/\∀e,e<n->_∈(insertAt t.place p j).toList;rw[toList_insertAt t.place,toList_insertAt es,List.zip_append w,List.zip_cons_cons,<-toList_insertAt t.place];have g:∀q∈t.place.toList.zip es.toList,∃n,(Pj t.mask q.2.1 n).j=q.1/\∀e,e<n->(Pj t.mask q.2.1 e).j∈(insertAt t.place p j).toList:=λq b=>by obtain⟨n,H,D⟩:=T.met q b;exact⟨n,H,λe i=>(d _).mpr (.inr (D e i))⟩
  rw[<-bG p t.place.toList,<-bG p es.toList,List.zip_append w]at g;intro q b;rcases aL.mp b with b|b;.exact g q (bq _ b)
  .rcases ap.mp b with rfl|b;.exact⟨N,A,λe i=>(d _).mpr (.inr (B e i))⟩
   .exact g q (am _ b)
structure OwnOk(m:Nat)(hs:List Int)(k:Nat)(ow:Array (Option Nat)):Prop where
 size:ow.size=m+1
 met:∀j i:Nat,ow[j]?=A0 (A0 i)->i<k/\∃h n,hs[i]?=A0 h/\(Pj m h n).j=j/\∀n',n'<n->∃z,ow[(Pj m h n').j]?=A0 (A0 z)
 all:∀i,i<k->∃j:Nat,ow[j]?=A0 (A0 i)
 uniq:∀i j j':Nat,ow[j]?=A0 (A0 i)->ow[j']?=A0 (A0 i)->j=j'
theorem OwnOk.free{m:Nat}{hs:List Int}{k:Nat}{ow:Array (Option Nat)}(O:OwnOk m hs k ow)(s:k<=m):∃y,y<=m/\ow[y]?=A0 A6:=Classical.byContradiction λz=>by
 have d:∀y,y<=m->∃i,ow[y]?=A0 (A0 i):=λy h=>by
  have e:ow[y]?=A0 (ow[y]'(by have:=O.size;omega)):=aA _;cases j:ow[y]'(by have:=O.size;omega)with
  |none=>rw[j]at e;exact absurd ⟨y,h,e⟩ z
  |some i=>rw[j]at e;exact⟨i,e⟩
 have:=IT (l:=(aG (m+1)).map λy=>(ow.getD y A6).getD 0) (b:=aG k) ?_ ?_;.rw[ac,bf,bf]at this;omega
 .rw[List.Nodup,cI];refine List.Pairwise.imp_of_mem (λ{a b}n p o=>?_) cr;obtain⟨i,f⟩:=d a (cu (aI.mp n));obtain⟨r,g⟩:=d b (cu (aI.mp p));rw[bN,bN,f,g];intro q;have q:i=r:=q;subst q;exact absurd (O.uniq i a b f g) ⋯
 .intro i f;obtain⟨y,h,rfl⟩:=ar.mp f;obtain⟨i,f⟩:=d y (cu (aI.mp h));rw[bN,f];exact aI.mpr (O.met y i f).1
theorem LU{m:Nat}{ow:Array (Option Nat)}(hs:ow.size=m+1)(h:Int){L:Nat}(y:ow[(Lp m h L).1]?=A0 A6):∀(f l:Nat),l<=L->L-l<f->(∀n,n<sg m h l->∃z,ow[(Pj m h n).j]?=A0 (A0 z))->
  ∃n,layClean.free m ow f (Lp m h l).1 (Lp m h l).2=A0 (Pj m h n).j/\ow[(Pj m h n).j]?=A0 A6/\∀a,a<n->∃z,ow[(Pj m h a).j]?=A0 (A0 z)
 |0,l,_,w,_=>absurd w (cg _)
 |f+1,l,H,w,t=>by
  unfold layClean.free;have D:runEnd m (Lp m h l).1+1-(Lp m h l).1=mo m (Lp m h l).1+1:=by unfold mo runEnd;split<;>omega
  rw[D];have val:∀k,k<=mo m (Lp m h l).1->∃o,ow[(Lp m h l).1+k]?=A0 o/\ow.getD ((Lp m h l).1+k) (A0 0)=o:=λk g=>by
   have p:(Lp m h l).1+k<ow.size:=by rw[hs];exact Nat.lt_succ_of_le (LL IS g)
   exact⟨_,aA p,by simp[Array.getD,p]⟩
  cases B:(aG (mo m (Lp m h l).1+1)).find? λk=>(ow.getD ((Lp m h l).1+k) (A0 0)).isNone with
  |some k=>
   obtain⟨x,G,s⟩:=List.find?_range_eq_some.mp B;have g:k<=mo m (Lp m h l).1:=cu (aI.mp G);refine⟨sg m h l+k,?_,?_,λa E=>?_⟩;.dsimp only;rw[E9 g]
   .obtain⟨o,b,i⟩:=val k g;rw[i]at x;rw[E9 g,b];cases o with
    |none=>rfl
    |some _=>cases x
   .by_cases q:a<sg m h l;.exact t a q
    .obtain⟨d,rfl⟩:∃d,a=sg m h l+d:=⟨a-sg m h l,⋯⟩;have r:d<k:=by omega
     obtain⟨o,b,i⟩:=val d ⋯;have:=s d r;rw[i]at this;rw[E9 ⋯,b];cases o with
     |none=>cases this
     |some z=>exact⟨z,rfl⟩
  |none=>
   have s:=List.find?_range_eq_none.mp B;have hw:∀d,d<=mo m (Lp m h l).1->∃z,ow[(Lp m h l).1+d]?=A0 (A0 z):=λd r=>by
    obtain⟨o,b,i⟩:=val d r;have:=s d ⋯;rw[i]at this;cases o with
    |none=>cases this
    |some z=>exact⟨z,b⟩
   have C:l≠L:=λe=>by obtain⟨z,A⟩:=hw 0 (aJ _);rw[Nat.add_zero,e,y]at A;cases A
   refine LU hs h y f (l+1) ⋯ ⋯ λn v=>?_;by_cases q:n<sg m h l;.exact t n q
   .have v:n<sg m h l+mo m (Lp m h l).1+1:=v;obtain⟨d,rfl⟩:∃d,n=sg m h l+d:=⟨n-sg m h l,⋯⟩;rw[E9 ⋯];exact hw d ⋯
theorem OwnOk.step{m k:Nat}{hs:List Int}{ow:Array (Option Nat)}(O:OwnOk m hs k ow)(C:k<=m)(D:∃b,m+1=2^b){h:Int}(G:hs[k]?=A0 h):∃j,layClean.free m ow (turns m) (bits h%(m+1)) (bits h)=A0 j/\OwnOk m hs (k+1) (ow.setIfInBounds j (A0 k)):=by
 obtain⟨y,f,o⟩:=O.free C;obtain⟨b,E⟩:=D;obtain⟨L,R,e⟩:=LR E h f;obtain⟨n,I,s,J⟩:=LU O.size h (L:=L) (by rw[e];exact o) (turns m) 0 (aJ _) (by unfold turns;omega) λn l=>absurd l (cg _);refine⟨_,I,?_⟩;generalize N:(Pj m h n).j=j at s⊢;have w:j<ow.size:=(bb.mp s).1;have g:∀y,(ow.setIfInBounds j (A0 k))[y]?=if j=y then A0 (A0 k)else ow[y]?:=λy=>by
  rw[Array.getElem?_setIfInBounds];by_cases q:j=y;.rw[if_pos q,if_pos q,if_pos w]
  .rw[if_neg q,if_neg q]
 have d:∀y z:Nat,ow[y]?=A0 (A0 z)->∃z,(ow.setIfInBounds j (A0 k))[y]?=A0 (A0 z):=λy z e=>by
  rw[g];by_cases q:j=y;.exact⟨k,by rw[if_pos q]⟩
  .exact⟨z,by rw[if_neg q];exact e⟩
 refine⟨by rw[Array.size_setIfInBounds];exact O.size,λy i e=>?_,λi Q=>?_,λi y p e a=>?_⟩
 .rw[g]at e;by_cases q:j=y;.rw[if_pos q]at e;injection e with e;injection e with e;subst e;exact⟨cC _,h,n,G,by rw[N,q],λA r=>by obtain⟨z,x⟩:=J A r;exact d _ z x⟩
  .rw[if_neg q]at e;obtain⟨B,K,A,M,H,P⟩:=O.met y i e;exact⟨bE B,K,A,M,H,λt l=>by obtain⟨z,x⟩:=P t l;exact d _ z x⟩
 .rcases dl i k with z|z;.obtain⟨y,f⟩:=O.all i z;refine⟨y,?_⟩;rw[g,if_neg (λq=>by rw[<-q,s]at f;cases f)];exact f
  .exact⟨j,by rw[g,if_pos rfl,show i=k by omega]⟩
 .rw[g]at e a;by_cases q:j=y<;>by_cases v:j=p;.omega
  .rw[if_pos q]at e;rw[if_neg v]at a;injection e with e;injection e with e;subst e;exact absurd (O.met p _ a).1 (bC _)
  .rw[if_neg q]at e;rw[if_pos v]at a;injection a with a;injection a with a;subst a;exact absurd (O.met y _ e).1 (bC _)
  .rw[if_neg q]at e;rw[if_neg v]at a;exact O.uniq i y p e a
theorem LV{m:Nat}{hs:List Int}(i:∃b,m+1=2^b)(s:hs.length<=m):∀(r:List Int)(k:Nat)(ow:Array (Option Nat)),hs.drop k=r->k<=hs.length->OwnOk m hs k ow->∃d,r.foldl (λ(f:Option (Array (Option Nat)×Nat))h=>do
    let g<-f
    match g with
     |(a,k)=>do
      let j<-layClean.free m a (turns m) (bits h%(m+1)) (bits h)
      pure (a.setIfInBounds j (A0 k),k+1)) (A0 (ow,k))=A0 (d,hs.length)/\OwnOk m hs hs.length d
 | [],k,ow,e,l,O=>by
  have:k=hs.length:=by have:=congrArg cL e;simp at this;omega
  subst this;exact⟨ow,rfl,O⟩
 |h::r,k,ow,e,l,O=>by
  have t:k<hs.length:=by have:=congrArg cL e;simp at this;omega
  have o:hs[k]?=A0 h:=by
   have:(hs.drop k)[0]?=A0 h:=by rw[e];rfl
   rwa [List.getElem?_drop,Nat.add_zero]at this
  obtain⟨j,v,p⟩:=O.step ⋯ i o;obtain⟨d,q,n⟩:=LV i s r (k+1) _ (by rw[<-List.drop_drop,e];rfl) ⋯ p;refine⟨d,?_,n⟩;rw[List.foldl_cons,<-q];congr 1;show(do let j<-layClean.free m ow (turns m) (bits h%(m+1)) (bits h);pure (ow.setIfInBounds j (A0 k),k+1))=_;rw[v];rfl
theorem T_{m:Nat}{hs:Array Int}(h:∃b,m+1=2^b)(l:hs.size<=m):∃ow,layClean m hs=A0 ow/\OwnOk m hs.toList hs.size ow:=by
 have a:∀(j i:Nat),(Array.replicate (m+1) (A6:Option Nat))[j]?≠A0 (A0 i):=λj i e=>by
  rw[Array.getElem?_replicate]at e;split at e;.cases e
  .cases e
 have O:OwnOk m hs.toList 0 (Array.replicate (m+1) A6):=⟨by simp,λj i e=>absurd e (a j i),λi g=>absurd g (cg _),λi j n e _=>absurd e (a j i)⟩;obtain⟨ow,f,d⟩:=LV h (by rw[ak];exact l) hs.toList 0 _ rfl (aJ _) O;rw[ak]at f d;refine⟨ow,?_,d⟩;unfold layClean;rw[<-Array.foldl_toList];rw[f];rfl
end Ts
namespace Ts
open SetTable
theorem U0{a b:Type}{f:a->Option b}{g:a->b}:∀{l:List a},(∀x∈l,f x=A0 (g x))->l.filterMap f=l.map g
 :=by intro x;induction x<;>grind
theorem U1{m:Nat}{es:Array (Int×A2)}(Z:∃b,m+1=2^b)(hm:es.size<=m)(Y Q:Nat)(led pl:Bool):
  ∃B l,laid m Y Q led pl (es.map (·.1))=A0 (B,l)/\B.mask=m/\B.led=led/\B.plain=pl/\B.moves=Q/\(l.filterMap (es[·]?)).toList.Perm es.toList/\TabOk B (l.filterMap (es[·]?)):=by
 obtain⟨ow,h1,O⟩:=T_ (hs:=es.map (·.1)) Z (by rw[cH];exact hm);rw[cH]at O;generalize U:((aG (m+1)).filterMap λj=>(ow.getD j A6).map (j,·))=live;have f:∀j i,(j,i)∈live↔j<=m/\ow[j]?=A0 (A0 i):=by
  intro j i;rw[<-U,List.mem_filterMap];constructor
  .rintro⟨y,hy,e⟩;obtain⟨z,D,T⟩:=aP.mp e;injection T with e3 e4;subst e3;subst e4;have t:=aI.mp hy;have w:y<ow.size:=by rw[O.size];exact t
   rw[bN,aA w]at D;exact⟨cu t,by rw[aA w];exact congrArg A0 D⟩
  .rintro⟨H,e⟩;exact⟨j,aI.mpr (Nat.lt_succ_of_le H),by rw[bN,e];rfl⟩
 have r:live.Pairwise λa b=>a.1<b.1:=by rw[<-U];refine List.Pairwise.filterMap (R:=(· < ·)) _ (λa a' P b K b' X=>?_) cr;obtain⟨_,_,rfl⟩:=aP.mp K;obtain⟨_,_,rfl⟩:=aP.mp X;exact P
 have t:∀q∈live,q.2<es.size:=λq v=>(O.met q.1 q.2 ((f q.1 q.2).mp v).2).1;have x:∀{j i:Nat},ow[j]?=A0 (A0 i)->j<=m:=λe=>by have:=(bb.mp e).1;rw[O.size]at this;omega
 generalize hd:((0,A2.none):Int×A2)=d;have A:((live.map (·.2)).toArray.filterMap (es[·]?)).toList=live.map λq=>es.getD q.2 d:=by
  rw[Array.toList_filterMap,List.toList_toArray,U0 (g:=λi=>es.getD i d) (λi o=>?_),aU];.rfl
  .obtain⟨q,v,rfl⟩:=ar.mp o;rw[bN,aA (t q v)];rfl
 have L:(live.map (·.2)).Nodup:=by rw[List.Nodup,cI];refine List.Pairwise.imp_of_mem (λ{a b}ha K a0 e=>?_) r;have:=O.uniq a.2 a.1 b.1 ((f a.1 a.2).mp ha).2 (by rw[e];exact((f b.1 b.2).mp K).2);omega
 have s:(live.map (·.2)).Perm (aG es.size):=by
  rw[List.perm_ext_iff_of_nodup L dc];intro i;rw[aI];constructor;.intro o;obtain⟨q,v,rfl⟩:=ar.mp o;exact t q v
  .intro o;obtain⟨j,H⟩:=O.all i o;exact ar.mpr ⟨(j,i),(f j i).mpr ⟨x H,H⟩,rfl⟩
 have C:live.length=es.size:=by have:=s.length_eq;rwa [ac,bf]at this
 refine⟨{mask:=m,place:=(live.map (·.1)).toArray,dummies:=#[],finger:=Y,led,moves:=Q,plain:=pl},(live.map (·.2)).toArray,?_,rfl,rfl,rfl,rfl,?_,?_⟩;.unfold laid;rw[h1];show A0 (AB.mk _ _ _ _ _ _ _,_)=_;rw[U]
 .rw[A];have e1:(live.map λq=>es.getD q.2 d)=(live.map (·.2)).map λi=>es.getD i d:=by rw[aU];rfl
  have T:es.toList=(aG es.size).map λi=>es.getD i d:=by
   apply bW;intro i;rw[aj];by_cases o:i<es.size;.rw[cv o,bA,aA o];simp[Array.getD,o]
   .rw[bi (by rw[ak];omega),bi (by simpa using o)];rfl
  rw[e1,T];exact s.map _
 .have E:((live.map (·.2)).toArray.filterMap (es[·]?)).size=live.length:=by rw[<-ak,A,ac]
  refine⟨?_,?_,?_,rfl,Z,?_,?_⟩;.show List.Pairwise _ (live.map (·.1)).toArray.toList;rw[List.toList_toArray,cI];exact r
  .intro p S;obtain⟨q,v,rfl⟩:=ar.mp (show p∈live.map (·.1)by simpa using S);exact((f q.1 q.2).mp v).1
  .show(live.map (·.1)).toArray.size=_;rw[E,aE,ac]
  .show(live.map (·.1)).toArray.size<=m;rw[aE,ac,C];exact hm
  .show∀q∈((live.map (·.1)).toArray.toList).zip _,∃n,(Pj m (Prod.fst (Prod.snd q)) n).j=q.1/\∀I,I<n->_∈(live.map (·.1)).toArray.toList;rw[A,List.toList_toArray,List.zip_map'];intro q v;obtain⟨⟨j,i⟩,J,rfl⟩:=ar.mp v;have N:=((f j i).mp J).2;obtain⟨o,h,n,G,a2,a3⟩:=O.met j i N;have eh:(es.getD i d).1=h:=by rw[dE,aj,bA,aA o]at G;injection G with G;rw[bN,aA o];exact G
   refine⟨n,by show(Pj m (es.getD i d).1 n).j=j;rw[eh];exact a2,λI M=>?_⟩;show(Pj m (es.getD i d).1 I).j∈_;rw[eh];obtain⟨z,D⟩:=a3 I M;exact ar.mpr ⟨(_,z),(f _ z).mpr ⟨x D,D⟩,rfl⟩
end Ts
section
variable{prog:AC}{w:AL}{K:Type} [DecidableEq K](knd:KeyKind prog w K)
def Dst(es:List (Int×A2)):Prop:=es.Pairwise λa b=>∀k,knd.is k a.2=A3->knd.is k b.2=A3->False
def Obj.SetIt(o:AT)(S:K->Bool)(n:Nat):Prop:=
 ∃a b t,o.ExactSet/\o.data=.set a b t/\ElemsOf knd a.toList/\(∀k,S k=A3↔∃e∈a.toList,knd.is k e.2=A3)/\a.size<scanBound/\t.fits a.size=A3/\a.size=n
  /\Dst knd a.toList/\TOk (w.params.followText "set-order") t
variable{knd}
variable{A:AN}{E:A2->A5->Prop}{s:A5}
theorem U2{es d:List (Int×A2)}{k:K}{j:Int}{x:A2}(r:Dst knd es)(n:knd.is k x=A3)(m:ElemsOf knd es)(h:∀e∈es,knd.is k e.2=A7)(p:List.Perm d (es++[(j,x)])):Dst knd d:=by
 have o:Dst knd (es++[(j,x)]):=by unfold Dst;rw[List.pairwise_append];refine⟨r,List.pairwise_singleton _ _,λa l b i q f g=>?_⟩;rw[aF]at i;subst i;have e:=knd.inj x q k g n;subst e;rw[h a l]at f;cases f
 exact(List.Perm.pairwise_iff (λ{a b}z k f g=>z k g f) p).mpr o
theorem LX{h:AM}{a:A4}{o:AT}{es:Array (Int×A2)}{g:Nat}{t:AB}(q:h.get? a=A0 o)(l:o.ExactSet)(x:o.data=.set es g t){b:Array (Int×A2)}{d:AB}{i:K->Bool}{n:Nat}
  (p:ElemsOf knd b.toList)(B:∀k,i k=A3↔∃e∈b.toList,knd.is k e.2=A3)(r:b.size<scanBound)(C:d.fits b.size=A3)(v:b.size=n)(y:Dst knd b.toList)(D:TOk (w.params.followText "set-order") d):
  ∃f,(h.update a (AT.putSet b d)).get? a=A0 f/\f.ExactSet/\f.data=.set b (g+1) d/\f.SetIt knd i n:=by have j:=putSet_of b d x;have m:=aT (AT.putSet b d) q (by rw[j];rfl);rw[j]at m;exact⟨_,m,l,rfl,b,g+1,d,l,rfl,p,B,r,C,v,y,D⟩
theorem U3{a:A4}{o:AT}{S:K->Bool}{n:Nat}{k:K}{x:A2}{Q:Bool->A5->Prop}(m:knd.is k x=A3)(O:x.scannable=A3)(ho:s.heap.get? a=A0 o)(hS:o.SetIt knd S n)(f:n+1<scanBound)
  (h:∀I P,bP a s.heap I->I.get? a=A0 P->P.SetIt knd (λj=>S j||decide (j=k)) (if S k then n else n+1)->Q (!S k) {s with heap:=I}):
  AA (AD prog w) A (setAddHashed a x (knd.hash k)) Q E s:=by
 obtain⟨T,ep,t,a4,hd,C,p,hb,hf,hn,J,a6⟩:=id hS;unfold setAddHashed setAddHashedIn;refine aR (aa (bB ho hd hf ?_));dsimp only;rw[byScan_of O hb C,if_pos rfl];unfold setAddByScan;refine aa (aa (ck (aa (wpAny_setScan_of m ho hd hf C ?_))));cases hr:List.findIdx? (λe=>knd.is k e.2) T.toList with
 |some j=>dsimp only;obtain⟨hj,a9,_⟩:=List.findIdx?_eq_some_iff_getElem.mp hr;have D:S k=A3:=(p k).mpr ⟨_,bQ hj,a9⟩;refine af (af ?_);have z:=h s.heap o (AM.SameBut.refl a s.heap) ho ⟨T,ep,t,a4,hd,C,λN=>by rw[aX,decide_eq_true_eq,<-p N];exact⟨λq=>q.elim id λq=>q▸D,.inl⟩,hb,hf,by rw[D];exact hn,J,a6⟩;rw[D]at z;exact z
 |none=>
  dsimp only;have a1:∀e∈T.toList,knd.is k e.2=A7:=λe R=>by simpa using List.findIdx?_eq_none_iff.mp hr e R
  have D:S k=A7:=by
   cases hk:S k with
   |false=>rfl
   |true=>obtain⟨e,R,G⟩:=(p k).mp hk;rw[a1 e R]at G;cases G
  have G:=layNew_perm t T (knd.hash k) x;have i:=layNew_fits t T (knd.hash k) x;have g:=Ti T (knd.hash k) x a6;rw[dw]at G;generalize layNew t T (knd.hash k) x=Y at G i g⊢;obtain⟨d,t1,wd,gv⟩:=Y;dsimp only at G i g⊢;have a3:ElemsOf knd d.toList:=(C.push m O).perm G;have a2:∀N,(S N||decide (N=k))=A3↔∃e∈d.toList,knd.is N e.2=A3:=mem_push_iff m p G;have H:d.size=n+1:=by rw[<-ak,G.length_eq,aB,ak,hn];rfl
  have d1:Dst knd d.toList:=U2 J m C a1 G;have a0:∀I P,bP a s.heap I->I.get? a=A0 P->P.SetIt knd (λj=>S j||decide (j=k)) (n+1)->Q A3 {s with heap:=I}:=by intro I P z1 z2 z3;have z:=h I P z1 z2;rw[D]at z;exact z z3
  have a7:∀y:AB,y.fits d.size=A3->TOk (w.params.followText "set-order") y->AA (AD prog w) A (do
    storeSet a d y
    if(!wd&&y.tooFull)=A3 then do
      (match(relayAll y d (AB.grown d.size)).2.2 with|A3=>rule "set.scan.the-table-gave-way"|A7=>pure ())
      storeSet a (relayAll y d (AB.grown d.size)).1 (relayAll y d (AB.grown d.size)).2.1
      pure (A0 A3)
     else pure (A0 A3)) (λr s'=>r=A0 A3/\Q A3 s') E s:=by
   intro y f2 k2;refine aa (wpAny_storeSet_of ho hd ?_ (fits_of_scanBound (by rw[H];exact f)));obtain⟨o1,g1,x1,a5,i1⟩:=LX (knd:=knd) ho a4 hd a3 a2 (by rw[H];exact f) f2 H d1 k2;have b1:=AM.SameBut.update s.heap a (AT.putSet d y);split
   .have l:=relayAll_perm y d (AB.grown d.size);have M:=relayAll_fits y d (AB.grown d.size);have L:=Tj d (AB.grown d.size) k2;generalize relayAll y d (AB.grown d.size)=Z at l M L⊢;obtain⟨b0,t3,a8⟩:=Z;dsimp only at l M L⊢;have U:b0.size=n+1:=by rw[<-ak,l.length_eq,ak,H]
    have stp:∀(X:Sem Unit),(∀B:Unit->A5->Prop,∀v,B () v->AA (AD prog w) A X B E v)->∀v B,B () v->AA (AD prog w) A X B E v:=λX hX v B q=>hX B v q;refine aa (stp _ (λB v q=>by cases a8<;>first|exact af q|exact ck q) _ _ ?_);refine aa (wpAny_storeSet_of g1 a5 ?_ (fits_of_scanBound (by rw[U];exact f)));obtain⟨o2,g2,x2,b3,i2⟩:=LX (knd:=knd) g1 x1 a5 (a3.perm l) (λN=>(a2 N).trans ⟨λ⟨e,R,q⟩=>⟨e,l.mem_iff.mpr R,q⟩,λ⟨e,R,q⟩=>⟨e,l.mem_iff.mp R,q⟩⟩) (by rw[U];exact f) M U
     ((List.Perm.pairwise_iff (λ{a b}z k q1 q2=>z k q2 q1) l).mpr d1) L;exact af ⟨rfl,a0 _ o2 (b1.trans (AM.SameBut.update _ a _)) g2 i2⟩
   .exact af ⟨rfl,a0 _ o1 b1 g1 i1⟩
  have b2:∀(b:Bool){v:A5}{B:Unit->A5->Prop},B () v->AA (AD prog w) A (match b with|A3=>rule "set.scan.the-table-gave-way"|A7=>pure ()) B E v:=
   λb v B q=>by cases b<;>first|exact af q|exact ck q
  refine aa (b2 gv ?_);split
  .rw[hashByValue_scannable 8 O];refine aa (af ?_);refine cX (a7 _ ?_ ?_) (λr s' q=>?_) λ_ _ z=>z
   .split;.exact i
    .exact AB.fits_plain_off i
   .split;.exact g
    .rcases g with z|⟨z1,z2⟩;.exact .inl z
     .exact .inr ⟨z1,z2⟩
   .obtain⟨rfl,q⟩:=q;exact af q
  .refine aa (af ?_);rw[if_pos rfl];refine cX (a7 _ i g) (λr s' q=>?_) λ_ _ z=>z;obtain⟨rfl,q⟩:=q;exact af q
theorem U4{a:A4}{o:AT}{S:K->Bool}{n:Nat}(b:s.heap.get? a=A0 o)(e:o.SetIt knd S n):s.TypeIs (.ref a) "set":=let⟨_,_,_,d,_⟩:=e;⟨o,b,d.1⟩
theorem U5{a:A4}{o:AT}{S:K->Bool}{n:Nat}{k:K}{x:A2}{Q:A2->A5->Prop}(b:knd.is k x=A3)(g:x.scannable=A3)(i:s.heap.get? a=A0 o)(l:o.SetIt knd S n)(d:n+1<scanBound)
  (h:∀e f,bP a s.heap e->e.get? a=A0 f->f.SetIt knd (λj=>S j||decide (j=k)) (if S k then n else n+1)->Q .none {s with heap:=e,toks:=s.toks+1}):
  AA (AD prog w) A (call (.builtin "set.add") [.ref a,x]) Q E s:=by
 refine aV F.slot_set_add (U4 i l) F.entry_set_add ?_ (F.args_set_add_2 _ _);unfold AK.«set.add»AK.Frozenset.oneOther;simp only[List.isEmpty_nil,bind_assoc];unfold AK.Frozenset.addrOf setAdd;refine aa (af ?_);try dsimp only
 refine aa (af ?_);try dsimp only
 refine aa (aR (aa (knd.pyHash b ?_)));refine U3 (s:={s with toks:=s.toks+1}) b g i l d λe f m q p=>?_;exact af ⟨_,rfl,h e f m q p⟩
end
namespace Ts
open SetTable
section
variable{prog:AC}{w:AL}
def elm(prog:AC)(w:AL)(q:List Int×A4):Int×A2:=(AR (Aa prog w) q.1,.ref q.2)
def Tup(prog:AC)(w:AL)(h:AM)(q:List Int×A4):Prop:=IsTupleKey (Aa prog w) h q.1 q.2
structure MaskOk(t:AB):Prop where
 mask:t.mask∈[7,31,127,511,2047,8191]
 few:t.place.size*5<t.mask*3
theorem MaskOk.le{t:AB}(m:MaskOk t):7<=t.mask/\t.mask<=8191/\t.mask%2=1:=by have:=m.mask;simp only[ap,av,or_false]at this;omega
theorem TabOk.fits{t:AB}{es:Array (Int×A2)}(T:TabOk t es):t.fits es.size=A3:=by unfold AB.fits AB.fill;rw[T.dum,T.size];have:=T.room;rw[T.size]at this;simp[this]
variable{A:AN}{E:A2->A5->Prop}{s:A5}
theorem LY{q:List Int×A4}{Q:Bool->A5->Prop}(i:Tup prog w s.heap q)(h:Q A7 s):AA (AD prog w) A (ofAClassStatement 8 (.ref q.2)) Q E s:=by
 have hT:=i.typeIs;obtain⟨o,d,n,j,_,m,l⟩:=i;unfold ofAClassStatement;refine aa (wpAny_typeOf hT ?_);dsimp only;rw[if_pos (by decide)];refine aa (af ?_);rw[if_neg (by simp)];refine aa (bV j m ?_);dsimp only;refine aa ?_;show AA _ _ (forIn d _ _) _ _ s;rw[<-Array.forIn_toList];refine wpAny_forIn_list _ (λAw r g=>r.1=A6/\g=s/\∀v∈Aw,carriedByValue v=A3) _ ?_ ?_ _ _ ⟨rfl,rfl,l.byValue⟩
 .rintro v Aw r g⟨f,rfl,b⟩;have p:ofAClassStatement 7 v=pure A7:=by
   cases v with
   |ref a=>have:=b _ ay;simp[carriedByValue]at this
   |_=>first|rfl|(unfold ofAClassStatement;rfl)
  rw[p];refine aa (af ?_);rw[if_neg (by simp)];exact af ⟨rfl,rfl,λu e=>b u (ax _ e)⟩
 .rintro⟨r1,r2⟩g⟨f,rfl,_⟩;simp only at f;subst f;exact af h
theorem U6{q:List Int×A4}{j:List A2}{Q:Bool->A5->Prop}(f:Tup prog w s.heap q)(l:∀v∈j,∃p,v=.ref p.2/\Tup prog w s.heap p)(h:Q A7 s):AA (AD prog w) A (searchCouldBeSeen (.ref q.2) j) Q E s:=by
 unfold searchCouldBeSeen;refine aa ?_;refine wpAny_forIn_list _ (λAw r e=>r.1=A6/\e=s/\∀v∈Aw,∃p,v=A2.ref p.2/\Tup prog w s.heap p) _ ?_ ?_ _ _ ⟨rfl,rfl,l⟩
 .rintro v Aw r e⟨d,rfl,a⟩;obtain⟨p,rfl,g⟩:=a _ ay;dsimp only;by_cases i:((q.2==p.2)||(carriedByValue (A2.ref q.2)&&carriedByValue (A2.ref p.2)))=A3;.rw[if_pos i];exact af ⟨rfl,rfl,λu b=>a u (ax _ b)⟩
  .rw[if_neg i];refine aa (wpAny_eqIsQuiet_tuple f ?_);rw[if_neg (by simp)];refine aa (wpAny_eqIsQuiet_tuple g ?_);rw[if_neg (by simp)];refine aa (LY f ?_);rw[if_neg (by simp)];refine aa (LY g ?_);rw[if_neg (by simp)];exact af ⟨rfl,rfl,λu b=>a u (ax _ b)⟩
 .rintro⟨r1,r2⟩e⟨d,rfl,_⟩;simp only at d;subst d;exact af h
structure Elms(prog:AC)(w:AL)(h:AM)(es:Array (Int×A2))(t:AB)(L:List (List Int×A4)):Prop where
 its:es.toList=L.map (elm prog w)
 tup:∀q∈L,Tup prog w h q
 nd:(L.map (·.1)).Nodup
 tab:TabOk t es
 mask:MaskOk t
theorem LZ{a:A4}{o:AT}{es:Array (Int×A2)}{ep:Nat}{t:AB}{L:List (List Int×A4)}(hu:A.units<Am)(ho:s.heap.get? a=A0 o)(hd:o.data=.set es ep t)(X:Elms prog w s.heap es t L){q:List Int×A4}(hq:Tup prog w s.heap q){d:Bool}{Q:SetFound->A5->Prop}{N:Nat}
  (hN:(Pj t.mask (AR (Aa prog w) q.1) N).j∉t.place.toList)(hB:∀n,n<N->(Pj t.mask (AR (Aa prog w) q.1) n).j∈t.place.toList)(b0:N<10*turns t.mask)
  (h1:q.1∈L.map (·.1)->∀r,(d=A7->r.isSome=A3)->Q (.there r) s)(h2:q.1∉L.map (·.1)->Q (.free (Pj t.mask (AR (Aa prog w) q.1) N).j A7) s):
  ∀(f n:Nat)(st:Option Probe),st.getD (t.probeStart (AR (Aa prog w) q.1))=Pj t.mask (AR (Aa prog w) q.1) n->n<=N->N-n<f->(∀(S i:Nat)(p:List Int×A4),S<n->t.place[i]?=A0 (Pj t.mask (AR (Aa prog w) q.1) S).j->L[i]?=A0 p->p.1≠q.1)->
   AA (AD prog w) A (setSearchFrom a (.ref q.2) (AR (Aa prog w) q.1) d f st) Q E s
 |0,n,st,_,_,hf,_=>absurd hf (cg _)
 |f+1,n,st,b4,hn,hf,D=>by
  generalize hh:AR (Aa prog w) q.1=h at*;have T:=X.tab;obtain⟨m7,m8,m2⟩:=X.mask.le;have H:∀i:Nat,es[i]?=(L[i]?).map (elm prog w):=λi=>by rw[<-bA,X.its,aj]
  unfold setSearchFrom;refine aa (bB ho hd T.fits ?_);dsimp only;rw[if_neg (by unfold AB.gaveWay;simp;omega)];rw[b4];generalize l:probe t _ h (Pj t.mask h n)=P;replace l:probe t (λi=>((es[i]?).map (·.1)).getD 0) h (Pj t.mask h n)=P:=l;have hP:=LS T.rise T.dum (λi=>((es[i]?).map (·.1)).getD 0) h hN hB (10*turns t.mask) n hn ⋯;unfold probe at l;rcases hP with⟨e,a9⟩|⟨S,i,a1,a2,a3,a4,a5,a6,a7⟩
  .rw[e]at l;subst l;dsimp only;refine af (h2 λhm=>?_);obtain⟨p,hp,Z⟩:=ar.mp hm;obtain⟨i,hi,ei⟩:=cq.mp hp;have g:L[i]?=A0 p:=by rw[ae hi,ei]
   have m:es[i]?=A0 (elm prog w p):=by rw[H,g];rfl
   have x:i<es.size:=(bb.mp m).1;have y:t.place[i]?=A0 (t.place[i]'(by rw[T.size];exact x)):=aA _;generalize t.place[i]'(by rw[T.size];exact x)=pl at y;have hz:(pl,elm prog w p)∈t.place.toList.zip es.toList:=by refine ao (i:=i) ?_;rw[List.getElem?_zip_eq_some];exact⟨by rw[bA];exact y,by rw[bA];exact m⟩
   obtain⟨I,O,b2⟩:=T.met _ hz;have eh:(elm prog w p).1=h:=by show AR _ p.1=h;rw[Z,hh]
   dsimp only at O b2;rw[eh]at O b2;have a8:I<N:=by
    rcases dl I N with z|z;.exact z
    .rcases dl N I with z2|z2;.exact absurd (b2 N z2) hN
     .have:I=N:=by omega
      subst this;exact absurd (by rw[O,bY];exact dm y) hN
   rcases dl I n with z|z;.exact D I i p z (by rw[O];exact y) g Z
   .exact a9 I i z a8 (by rw[O];exact y) (by show((es[i]?).map (·.1)).getD 0=h;rw[m];exact eh)
  .rw[a6]at l;subst l;dsimp only;have x:i<es.size:=by rw[<-T.size];exact(bb.mp a3).1
   obtain⟨p,g⟩:∃p,L[i]?=A0 p:=by
    have:i<L.length:=by rw[<-ac (f:=elm prog w),<-X.its,ak];exact x
    exact⟨_,ae this⟩
   have m:es[i]?=A0 (elm prog w p):=by rw[H,g];rfl
   have hp:=X.tup p (ao g);have U:∀{k k':Sem SetFound}{R:SetFound->A5->Prop},AA (AD prog w) A k R E s->AA (AD prog w) A (if(!t.led)=A3 then(searchCouldBeSeen (.ref q.2) ((es.filter (·.1==h)).toList.map (·.2))>>=λb=>if b=A3 then k' else k)else k) R E s:=by
    intro k k' R G;by_cases hl:(!t.led)=A3
    .rw[if_pos hl];refine aa (U6 hq (λv hv=>?_) ?_);.obtain⟨e,he,rfl⟩:=ar.mp hv;rw[bY,Array.mem_filter,<-bY,X.its]at he;obtain⟨Y,b3,rfl⟩:=ar.mp he.1;exact⟨Y,rfl,X.tup Y b3⟩
     .rw[if_neg (by simp)];exact G
    .rw[if_neg hl];exact G
   refine U ?_;rw[m];show AA _ _ (holding [(elm prog w p).2] (eqBool (.ref p.2) (.ref q.2))>>=_) _ _ _;refine aa (aR (wpAny_eqBool_tuple hu hp hq ?_));refine aa (bB ho hd T.fits ?_);dsimp only;by_cases G:p.1=q.1
   .have M:q.1∈L.map (·.1):=ar.mpr ⟨p,ao g,G⟩;rw[decide_eq_true G];by_cases C:(d&&A3)=A3;.rw[if_pos C];exact af (h1 M _ λz=>by rw[z]at C;cases C)
    .rw[if_neg C];have em:t.sameMemory t.moves t.mask=A0 A3:=by unfold AB.sameMemory;simp
     rw[em];dsimp only;rw[if_pos rfl,a4];dsimp only;rw[m];dsimp only;refine aa (wpAny_isSame_ref_self ?_);rw[if_pos rfl];refine aa (af ?_);dsimp only;rw[if_pos rfl];exact af (h1 M _ λ_=>rfl)
   .rw[decide_eq_false G,Bool.and_false,if_neg (by simp)];have em:t.sameMemory t.moves t.mask=A0 A3:=by unfold AB.sameMemory;simp
    rw[em];dsimp only;rw[if_pos rfl,a4];dsimp only;rw[m];dsimp only;refine aa (wpAny_isSame_ref_self ?_);rw[if_pos rfl];refine aa (af ?_);dsimp only;rw[if_neg (by simp)];subst hh;refine LZ hu ho hd X hq hN hB b0 h1 h2 f (S+1) (A0 _) rfl ⋯ ⋯ λB K Y c1 c2 J=>?_;by_cases c4:B<n;.exact D B K Y c4 c2 J
    .by_cases c5:B=S
     .subst c5;have:K=i:=by
       obtain⟨q1,q2⟩:=bb.mp c2;obtain⟨q3,q4⟩:=bb.mp a3;rcases dv K i with z|z|z;.have:=DJ T.rise z q3;omega
       .exact z
       .have:=DJ T.rise z q1;omega
      subst this;rw[g]at J;injection J with J;rw[<-J];exact G
     .intro a0;refine a7 B K ⋯ ⋯ c2 ?_;show((es[K]?).map (·.1)).getD 0=_;rw[H,J];show AR _ Y.1=_;rw[a0]
end
end Ts
namespace Ts
open SetTable
section
variable{prog:AC}{w:AL}{A:AN}{E:A2->A5->Prop}{s:A5}
theorem U7{a:A4}{o:AT}{es:Array (Int×A2)}{l:Nat}{t:AB}{L:List (List Int×A4)}(hu:A.units<Am)(f:s.heap.get? a=A0 o)(i:o.data=.set es l t)(X:Elms prog w s.heap es t L){q:List Int×A4}(m:Tup prog w s.heap q){b:Bool}{Q:SetFound->A5->Prop}
  (h1:q.1∈L.map (·.1)->∀r,(b=A7->r.isSome=A3)->Q (.there r) s)
  (g:q.1∉L.map (·.1)->∀N,(Pj t.mask (AR (Aa prog w) q.1) N).j∉t.place.toList->(∀n,n<N->(Pj t.mask (AR (Aa prog w) q.1) n).j∈t.place.toList)->Q (.free (Pj t.mask (AR (Aa prog w) q.1) N).j A7) s):
  AA (AD prog w) A (setSearch a (.ref q.2) (AR (Aa prog w) q.1) b) Q E s:=by obtain⟨N,h,e,d⟩:=X.tab.end (AR (Aa prog w) q.1);obtain⟨p,x,v⟩:=X.mask.le;unfold setSearch;exact LZ hu f i X m e d (by unfold turns;omega) h1 (λz=>g z N e d) 100000 0 A6 (Tn _ _) (aJ _) ⋯ λy _ _ z=>absurd z (cg _)
theorem U8{b:A4}{es:Array (Int×A2)}:byScan (.ref b) es=A7:=by unfold byScan A2.scannable;rfl
theorem La:∀{d:List Int}{b:List A2},ItemsAre (Aa prog w) d b->∀v∈b,∃i t,v=.int i t
 |_,_,.nil,v,a=>absurd a av
 |_,_,.cons f r,v,a=>by
  rcases ap.mp a with rfl|a;.obtain⟨t,e⟩:=A2.isInt_shape f;exact⟨_,t,e⟩
  .exact La r v a
theorem hbv{q:List Int×A4}{Q:Bool->A5->Prop}(j:Tup prog w s.heap q)(h:∀b,Q b s):AA (AD prog w) A (hashByValue 8 (.ref q.2)) Q E s:=by
 have hT:=j.typeIs;obtain⟨o,d,n,l,_,p,m⟩:=j;unfold hashByValue;refine aa (cy hT F.slot_tuple_hash.lookup ?_);show AA _ _ (seqItems? (.ref q.2)>>=_) _ _ s;refine aa (bV l p ?_);refine aa ?_;show AA _ _ (forIn d _ _) _ _ s;rw[<-Array.forIn_toList];refine wpAny_forIn_list _ (λAw r g=>r.1=A6/\g=s/\∀v∈Aw,∃i t,v=A2.int i t) _ ?_ ?_ _ _ ⟨rfl,rfl,La m⟩;.rintro v Aw r g⟨f,rfl,a⟩;obtain⟨i,t,rfl⟩:=a v ay;rw[show hashByValue 7 (.int i t)=pure A3 by unfold hashByValue;rfl];refine aa (af ?_);rw[if_neg (by simp)];exact af ⟨rfl,rfl,λu e=>a u (ax _ e)⟩
 .rintro⟨r1,r2⟩g⟨f,rfl,_⟩;simp only at f;subst f;exact af (h _)
theorem Ff{i q:Type}{f:i->q}:∀{l o:List q},l.Perm o->∀{L:List i},o=L.map f->∃L2:List i,L2.Perm L/\l=L2.map f:=by
 intro l o h;induction h with
 |nil=>intro L e;exact⟨L,.refl _,e⟩
 |cons x _ B=>
  intro L e;cases L with
  |nil=>cases e
  |cons a L=>rw[aK]at e;injection e with j d;obtain⟨L2,p,m⟩:=B d;exact⟨a::L2,p.cons a,by rw[aK,j,m]⟩
 |swap x y l=>
  intro L e;cases L with
  |nil=>cases e
  |cons a L=>
   cases L with
   |nil=>cases e
   |cons b L=>rw[aK,aK]at e;injection e with j d;injection d with d t;exact⟨b::a::L,.swap _ _ _,by rw[aK,aK,j,d,t]⟩
 |trans _ _ g n=>intro L e;obtain⟨L2,p,m⟩:=n e;obtain⟨v,C,r⟩:=g m;exact⟨v,C.trans p,r⟩
theorem Tup.kept{h h':AM}{a:A4}{o:AT}{es:Array (Int×A2)}{p:Nat}{t:AB}{q:List Int×A4}(v:Tup prog w h q)(j:h.get? a=A0 o)(m:o.data=.set es p t)(hs:bP a h h'):Tup prog w h' q:=by
 obtain⟨r,b,n,d,i,f,l⟩:=v;have g:q.2≠a:=by intro e;rw[e,j]at d;cases d;rw[m]at f;exact nomatch f
 exact⟨r,b,n,(hs.2 q.2 g).trans d,i,f,l⟩
theorem TabOk.plain{t:AB}{es:Array (Int×A2)}(T:TabOk t es)(b:Bool):TabOk {t with plain:=b} es:=⟨T.rise,T.le,T.size,T.dum,T.pow,T.room,T.met⟩
theorem U9{m:Nat}(h:m∈[7,31,127,511,2047,8191]):∃b,m+1=2^b:=by
 simp only[ap,av,or_false]at h;rcases h with rfl|rfl|rfl|rfl|rfl|rfl;.exact⟨3,rfl⟩
 .exact⟨5,rfl⟩
 .exact⟨7,rfl⟩
 .exact⟨9,rfl⟩
 .exact⟨11,rfl⟩
 .exact⟨13,rfl⟩
theorem UA{m n:Nat}(h:m∈[7,31,127,511,2047,8191])(h1:n*5<m*3)(a:¬(n+1)*5<m*3)(b:n<4000):sizeAbove (grown (n+1))-1∈[7,31,127,511,2047,8191]/\(n+1)*5<(sizeAbove (grown (n+1))-1)*3/\sizeAbove (grown (n+1))<=A9:=by
 simp only[ap,av,or_false]at h;rcases h with rfl|rfl|rfl|rfl|rfl|rfl
 .obtain rfl:n=4:=by omega
  exact⟨by decide,by decide,by decide⟩
 .obtain rfl:n=18:=by omega
  exact⟨by decide,by decide,by decide⟩
 .obtain rfl:n=76:=by omega
  exact⟨by decide,by decide,by decide⟩
 .obtain rfl:n=306:=by omega
  exact⟨by decide,by decide,by decide⟩
 .obtain rfl:n=1228:=by omega
  exact⟨by decide,by decide,by decide⟩
 .omega
end
end Ts
namespace Ts
open SetTable
section
variable{prog:AC}{w:AL}{A:AN}{E:A2->A5->Prop}{s:A5}
theorem UB{h h':AM}{a:A4}{o:AT}{es:Array (Int×A2)}{y:Nat}{t:AB}{L:List (List Int×A4)}(i:h.get? a=A0 o)(l:o.data=.set es y t)(X:Elms prog w h es t L){q:List Int×A4}(C:Tup prog w h q)(g:q.1∉L.map (·.1))(hs:bP a h h'){N:Nat}
  (v:(Pj t.mask (AR (Aa prog w) q.1) N).j∉t.place.toList)(r:∀n,n<N->(Pj t.mask (AR (Aa prog w) q.1) n).j∈t.place.toList):
  ∃e:List (List Int×A4),e.Perm (q::L)/\(insertAt es (t.put (Pj t.mask (AR (Aa prog w) q.1) N).j).2 (elm prog w q)).toList=e.map (elm prog w)/\(∀p∈e,Tup prog w h' p)/\(e.map (·.1)).Nodup/\
   TabOk (t.put (Pj t.mask (AR (Aa prog w) q.1) N).j).1 (insertAt es (t.put (Pj t.mask (AR (Aa prog w) q.1) N).j).2 (elm prog w q)):=by
 have T:=X.tab;have b:es.size+1<=t.mask:=by have:=X.mask.few;have:=X.mask.le;rw[T.size]at*;omega
 have m:=T.put (x:=.ref q.2) v r b;generalize(t.put (Pj t.mask (AR (Aa prog w) q.1) N).j).2=p at m⊢;have f:(L.take p++q::L.drop p).Perm (q::L):=by refine List.perm_middle.trans (List.Perm.cons q ?_);rw[bG]
 refine⟨L.take p++q::L.drop p,f,?_,λB d=>?_,?_,m⟩;.rw[toList_insertAt,X.its,aC,aK,List.map_take,List.map_drop]
 .rcases ap.mp (f.mem_iff.mp d)with rfl|d;.exact C.kept i l hs
  .exact(X.tup B d).kept i l hs
 .refine(f.map (·.1)).nodup_iff.mpr ?_;rw[aK,cc];exact⟨g,X.nd⟩
theorem UC{bt:Bool}{a:A4}{o:AT}{es:Array (Int×A2)}{ep:Nat}{t:AB}{L:List (List Int×A4)}(hu:A.units<Am)(J:s.heap.get? a=A0 o)(hc:o.ExactSet)(M:o.data=.set es ep t)(X:Elms prog w s.heap es t L)(a7:TOk bt t){q:List Int×A4}(hq:Tup prog w s.heap q)(hl:L.length<4000){Q:Bool->A5->Prop}
  (h1:q.1∈L.map (·.1)->Q A7 s)
  (h2:q.1∉L.map (·.1)->∀(h':AM)(o':AT)(Y:Array (Int×A2))(a4:Nat)(t':AB)(L':List (List Int×A4)),bP a s.heap h'->h'.get? a=A0 o'->o'.ExactSet->o'.data=.set Y a4 t'->Elms prog w h' Y t' L'->L'.Perm (q::L)->TOk bt t'->Q A3 {s with heap:=h'}):
  AA (AD prog w) A (setAddHashed a (.ref q.2) (AR (Aa prog w) q.1)) Q E s:=by
 have T:=X.tab;have y:es.size=L.length:=by rw[<-ak,X.its,ac]
 unfold setAddHashed setAddHashedIn;refine aR (aa (bB J M T.fits ?_));dsimp only;rw[U8,if_neg (by simp)];refine aa (U7 hu J M X hq (λa3 r _=>?_) λC N hN hB=>?_);.exact af (h1 a3)
 .dsimp only;refine aa (bB J M T.fits ?_);dsimp only;have l:∀(e:AB),(∃b,e={(t.put (Pj t.mask (AR (Aa prog w) q.1) N).j).1 with plain:=b})->AA (AD prog w) A (do
    storeSet a (insertAt es (t.put (Pj t.mask (AR (Aa prog w) q.1) N).j).2 (AR (Aa prog w) q.1,A2.ref q.2)) e
    if(!A7&&e.tooFull)=A3 then do
     setRelay a (grown (es.size+1))
     pure A3
    else pure A3) Q E s:=by
   rintro e⟨pb,rfl⟩;generalize a1:insertAt es (t.put (Pj t.mask (AR (Aa prog w) q.1) N).j).2 (AR (Aa prog w) q.1,A2.ref q.2)=d;generalize B:({(t.put (Pj t.mask (AR (Aa prog w) q.1) N).j).1 with plain:=pb}:AB)=e;have H:=AM.SameBut.update s.heap a (AT.putSet d e);obtain⟨L1,D,hi1,n,v,T1⟩:=UB J M X hq C H hN hB;rw[show elm prog w q=(AR (Aa prog w) q.1,A2.ref q.2)from rfl,a1]at hi1 T1;have a5:L1.length=L.length+1:=by rw[D.length_eq];rfl
   have g:d.size=L.length+1:=by rw[<-ak,hi1,ac,a5]
   have G:e.mask=t.mask:=by rw[<-B];rfl
   have i:TabOk e d:=by rw[<-B];exact T1.plain pb
   have R:TOk bt e:=by
    rcases a7 with z|⟨z1,z2⟩;.exact .inl z
    .exact .inr ⟨by rw[<-B];exact z1,i.rise⟩
   have a0:d.size<=A9:=by rw[g];exact aN (show _<=4000 by omega) (by decide)
   refine aa (wpAny_storeSet_of J M ?_ a0);have eo:=putSet_of d e M;have O:=aT (AT.putSet d e) J (by rw[eo];rfl);rw[eo]at O;have x:(d.size*5<t.mask*3)↔e.tooFull=A7:=by unfold AB.tooFull AB.fill;rw[i.dum,i.size,G];simp
   by_cases Z:e.tooFull=A3
   .rw[if_pos (by simpa using Z)];have a6:¬(L.length+1)*5<t.mask*3:=λz=>by rw[<-g]at z;rw[x.mp z]at Z;cases Z
    have a2:=X.mask.few;rw[T.size,y]at a2;obtain⟨g1,g2,g3⟩:=UA X.mask.mask a2 a6 hl;rw[y];refine aa ?_;unfold setRelay;refine aa (bB (s:={s with heap:=s.heap.update a (AT.putSet d e)}) O rfl i.fits ?_);dsimp only;rw[if_neg ⋯];obtain⟨K,f,k1,k2,k3,k4,k5,k6,T2⟩:=U1 (es:=d) (U9 g1) (by rw[g];omega) e.finger (e.movedTo (sizeAbove (grown (L.length+1))-1)) e.led e.plain;obtain⟨L2,I,hi2⟩:=Ff k6 hi1;have h:(f.filterMap (d[·]?)).size=d.size:=by rw[<-ak,k6.length_eq,ak]
    have hr:relaid e (d.map (·.1)) (grown (L.length+1))=A0 (K,f):=k1;rw[hr];refine aa ?_;show AA _ _ (if((f.filterMap (d[·]?)).size !=d.size)=A3 then _ else pure (f.filterMap (d[·]?),K)) _ _ _;rw[if_neg (by rw[h];simp)];refine af ?_;generalize a8:f.filterMap (d[·]?)=m at k6 T2 hi2 h⊢;dsimp only;refine wpAny_storeSet_of (s:={s with heap:=s.heap.update a (AT.putSet d e)}) O rfl ?_ (by rw[h];exact a0);have P:=putSet_of (o:={o with data:=.set d (ep+1) e}) m K rfl;have S:=aT (AT.putSet m K) O (by rw[P];rfl);rw[P]at S;have U:=H.trans (AM.SameBut.update (s.heap.update a (AT.putSet d e)) a (AT.putSet m K));refine af (h2 C _ _ m _ K L2 U S hc rfl ⟨hi2,λp hp=>?_,(I.map (·.1)).nodup_iff.mpr v,T2,⟨by rw[k2];exact g1,by rw[k2,T2.size,h,g];exact g2⟩⟩ (I.trans D) ?_);.exact(n p (I.mem_iff.mp hp)).kept O rfl (AM.SameBut.update _ a _)
    .rcases R with z|⟨z1,_⟩;.exact .inl z
     .exact .inr ⟨by rw[k3];exact z1,T2.rise⟩
   .rw[if_neg (by simpa using Z)];refine af (h2 C _ _ d _ e L1 H O hc rfl ⟨hi1,n,v,i,⟨by rw[G];exact X.mask.mask,?_⟩⟩ D R);rw[G,i.size];exact x.mpr (by simpa using Z)
  split
  .refine aa (hbv hq λb=>?_);cases b with
   |true=>exact l _ ⟨_,rfl⟩
   |false=>exact l _ ⟨A7,rfl⟩
  .exact aa (af (l _ ⟨_,rfl⟩))
end
end Ts
end PySem
namespace L2
open PySem PySem.Spec PyProof.Rows
def Bo(cells:List (AI×A4)):List (AI×AW)->List (AI×A4)->List (AI×A4)
 | [],a=>a
 |(n,k)::r,a=>if k== .free then Bo cells r ((n,(cells.lookup n).getD 0)::a)else Bo cells r a
def DK(env:Env)(x:AI×AW)(r:List (AI×A4)):Sem (ForInStep (List (AI×A4))):=
 match x with|(name,b)=>if(b== .free)=A3 then(do let a<-cellOf env name;pure (ForInStep.yield ((name,a)::r)))else pure (ForInStep.yield r)
theorem UD{env:Env}:∀(b:List (AI×AW))(a:List (AI×A4)),(∀n,(n,AW.free)∈b->∃c,env.cells.lookup n=A0 c)->
   forIn b a (DK env)=(pure (Bo env.cells b a):Sem _):=by
  intro b;induction b with
  |nil=>intro a _;rfl
  |cons x r l=>
   intro a j;obtain⟨n,k⟩:=x;rw[List.forIn_cons];have i:=λm q=>j m (ax _ q);by_cases g:k=.free
   .subst g;obtain⟨c,f⟩:=j n ay;have o:cellOf env n=(pure c:Sem A4):=by unfold cellOf;rw[f]
    have d:DK env (n,AW.free) a=pure (ForInStep.yield ((n,c)::a)):=by unfold DK;dsimp only;rw[if_pos (by rfl),o];rfl
    rw[d];have p:=l ((n,c)::a) i;have e:Bo env.cells ((n,AW.free)::r) a=Bo env.cells r ((n,c)::a):=by show(if(AW.free==AW.free)=A3 then _ else _)=_;rw[if_pos (by rfl),f];rfl
    rw[e,<-p];rfl
   .have h:(k==AW.free)=A7:=by simpa using g
    have d:DK env (n,k) a=pure (ForInStep.yield a):=by unfold DK;dsimp only;rw[if_neg (by rw[h];exact aD)]
    rw[d];have e:Bo env.cells ((n,k)::r) a=Bo env.cells r a:=by show(if(k==AW.free)=A3 then _ else _)=_;rw[if_neg (by rw[h];exact aD)]
    rw[e,<-l a i];rfl
theorem Lb{env:Env}{a:AX}(h:∀n,(n,AW.free)∈a.names->∃c,env.cells.lookup n=A0 c):closureFor a env=pure (Bo env.cells a.names []):=by
 have e:=UD (env:=env) a.names [] h;unfold closureFor;have q:∀f:AI×AW->List (AI×A4)->Sem (ForInStep (List (AI×A4))),(∀x r,f x r=DK env x r)->(forIn a.names ([]:List (AI×A4)) f>>=λr=>pure r)=(pure (Bo env.cells a.names []):Sem _):=by intro f b;have:f=DK env:=funext λx=>funext λr=>b x r;rw[this,e];rfl
 refine q _ λx r=>?_;obtain⟨n,k⟩:=x;unfold DK;first|done|(dsimp only;done)|(dsimp only;cases d:k==AW.free<;>simp[d])
set_option tactic.hygienic true in
theorem IU{cells:List (AI×A4)}:∀{names:List (AI×AW)}{acc:List (AI×A4)}{n:AI}{c:A4},(n,c)∈Bo cells names acc->(n,c)∈acc\/((n,AW.free)∈names/\c=(cells.lookup n).getD 0)
 | [],_,_,_,h=>.inl h
 |(m,k)::r,acc,n,c,h=>by
  unfold Bo at h;split at h
  .rename_i hk;have hk':k=.free:=by simpa using hk
   subst hk';rcases IU h with q|⟨q,e⟩
   .rcases ap.mp q with q|q;.cases q;exact .inr ⟨ay,rfl⟩
    .exact .inl q
   .exact .inr ⟨ax _ q,e⟩
  .rcases IU h with q|⟨q,e⟩;.exact .inl q
   .exact .inr ⟨ax _ q,e⟩
set_option tactic.hygienic true in
theorem IV{cells:List (AI×A4)}:∀{names:List (AI×AW)}{acc:List (AI×A4)}{n:AI},((n,AW.free)∈names\/∃c,(n,c)∈acc)->∃c,(n,c)∈Bo cells names acc
 | [],_,_,h=>by
  rcases h with h|h;.simp at h
  .exact h
 |(m,k)::r,acc,n,h=>by
  unfold Bo;split
  .rename_i hk;refine IV ?_;rcases h with h|⟨c,h⟩
   .rcases ap.mp h with h|h;.cases h;exact .inr ⟨_,ay⟩
    .exact .inl h
   .exact .inr ⟨c,ax _ h⟩
  .rename_i hk;refine IV ?_;rcases h with h|h
   .rcases ap.mp h with h|h;.cases h;exact absurd rfl hk
    .exact .inl h
   .exact .inr h
theorem Dc:∀(b:List (AI×AW))(n:Nat)(a:List (AI×A4)),Ab n b a=Ab n b []++a
 | [],_,_=>rfl
 |(x,k)::r,n,a=>by
  unfold Ab;split;.rw[Dc r (n+1) ((x,n)::a),Dc r (n+1) [(x,n)],bc];rfl
  .exact Dc r n a
theorem Lc{a:Type}:∀{l:List (AI×a)}{n:AI}{c:a},(n,c)∈l->∃d,l.lookup n=A0 d
 |(k,v)::r,n,c,h=>by
  rw[List.lookup_cons];cases b:n==k with
  |true=>exact⟨v,rfl⟩
  |false=>
   rcases ap.mp h with e|h;.cases e;simp at b
   .exact Lc h
theorem Ld{env:Env}:∀{a:List (AI×AW)}{x:AI}{b:AW},
  (a.map λ(n,k)=>if(k==AW.free&&env.scope.kind== .function&&env.kindOf n==A0 .cell)then(n,AW.cell)else(n,k)).lookup x=A0 b->∃k,a.lookup x=A0 k/\(b=k\/(k=.free/\b=.cell))
 :=by intro x;induction x<;>grind
theorem IW{env:Env}:∀{a:List (AI×AW)}{x:AI}{k:AW},a.lookup x=A0 k->
  ∃b,(a.map λ(n,k)=>if(k==AW.free&&env.scope.kind== .function&&env.kindOf n==A0 .cell)then(n,AW.cell)else(n,k)).lookup x=A0 b/\(b=k\/(k=.free/\b=.cell))
 :=by intro x;induction x<;>grind
section
variable{M:Model}{A:AN}{E:A2->A5->Prop}{s:A5}
abbrev CQ(h:AM)(a:List (AI×AW)):AM:=pushCells (h.push {cls:=.type "dict",data:=.dict #[]}) a
theorem Le{a:AX}{b:A4}{i:List (AI×A4)}{d:AI}{env:Env}{Q:Env->A5->Prop}
  (h:Q (newEnv a s.heap.objs.size b (Ab (s.heap.objs.size+1) a.names i) d A6 .none (A0 env) builtinsNs) {s with heap:=CQ s.heap a.names}):
  AA M A (newFunctionEnv a b i [] d A6 .none (A0 env)) Q E s:=by simp only[newFunctionEnv,Option.isSome_some,if_true];refine aa (wpAny_alloc ?_);refine aa (wpAny_layCells _ (λname e g=>by cases f:e==AW.cell<;>simp[f]) _ _ _ _ ?_);rw[show({s with heap:=s.heap.push {cls:=.type "dict",data:=.dict #[]}}:A5).heap.objs.size=s.heap.objs.size+1 from bu ..];exact aa (af (af h))
end
def Cx.comp(X:Cx)(scope:AX)(s₀:A5)(H₀:Hp)(ex:List A4):Cx:=
 {X with
  s₀:=s₀,H₀:=H₀
  env:={newEnv scope s₀.heap.objs.size X.env.globals (Ab (s₀.heap.objs.size+1) scope.names (Bo X.env.cells scope.names [])) X.env.qual A6 .none (A0 X.env) builtinsNs with scope:=relabel scope X.env}
  outer:=X.stack,ex:=ex,fn:=λx=>((Ab (s₀.heap.objs.size+1) scope.names []).lookup x).isSome,pn:=[],xe:=λ_ _=>False}
structure CompSc(X:Cx)(scope:AX):Prop where
 kind:scope.kind=.function
 names:∀x∈scope.names,x.2=.local->scope.names.lookup x.1=A0 .local
 one:∀n,(n,AW.cell)∈scope.names->scope.names.lookup n=A0 .cell
 free:∀n,(n,AW.free)∈scope.names->X.env.kindOf n=A0 .cell\/X.env.kindOf n=A0 .free
set_option tactic.hygienic true in
theorem IX:∀{names:List (AI×AW)}{n:Nat}{x:AI}{c:A4},(x,c)∈Ab n names []->(x,AW.cell)∈names
 | [],_,_,_,h=>by simp[Ab]at h
 |(y,k)::r,n,x,c,h=>by
  unfold Ab at h;split at h
  .rename_i hk;have hk':k=.cell:=by simpa using hk
   subst hk';rw[Dc]at h;rcases aL.mp h with h|h;.exact ax _ (IX h)
   .have h':(x,c)=(y,n):=by simpa using h
    cases h';exact ay
  .exact ax _ (IX h)
def clr(own:List Nat)(σ:St):St:=own.foldl (λσ i=>σ.set i A6) σ
theorem Ed:∀(own:List Nat)(a:St),(clr own a).length=a.length
 | [],_=>rfl
 |i::r,a=>by show(clr r (a.set i A6)).length=_;rw[Ed r,List.length_set]
theorem Ee:∀{own:List Nat}{σ:St}{i:Nat}{v:V},(clr own σ)[i]?=A0 (A0 v)->σ[i]?=A0 (A0 v)/\i∉own
 | [],_,_,_,h=>⟨h,by simp⟩
 |j::r,σ,i,v,h=>by
  obtain⟨a,b⟩:=Ee (own:=r) (σ:=σ.set j A6) h;by_cases e:j=i;.subst e;rw[List.getElem?_set]at a;simp at a
  .rw[cV e]at a;exact⟨a,by simp;exact⟨λz=>e z.symm,b⟩⟩
theorem IY:∀{own:List Nat}{a:St}{i:Nat},i∉own->(clr own a)[i]?=a[i]?
 | [],_,_,_=>rfl
 |j::r,a,i,h=>by have d:i≠j:=λz=>h (by simp[z]);have b:i∉r:=λz=>h (by simp[z]);show(clr r (a.set j A6))[i]?=_;rw[IY b,cV (Ne.symm d)]
section
variable{X:Cx}{p_:List (A4×AT)}{σ:St}{H H':Hp}{s s':A5}{scope:AX}{ex:List A4}{own:List Nat}
theorem UE(I:Inv X p_ σ H s)(S:CompSc X scope):
  (∀x c,(Bo X.env.cells scope.names []).lookup x=A0 c->X.env.cells.lookup x=A0 c)/\
  (∀x,(x,AW.free)∈scope.names->∃c,(Bo X.env.cells scope.names []).lookup x=A0 c)/\
  CellsOk (CQ s.heap scope.names) (s.heap.objs.size+1) (Ab (s.heap.objs.size+1) scope.names []):=by
 have b:∀x c,(x,c)∈Bo X.env.cells scope.names []->X.env.cells.lookup x=A0 c:=λx c h=>by
  rcases IU h with z|⟨z,e⟩;.simp at z
  .obtain⟨f,a⟩:=I.ok.has x (S.free x z);rw[a,Option.getD_some]at e;rw[a,e]
 refine⟨λx c h=>b x c (PySem.mem_of_lookup h),λx h=>?_,?_⟩;.obtain⟨c,q⟩:=IV (cells:=X.env.cells) (acc:=[]) (.inl h);exact Lc q
 .have q:=cellsFrom_ok scope.names (s.heap.push {cls:=.type "dict",data:=.dict #[]}) (s.heap.objs.size+1) [] ⟨λ_ _ d=>(nomatch d),List.Pairwise.nil⟩ (by rw[bu];exact ah _);rw[bu]at q;exact q
theorem Lf(I:Inv X p_ σ H s)(A:∀b∈ex,BW X p_ H b)(a0:∀b∈ex,b<s.heap.objs.size)(S:CompSc X scope)
  (C:∀i x,X.N[i]?=A0 x->(scope.names.lookup x=A0 .local\/scope.names.lookup x=A0 .cell)->i∈own):
  Inv (X.comp scope s H ex) [] (clr own σ) H {s with heap:=CQ s.heap scope.names}:=by
 obtain⟨a1,R,ok⟩:=UE I S;have M:∀x c,(X.comp scope s H ex).env.cells.lookup x=A0 c->(Ab (s.heap.objs.size+1) scope.names []).lookup x=A0 c\/((Ab (s.heap.objs.size+1) scope.names []).lookup x=A6/\X.env.cells.lookup x=A0 c):=λx c h=>by
  have Y:(Ab (s.heap.objs.size+1) scope.names (Bo X.env.cells scope.names [])).lookup x=A0 c:=h;rw[Dc,List.lookup_append]at Y;cases q:(Ab (s.heap.objs.size+1) scope.names []).lookup x with
  |some d=>rw[q]at Y;exact .inl Y
  |none=>rw[q]at Y;exact .inr ⟨rfl,a1 x c Y⟩
 have a:∀x c,(Ab (s.heap.objs.size+1) scope.names []).lookup x=A0 c->(CQ s.heap scope.names).IsCell c A6/\s.heap.objs.size+1<=c:=λx c h=>ok.empty x c (PySem.mem_of_lookup h);have D:∀x c,X.env.cells.lookup x=A0 c->c<s.heap.objs.size:=λx c h=>let⟨_,q⟩:=I.cell x c h;q.lt;have f:∀b o,s.heap.get? b=A0 o->(CQ s.heap scope.names).get? b=A0 o:=λb o e=>pushCells_keeps _ _ b o (ag _ e);have fresh:∀b,s.heap.objs.size<=b->H b=A6:=λb j=>I.hok.fresh j;have a5:(X.comp scope s H ex).env.locals=s.heap.objs.size:=rfl;refine⟨⟨I.ok.mod,S.kind,I.ok.glob,?_,ah _,λx y c U O=>?_,λx hx=>?_,λx c hf h=>?_,I.ok.hd,I.ok.frames,.inl rfl,λb j=>?_,I.bs,aN I.ok.bsz I.sz,λb o e j=>?_,λb j=>?_,I.stack,I.stkFree⟩,
  rfl,I.bare,Un.kept f,⟨λ_=>A6,?_,λi x v U O h3=>?_⟩,λx c h=>?_,fresh _ (ah _),λx c h=>?_,λp hp=>absurd (show p∈([]:List (A4×AT))from hp) (by simp),I.hok.kept f,?_⟩;.show X.env.builtins=_;exact I.ok.blt
 .rcases M x c U with B|⟨_,B⟩<;>rcases M y c O with Q|⟨_,Q⟩;.exact name_of_addr ok.apart (PySem.mem_of_lookup B) (PySem.mem_of_lookup Q)
  .exact absurd (al (D y c Q) (aN (dq _) (a x c B).2)) (bC _)
  .exact absurd (al (D x c B) (aN (dq _) (a y c Q).2)) (bC _)
  .exact I.ok.inj x y c B Q
 .have t:(relabel scope X.env).names.lookup x=A0 .cell\/(relabel scope X.env).names.lookup x=A0 .free:=hx;have w:∀k,scope.names.lookup x=A0 k->(k=.cell\/k=.free)->∃c,(Ab (s.heap.objs.size+1) scope.names (Bo X.env.cells scope.names [])).lookup x=A0 c:=λk g K=>by
   rw[Dc,List.lookup_append];rcases K with rfl|rfl;.obtain⟨c,q⟩:=IC (n:=s.heap.objs.size+1) g;exact⟨c,by rw[q];rfl⟩
   .obtain⟨c,q⟩:=R x (PySem.mem_of_lookup g);cases z:(Ab (s.heap.objs.size+1) scope.names []).lookup x with
    |some d=>exact⟨d,rfl⟩
    |none=>exact⟨c,by rw[q];rfl⟩
  rcases t with t|t<;>obtain⟨k,g,e⟩:=Ld t
  .rcases e with e|⟨e,_⟩;.exact w k g (.inl e.symm)
   .exact w k g (.inr e)
  .rcases e with e|⟨e,_⟩;.exact w k g (.inr e.symm)
   .exact w k g (.inr e)
 .rcases M x c h with q|⟨q,_⟩;.have:=(a x c q).2;show s.heap.objs.size<=c;omega
  .have T:((Ab (s.heap.objs.size+1) scope.names []).lookup x).isSome=A3:=hf;rw[q]at T;cases T
 .refine⟨?_,λx c h=>?_⟩;.show b≠s.heap.objs.size;exact az (a0 b j)
  .rcases M x c h with q|⟨_,q⟩;.intro e;rw[e]at q;exact absurd (al (a0 b j) (aN (dq _) (a x b q).2)) (bC _)
   .exact(A b j).2.2.2.2.1 x c q
 .rcases(A b j).2.2.2.1 with z|z;.exact I.ok.noex b o e z
  .exact absurd (al (aq e) (aN I.ok.bsz z)) (bC _)
 .intro z;rcases ap.mp (I.stkSub b z)with e|e;.exact(A b j).2.1 e
  .exact(A b j).2.2.1 e
 .show(CQ s.heap scope.names).Ns s.heap.objs.size _;exact(AM.Ns.new s.heap (.type "dict")).keeps (pushCells_keeps _ _)
 .obtain⟨O,Z⟩:=Ee O;have a2:(relabel scope X.env).names.lookup x=A0 .local\/(relabel scope X.env).names.lookup x=A0 .cell\/(relabel scope X.env).names.lookup x=A0 .free:=h3;have a4:∃P,(relabel scope X.env).names.lookup x=A0 P/\(P=.local\/P=.cell\/P=.free):=by
   rcases a2 with z|z|z;.exact⟨_,z,.inl rfl⟩
   .exact⟨_,z,.inr (.inl rfl)⟩
   .exact⟨_,z,.inr (.inr rfl)⟩
  obtain⟨P,E,K⟩:=a4;obtain⟨k,g,e⟩:=Ld E;have L:k=.free:=by
   rcases e with e|⟨e,_⟩
   .subst e;rcases K with z|z|z;.subst z;exact absurd (C i x U (.inl g)) Z
    .subst z;exact absurd (C i x U (.inr g)) Z
    .exact z
   .exact e
  subst L;have hm:=PySem.mem_of_lookup g;have hv:Vis X.env.scope x:=by
   rcases S.free x hm with z|z;.exact .inr (.inl z)
   .exact .inr (.inr z)
  obtain⟨m,hn,hl⟩:=I.loc;obtain⟨u,r,l⟩:=hl i x v U O hv;refine⟨u,r,?_⟩;have G:(X.comp scope s H ex).env.kindOf x=A0 .cell\/(X.comp scope s H ex).env.kindOf x=A0 .free:=by
   show(relabel scope X.env).names.lookup x=A0 .cell\/(relabel scope X.env).names.lookup x=A0 .free;rcases e with e|⟨_,e⟩;.subst e;exact .inr E
   .subst e;exact .inl E
  have a3:∃c,X.env.cells.lookup x=A0 c/\s.heap.IsCell c (A0 u):=by
   rcases l with⟨kk,_⟩|⟨_,c,e1,e2⟩
   .rcases S.free x hm with z|z;.rw[z]at kk;cases kk
    .rw[z]at kk;cases kk
   .exact⟨c,e1,e2⟩
  obtain⟨c,e1,e2⟩:=a3;refine .inr ⟨G,c,?_,e2.keeps f⟩;show(Ab (s.heap.objs.size+1) scope.names (Bo X.env.cells scope.names [])).lookup x=A0 c;rw[Dc,List.lookup_append];have J:(Ab (s.heap.objs.size+1) scope.names []).lookup x=A6:=by
   cases z:(Ab (s.heap.objs.size+1) scope.names []).lookup x with
   |none=>rfl
   |some d=>exfalso;have B:=S.one x (IX (PySem.mem_of_lookup z));rw[g]at B;cases B
  obtain⟨c',q⟩:=R x hm;have q':=a1 x c' q;rw[e1]at q';cases q';rw[J,q];rfl
 .rcases M x c h with q|⟨_,q⟩;.exact⟨_,(a x c q).1⟩
  .obtain⟨v,z⟩:=I.cell x c q;exact⟨v,z.keeps f⟩
 .rcases M x c h with q|⟨_,q⟩;.have:=(a x c q).2;exact fresh c ⋯
  .exact I.freeC x c q
 .rw[Ed];exact I.len
end
section
variable{X:Cx}{p_:List (A4×AT)}{σ:St}{H H':Hp}{s s':A5}{scope:AX}{ex:List A4}{own:List Nat}
theorem UF{P:AC}{w:AL}{h h':AM}{a:A4}(x:HOk P w H h)(f:H a=A6)(hs:∀b o,b≠a->h.get? b=A0 o->h'.get? b=A0 o):HOk P w H h':=λb i e=>
 (x b i e).stay (λc g d q=>hs c g (by
  rintro rfl;rcases d with rfl|d;.rw[f]at e;cases e
  .rw[f]at d;cases d) q) (λ_ q=>q) λ_ _ q=>q
theorem Ef{g:St}{f:List (A4×AT)}{h':AM}(I:Inv X p_ σ H s)(i:∀b∈ex,BW X p_ H b)(J:Inv (X.comp scope s H ex) f g H' s')(hs:bP s.heap.objs.size s'.heap h'):
  Inv X p_ σ H' {s' with heap:=h'}:=by
 have h:∀b o,s.heap.get? b=A0 o->b≠s.heap.objs.size:=λb o e=>az (aq e);have u:Un (frs X.stack) ex H H' s.heap s'.heap:=J.base;have m:H' s.heap.objs.size=A6:=J.free;refine I.call' (s':={s' with heap:=h'}) (ch:=ex) J.os ⟨λb o e n a d=>?_,λb o e n a d=>?_,u.free,λb o e d=>?_,u.tups,u.frzs,u.tbls⟩ (UF J.hok m λb o a e=>(hs.2 b a).trans e) J.bare λb a=>?_;.exact(hs.2 b (h b o e)).trans (u.keep b o e n a d)
 .obtain⟨t,q⟩:=u.slot b o e n a d;exact⟨t,(hs.2 b (h b o e)).trans q⟩
 .obtain⟨v,q⟩:=u.there b o e d;exact⟨v,(hs.2 b (h b o e)).trans q⟩
 .obtain⟨x,r,w,j,l,p⟩:=i b a;exact⟨j,r,l,p⟩
end
def PTs(X:Cx)(b:List A8)(t:TT):Prop:=∀(d:List (A4×AT))(s:A5)(a:St)(H:Hp)(Q:Bool->Hp->Prop),Inv X d a H s->t a H Q->
 AA (AD X.prog X.w) X.A (forIn b A3 λc r=>if r=A3 then do let ok<-isTrue c X.env (Ac c X.env);pure (ForInStep.yield ok)else pure (ForInStep.yield r)) (TP X d a Q) X.xe s
theorem UG{X:Cx}:PTs X [] (λ_ H Q=>Q A3 H):=λb s a H Q I h=>wpAny_tests_nil ⟨H,I,h⟩
theorem UH{X:Cx}{c:A8}{t:TT}(b:PT X c t):PTs X [c] t:=λd s a H Q I h=>wpAny_tests_one (b d s a H Q I h)
def Ext(b:List Nat)(σ a:St):Prop:=a.length=σ.length/\∀j,j∉b->a[j]?=σ[j]?
theorem Ext.refl{a:List Nat}{σ:St}:Ext a σ σ:=⟨rfl,λ_ _=>rfl⟩
theorem Ext.trans{f:List Nat}{σ e d:St}(a:Ext f σ e)(b:Ext f e d):Ext f σ d:=⟨b.1.trans a.1,λj g=>(b.2 j g).trans (a.2 j g)⟩
theorem Ext.mono{e b:List Nat}{σ d:St}(a:Ext e σ d)(h:∀j∈e,j∈b):Ext b σ d:=⟨a.1,λj f=>a.2 j λz=>f (h j z)⟩
theorem Ext.clr{a:List Nat}{σ:St}:Ext a σ (clr a σ):=⟨Ed _ _,λj b=>IY b⟩
theorem Ext.back{d:List Nat}{σ b:St}(a:Ext d (L2.clr d σ) b)(i:Nat)(v:V)(h:(L2.clr d σ)[i]?=A0 (A0 v)):b[i]?=A0 (A0 v):=by obtain⟨_,q⟩:=Ee h;rw[a.2 i q];exact h
def EA(e:List Nat)(g:TG):Prop:=∀(x:V)(b:St)(H:Hp)(Q:St->Hp->Prop),g x b H Q->g x b H λa d=>Q a d/\Ext e b a
theorem UI{i:Nat}{a:List Nat}(h:i∈a):EA a (C8 i):=λx d H Q q=>⟨q,by simp,λj b=>by have:i≠j:=λz=>b (z▸h);rw[cV this]⟩
def CH(e:A8)(d:Nat)(f a:A8)(b:List A8)(nx:Sem Unit)(it acc:A2)(env:Env):Sem Fin:=do
 standAt a.pos
 match<-pyNext it with
 |A6=>pure (.done .next)
 |A0 v=>
  letOwnedTupleGo f it v
  assign f env v
  let mut ok:=A3
  for c in b do
   if ok then ok<-isTrue c env (Ac c env)
  if ok then nx
  again (.compLoop e d it acc env)
abbrev TL(a:Type):=St->a->Hp->(a->Hp->Prop)->Prop
def Cg{e:Type}(X:Cx)(D:A4)(Is:e->AT->Prop)(m:List Nat)(b:Sem Unit)(t:TL e):Prop:=
 ∀(f:List (A4×AT))(s:A5)(g:St)(H:Hp)(a:e)(o:AT)(N:e->Hp->Prop),Inv X f g H s->BW X f H D->s.heap.get? D=A0 o->Is a o->t g a H N->
  AA (AD X.prog X.w) X.A b (λ_ j=>∃d i l h,Inv X f d h j/\Ext m g d/\j.heap.get? D=A0 l/\Is i l/\h D=A6/\N i h) (λ_ _=>False) s
def C5{f:Type}(l:List Nat)(g:TG)(n:TT)(Aw:TL f)(J:It):TL f:=λr a q N=>
 ∃W:Nat->Nat->f->Hp->Prop,(∃m,W 0 m a q)/\∀i m b H,W i m b H->
  (J.stop i H/\N b H)\/(J.go i H/\∀x j,J.yld i H x j->g x (clr l r) j λe o=>n e o λok h=>
   if ok=A3 then Aw e b h (λc p=>∃d,d<m/\W (i+1) d c p)else∃d,d<m/\W (i+1) d b h)
theorem IZ{α:Type}{Is:α->AT->Prop}{X:Cx}{e:A8}{d:Nat}{tg b0:A8}{a3:List A8}{nx:Sem Unit}{it D:A4}{fp:List A4}{tn:Nat->AM->Prop}{J:It}{g:TG}{tc:TT}{Aw:TL α}{M a6:List Nat}
  (c2:X.xe=λ_ _=>False)(t:X.calm=A3)
  (hq:(Code.compLoop e d (.ref it) (.ref D) X.env).quiet=A3)(hu:X.A.under (Code.compLoop e d (.ref it) (.ref D) X.env)=X.A)
  (hT:(AD X.prog X.w).den (.compLoop e d (.ref it) (.ref D) X.env)=(CH e d tg b0 a3 nx (.ref it) (.ref D) X.env).onRaise (λx=>do noteFrame x X.env;Au x))
  (T:Turn X.prog X.w X.K tg J fp it tn)(hg:PG X tg g)(c1:EA M g)(ht:PTs X a3 tc)(hn:Cg X D Is a6 nx Aw)(c5:∀j∈a6,j∈M)(b9:∀a o,Is a o->∀v,o.data≠.cell v)(b4:D∉fp)
  {B:List (A4×AT)}{s:A5}{σ:St}{H:Hp}{a:α}{o:AT}{N:α->Hp->Prop}(I:Inv X B σ H s)(hf:∀b∈fp,BW X B H b)(hD:BW X B H D)(ho:s.heap.get? D=A0 o)(ha:Is a o)(h0:tn 0 s.heap)
  (hw:C5 M g tc Aw J σ a H N):
  codeAny (AD X.prog X.w) X.A (.compLoop e d (.ref it) (.ref D) X.env) (λr s'=>r=.ok .next/\∃a' o' l,Inv X B (clr M σ) l s'/\s'.heap.get? D=A0 o'/\Is a' o'/\l D=A6/\N a' l) s:=by
 obtain⟨W,⟨m0,w0⟩,b3⟩:=hw;have O:∀{l:Hp}{pl:List (A4×AT)},(∀b∈D::fp,l b=A6)->(∀b∈D::fp,BW X B l b):=λ{l pl}hn b f=>by
  rcases ap.mp f with rfl|Y;.exact⟨hn _ ay,hD.2⟩
  .exact⟨hn b f,(hf b Y).2⟩
 refine codeAny_loop hq (λn s'=>∃i b C l,Inv X B (clr M σ) l s'/\tn i s'.heap/\(∀b∈D::fp,l b=A6)/\s'.heap.get? D=A0 C/\Is b C/\W i n b l) ?_ m0
  ⟨0,a,o,H,I.weak (Ed _ _) (λi v q=>(Ee q).1),h0,λb f=>by
   rcases ap.mp f with rfl|Y;.exact hD.1
   .exact(hf b Y).1,ho,ha,w0⟩;rintro n s3⟨i,b,C,H3,I3,a2,b1,o3,L,w3⟩;rw[hu,hT];refine wpAny_noted ?_;have hE:∀{β:Type}{c:Sem β}{Q:β->A5->Prop}{s:A5}{E:A2->A5->Prop},AA (AD X.prog X.w) X.A c Q (λ_ _=>False) s->AA (AD X.prog X.w) X.A c Q E s:=λh=>cX h (λ_ _ q=>q) λ_ _ q=>q.elim;refine hE ?_;unfold CH;refine aa (cw (aa ?_));have R:∀{β:Type}{c:Sem β}{Q:β->A5->Prop}{s:A5},AA (AD X.prog X.w) X.A c Q X.xe s->AA (AD X.prog X.w) X.A c Q (λ_ _=>False) s:=λh=>by rw[c2]at h;exact h
 have pD:Inv X (B++C3 [D] s3.heap) (clr M σ) H3 s3:=I3.pinned (λb f=>by
  have e:b=D:=by simpa using f
  subst e;exact O (pl:=[]) b1 b ay) (λb f=>by
  have e:b=D:=by simpa using f
  subst e;exact⟨C,o3,b9 _ _ L⟩);have mD:(D,C)∈C3 [D] s3.heap:=CN (by simp) o3;have Z:∀{l:Hp},(∀b∈fp,l b=A6)->∀b∈fp,BW X (B++C3 [D] s3.heap) l b:=λ{l}hn b f=>by
  obtain⟨_,f1,f2,f3,f4,f5⟩:=hf b f;refine⟨hn b f,f1,f2,f3,f4,λp hp=>?_⟩;rcases aL.mp hp with q|q;.exact f5 p (bq _ q)
  .rcases aL.mp q with q|q;.exact f5 p (am _ q)
   .have e:p.1=D:=by simpa using(Hx q).1
    rw[e];rintro rfl;exact b4 f
 have P:∀b∈fp,H3 b=A6:=λb f=>b1 b (ax _ f);rcases b3 i n b H3 w3 with⟨a9,qn⟩|⟨go,a7⟩;.refine thn (T.done X rfl rfl rfl t i _ s3 _ H3 _ pD (Z P) a2 a9) λr s4⟨hr,I4⟩=>?_;subst hr;have q4:=I4.pin (D,C) (am _ (am _ mD));exact af ⟨rfl,b,C,H3,I4.unpinned,q4.1,L,q4.2.1,qn⟩
 .refine thn (T.item X rfl rfl rfl t i _ s3 _ H3 _ pD (Z P) a2 go) λr s4⟨u,hr,h4⟩=>?_;subst hr;refine aa (thn h4 λ_ s5⟨x,H5,I5,r5,y5,a0,b6⟩=>?_);have c0:=I5.pinned (Z b6) (T.obj _ _ a0);refine aa (thn (R (hg _ s5 _ H5 x u _ c0 r5 (c1 x _ H5 _ (a7 x H5 y5)))) λ_ s6⟨U,H6,I6,q6,x6⟩=>?_);refine aa (thn (R (ht _ s6 U H6 _ I6 q6)) λok s7⟨S,I7,q7⟩=>?_);have y:=I7.pin (D,C) (am _ (bq _ (am _ mD)));have a4:∀b∈fp,∀o,s5.heap.get? b=A0 o->s7.heap.get? b=A0 o/\S b=A6:=λb f o e=>
   let q:=I7.pin (b,o) (am _ (am _ (CN f e)))
   ⟨q.1,q.2.1⟩;have G:tn (i+1) s7.heap:=T.keep _ _ _ a0 λb f o e=>(a4 b f o e).1;have a8:∀b∈fp,S b=A6:=λb f=>by obtain⟨o,e,_⟩:=T.obj _ _ a0 b f;exact(a4 b f o e).2
  have b2:Inv X B U S s7:=I7.unpinned.unpinned;cases ok with
  |false=>
   have b7:∃m',m'<n/\W (i+1) m' b S:=q7;obtain⟨m',hm,w7⟩:=b7;refine af ⟨rfl,m',hm,i+1,b,C,S,b2.weak ?_ x6.back,G,λc hc=>?_,y.1,L,w7⟩;.rw[x6.1]
   .rcases ap.mp hc with rfl|m;.exact y.2.1
    .exact a8 c m
  |true=>
   have b5:=b2.pinned (λb f=>O (pl:=[]) (λc hc=>by
    rcases ap.mp hc with rfl|m;.exact y.2.1
    .exact a8 c m) b (ax _ f)) (T.obj _ _ G);have fD:BW X (B++C3 fp s7.heap) S D:=by
    obtain⟨_,f1,f2,f3,f4,f5⟩:=hD;refine⟨y.2.1,f1,f2,f3,f4,λp hp=>?_⟩;rcases aL.mp hp with q|q;.exact f5 p (bq _ q)
    .rcases aL.mp q with q|q;.exact f5 p (am _ q)
     .intro z;exact b4 (z▸(Hx q).1)
   refine aa (thn (hn _ s7 U S b C _ b5 fD y.1 L q7) λ_ s8⟨c3,b8,o8,H8,I8,x8,e8,c4,n8,m',hm,w8⟩=>?_);have a5:∀b∈fp,∀o,s7.heap.get? b=A0 o->s8.heap.get? b=A0 o/\H8 b=A6:=λb f o e=>
    let q:=I8.pin (b,o) (am _ (am _ (CN f e)))
    ⟨q.1,q.2.1⟩;have a1:Ext M (clr M σ) c3:=x6.trans (x8.mono c5);refine af ⟨rfl,m',hm,i+1,b8,o8,H8,I8.unpinned.weak (by rw[a1.1]) a1.back,T.keep _ _ _ G λb f o e=>(a5 b f o e).1,λc hc=>?_,e8,c4,w8⟩;rcases ap.mp hc with rfl|m;.exact n8
   .obtain⟨o,e,_⟩:=T.obj _ _ G c m;exact(a5 c m o e).2
def IsL(xs:List V)(o:AT):Prop:=xs.length<=A9/\∃(a:List A2)(n:Nat),B5 xs a/\o={cls:=.type "list",data:=.seq a.toArray n}
theorem Eg(xs:List V)(o:AT)(h:IsL xs o)(v:Option A2):o.data≠.cell v:=by obtain⟨_,a,n,_,rfl⟩:=h;intro z;cases z
def Ch(d:TE):TL (List V):=λb a H N=>d b H λv e=>a.length<A9/\N (a++[v]) e
theorem Ia{X:Cx}{D:A4}{d:A8}{w:TE}(j:X.xe=λ_ _=>False)(Q:PE X d w):Cg X D IsL [] (do let _<-call (.builtin "list.append") [.ref D,<-Ac d X.env]) (Ch w):=by
 intro r s g H R o N I p q t U;have O:Inv X (r++C3 [D] s.heap) g H s:=I.pinned (λb a=>by
  have e:b=D:=by simpa using a
  subst e;exact p) (λb a=>by
  have e:b=D:=by simpa using a
  subst e;exact⟨o,q,Eg _ _ t⟩);have y:=Q _ s g H _ O U;rw[j]at y;refine aa (thn y λu m⟨v,x,A,r1,K,P⟩=>?_);have h:=A.pin (D,o) (am _ (am _ (CN (by simp) q)));obtain⟨J,f,n,l,rfl⟩:=t;have T:=l.length;refine aa (wpAny_list_append_plain (items:=f.toArray) ⟨n,h.1⟩ (λS i E=>?_) (by rw[aE,<-T];exact J));obtain⟨_,M,Z,B,C,G⟩:=p;have L:Inv X r g x {m with heap:=S}:=A.unpinned.turned (it:=D) (t':=m.toks) (λb o a e=>(E.2 b a).trans e) h.2.1 M B C G;obtain⟨Y,i⟩:=i;refine af ⟨g,R++[v],_,x,L,Ext.refl,i,⟨?_,f++[u],Y,l.append (.cons r1 .nil),?_⟩,h.2.1,P⟩;.rw[aB];exact K
 .simp
def C9(e:A8)(d:Nat)(a:A8)(acc:A2)(env:Env):Sem Unit:=do
 let x<-Ac a env
 standAt a.pos
 let x<-foldedSetIterable a env x
 let _<-runOwn (.compStart e (d+1) (<-holding [x] (pyIter x)) acc env) env
theorem Ib{M:Model}{A:AN}{e:A8}{d:Nat}{it acc:A2}{env:Env}{R:Result->A5->Prop}{s:A5}
  (p:(Code.compStart e d it acc env).quiet=A3)(hu:A.under (Code.compStart e d it acc env)=A)(j:∀b,(Code.compLoop e d b acc env).quiet=A3)
  (i:M.den (.compStart e d it acc env)=(compStart e d it acc env).onRaise (λx=>do noteFrame x env;standAt theWindowsPlace))(o:∃g,(clausesOf e)[d]?=A0 g/\g.is_async=0)
  (h0:codeAny M A (.compLoop e d it acc env) R s)(h1:∀E,AA M A (pyIter it) (λb h=>b=it/\h=s) E s):codeAny M A (.compStart e d it acc env) R s:=by
 refine codeAny_of_tree ?_;rw[hu,i];refine wpAny_notedAt ?_;obtain⟨g,l,n⟩:=o;unfold compStart;rw[l];have m:((A0 g:Option Comprehension).elim A7 (λx=>x.is_async !=0))=A7:=by show(g.is_async !=0)=A7;rw[n];rfl
 rw[m];show AA _ _ (ask>>=_) _ _ s;refine aa (bL (wpAny_ite ?_));have a:AA M A (again (.compLoop e d it acc env)) (λa h=>match a with| .done f=>R (.ok f) h| .again c=>c.quiet=A3/\codeAny M A c R h) (notedBy M A env λx h=>R (.error x) h) s:=af ⟨j it,h0⟩;split
 .first
   |exact a
   |exact aa a
   |exact aa (af a)
 .refine aa (ck ?_);refine aa (cw ?_);refine aa (cX (h1 _) (λb h q=>?_) λ_ _ q=>q);obtain⟨rfl,rfl⟩:=q;exact a
theorem Lg(own:List Nat)(σ:St):clr own (clr own σ)=clr own σ:=by
 apply bW;intro i;by_cases h:i∈own
 .have z:∀d:St,(clr own d)[i]?=A6\/(clr own d)[i]?=A0 A6:=λd=>by
   cases q:(clr own d)[i]? with
   |none=>exact .inl rfl
   |some o=>
    cases o with
    |none=>exact .inr rfl
    |some v=>exact absurd h (Ee q).2
  have g:(clr own (clr own σ)).length=(clr own σ).length:=Ed _ _;rcases z (clr own σ)with a|a<;>rcases z σ with b|b<;>rw[a,b];.have f:=bH.mp a;have e:=(aW.mp b).1;omega
  .have f:=bH.mp b;have e:=(aW.mp a).1;omega
 .rw[IY h]
def Dd{d:Type}(f:TI)(c:It->TL d):TL d:=λb a H N=>f b H λJ e=>c J b a e N
theorem Fg{α:Type}{Is:α->AT->Prop}{X:Cx}{e:A8}{d:Nat}{Q f:A8}{l:List A8}{nx:Sem Unit}{D:A4}{wi:TI}{g:TG}{tc:TT}{Aw:TL α}{y n:List Nat}
  (t:X.xe=λ_ _=>False)(i:X.calm=A3)
  (hq:∀h,(Code.compLoop e (d+1) h (.ref D) X.env).quiet=A3)(hu:∀h,X.A.under (Code.compLoop e (d+1) h (.ref D) X.env)=X.A)
  (G:∀h,(Code.compStart e (d+1) h (.ref D) X.env).quiet=A3)(P:∀h,X.A.under (Code.compStart e (d+1) h (.ref D) X.env)=X.A)
  (hT:∀h,(AD X.prog X.w).den (.compLoop e (d+1) h (.ref D) X.env)=(CH e (d+1) Q f l nx h (.ref D) X.env).onRaise (λx=>do noteFrame x X.env;Au x))
  (hS:∀h,(AD X.prog X.w).den (.compStart e (d+1) h (.ref D) X.env)=(compStart e (d+1) h (.ref D) X.env).onRaise (λx=>do noteFrame x X.env;standAt theWindowsPlace))
  (O:∃g,(clausesOf e)[d+1]?=A0 g/\g.is_async=0)(M:∀x,foldedSetIterable f X.env x=pure x)
  (hi:PI X Q f wi)(hg:PG X Q g)(K:EA y g)(ht:PTs X l tc)(hn:Cg X D Is n nx Aw)(U:∀j∈n,j∈y)(m:∀a o,Is a o->∀v,o.data≠.cell v):
  Cg X D Is y (C9 e d f (.ref D) X.env) (Dd wi (C5 y g tc Aw)):=by
 intro p_ s σ H a o N I hD Z ha hw;have I1:Inv X (p_++C3 [D] s.heap) σ H s:=I.pinned (λb q=>by
  have e:b=D:=by simpa using q
  subst e;exact hD) (λb q=>by
  have e:b=D:=by simpa using q
  subst e;exact⟨o,Z,m _ _ ha⟩);have h1:=hi _ s σ H _ I1 hw;rw[t]at h1;unfold C9;refine aa (thn h1 λv s1 h2=>?_);refine aa (cw (aa (bZ (M v) ?_)));refine aa (aR (thn h2 λa0 s2 S=>?_));obtain⟨h,fp,tn,J,H2,rfl,I2,T,st2,B,hc⟩:=S;have mD:(D,o)∈C3 [D] s.heap:=CN (by simp) Z;have q2:=I2.pin (D,o) (am _ (am _ mD));have Y:D∉fp:=λz=>(B D z).2.2.2.2.2 (D,o) (am _ (am _ mD)) rfl;have R:∀b∈fp,BW X p_ H2 b:=λb q=>by
  obtain⟨f0,f1,B,f3,f4,f5⟩:=B b q;exact⟨f0,f1,B,f3,f4,λp hp=>f5 p (by
   rcases aL.mp hp with z|z;.exact bq _ z
   .exact am _ (bq _ z))⟩
 have L:=IZ (Is:=Is) (D:=D) t i (hq _) (hu _) (hT _) T hg K ht hn U m Y I2.unpinned R ⟨q2.2.1,hD.2⟩ q2.1 ha st2 hc;have L2:=Ib (G _) (P _) hq (hS _) O L (λE=>T.self X.A 0 s2 _ E st2 ⟨rfl,rfl⟩);refine aa (wpAny_runOwn (Ai L2 λr s3 S=>?_));obtain⟨rfl,a',o',H',J',e',C,n',hN⟩:=S;exact af ⟨_,a',o',H',J',Ext.clr,e',C,n',hN⟩
def De(own:List Nat)(h:TI)(g:TG)(f:TT)(Aw:TL (List V)):TE:=λb H Q=>h b H λJ e=>C5 own g f Aw J b [] e λd a=>∀p,a p=A6->Q (.ref p) (upd a p (.lst d))
structure CompIn(X:Cx)(e:A8)(scope:AX)(tg:A8)(iter:A8)(ifs:List A8)(nx:A4->Env->Sem Unit)(g:TG)(tc:TT)(Aw:TL (List V))(own:List Nat):Prop where
 sc:CompSc X scope
 ow:∀i x,X.N[i]?=A0 x->(scope.names.lookup x=A0 .local\/scope.names.lookup x=A0 .cell)->i∈own
 cl:∃gs,clausesOf e=⟨tg,iter,ifs,0⟩::gs
 fs:∀x,foldedSetIterable iter X.env x=pure x
 calm:X.calm=A3
 q:∀it D env,(Code.compLoop e 0 it (.ref D) env).quiet=A3/\(Code.compStart e 0 it (.ref D) env).quiet=A3
 u:∀A it D env,AN.under A (Code.compLoop e 0 it (.ref D) env)=A/\AN.under A (Code.compStart e 0 it (.ref D) env)=A
 T:∀P w it D env,(AD P w).den (.compLoop e 0 it (.ref D) env)=(CH e 0 tg iter ifs (nx D env) it (.ref D) env).onRaise (λx=>do noteFrame x env;Au x)
 S:∀P w it D env,(AD P w).den (.compStart e 0 it (.ref D) env)=(compStart e 0 it (.ref D) env).onRaise (λx=>do noteFrame x env;standAt theWindowsPlace)
 ge:EA own g
 inn:∀s0 H0 ex D,PG (X.comp scope s0 H0 ex) tg g/\PTs (X.comp scope s0 H0 ex) ifs tc/\∃ws',(∀j∈ws',j∈own)/\Cg (X.comp scope s0 H0 ex) D IsL ws' (nx D (X.comp scope s0 H0 ex).env) Aw
section
variable{X:Cx}{e:A8}{scope:AX}{tg iter:A8}{ifs:List A8}{nx:A4->Env->Sem Unit}{g:TG}{tc:TT}{Aw:TL (List V)}{own:List Nat}{wi:TI}
theorem Lh(C:CompIn X e scope tg iter ifs nx g tc Aw own)(hi:PI X tg iter wi){l:List (A4×AT)}{s:A5}{σ:St}{H:Hp}{R:V->Hp->Prop}(I:Inv X l σ H s)(hw:De own wi g tc Aw σ H R)
  {G:Option (A2->Sem Unit)}{Q:A2->A5->Prop}{pos:Pos}
  (a2:∀(d s':A5)(Z H':Hp)(ex:List A4)(D:A4)(xs:List V)(o:AT)(a0:St),Inv X l σ Z d->(∀b∈ex,BW X l Z b)->Inv (X.comp scope d Z ex) [] a0 H' s'->s'.heap.get? D=A0 o->D<d.heap.objs.size->X.s₀.heap.objs.size<=D->BW X l Z D->IsL xs o->H' D=A6->R (.ref D) (upd H' D (.lst xs))->
   compPost (AD X.prog X.w) X.A X.xe G Q (.ref D) d.heap.objs.size (.ok .next) s'):
  AA (AD X.prog X.w) X.A (Ak e scope X.env pos (newList []) A7 (Ac iter X.env) G) Q X.xe s:=by
 obtain⟨gs,N⟩:=C.cl;refine wpAny_comprehension_free N C.fs (Lb λn hn=>I.ok.has n (C.sc.free n hn)) C.sc.kind C.sc.names ?_;refine thn (hi l s σ H _ I hw) λv s1 h1=>thn h1 λa7 a h2=>?_;obtain⟨it,j,tn,J,i,rfl,Y,T,st2,f2,hc⟩:=h2;refine aS (Le ?_);have keep:∀b o,a.heap.get? b=A0 o->(a.heap.push {cls:=.type "list",dict:=A6,data:=.seq ([]:List A2).toArray}).get? b=A0 o:=λb o e=>ag _ e;have I3:Inv X l σ i {a with heap:=a.heap.push {cls:=.type "list",dict:=A6,data:=.seq ([]:List A2).toArray}}:=Y.kept (t':=a.toks) keep;have a5:(a.heap.push {cls:=.type "list",dict:=A6,data:=.seq ([]:List A2).toArray}).objs.size=a.heap.objs.size+1:=bu ..;have fD:BW X l i a.heap.objs.size:=Y.fpOk (ah _) (Y.hok.fresh (ah _));have M:∀b∈j,b<a.heap.objs.size:=λb f=>by obtain⟨o,e,_⟩:=T.obj _ _ st2 b f;exact aq e
 have a6:a.heap.objs.size∉j:=λz=>bC _ (M _ z);have y:∀b∈a.heap.objs.size::j,BW X l i b:=λb f=>by
  rcases ap.mp f with rfl|f;.exact fD
  .exact f2 b f
 generalize x:({a with heap:=a.heap.push {cls:=.type "list",dict:=A6,data:=.seq ([]:List A2).toArray}}:A5)=d at*;have P:d.heap.objs.size=a.heap.objs.size+1:=by rw[<-x];exact a5
 have m:∀b∈a.heap.objs.size::j,b<d.heap.objs.size:=λb f=>by
  rw[P];rcases ap.mp f with rfl|f;.exact cC _
  .exact bE (M b f)
 have U:=Lf (own:=own) I3 y m C.sc C.ow;obtain⟨c1,c2,a8,c4,c5⟩:=C.inn d i (a.heap.objs.size::j) a.heap.objs.size;have kp:∀b o,a.heap.get? b=A0 o->(CQ d.heap scope.names).get? b=A0 o:=λb o e=>pushCells_keeps _ _ b o (ag _ (by rw[<-x];exact keep b o e));have oD:(CQ d.heap scope.names).get? a.heap.objs.size=A0 {cls:=.type "list",dict:=A6,data:=.seq ([]:List A2).toArray}:=pushCells_keeps _ _ _ _ (ag _ (by rw[<-x];exact au _ rfl));have t:∀b∈a.heap.objs.size::j,BW (X.comp scope d i (a.heap.objs.size::j)) [] i b:=λb f=>
  ⟨(y b f).1,(U.ok.exf b f).1,U.ok.exfs b f,.inl f,(U.ok.exf b f).2,λp hp=>absurd (show p∈([]:List (A4×AT))from hp) (by simp)⟩;have T':Turn (X.comp scope d i (a.heap.objs.size::j)).prog (X.comp scope d i (a.heap.objs.size::j)).w (X.comp scope d i (a.heap.objs.size::j)).K tg J j it tn:=T;have a4:C5 own g tc Aw J (clr own σ) [] i (λxs i=>∀p,i p=A6->R (.ref p) (upd i p (.lst xs))):=by obtain⟨W,w0,O⟩:=hc;refine⟨W,w0,?_⟩;rw[Lg];exact O
 have B:tn 0 ({d with heap:=CQ d.heap scope.names}:A5).heap:=T.keep _ _ _ st2 λb f o e=>kp b o e;have L:=IZ (X:=X.comp scope d i (a.heap.objs.size::j)) (Is:=IsL) (D:=a.heap.objs.size) rfl C.calm (C.q _ _ _).1 (C.u _ _ _ _).1 (C.T _ _ _ _ _) T' c1 C.ge c2 c5 c4 Eg a6 U
  (λb f=>t b (ax _ f)) (t _ ay) oD ⟨aJ _,[],0,.nil,rfl⟩ B a4;have L2:=Ib (C.q _ _ _).2 (C.u _ _ _ _).2 (λa3=>(C.q a3 _ _).1) (C.S _ _ _ _ _) ⟨_,by rw[N];rfl,rfl⟩ L (λE=>T.self _ 0 _ _ E B ⟨rfl,rfl⟩);refine Ai L2 λr s' h=>?_;obtain⟨rfl,xs,o',H',J',e',a1,n',hN⟩:=h;exact a2 d s' i H' _ _ xs o' _ I3 y J' e' (m _ ay) Y.sz fD a1 n' (hN _ n')
end
section
variable{X:Cx}{p_:List (A4×AT)}{σ:St}{H H':Hp}{s s':A5}{D:A4}{o:HO}
theorem Inv.track(I:Inv X p_ σ H s)(f:BW X p_ H D)(h0:X.s₀.heap.objs.size<=D)(g:B7 X.prog X.w (upd H D o) s.heap D o):Inv X p_ σ (upd H D o) s:=by
 obtain⟨B,v,G,E,l,t⟩:=f;have A:∀b d,X.s₀.heap.get? b=A0 d->b≠D:=λb d e=>az (al (aq e) h0);have a:∀b u,H b=A0 u->b≠D:=λb u e z=>by rw[z,B]at e;cases e
 refine⟨I.ok,I.os,I.bare,⟨I.base.keep,I.base.slot,λb d e n y=>by rw[Ay (A b d e)];exact I.base.free b d e n y,I.base.there,λb j e=>?_,λb d u e=>?_,λb C e=>?_⟩,I.loc,I.cell,?_,λx c e=>?_,λp h=>?_,λb u e=>?_,I.len⟩;.have q:=I.base.tups b j e;rw[Ay (a b _ q)];exact q
 .have q:=I.base.frzs b d u e;rw[Ay (a b _ q)];exact q
 .obtain⟨m,q⟩:=I.base.tbls b C e;exact⟨m,by rw[Ay (a b _ q)];exact q⟩
 .rw[Ay (Ne.symm v)];exact I.free
 .rw[Ay (l x c e)];exact I.freeC x c e
 .obtain⟨e,n,r⟩:=I.pin p h;refine⟨e,?_,r⟩;rw[Ay (t p h)];exact n
 .by_cases i:b=D;.subst i;rw[A_]at e;cases e;exact g
  .rw[Ay i]at e;exact(I.hok b u e).stay (λ_ _ _ q=>q) (λc q=>by rw[Ay (a c _ q)];exact q) λc j q=>by rw[Ay (a c _ q)];exact q
end
section
variable{X:Cx}{e:A8}{scope:AX}{tg iter:A8}{ifs:List A8}{nx:A4->Env->Sem Unit}{g:TG}{tc:TT}{Aw:TL (List V)}{own:List Nat}{wi:TI}
theorem Ic(C:CompIn X e scope tg iter ifs nx g tc Aw own)(hi:PI X tg iter wi){pos:Pos}(y:Ac e X.env=Ak e scope X.env pos (newList []) A7 (Ac iter X.env)):PE X e (De own wi g tc Aw):=by intro K s N H Q I hw;rw[y];refine Lh C hi I hw λv M L A G D j o w q h J r f t B b E hR=>?_;obtain⟨m,p,_⟩:=J.loc;refine⟨m,p,λO i=>?_⟩;have x:=Ef q h J i;obtain⟨z,d,n,l,rfl⟩:=b;have a:D≠v.heap.objs.size:=az f;refine⟨.ref D,upd A D (.lst j),x.track (o:=.lst j) ⟨E,B.2⟩ t ⟨z,d,n,l,(i.2 D a).trans r⟩,rfl,hR⟩
theorem UJ(C:CompIn X e scope tg iter ifs nx g tc Aw own)(hi:PI X tg iter wi){i:Nat}{y:AI}{t pos l:Pos}(hN:X.N.Nodup)(hy:X.N[i]?=A0 y)(hx:Loc X.env.scope y)(hf:X.fn y=A3\/X.env.scope.names.lookup y=A0 .local)
  (he:evalThenUse e X.env (assign (.Name y t) X.env)=(do let _<-Ak e scope X.env l (newList []) A7 (Ac iter X.env) (A0 (assign (.Name y t) X.env))))
  (K:swapsWith e (A0 (.Name y t)) pos.line X.env=pure A3):PS X (.Assign [.Name y t] e pos) (CM (De own wi g tc Aw) (C8 i)):=by
 intro p s P H D I hw;rw[exec_Assign_Name_used _ _ _ _ K];refine aa (cw (aa ?_));rw[he];refine aa (thn (Q:=λ_ f=>SP X p D .next f) (Lh C hi I hw λj f H0 S ex r U o a0 A T J e' R h0 fD L n' hR=>?_) λ_ f q=>af (af q));obtain⟨m,Z,_⟩:=J.loc;have J2:Inv X p P S f:=Ef A T J (AM.SameBut.refl ..);obtain⟨z,O,n,Y,rfl⟩:=L;have E:r≠j.heap.objs.size:=az R;have J3:Inv X p P (upd S r (.lst U)) f:=J2.track ⟨n',fD.2⟩ h0 ⟨z,O,n,Y,e'⟩;have d:BW X p H0 j.heap.objs.size:=A.fpOk (ah _) (A.hok.fresh (ah _));refine wpAny_assign_Name (Hd J3 hN hy hx (v:=.ref r) rfl (λh J4 hs=>?_) hf);obtain⟨a,G,x⟩:=hs;have B:j.heap.objs.size≠a:=by
  rcases x with rfl|x;.exact d.2.1
  .exact λq=>d.2.2.2.2.1 _ _ x q.symm
 have w:f.heap.Ns j.heap.objs.size m:=Z;refine⟨m,w.sameBut G B,λh' M=>?_⟩;have J5:Inv X p (P.set i (A0 (.ref r))) (upd S r (.lst U)) {h with heap:=h'}:=J4.turned (it:=j.heap.objs.size) (t':=h.toks) (λb ob hb q=>(M.2 b hb).trans q) (by rw[Ay (Ne.symm E)];exact J.free) d.2.1 d.2.2.2.1 d.2.2.2.2.1 d.2.2.2.2.2;exact⟨_,_,J5,hR⟩
end
def Its(x:AI):It:=⟨λi _=>i<x.cps.size,λi H v a=>a=H/\∃c,x.cps[i]?=A0 c/\v=.str ⟨#[c]⟩,λi _=>x.cps.size<=i⟩
theorem UK{P:AC}{w:AL}{K:W.Frag}{T:A8}(it:A4)(x:AI)(ty:String)(t:Tok)(j:ty="str_ascii_iterator"\/ty="str_iterator"):
  Turn P w K T (Its x) [it] it (λi h=>h.IsStrIter it ty x t i)where
 mem:=by simp
 obj:=λi h a b m=>by
  have e:b=it:=by simpa using m
  subst e;obtain⟨o,e,c,d⟩:=a;exact⟨o,e,λv z=>by rw[d]at z;cases z⟩
 keep:=λi h f a k=>by obtain⟨o,e,r⟩:=a;exact⟨o,k it (by simp) o e,r⟩
 item:=by
  intro X O hw M J i B s C H E I q a R;subst O hw M;obtain⟨Q,N,Y,D,G,L⟩:=q it (by simp);have l:i<x.cps.size:=R;have n:x.cps[i]?=A0 x.cps[i]:=by simp[l]
  have g:∀f,f.IsStrIter it ty x t (i+1)->bP it s.heap f->∃u,A0 (A2.str ⟨#[x.cps[i]]⟩ s.toks)=A0 u/\
    AA (AD X.prog X.w) X.A (letOwnedTupleGo T (.ref it) u) (λ_ U=>∃y S,Inv X B C S U/\B0 y u/\(Its x).yld i H y S/\U.heap.IsStrIter it ty x t (i+1)/\∀b∈[it],S b=A6) E {s with heap:=f,toks:=s.toks+1}:=λf p sb=>by have Z:Inv X B C H {s with heap:=f,toks:=s.toks+1}:=I.turned (λb o m e=>(sb.2 b m).trans e) Q N D G L;obtain⟨o,e,c,d⟩:=id p;refine⟨_,rfl,E3 (s:={s with heap:=f,toks:=s.toks+1}) e c d ?_ ⟨.str ⟨#[x.cps[i]]⟩,H,Z,⟨_,rfl⟩,⟨rfl,_,n,rfl⟩,p,λb m=>(q b m).1⟩⟩;rcases j with rfl|rfl<;>decide
  rcases j with rfl|rfl;.exact wpAny_pyNext_ascii_item a n g
  .exact wpAny_pyNext_wide_item a n g
 done:=by
  intro X O hw M J i B s C H E I q a R;subst O hw M;obtain⟨Q,N,Y,D,G,L⟩:=q it (by simp);have l:x.cps.size<=i:=R;have n:x.cps[i]?=A6:=by simp[l]
  have g:∀f,dr it s.heap f->(A6:Option A2)=A6/\Inv X B C H {s with heap:=f}:=λf eb=>⟨rfl,I.turned (t':=s.toks) (λb o m e=>eb b o m e) Q N D G L⟩;rcases j with rfl|rfl;.exact wpAny_pyNext_ascii_end (I.ok.hd J) a n g
  .exact wpAny_pyNext_wide_end (I.ok.hd J) a n g
 self:=λ_ _ _ _ _ a h=>by
  rcases j with rfl|rfl;.exact wpAny_pyIter_striter_ascii a h
  .exact wpAny_pyIter_striter_wide a h
section
variable{X:Cx}{tg:A8}
def Ie(K:W.Frag)(e:TE):TI:=λf H R=>e f H λx b=>
 (∃a,x=.ref a/\(∃d,SqL K b a d)/\R (Itl K a) b)\/(∃a,x=.ref a/\(∃d,SqT K b a d)/\R (Itt K a) b)\/∃z,x=.str z/\R (Its z) b
theorem UL{l:A8}{A:TE}(G:PE X l A):PI X tg l (Ie X.K A):=by
 intro y s B H R I h;refine thn (G y s B H _ I h) λv d⟨x,m,f,r1,D⟩=>?_;rcases D with⟨a,e,⟨E,r⟩,q⟩|⟨a,e,⟨E,r⟩,q⟩|⟨z,e,q⟩
 .subst e;cases r1;obtain⟨i,C,p,J⟩:=f.list r;refine dz p.isList ?_;refine⟨d.heap.objs.size,[d.heap.objs.size],_,_,m,rfl,f.kept (t':=d.toks) λb o e=>ag _ e,Rz a _,⟨_,au _ rfl,rfl,rfl⟩,λb g=>?_,q⟩;have e:b=d.heap.objs.size:=by simpa using g
  subst e;exact f.fpOk (ah _) (f.hok.fresh (ah _))
 .subst e;cases r1;obtain⟨i,C,p,J⟩:=f.tuple r;refine wpAny_pyIter_tuple (show d.heap.IsTuple a i.toArray from p) ?_;refine⟨d.heap.objs.size,[d.heap.objs.size],_,_,m,rfl,f.kept (t':=d.toks) λb o e=>ag _ e,R_ a _,⟨_,au _ rfl,rfl,rfl⟩,λb g=>?_,q⟩;have e:b=d.heap.objs.size:=by simpa using g
  subst e;exact f.fpOk (ah _) (f.hok.fresh (ah _))
 .subst e;obtain⟨t,rfl⟩:=r1;have j:∀(ty:String),(ty="str_ascii_iterator"\/ty="str_iterator")->PIE X y B tg R (.ref d.heap.objs.size) {d with heap:=d.heap.push {cls:=.type ty,data:=.fields #[.str z t,.int 0 0]}}:=λty n=>by
   refine⟨d.heap.objs.size,[d.heap.objs.size],_,_,m,rfl,f.kept (t':=d.toks) λb o e=>ag _ e,UK _ z ty t n,⟨_,au _ rfl,rfl,rfl⟩,λb g=>?_,q⟩;have e:b=d.heap.objs.size:=by simpa using g
   subst e;exact f.fpOk (ah _) (f.hok.fresh (ah _))
  cases w:z.cps.all (· <128);.exact wpAny_pyIter_wide w (j _ (.inr rfl))
  .exact wpAny_pyIter_ascii w (j _ (.inl rfl))
end
def Itd(b:Nat->Hp->Prop)(val:Nat->Hp->V->Prop)(a:Nat->Hp->Prop):It:=
 ⟨b,λi H v d=>∃p x,v=.ref p/\H p=A6/\val i H x/\d=upd H p (.tup [.int i,x]),a⟩
structure EnSrc(P:AC)(w:AL)(K:W.Frag)(e it:A4)(Sx:Nat->AM->Prop)(go:Nat->Hp->Prop)(val:Nat->Hp->V->Prop)(stop:Nat->Hp->Prop):Prop where
 ne:e≠it
 obj:∀i h,Sx i h->∃o,h.get? it=A0 o/\∀v,o.data≠.cell v
 keep:∀i h h',Sx i h->(∀o,h.get? it=A0 o->h'.get? it=A0 o)->Sx i h'
 item:∀(X:Cx),X.prog=P->X.w=w->X.K=K->X.calm=A3->∀(i:Nat)(p_:List (A4×AT))(s:A5)(σ:St)(H:Hp),Inv X p_ σ H s->H e=A6->H it=A6->e<s.heap.objs.size->(∃old,IsEnum s.heap e it i old)->Sx i s.heap->go i H->
  ∃n Pd Sd fp,Draws P w X.A.in1 it fp n Pd Sd/\e∉fp/\i<n/\Sd i s.heap/\(∀j h,Sd j h->Sx j h)/\∀u,Pd i u->∃x,B0 x u/\val i H x
 done:∀(X:Cx),X.prog=P->X.w=w->X.K=K->X.calm=A3->∀(i:Nat)(p_:List (A4×AT))(s:A5)(σ:St)(H:Hp),Inv X p_ σ H s->H e=A6->H it=A6->(∃old,IsEnum s.heap e it i old)->Sx i s.heap->stop i H->
  ∃Pd Sd fp,Draws P w X.A.in1 it fp i Pd Sd/\Sd i s.heap
theorem Li{P:AC}{w:AL}{K:W.Frag}{R:List A8}{kt:Nat}{pt:Pos}{e it:A4}{Sx:Nat->AM->Prop}{go:Nat->Hp->Prop}{val:Nat->Hp->V->Prop}{C:Nat->Hp->Prop}(S:EnSrc P w K e it Sx go val C):
  Turn P w K (.Tuple R kt pt) (Itd go val C) [e,it] e (λi h=>(∃f,IsEnum h e it i f)/\Sx i h)where
 mem:=by simp
 obj:=λi h g b B=>by
  obtain⟨⟨f,t⟩,N⟩:=g;simp only[ap,av,or_false]at B;rcases B with rfl|rfl;.exact⟨_,t,λv=>(nomatch·)⟩
  .exact S.obj i h N
 keep:=λi h Y g kk=>by obtain⟨⟨f,t⟩,N⟩:=g;exact⟨⟨f,kk e (by simp) _ t⟩,S.keep i h Y N λo q=>kk it (by simp) o q⟩
 item:=by
  intro X hP hw O a i p_ s σ H E I A g hg;have M:=A e (by simp);have y:=A it (by simp);obtain⟨n,Pd,Sd,fp,D,Z,a1,G,U,a0⟩:=S.item X hP hw O a i p_ s σ H I M.1 y.1 (aq g.1.choose_spec) g.1 g.2 hg;obtain⟨⟨f,t⟩,N⟩:=g;subst hP hw O;refine wpAny_pyNext_enum_itemD D t G a1 S.ne Z λu Y tk a4 ho a2 hT a5 hk=>?_;obtain⟨x,rx,vx⟩:=a0 u a4;refine⟨_,rfl,wpAny_letOwnedTupleGo_enum (s:={s with heap:=Y,toks:=tk+1}) ho λJ T B=>?_⟩;have L:bP e Y J:=B;have a3:e<s.heap.objs.size:=aq t;have Q:s.heap.objs.size≠e:=bJ a3;have j:H s.heap.objs.size=A6:=I.hok.fresh (ah _);have l:∀c o,c∉[e,it]->s.heap.get? c=A0 o->J.get? c=A0 o:=λc o a q=>by simp only[ap,av,or_false,not_or]at a;exact(L.2 c a.1).trans (hk c o a.1 a.2 q)
  have trk:∀c o,H c=A0 o->c∉[e,it]:=λc o q a=>by rw[(A c a).1]at q;cases q
  have I1:Inv X p_ σ (upd H s.heap.objs.size (.tup [.int i,x])) {s with heap:=J,toks:=tk+1}:=by
   refine I.step (g':=s.gens) (d':=s.drawn) (t':=tk+1) (ch:=[e,it]) (λc a=>?_) (λc o _ _ a q _=>l c o a q) (λc o _ _ a q _=>⟨o.slots,l c o a q⟩)
    (λc o _ q n=>by rw[Ay (az (aq q))];exact n) (λc o a q=>⟨o,l c o a q⟩) (λc ps q=>by rw[Ay (Bm q j)];exact q) (λc o p q=>by rw[Ay (Bm q j)];exact q)
    (λc ps q=>⟨#[],by rw[Ay (Bm q j),q];simp⟩) (λm hm=>?_) (λc o q=>?_) I.bare;.obtain⟨f0,f1,f2,f3,f4,f5⟩:=A c a;exact⟨f3,f1,f4,f5⟩
   .obtain⟨oo,es,ep,ho,r⟩:=hm;exact⟨oo,es,ep,l _ oo (λa=>(A _ a).2.1 rfl) ho,r⟩
   .by_cases B:c=s.heap.objs.size;.subst B;rw[A_]at q;cases q;exact⟨by show 2<=A9;decide,[.int i tk,u],.cons ⟨_,rfl⟩ (.cons rx .nil),⟨_,(L.2 _ Q).trans hT,rfl,⟨_,rfl⟩,rfl⟩⟩
    .rw[Ay B]at q;refine(I.hok c o q).stay (λd q hd eq=>l d q ?_ eq) (λd q=>by rw[Ay (Bm q j)];exact q) λd qs q=>by rw[Ay (Bm q j)];exact q
     rcases hd with rfl|hd;.exact trk _ _ (by assumption)
     .exact trk _ _ hd
  refine⟨.ref s.heap.objs.size,_,I1,rfl,⟨s.heap.objs.size,x,rfl,j,vx,rfl⟩,⟨⟨_,T⟩,S.keep _ _ _ (U _ _ a2) λo q=>(L.2 it (Ne.symm S.ne)).trans q⟩,λc a=>?_⟩;rw[Ay];.exact(A c a).1
  .intro q;subst q;simp only[ap,av,or_false]at a;rcases a with q|q;.exact Q q
   .obtain⟨o,e1,_⟩:=S.obj _ _ N;exact bC _ (q▸aq e1)
 done:=by intro X hP hw O a i p_ s σ H E I A g hg;have M:=A e (by simp);have y:=A it (by simp);obtain⟨Pd,Sd,fp,D,G⟩:=S.done X hP hw O a i p_ s σ H I M.1 y.1 g.1 g.2 hg;obtain⟨⟨f,t⟩,N⟩:=g;subst hP hw O;refine wpAny_pyNext_enum_endD D t G λY hx=>⟨rfl,?_⟩;obtain⟨f0,f1,f2,f3,f4,f5⟩:=y;exact I.turned (t':=s.toks) (λb o B q=>hx b o B q) f0 f1 f3 f4 f5
 self:=λ_ _ _ _ _ g h=>by obtain⟨⟨f,t⟩,_⟩:=g;exact wpAny_pyIter_enum t h
def Ite(K:W.Frag)(a:A4):It:=Itd (λi H=>∃b x,SqL K H a b/\b[i]?=A0 x) (λi H x=>∀b,SqL K H a b->b[i]?=A0 x) (λi H=>∃b,SqL K H a b/\b.length=i)
theorem UM{P:AC}{w:AL}{K:W.Frag}{e it a:A4}(ne:e≠it)(R:a≠e)(m:a≠it):EnSrc P w K e it (λi h=>h.IsListIter it a i) (λi H=>∃f x,SqL K H a f/\f[i]?=A0 x) (λi H x=>∀f,SqL K H a f->f[i]?=A0 x) (λi H=>∃f,SqL K H a f/\f.length=i)where
 ne:=ne
 obj:=λi h l=>by obtain⟨o,q,c,d⟩:=l;exact⟨o,q,λv z=>by rw[d]at z;cases z⟩
 keep:=λi h S l k=>l.at k
 item:=by
  intro X D hw C t i J s N H I _ _ _ _ l E;obtain⟨f,x,g,r⟩:=E;subst D hw C;obtain⟨b,n,p,Q⟩:=I.list g;have O:=n.length;obtain⟨u,hu,M⟩:=n.get r;refine⟨_,_,_,_,Draws.list (show X.A.in1.handled=A6 from I.ok.hd t) it a m b.toArray,?_,?_,⟨l,p.isList⟩,λj h q=>q.1,λL B=>⟨x,?_,λT y=>by rw[I.list_inj y g];exact r⟩⟩;.simp only[ap,av,or_false,not_or];exact⟨ne,Ne.symm R⟩
  .have:=(aW.mp r).1;simp;omega
  .have G:b[i]?=A0 L:=by simpa using B
   rw[hu]at G;cases G;exact M
 done:=by
  intro X D hw C t i J s N H I _ _ _ l E;obtain⟨f,g,r⟩:=E;subst D hw C;obtain⟨b,n,p,Q⟩:=I.list g;have O:=n.length;have e:i=b.toArray.size:=by simp;omega
  subst e;exact⟨_,_,_,Draws.list (show X.A.in1.handled=A6 from I.ok.hd t) it a m b.toArray,l,p.isList⟩
def Df(z:AI):It:=Itd (λi _=>i<z.cps.size) (λi _ v=>∃c,z.cps[i]?=A0 c/\v=.str ⟨#[c]⟩) (λi _=>z.cps.size=i)
theorem UN{P:AC}{w:AL}{K:W.Frag}{e it:A4}{z:AI}{t:Tok}{ty:String}(g:ty="str_ascii_iterator"\/ty="str_iterator")(ne:e≠it):EnSrc P w K e it (λi h=>h.IsStrIter it ty z t i) (λi _=>i<z.cps.size) (λi _ v=>∃c,z.cps[i]?=A0 c/\v=.str ⟨#[c]⟩) (λi _=>z.cps.size=i)where
 ne:=ne
 obj:=λi h a=>by obtain⟨o,q,c,d⟩:=a;exact⟨o,q,λv z=>by rw[d]at z;cases z⟩
 keep:=λi h D a k=>by obtain⟨o,q,r⟩:=a;exact⟨o,k o q,r⟩
 item:=by
  intro X x hw p n i y s C H I _ _ _ _ a l;subst x hw p;have f:X.A.in1.handled=A6:=I.ok.hd n;rcases g with rfl|rfl;.refine⟨_,_,_,_,Draws.strAscii f it z t,by simpa using ne,l,a,λj h q=>q,λu hu=>?_⟩;obtain⟨c,B,b,rfl⟩:=hu;exact⟨.str ⟨#[c]⟩,⟨_,rfl⟩,c,b,rfl⟩
  .refine⟨_,_,_,_,Draws.strWide f it z t,by simpa using ne,l,a,λj h q=>q,λu hu=>?_⟩;obtain⟨c,B,b,rfl⟩:=hu;exact⟨.str ⟨#[c]⟩,⟨_,rfl⟩,c,b,rfl⟩
 done:=by
  intro X x hw p n i y s C H I _ _ _ a l;subst x hw p;have f:X.A.in1.handled=A6:=I.ok.hd n;have m:z.cps.size=i:=l;subst m;rcases g with rfl|rfl;.exact⟨_,_,_,Draws.strAscii f it z t,a⟩
  .exact⟨_,_,_,Draws.strWide f it z t,a⟩
section
variable{X:Cx}
def Ig(K:W.Frag)(d:TE):TI:=λe H R=>Bw d C4 e H λg b=>∃x,g=[x]/\
 ((∃a,x=.ref a/\(∃f,SqL K b a f)/\R (Ite K a) b)\/(∃z,x=.str z/\R (Df z) b)\/False)
theorem UO:Aq "enumerate"=A0 (.type "enumerate"):=⋯
theorem UP{a:A8}{A:TE}{p pos:Pos}{m:List A8}{T:Nat}{N:Pos}(U:Gl X "enumerate")(S:X.mg "enumerate"=A6)(M:PA X [a] (Bw A C4))(hs:AY [a] X.env=[(A7,Ac a X.env)]):
  PI X (.Tuple m T N) (.Call (.Name "enumerate" p) [a] [] pos) (Ig X.K A):=by
 intro O s G H R I h;have C:Bw A C4 G H (λL i=>∃x,L=[x]/\((∃a,x=.ref a/\(∃J,SqL X.K i a J)/\R (Ite X.K a) i)\/(∃z,x=.str z/\R (Df z) i)\/False)):=h;refine Call_ (Cf I U S UO (PyProof.Rows.callWith_type1 (thn (M pos O s G H _ I C) λZ d⟨L,i,g,r1,v⟩=>?_) (by rw[hs];rfl) (by rfl)));obtain⟨x,e,v⟩:=v;subst e;cases r1 with
 |cons r P=>
  cases P;rcases v with⟨a,rfl,⟨J,y⟩,q⟩|⟨z,rfl,q⟩|z
  .cases r;obtain⟨Q,Y,D,hz⟩:=g.list y;refine call_enumerate_list D.isList λC l f n w=>wpAny_pyIter_enum l ?_;have E:a<d.heap.objs.size:=by obtain⟨o,q,_⟩:=D.isList;exact aq q
   refine⟨d.heap.objs.size+1,[d.heap.objs.size+1,d.heap.objs.size],_,_,i,rfl,g.kept (t':=d.toks) w,Li (UM (Nat.succ_ne_self _) (az (bE E)) (az E)),⟨⟨_,l⟩,f⟩,λc j=>?_,q⟩;have b:d.heap.objs.size<=c:=by simp only[ap,av,or_false]at j;rcases j with rfl|rfl<;>omega
   exact g.fpOk b (g.hok.fresh b)
  .obtain⟨t,rfl⟩:=r;refine call_enumerate_str λC l f n w=>wpAny_pyIter_enum l ?_;have B:strIterType z="str_ascii_iterator"\/strIterType z="str_iterator":=by
    unfold strIterType;split;.exact .inl rfl
    .exact .inr rfl
   refine⟨d.heap.objs.size+1,[d.heap.objs.size+1,d.heap.objs.size],_,_,i,rfl,g.kept (t':=d.toks) w,Li (UN B (Nat.succ_ne_self _)),⟨⟨_,l⟩,f⟩,λc j=>?_,q⟩;have b:d.heap.objs.size<=c:=by simp only[ap,av,or_false]at j;rcases j with rfl|rfl<;>omega
   exact g.fpOk b (g.hok.fresh b)
  .exact z.elim
end
section
variable{X:Cx}
theorem UQ:BI X (.type "int") (λa H Q=>∃x n,a=[.str x]/\PySem.intText? x=A0 n/\x.length<=640/\Q (.int n) H):=by intro f s e H a g Q I r h;obtain⟨x,n,rfl,d,b,q⟩:=h;obtain⟨u,rfl,t,rfl⟩:=CP r;exact W.KIN.call_text d b ⟨.int n,H,I.tok _,⟨_,rfl⟩,q⟩
def UR:List V->Hp->VK->Prop:=λa H Q=>((∃i,a=[.int i]/\Q (.int i) H)\/∃k,a=[.bl k]/\Q (.int (if k then 1 else 0)) H)\/∃x n,a=[.str x]/\PySem.intText? x=A0 n/\x.length<=640/\Q (.int n) H
theorem US:BI X (.type "int") UR:=Sl.or UQ
def UT:R2:=λx y H Q=>∃a n,x=.str a/\y=.int n/\-1000000<=n/\n<=1000000/\a.length*n.toNat<=1000000/\Q (.str (Txt.mul a n)) H
theorem UU:OpR X (Ap .Mult) UT:=by
 intro w s D H x y v u Q I j o h;obtain⟨a,n,rfl,rfl,A,r,C,q⟩:=h;obtain⟨t,rfl⟩:=j;obtain⟨l,rfl⟩:=o;refine SB.mul ⟨?_,λf g=>?_,λf g=>?_⟩ λl k=>⟨.str (Txt.mul a n),H,I.tok _,⟨_,rfl⟩,q⟩
 .have i:¬n< -(2^63:Int):=by omega
  have m:¬n≥2^63:=by omega
  simp[i,m];omega
 .have b:0<n:=by omega
  intro d;have p:(a.length:Int)*n<=1000000:=by
   have:((a.length*n.toNat:Nat):Int)<=1000000:=by omega
   rw[Int.natCast_mul,Int.toNat_of_nonneg ⋯]at this;exact this
  have B:=(Int.ediv_lt_iff_lt_mul b).mp d;omega
 .have e:AK.Str.tooLong (a.length*n.toNat)=A7:=by unfold AK.Str.tooLong;have:A9=16777216:=sizeLine_eq;simp;omega
  exact e
def Lj(K:W.Frag):V->List V->Hp->VK->Prop:=λx d H Q=>∃(a:AI)(p:A4)(b:List AI),x=.str a/\d=[.ref p]/\(SqL K H p (b.map V.str)\/SqT K H p (b.map V.str))/\(b.map (·.length)).sum+b.length*a.length<=16777216/\Q (.str (Txt.join a b)) H
theorem Ih:∀{b:List AI}{a:List A2},B5 (b.map V.str) a->StrsAre a b
 | [],a,h=>by have e:=h.zero;subst e;exact .nil
 |y::b,_,.cons r t=>by obtain⟨k,rfl⟩:=r;exact .cons y k (Ih t)
theorem UV:MtR X "str.join" (Lj X.K):=by
 intro n s w H x o v m Q I i g h;obtain⟨f,p,y,rfl,rfl,a,e,q⟩:=h;obtain⟨t,rfl⟩:=i;obtain⟨u,rfl,l⟩:=g.one;cases l;rcases a with a|a;.obtain⟨b,r,d,_⟩:=I.list a;exact join_list d.isList (Ih r) e λj k=>⟨.str _,H,I.tok _,⟨_,rfl⟩,q⟩
 .obtain⟨b,r,d,_⟩:=I.tuple a;exact join_tuple d (Ih r) e λj k=>⟨.str _,H,I.tok _,⟨_,rfl⟩,q⟩
def UW:V->Option Int->Option Int->Hp->VK->Prop:=λx d b H Q=>∃a,x=.str a/\a.length<=A9/\Q (.str (Txt.slice a d b)) H
theorem UX:SlR X UW:=by
 intro p s D H x v K J o y m Q I r d B g h;obtain⟨a,rfl,E,q⟩:=h;obtain⟨t,rfl⟩:=r;have b:∀(l u:Option (Int×Tok)),l.map (·.1)=o->u.map (·.1)=y->s.heap.IsSlice m l u A6->AA (AD X.prog X.w) X.A (getItem (.str a t) (.ref m)) (EP X p D Q) X.xe s:=by intro l u n C e;refine wpAny_getItem_str_slice (l:=l) (u:=u) (st:=A6) e rfl ?_;refine post_val_or_str ?_;subst n C;exact⟨aN (Txt.slice_le a _ _) E,λG k=>⟨.str _,H,I.tok _,⟨_,rfl⟩,q⟩⟩
 refine⟨"str",_,F.slot_str_getitem.lookup,typeIs_str _ _ _,?_⟩;cases B with
 |none=>
  cases g with
  |none=>exact b A6 A6 rfl rfl d
  |int j u=>exact b A6 (A0 (j,u)) rfl rfl d
 |int i f=>
  cases g with
  |none=>exact b (A0 (i,f)) A6 rfl rfl d
  |int j u=>exact b (A0 (i,f)) (A0 (j,u)) rfl rfl d
def Fh(H:Hp):V->Option String
 | .non=>A0 "NoneType"
 | .bl _=>A0 "bool"
 | .int _=>A0 "int"
 | .str _=>A0 "str"
 | .ref a=>match H a with
  |A0 (.lst _)=>A0 "list"
  |A0 (.tup _)=>A0 "tuple"
  |A0 (.dK _)=>A0 "dict"
  |A0 (.dT _)=>A0 "dict"
  |A0 (.frz _ (.lst _))=>A0 "list"
  |_=>A6
 |_=>A6
set_option tactic.hygienic true in
theorem UY{K:W.Frag}{H:Hp}{x:V}{T:String}(h:Fh H x=A0 T):TyOf K H x (.type T):=by
 cases x with
 |non=>cases h;exact .non
 |bl b=>cases h;exact .bl b
 |int i=>cases h;exact .int i
 |str y=>cases h;exact .str y
 |byt _=>cases h
 |flt _=>cases h
 |ty _=>cases h
 |ref a=>
  have h:(match H a with
   |A0 (.lst _)=>A0 "list"
   |A0 (.tup _)=>A0 "tuple"
   |A0 (.dK _)=>A0 "dict"
   |A0 (.dT _)=>A0 "dict"
   |A0 (.frz _ (.lst _))=>A0 "list"
   |_=>A6)=A0 T:=h;split at h;.rename_i e;cases h;exact .lst e
  .rename_i e;cases h;exact .tup e
  .rename_i e;cases h;exact .dK e
  .rename_i e;cases h;exact .dT e
  .rename_i e;cases h;exact .frz e
  .cases h
def isT(T c:String):Bool:=T==c||(T=="bool"&&c=="int")
def Dg:List String:=["NoneType","bool","int","str","list","tuple","dict"]
theorem UZ(K:W.Frag):∀T∈Dg,∀c∈["bool","int","str","list","tuple","dict"],W.kitOne K (.type T) (.type c)=A0 (isT T c):=by intro T hT c a;simp only[Dg,ap,av,or_false]at hT a;rcases hT with rfl|rfl|rfl|rfl|rfl|rfl|rfl<;>rcases a with rfl|rfl|rfl|rfl|rfl|rfl<;>rfl
def Lk:List V->Hp->VK->Prop:=λa H Q=>
 (∃x T c,a=[x,.ty c]/\Fh H x=A0 T/\T∈Dg/\c∈["bool","int","str","list","tuple","dict"]/\Q (.bl (isT T c)) H)\/False
theorem Ua:BI X (.builtin "isinstance") Lk:=by
 intro g s j H i e Q I r h;rcases h with⟨x,T,c,rfl,hT,b,a,q⟩|z;.obtain⟨u,d,rfl,r1,r2⟩:=I9 r;have r2:d=A2.type c:=r2;subst r2;exact Sr I r1 (UY hT) (UZ X.K T b c a) λf=>⟨.bl _,H,I.tok _,rfl,q⟩
 .exact z.elim
def Ll(K:W.Frag)(any:Bool):List V->Hp->VK->Prop:=λb H Q=>∃(p:A4)(a:List Bool),b=[.ref p]/\SqL K H p (a.map V.bl)/\Q (.bl (if any then a.any id else a.all id)) H
theorem Lm:∀{a:List Bool}{d:List A2}{i:Nat}{v:A2},B5 (a.map V.bl) d->d[i]?=A0 v->∃b,a[i]?=A0 b/\v=.bool b
 | [],d,i,v,h,e=>by rw[h.zero]at e;simp at e
 |b::a,_,0,v,.cons r t,e=>by have r:_=A2.bool b:=r;simp at e;exact⟨b,rfl,by rw[<-e];exact r⟩
 |b::a,_,i+1,v,.cons r t,e=>by obtain⟨f,j,g⟩:=Lm (i:=i) t (by simpa using e);exact⟨f,by simpa using j,g⟩
theorem Ub(d:List Bool):(aG d.length).any (λi=>d.getD i A7)=d.any id:=by
 rw[cz,br,br];constructor;.rintro⟨i,a,h⟩;have a:=aI.mp a;exact⟨d[i],bQ a,by simpa[List.getD_eq_getElem?_getD,a]using h⟩
 .rintro⟨b,e,h⟩;obtain⟨i,a,rfl⟩:=cq.mp e;exact⟨i,aI.mpr a,by simpa[List.getD_eq_getElem?_getD,a]using h⟩
theorem Uc(t:X.calm=A3):BI X (.builtin "any") (Ll X.K A3):=by
 intro M s O H N J Q I r h;obtain⟨p,g,rfl,x,q⟩:=h;obtain⟨u,rfl,D⟩:=CP r;cases D;obtain⟨d,m,j,R⟩:=I.list x;have f:d.toArray.size=g.length:=by have:=m.length;rw[ac]at this;rw[aE,this]
 refine call_any_walk (dz j.isList ?_);have l:p<s.heap.objs.size:=by obtain⟨o,n,e,_⟩:=j;exact aq e
 refine⟨s.heap.objs.size,_,_,_,_,_,λi=>g.getD i A7,rfl,Walks.list (A:=X.A.in1) (I.ok.hd t) _ p (az l) d.toArray,⟨⟨_,au _ rfl,rfl,rfl⟩,AM.IsList.push j.isList _⟩,?_,λP L w=>?_⟩
 .intro i v C B S G E;obtain⟨b,y,rfl⟩:=Lm m (i:=i) (by simpa using G);refine bT ?_;have e:g.getD i A7=b:=by rw[List.getD_eq_getElem?_getD,y];rfl
  have a:B (g.getD i A7) C:=E;rw[e]at a;exact a
 .rw[f,Ub];exact⟨.bl _,H,I.kept λb o e=>w b o (by simp;exact az (aq e)) (ag _ e),rfl,q⟩
def Fi(K:W.Frag)(mx:Bool):List V->Hp->VK->Prop:=λ_ _ _=>False
theorem Ud(a:X.calm=A3):BI X (.builtin "max") (Fi X.K A3):=λ_ _ _ _ _ _ _ _ _ h=>h.elim
theorem Ue(a:X.calm=A3):BI X (.builtin "min") (Fi X.K A7):=λ_ _ _ _ _ _ _ _ _ h=>h.elim
end
section
variable{X:Cx}
open PySem.SeqAt in
theorem Ln{A:AN}{s:A5}{x y:V}{u v:A2}(rx:B0 x u)(ry:B0 y v)(h:E4 x y=A3/\(∀b,x≠.byt b)\/x=y/\∃a,x=.ref a):EqAt A s u v (decide (x=y)):=by
 rcases h with⟨h,hb⟩|⟨rfl,a,rfl⟩
 .cases x with
  |non=>cases y with
   |non=>cases rx;cases ry;exact EqAt.same _
   |bl b=>cases rx;cases ry;exact EqAt.none_bool _
   |int b=>cases rx;obtain⟨t,rfl⟩:=ry;exact EqAt.none_int _ _
   |str b=>cases rx;obtain⟨t,rfl⟩:=ry;exact EqAt.none_str _ _
   |_=>cases h
  |bl a=>cases y with
   |non=>cases rx;cases ry;exact EqAt.bool_none _
   |bl b=>cases rx;cases ry;have:=EqAt.bool_bool (A:=A) (s:=s) a b;cases a<;>cases b<;>exact this
   |str b=>cases rx;obtain⟨t,rfl⟩:=ry;exact EqAt.bool_str _ _ _
   |_=>cases h
  |int a=>cases y with
   |non=>obtain⟨t,rfl⟩:=rx;cases ry;exact EqAt.int_none _ _
   |int b=>obtain⟨t,rfl⟩:=rx;obtain⟨t',rfl⟩:=ry;rw[I0];exact EqAt.int_int _ _ _ _
   |str b=>obtain⟨t,rfl⟩:=rx;obtain⟨t',rfl⟩:=ry;exact EqAt.int_str _ _ _ _
   |_=>cases h
  |str a=>cases y with
   |non=>obtain⟨t,rfl⟩:=rx;cases ry;exact EqAt.str_none _ _
   |bl b=>obtain⟨t,rfl⟩:=rx;cases ry;exact EqAt.str_bool _ _ _
   |int b=>obtain⟨t,rfl⟩:=rx;obtain⟨t',rfl⟩:=ry;exact EqAt.str_int _ _ _ _
   |str b=>
    obtain⟨t,rfl⟩:=rx;obtain⟨t',rfl⟩:=ry;have e:decide (V.str a=V.str b)=(a==b):=by
     by_cases hab:a=b;.subst hab;simp
     .rw[decide_eq_false (by intro z;cases z;exact hab rfl)];simp[hab]
    rw[e];exact EqAt.str_str _ _ _ _
   |_=>cases h
  |byt b=>exact absurd rfl (hb b)
  |_=>cases y<;>cases h
 .cases rx;cases ry;rw[decide_eq_true rfl];exact EqAt.same _
def LEq(xs d:List V):Prop:=∀(i:Nat)x y,xs[i]?=A0 x->d[i]?=A0 y->E4 x y=A3/\(∀b,x≠.byt b)\/x=y/\∃a,x=.ref a
def Fj(K:W.Frag)(neg:Bool):V->V->Hp->VK->Prop:=λx y H Q=>∃p q a b,x=.ref p/\y=.ref q/\SqL K H p a/\SqL K H q b/\(a.length=b.length->LEq a b)/\Q (.bl (if neg then !decide (a=b)else decide (a=b))) H
theorem Lo{xs a:List V}(h:xs.length=a.length):(aG xs.length).all (λi=>decide (xs[i]?=a[i]?))=decide (xs=a):=by
 by_cases e:xs=a;.subst e;simp
 .rw[decide_eq_false e,Bool.eq_false_iff];intro q;rw[de]at q;apply e;apply bW;intro i;rcases dl i xs.length with b|b;.exact of_decide_eq_true (q i (aI.mpr b))
  .rw[bH.mpr b,bH.mpr ⋯]
open PySem.SeqAt in
theorem Uf(hu:X.A.units<Am):OpR X (AU .Eq) (Fj X.K A7):=by
 intro p_ s σ H x y v u Q I rx ry h;obtain⟨p,q,xs,ys,rfl,rfl,hp,hq,he,k⟩:=h;cases rx;cases ry;obtain⟨its,r1,pl1,_⟩:=I.list hp;obtain⟨its2,r2,pl2,_⟩:=I.list hq;have l1:=r1.length;have l2:=r2.length;by_cases hl:xs.length=ys.length
 .refine eq_listAt (e:=λi=>decide (xs[i]?=ys[i]?)) pl1.isList pl2.isList (by simp;omega) hu (λj h1 h2=>?_) ?_
  .have j1:j<xs.length:=by simp at h1;omega
   have j2:j<ys.length:=by omega
   have g1:xs[j]?=A0 xs[j]:=ae j1;have g2:ys[j]?=A0 ys[j]:=ae j2;obtain⟨u1,e1,ru1⟩:=r1.get g1;obtain⟨u2,e2,ru2⟩:=r2.get g2;have f1:its.toArray[j]=u1:=by simp at h1⊢;rw[ae h1]at e1;exact Option.some.inj e1
   have f2:its2.toArray[j]=u2:=by simp at h2⊢;rw[ae h2]at e2;exact Option.some.inj e2
   rw[f1,f2,g1,g2];have e3:decide (A0 xs[j]=A0 ys[j])=decide (xs[j]=ys[j]):=by simp
   rw[e3];exact Ln ru1 ru2 (he hl j _ _ g1 g2)
  .have e4:(aG its.toArray.size).all (λi=>decide (xs[i]?=ys[i]?))=decide (xs=ys):=by rw[aE,<-l1];exact Lo hl
   rw[e4];exact⟨.bl _,H,I,rfl,k⟩
 .refine eq_list_lengthsAt pl1.isList pl2.isList (by simp;omega) hu ?_;rw[decide_eq_false (λz=>hl (by rw[z]))]at k;exact⟨.bl A7,H,I,rfl,k⟩
open PySem.SeqAt in
theorem Ug(hu:X.A.units<Am):OpR X (AU .NotEq) (Fj X.K A3):=by
 intro p_ s σ H x y v u Q I rx ry h;obtain⟨p,q,xs,ys,rfl,rfl,hp,hq,he,k⟩:=h;cases rx;cases ry;obtain⟨its,r1,pl1,_⟩:=I.list hp;obtain⟨its2,r2,pl2,_⟩:=I.list hq;have l1:=r1.length;have l2:=r2.length;obtain⟨⟨cls,dd,data,sl⟩,ho,hc,n,hd⟩:=pl1.isList;obtain⟨⟨cls2,dd2,data2,sl2⟩,ho2,hc2,n2,hd2⟩:=pl2.isList;simp only at hc hd hc2 hd2;subst hc hd hc2 hd2;by_cases hl:xs.length=ys.length
 .refine richCompare_meets_room (op:=.NotEq) ⟨_,ho,rfl⟩ ⟨_,ho2,rfl⟩ F.slot_list_ne F.entry_list_ne (F.args_list_ne_2 _ _) (list_neAt p q its.toArray its2.toArray n n2 dd dd2 sl sl2 (by simp;omega) (λi=>decide (xs[i]?=ys[i]?))) ⟨ho,ho2,λj h1 h2=>?_,?_⟩ hu
  .have j1:j<xs.length:=by simp at h1;omega
   have j2:j<ys.length:=by omega
   have g1:xs[j]?=A0 xs[j]:=ae j1;have g2:ys[j]?=A0 ys[j]:=ae j2;obtain⟨u1,e1,ru1⟩:=r1.get g1;obtain⟨u2,e2,ru2⟩:=r2.get g2;have f1:its.toArray[j]=u1:=by simp at h1⊢;rw[ae h1]at e1;exact Option.some.inj e1
   have f2:its2.toArray[j]=u2:=by simp at h2⊢;rw[ae h2]at e2;exact Option.some.inj e2
   rw[f1,f2,g1,g2];have e3:decide (A0 xs[j]=A0 ys[j])=decide (xs[j]=ys[j]):=by simp
   rw[e3];exact Ln ru1 ru2 (he hl j _ _ g1 g2)
  .have e4:(aG its.toArray.size).all (λi=>decide (xs[i]?=ys[i]?))=decide (xs=ys):=by rw[aE,<-l1];exact Lo hl
   rw[e4];exact(show A2.bool (!decide (xs=ys))≠A2.notImplemented/\EP X p_ σ Q (A2.bool (!decide (xs=ys))) s from⟨(λx=>nomatch x),⟨.bl _,H,I,rfl,k⟩⟩)
 .refine richCompare_meets_room (op:=.NotEq) ⟨_,ho,rfl⟩ ⟨_,ho2,rfl⟩ F.slot_list_ne F.entry_list_ne (F.args_list_ne_2 _ _) (list_ne_lengthsAt p q its.toArray its2.toArray n n2 dd dd2 sl sl2 (by simp;omega)) ⟨ho,ho2,?_⟩ hu;rw[decide_eq_false (λz=>hl (by rw[z]))]at k;exact(show A2.bool A3≠A2.notImplemented/\EP X p_ σ Q (A2.bool A3) s from⟨(λx=>nomatch x),⟨.bl A3,H,I,rfl,k⟩⟩)
def rgs(i:Int)(n:Nat):List V:=(aG n).map λ(k:Nat)=>V.int (i+(k:Int))
def Lq:List V->Hp->VK->Prop:=λa H Q=>∃i j:Int,(a=[.int i,.int j]\/(i=0/\a=[.int j]))/\∀p,H p=A6->Q (.ref p) (upd H p (.rng i j))
theorem Uh:BI X (.type "range") Lq:=by
 intro g s m H l f Q I a h;obtain⟨i,j,d,q⟩:=h;have b:H s.heap.objs.size=A6:=I.hok.fresh (ah _);rcases d with rfl|⟨rfl,rfl⟩
 .cases a with
  |cons r1 a=>
   cases a with
   |cons r2 a=>cases a;obtain⟨t,rfl⟩:=r1;obtain⟨u,rfl⟩:=r2;exact call_range_2 ⟨.ref s.heap.objs.size,_,I.laid (t':=s.toks+1) (λ_ _ e=>ag _ e) (ah _) (o:=.rng i j) ⟨t,u,s.toks,au _ rfl⟩,rfl,q _ b⟩
 .cases a with
  |cons r1 a=>cases a;obtain⟨t,rfl⟩:=r1;exact call_range_1 ⟨.ref s.heap.objs.size,_,I.laid (t':=s.toks+1+1) (λ_ _ e=>ag _ e) (ah _) (o:=.rng 0 j) ⟨s.toks,t,s.toks+1,au _ rfl⟩,rfl,q _ b⟩
def Lr:List V->Hp->VK->Prop:=λa H Q=>∃r i j,a=[.ref r]/\H r=A0 (.rng i j)/\(-(2^62)<=i/\i<2^62/\-(2^62)<=j/\j<2^62)/\(j-i).toNat<=A9/\∀p,H p=A6->Q (.ref p) (upd H p (.lst (rgs i (j-i).toNat)))
theorem Ui(E:X.calm=A3):BI X (.type "list") Lr:=by
 intro S s U H T R Q I p h;obtain⟨r,i,j,rfl,J,⟨M,K,N,G⟩,C,q⟩:=h;cases p with
 |cons r1 p=>
  cases p;cases r1;obtain⟨t,u,v,e⟩:=(show B7 X.prog X.w H s.heap r (.rng i j)from I.hok r _ J);refine call_list_range (n:=(j-i).toNat) (I.ok.hd E) e (small_one M K N G) (by rw[rangeSize_one];split<;>omega) C λY A b P a L y=>?_;obtain⟨m,d⟩:=y;have D:H s.heap.objs.size=A6:=I.hok.fresh (ah _);have B:∀(n:Nat)(l:List A2)(f:Nat->Int),l.length=n->(∀k v,l[k]?=A0 v->∃t,v=A2.int (f k) t)->B5 ((aG n).map λk=>V.int (f k)) l:=by
   intro n;induction n with
   |zero=>intro l f g d;have:l=[]:=cn.mp g;subst this;exact .nil
   |succ n O=>
    intro l f g d;cases l with
    |nil=>cases g
    |cons x r=>rw[List.range_succ_eq_map,aK,aU];refine .cons (d 0 x rfl) ?_;exact O r (λk=>f (k+1)) (by simpa using g) λk v a=>d (k+1) v (by simpa using a)
  refine⟨.ref s.heap.objs.size,_,I.laid (t':=A) a (ah _) (o:=.lst (rgs i (j-i).toNat)) ⟨by unfold rgs;rw[ac,bf];exact C,b.toList,P,?_,L⟩,rfl,q _ D⟩;refine B _ _ (λk=>i+(k:Int)) (by rw[ak];exact m) λk v a=>?_;obtain⟨t,e⟩:=d k v (by simpa using a);exact⟨t,by rw[e];simp⟩
end
section
variable{X:Cx}
theorem Uj:OpR X (Ap .Mult) (rI IntMulOk λi j=>.int (i*j)):=opI λ_ _ _ _ _ _ _ a q=>mul_int q a
def Ls:V->Bool
 | .ty _=>A7
 | .byt _=>A7
 | .flt _=>A7
 |_=>A3
def Fk(neg:Bool):R2:=λx y H Q=>∃b,y=.bl b/\Ls x=A3/\Q (.bl (if neg then !decide (x=.bl b)else decide (x=.bl b))) H
theorem Lu{x:V}{v:A2}{b:Bool}(r:B0 x v)(h:Ls x=A3):plainIs v (.bool b)=A3/\(v==A2.bool b)=decide (x=.bl b):=by
 cases x with
 |non=>cases r;exact⟨rfl,rfl⟩
 |bl a=>cases r;refine⟨rfl,?_⟩;cases a<;>cases b<;>rfl
 |int i=>obtain⟨t,rfl⟩:=r;exact⟨rfl,rfl⟩
 |str i=>obtain⟨t,rfl⟩:=r;exact⟨rfl,rfl⟩
 |ref a=>cases r;exact⟨rfl,rfl⟩
 |_=>cases h
theorem Uk:OpR X (AU .Is) (Fk A7):=by intro i s j H x y v u Q I e g h;obtain⟨b,rfl,a,q⟩:=h;cases g;obtain⟨f,d⟩:=Lu (b:=b) e a;exact wpAny_is_plain f ⟨.bl _,H,I,by rw[d];rfl,q⟩
theorem Ul:OpR X (AU .IsNot) (Fk A3):=by intro i s j H x y v u Q I e g h;obtain⟨b,rfl,a,q⟩:=h;cases g;obtain⟨f,d⟩:=Lu (b:=b) e a;exact wpAny_isNot_plain f ⟨.bl _,H,I,by rw[d];rfl,q⟩
theorem Um:OpR X (Ap .FloorDiv) (rI (λ_ j=>0<j/\j.natAbs.log2<9000) λi j=>.int (i/j)):=opI λi j _ _ _ _ _ a q=>by refine floordiv_int ⋯ ?_ (.inl (PyProof.noPylong_of_log2 a.2));rw[Int.fdiv_eq_ediv_of_nonneg i ⋯];exact q
end
section
variable{κ:Type} [DecidableEq κ]
def Bl(a:List (κ×V))(k:κ):Option V:=(a.find? λb=>decide (b.1=k)).map (·.2)
def BX(a:List (κ×V))(k:κ)(v:V):List (κ×V):=
 if(a.any λb=>decide (b.1=k))=A3 then a.map (λb=>if b.1=k then(b.1,v)else b)else a++[(k,v)]
theorem EB{p:κ×V}{r:List (κ×V)}{k:κ}(e:p.1=k):Bl (p::r) k=A0 p.2:=by simp[Bl,du,e]
theorem EC{p:κ×V}{r:List (κ×V)}{k:κ}(e:¬p.1=k):Bl (p::r) k=Bl r k:=by simp[Bl,du,e]
theorem Ii(k:κ):∀a:List (κ×V),(a.any λb=>decide (b.1=k))=(Bl a k).isSome
 | []=>rfl
 |p::r=>by
  rw[List.any_cons];by_cases e:p.1=k;.simp only[EB e,decide_eq_true e,Bool.true_or,Option.isSome_some]
  .rw[EC e,decide_eq_false e,Bool.false_or];exact Ii k r
theorem Ij(a:List (κ×V))(k:κ)(v:V):(BX a k v).length<=a.length+1:=by
 unfold BX;split;.rw[ac];omega
 .rw[aB,bv,cN];omega
theorem Lv{a:List (κ×V)}{k:κ}(v:V)(h:Bl a k=A6):BX a k v=a++[(k,v)]:=by unfold BX;rw[Ii,h];exact if_neg (by decide)
theorem CD.isSome_eq{o:Option V}{u:Option A2}(r:CD o u):o.isSome=u.isSome:=by
 cases o with
 |none=>cases u with
  |none=>rfl
  |some _=>exact(show False from r).elim
 |some _=>cases u with
  |none=>exact(show False from r).elim
  |some _=>rfl
theorem CD.getD{o:Option V}{u:Option A2}{d:V}{d':A2}(r:CD o u)(a:B0 d d'):B0 (o.getD d) (u.getD d'):=by
 cases o with
 |none=>cases u with
  |none=>exact a
  |some _=>exact(show False from r).elim
 |some _=>cases u with
  |none=>exact(show False from r).elim
  |some _=>exact r
theorem KV.val{a:List (κ×V)}{vs:List (κ×A2)}(r:KV a vs)(k:κ):CD (Bl a k) (valueAt vs k):=by
 unfold KV at r;induction r with
 |nil=>exact True.intro
 | @cons p q l f h t j=>
  obtain⟨g,i⟩:=h;by_cases e:p.1=k
  .have d:q.1=k:=g.symm.trans e;have b:valueAt (q::f) k=A0 q.2:=by simp[valueAt,du,d]
   rw[EB e,b];exact i
  .have d:¬q.1=k:=λz=>e (g.trans z);have b:valueAt (q::f) k=valueAt f k:=by simp[valueAt,du,d]
   rw[EC e,b];exact j
theorem KV.any{a:List (κ×V)}{vs:List (κ×A2)}(r:KV a vs)(k:κ):(a.any λb=>decide (b.1=k))=vs.any λb=>decide (b.1=k):=by
 unfold KV at r;induction r with
 |nil=>rfl
 |cons h t d=>rw[List.any_cons,List.any_cons,d,h.1]
theorem KV.repl{b:List (κ×V)}{vs:List (κ×A2)}(r:KV b vs)(k:κ){y:V}{u:A2}(i:B0 y u):
  KV (b.map λa=>if a.1=k then(a.1,y)else a) (vs.map λa=>if a.1=k then(a.1,u)else a):=by
 unfold KV at r⊢;induction r with
 |nil=>exact .nil
 | @cons p q l j h t g=>
  rw[aK,aK];refine .cons ?_ g;obtain⟨d,f⟩:=h;by_cases e:p.1=k;.rw[if_pos e,if_pos (d.symm.trans e)];exact⟨d,i⟩
  .rw[if_neg e,if_neg (λz=>e (d.trans z))];exact⟨d,f⟩
theorem KV.put{a:List (κ×V)}{vs:List (κ×A2)}(r:KV a vs)(k:κ){y:V}{u:A2}(b:B0 y u):KV (BX a k y) (stored vs k u):=by
 unfold BX stored;rw[r.any k];by_cases e:(vs.any λd=>decide (d.1=k))=A3;.rw[if_pos e,if_pos e];exact r.repl k b
 .rw[if_neg e,if_neg e];exact Aj.snoc r ⟨rfl,b⟩
theorem KV.keys{a:List (κ×V)}{vs:List (κ×A2)}(r:KV a vs):a.map (·.1)=vs.map (·.1):=by
 unfold KV at r;induction r with
 |nil=>rfl
 |cons h t b=>rw[aK,aK,b,h.1]
theorem KV.length{a:List (κ×V)}{vs:List (κ×A2)}(r:KV a vs):a.length=vs.length:=Ah r
end
theorem Dh{P:AC}{w:AL}{k:Key}{u:A2}(r:B0 (kV k) u):(BQ P w).is k u=A3:=by
 cases k with
 |inl i=>obtain⟨t,e⟩:=(show∃t,u=A2.int i t from r);subst e;exact RL P w i t
 |inr x=>obtain⟨t,e⟩:=(show∃t,u=A2.str x t from r);subst e;exact RM P w x t
 |non=>obtain rfl:u=A2.none:=r;rfl
theorem Lw{P:AC}{w:AL}:∀{a:List Key}{b:List A2},B5 (a.map kV) b->ItemsAre (BQ P w) a b
 | [],_,r=>by rw[List.map_nil]at r;cases r;exact .nil
 |k::a,_,r=>by
  rw[aK]at r;cases r with
  |cons h t=>exact .cons (Dh h) (Lw t)
abbrev KT(H:Hp):List (List Key×V)->List (List Key×A4×A2)->Prop:=Aj λp q=>p.1=q.1/\H q.2.1=A0 (.tup (p.1.map kV))/\B0 p.2 q.2.2
theorem KT.val{H:Hp}{a:List (List Key×V)}{xs:List (List Key×A4×A2)}(r:KT H a xs)(k:List Key):CD (Bl a k) ((atKey xs k).map (·.2)):=by
 induction r with
 |nil=>exact True.intro
 | @cons p q l f h t j=>
  obtain⟨g,_,i⟩:=h;by_cases e:p.1=k
  .have d:q.1=k:=g.symm.trans e;have b:atKey (q::f) k=A0 q.2:=by simp[atKey,du,d]
   rw[EB e,b];exact i
  .have d:¬q.1=k:=λz=>e (g.trans z);have b:atKey (q::f) k=atKey f k:=by simp[atKey,du,d]
   rw[EC e,b];exact j
theorem KT.repl{H:Hp}{a:List (List Key×V)}{xs:List (List Key×A4×A2)}(r:KT H a xs)(k:List Key){y:V}{u:A2}(j:B0 y u):
  KT H (a.map λd=>if d.1=k then(d.1,y)else d) (xs.map (putAt k u)):=by
 induction r with
 |nil=>exact .nil
 | @cons p q m l h t g=>
  rw[aK,aK];refine .cons ?_ g;obtain⟨b,f,i⟩:=h;unfold putAt;by_cases e:p.1=k;.rw[if_pos e,if_pos (b.symm.trans e)];exact⟨b,f,j⟩
  .rw[if_neg e,if_neg (λz=>e (b.trans z))];exact⟨b,f,i⟩
theorem KT.put{H:Hp}{a:List (List Key×V)}{xs:List (List Key×A4×A2)}(r:KT H a xs)(k:List Key){b:A4}{y:V}{u:A2}(f:H b=A0 (.tup (k.map kV)))(d:B0 y u):
  KT H (BX a k y) (storedH xs k b u):=by
 have e:(a.any λg=>decide (g.1=k))=(atKey xs k).isSome:=by rw[Ii,(r.val k).isSome_eq,Option.isSome_map]
 unfold BX storedH;rw[e];by_cases q:(atKey xs k).isSome=A3;.rw[if_pos q,if_pos q];exact r.repl k d
 .rw[if_neg q,if_neg q];exact Aj.snoc r ⟨rfl,f,d⟩
theorem KT.keeps{H H':Hp}{a:List (List Key×V)}{xs:List (List Key×A4×A2)}(r:KT H a xs)(e:∀b d,H b=A0 (.tup d)->H' b=A0 (.tup d)):KT H' a xs:=
 Paired.mapP r λ_ _ z=>⟨z.1,e _ _ z.2.1,z.2.2⟩
section
variable{P:AC}{w:AL}{H:Hp}{h:AM}{a:A4}
theorem Lx{u:HO}(ok:HOk P w H h)(e:Rd H a u):B7 P w H h a u:=e.ok ok
theorem C_{b:List (Key×V)}(ok:HOk P w H h)(e:Rd H a (.dK b)):b.length<=A9/\(a==AS)=A7/\∃d,KV b d/\h.DictOf (BQ P w) a d:=
 show B7 P w H h a (.dK b)from Lx ok e
theorem Ly{b:List (Key×V)}(ok:HOk P w H h)(e:H a=A0 (.dK b)):b.length<=A9/\(a==AS)=A7/\∃d,KV b d/\h.DictOf (BQ P w) a d:=C_ ok (.inl e)
theorem Cj{ks:List Key}(ok:HOk P w H h)(e:H a=A0 (.tup (ks.map kV))):(tupleKind (BQ P w)).is h ks a:=by obtain⟨_,b,r,o,f,d,⟨n,g⟩,_⟩:=(show B7 P w H h a (.tup (ks.map kV))from ok a _ e);exact⟨o,b.toArray,n,f,d,g,by simpa using Lw r⟩
theorem CI{b:List (List Key×V)}(ok:HOk P w H h)(e:Rd H a (.dT b)):b.length<=A9/\(a==AS)=A7/\
  ∃f,KT H b f/\h.DictOfH (tupleKind (BQ P w)) a f:=by
 obtain⟨z,y,f,r,o,D,s,v,n,B,j,A⟩:=(show B7 P w H h a (.dT b)from Lx ok e);refine⟨z,y,f,r,o,D,s,v,n,B,j,λx d=>?_,A⟩;have g:∀{l:List (List Key×V)}{m:List (List Key×A4×A2)},KT H l m->∀x∈m,(tupleKind (BQ P w)).is h x.1 x.2.1:=by
  intro l m q;induction q with
  |nil=>intro x d;exact nomatch d
  | @cons p q G E i t C=>
   intro x d;rcases ap.mp d with e|d;.subst e;exact Cj ok (by rw[<-i.1];exact i.2.1)
   .exact C x d
 exact g r x d
theorem Lz{b:List (List Key×V)}(ok:HOk P w H h)(e:H a=A0 (.dT b)):b.length<=A9/\(a==AS)=A7/\
  ∃d,KT H b d/\h.DictOfH (tupleKind (BQ P w)) a d:=CI ok (.inl e)
end
def Bn(H:Hp)(a:A4)(y:V)(r:Option V):Prop:=
 (∃d k,Rd H a (.dK d)/\y=kV k/\r=Bl d k)\/∃d k b,Rd H a (.dT d)/\y=.ref b/\H b=A0 (.tup (k.map kV))/\r=Bl d k
def ED(H:Hp)(a:A4)(y v:V)(H':Hp):Prop:=
 (∃d k,H a=A0 (.dK d)/\y=kV k/\d.length<A9/\H'=upd H a (.dK (BX d k v)))\/
 ∃d k b,H a=A0 (.dT d)/\y=.ref b/\H b=A0 (.tup (k.map kV))/\d.length<A9/\H'=upd H a (.dT (BX d k v))
theorem Bn.k{H:Hp}{a:A4}{b:List (Key×V)}{k:Key}(e:H a=A0 (.dK b)):Bn H a (kV k) (Bl b k):=.inl ⟨b,k,.inl e,rfl,rfl⟩
theorem Bn.t{H:Hp}{a b:A4}{d:List (List Key×V)}{k:List Key}(e:H a=A0 (.dT d))(f:H b=A0 (.tup (k.map kV))):Bn H a (.ref b) (Bl d k):=.inr ⟨d,k,b,.inl e,rfl,f,rfl⟩
theorem ED.t{H:Hp}{a b:A4}{d:List (List Key×V)}{k:List Key}{v:V}(e:H a=A0 (.dT d))(g:H b=A0 (.tup (k.map kV)))(f:d.length<A9):
  ED H a (.ref b) v (upd H a (.dT (BX d k v))):=.inr ⟨d,k,b,e,rfl,g,f,rfl⟩
section
variable{X:Cx}{p_:List (A4×AT)}{σ:St}{H:Hp}{s:A5}{a:A4}{y v:V}{u r:A2}{o:Option V}{A:AN}{E:A2->A5->Prop}
theorem Inv.big(I:Inv X p_ σ H s):AS<s.heap.objs.size:=by have h:AQ<s.heap.objs.size:=(I.mod.glob.keeps I.bk).lt;exact Nat.lt_trans (by decide) h
theorem Uo{Q:A2->A5->Prop}(hu:A.units+1<Am)(I:Inv X p_ σ H s)(g:Bn H a y (A0 v))(x:B0 y u)(h:∀i t,Inv X p_ σ H t->B0 v i->Q i t):
  AA (AD X.prog X.w) A (getItem (.ref a) u) Q E s:=by
 rcases g with⟨q,k,e,m,l⟩|⟨q,k,b,e,m,D,l⟩;.subst m;obtain⟨z,C,J,d,j⟩:=C_ I.hok e;obtain⟨i,hw,f⟩:=CD.some_of (v:=v) (o:=valueAt J k) (by rw[l];exact d.val k);exact wpAny_getItem_of (Dh x) j.mapOf hw (h i _ (I.tok _) f)
 .subst m;cases(show u=A2.ref b from x);obtain⟨z,C,G,d,j⟩:=CI I.hok e;obtain⟨i,hw,f⟩:=CD.some_of (v:=v) (o:=(atKey G k).map (·.2)) (by rw[l];exact d.val k);obtain⟨p,B,n⟩:=aP.mp hw;refine wpAny_getItem_heap (tupleKind_room_in1 hu) (Cj I.hok D) j B ?_;rw[n];exact h i _ (I.tok _) f
theorem Up{Q:A2->A5->Prop}(hu:A.units+1<Am)(I:Inv X p_ σ H s)(g:Bn H a y o)(p:B0 y u)(h:∀n,Inv X p_ σ H n->Q (.bool o.isSome) n):
  AA (AD X.prog X.w) A (AU .In u (.ref a)) Q E s:=by
 rcases g with⟨m,k,e,i,l⟩|⟨m,k,b,e,i,t,l⟩;.subst i;obtain⟨z,j,B,d,f⟩:=C_ I.hok e;refine wpAny_in_of (Dh p) j f.mapOf ?_;rw[<-(d.val k).isSome_eq,<-l];exact h _ (I.tok _)
 .subst i;cases(show u=A2.ref b from p);obtain⟨z,j,x,d,f⟩:=CI I.hok e;refine wpAny_in_heap (tupleKind_room_in1 hu) (Cj I.hok t) j f ?_;have q:=(d.val k).isSome_eq;rw[Option.isSome_map]at q;rw[<-q,<-l];exact h _ (I.tok _)
theorem Uq{Q:A2->A5->Prop}(hu:A.units+1<Am)(I:Inv X p_ σ H s)(g:Bn H a y o)(p:B0 y u)(h:∀n,Inv X p_ σ H n->Q (.bool (!o.isSome)) n):
  AA (AD X.prog X.w) A (AU .NotIn u (.ref a)) Q E s:=by
 rcases g with⟨m,k,e,i,l⟩|⟨m,k,b,e,i,t,l⟩;.subst i;obtain⟨z,j,B,d,f⟩:=C_ I.hok e;refine wpAny_notIn_of (Dh p) j f.mapOf ?_;rw[<-(d.val k).isSome_eq,<-l];exact h _ (I.tok _)
 .subst i;cases(show u=A2.ref b from p);obtain⟨z,j,x,d,f⟩:=CI I.hok e;refine wpAny_notIn_heap (tupleKind_room_in1 hu) (Cj I.hok t) j f ?_;have q:=(d.val k).isSome_eq;rw[Option.isSome_map]at q;rw[<-q,<-l];exact h _ (I.tok _)
theorem L_{h':AM}{t':Nat}{f:HO}(I:Inv X p_ σ H s)(g:Mut (H a))(hs:bP a s.heap h')(h:∃q,h'.get? a=A0 q)(d:B7 X.prog X.w (upd H a f) h' a f):
  Inv X p_ σ (upd H a f) {s with heap:=h',toks:=t'}:=
 I.write (x:=a) (e:=a) g (.inl rfl) (λb q i z=>(hs.2 b i).trans z) h d
theorem Ur{P:AC}{w:AL}{H':Hp}{h':AM}{b:List (Key×V)}{vs:List (Key×A2)}(z:b.length<=A9)(e:(a==AS)=A7)(d:KV b vs)(f:h'.DictOf (BQ P w) a vs):
  B7 P w H' h' a (.dK b):=⟨z,e,vs,d,f⟩
theorem Us{H':Hp}{Q:Unit->A5->Prop}(hu:A.units+1<Am)(I:Inv X p_ σ H s)(g:ED H a y v H')(M:B0 y u)(D:B0 v r)(h:∀G,Inv X p_ σ H' G->Q () G):
  AA (AD X.prog X.w) A (setItem (.ref a) u r) Q E s:=by
 rcases g with⟨f,k,e,t,l,m⟩|⟨f,k,b,e,t,K,l,m⟩
 .subst t m;obtain⟨z,x,Z,d,n⟩:=Ly I.hok e;have C:Z.length<=A9:=by rw[<-d.length];exact z
  have B:(BX f k v).length<=A9:=by have:=Ij f k v;omega
  refine wpAny_setItem_pairs (hsz:=C) (Dh M) n λL i p=>h _ ?_;have U:∃q,L.get? a=A0 q:=let⟨q,_,_,j,_⟩:=i;⟨q,j⟩;exact L_ I (by rw[e];exact True.intro) p U (Ur B x (d.put k D) i)
 .subst t m;cases(show u=A2.ref b from M);obtain⟨z,x,Y,d,n⟩:=Lz I.hok e;have C:Y.length<=A9:=by rw[<-Ah d];exact z
  have B:(BX f k v).length<=A9:=by have:=Ij f k v;omega
  refine wpAny_setItem_heap (hsz:=C) (tupleKind_room_in1 hu) (Cj I.hok K) n λL i p=>h _ ?_;obtain⟨q,T,P,j,O,S,N,_,R⟩:=i;refine L_ I (by rw[e];exact True.intro) p ⟨q,j⟩ ⟨B,x,_,(d.put k K D).keeps λc ys J=>?_,q,T,P,j,O,S,N,R⟩;rw[Ay (RN J e (λz=>nomatch z))];exact J
end
section
variable{X:Cx}{p_:List (A4×AT)}{σ:St}{H:Hp}{s:A5}{a:A4}{kvs:List (Key×V)}{k:Key}{u:A2}{A:AN}{E:A2->A5->Prop}
theorem Ut{Q:A2->A5->Prop}(I:Inv X p_ σ H s)(e:Rd H a (.dK kvs))(h:∀t d,Inv X p_ σ H d->Q (.int kvs.length t) d):AA (AD X.prog X.w) A (call (.builtin "len") [.ref a]) Q E s:=by obtain⟨z,f,i,b,g⟩:=C_ I.hok e;refine call_len_dict f g (by rw[<-b.length];rw[sizeLine_eq]at z;omega) ?_;rw[<-b.length];exact h _ _ (I.tok _)
end
def Ik(i:A8):Prop:=∀a b,subscripted i A7 a b=operate [a,b] (getItem a b)
theorem M0{prog:AC}{w:AL}{A:AN}{E:A2->A5->Prop}{s:A5}{env:Env}{b a:A8}{pos:Pos}{T id:String}{Q:A2->A5->Prop}
  (n:typeLookup (.type T) "__getitem__"=pure (A0 (.builtin id)))(hs:Ik a)
  (h:AA (AD prog w) A (Ac b env) (λo g=>AA (AD prog w) A (Ac a env) (λi d=>d.TypeIs o T/\AA (AD prog w) A (getItem o i) Q E d) E g) E s):
  AA (AD prog w) A (Ac (.Subscript b a pos) env) Q E s:=by
 refine Subscript_ (cX h (λo g l=>cX l (λi d e=>?_) λ_ _ x=>x) λ_ _ x=>x);obtain⟨hT,e⟩:=e;unfold subscriptTail;refine aa ?_;rw[getitemInPython_of_ne hT.not_modules];refine aa (cy hT n ?_);have j:AA (AD prog w) A (subscripted a A7 o i) (λr f=>AA (AD prog w) A (letTemporaryGo b o r>>=λ_=>pure r) Q E f) E d:=by rw[hs o i];exact wpAny_operating (cX e (λr f m=>aa (wpAny_letTemporaryGo (af m))) λ_ _ x=>x)
 first
  |exact af (aa j)
  |exact aa (af (aa j))
  |exact aa j
theorem Uu{X:Cx}{h:List (A4×AT)}{σ:St}{H:Hp}{s:A5}{a:A4}{y:V}{o:Option V}(I:Inv X h σ H s)(g:Bn H a y o):s.TypeIs (.ref a) "dict":=by
 rcases g with⟨f,k,e,_,_⟩|⟨f,k,b,e,_,_,_⟩;.obtain⟨_,_,j,_,d⟩:=C_ I.hok e;exact d.typeIs
 .obtain⟨_,_,i,_,d⟩:=CI I.hok e;exact d.typeIs
def Il(e ty:TE):TE:=λb H Q=>e b H λx f=>ty b f λy d=>∃a v,x=.ref a/\Bn d a y (A0 v)/\Q v d
section
variable{X:Cx}{o i e value:A8}{pos pos' tpos:Pos}{td ty tv:TE}
theorem Uv(hu:X.A.units+1<Am)(r:PE X o td)(hi:PE X i ty)(hs:Ik i):PE X (.Subscript o i pos) (Il td ty):=by intro d s j H Q I h;refine M0 PySem.F.slot_dict_getitem.lookup hs (thn (r d s j H _ I h) λu n⟨x,B,C,t,m⟩=>thn (hi d n j B _ C m) λG J⟨y,q,f,D,a,v,p,g,w⟩=>?_);subst p;obtain rfl:u=A2.ref a:=t;exact⟨Uu f g,Uo hu f g D λK E l b=>⟨v,q,l,b,w⟩⟩
end
theorem Uw{P:AC}{w:AL}{H:Hp}(h:AM)(a:AS<h.objs.size):B7 P w H (h.push {cls:=.type "dict",data:=.dict #[]}) h.objs.size (.dK []):=
 ⟨aJ _,beq_eq_false_iff_ne.mpr (Ne.symm (az a)),[],.nil,AM.DictOf.new h⟩
theorem Ux{P:AC}{w:AL}{H:Hp}(h:AM)(a:AS<h.objs.size):B7 P w H (h.push {cls:=.type "dict",data:=.dict #[]}) h.objs.size (.dT []):=
 ⟨aJ _,beq_eq_false_iff_ne.mpr (Ne.symm (az a)),[],.nil,_,#[],0,au _ rfl,⟨rfl,rfl,rfl⟩,rfl,rfl,dg⟩
def Im:TE:=λ_ H Q=>∀p,H p=A6->Q (.ref p) (upd H p (.dK []))
def Io:TE:=λ_ H Q=>∀p,H p=A6->Q (.ref p) (upd H p (.dT []))
section
variable{X:Cx}{pos:Pos}
theorem Uy:PE X (.Dict [] [] pos) Im:=λd s b H Q I h=>
 wpAny_Dict_empty ⟨.ref s.heap.objs.size,_,I.laid (a:=s.heap.objs.size) (o:=.dK []) (t':=s.toks) (λ_ _ q=>ag _ q) (ah _) (Uw s.heap I.big),rfl,h _ (I.hok.fresh (ah _))⟩
theorem Uz:PE X (.Dict [] [] pos) Io:=λd s b H Q I h=>
 wpAny_Dict_empty ⟨.ref s.heap.objs.size,_,I.laid (a:=s.heap.objs.size) (o:=.dT []) (t':=s.toks) (λ_ _ q=>ag _ q) (ah _) (Ux s.heap I.big),rfl,h _ (I.hok.fresh (ah _))⟩
end
structure M1(X:Cx)(o:A8)(m:AI)(apos:Pos)(e:A8)(cpos:Pos):Prop where
 base:attributeBase o m X.env (Ac o X.env)=Ac o X.env
 few:((backTo cpos (AY [e] X.env)).all (λx=>!x.1)&&(backToKw cpos (keywordEach [] X.env)).all (λx=>x.1.isSome)
  &&decide (([e]:List A8).length+([]:List Keyword).length+(if([]:List Keyword).isEmpty then 0 else 1)<30))=A3
 line:(apos.endLine==cpos.line)=A3
 trees:backTo cpos (AY [e] X.env)=[(A7,Ac e X.env)]
def IsD(H:Hp)(a:A4):Prop:=(∃b,Rd H a (.dK b))\/∃b,Rd H a (.dT b)
theorem M2{X:Cx}{m:List (A4×AT)}{σ:St}{H:Hp}{s:A5}{a:A4}(I:Inv X m σ H s)(d:IsD H a):
  s.TypeIs (.ref a) "dict"/\(∀b,A2.ref a=.ref b->∃f,s.heap.get? b=A0 f/\f.dict=A6)/\(a==AS)=A7:=by
 rcases d with⟨l,e⟩|⟨l,e⟩;.obtain⟨_,i,o,_,g⟩:=C_ I.hok e;refine⟨g.typeIs,λb q=>?_,i⟩;cases q;obtain⟨f,_,_,j,h,_⟩:=g;exact⟨f,j,h.2.1⟩
 .obtain⟨_,i,n,_,g⟩:=CI I.hok e;refine⟨g.typeIs,λb q=>?_,i⟩;cases q;obtain⟨f,_,_,j,h,_⟩:=g;exact⟨f,j,h.2.1⟩
section
variable{X:Cx}{p_:List (A4×AT)}{σ:St}{H:Hp}{s:A5}{a:A4}{y d:V}{u r:A2}{o:Option V}{A:AN}{E:A2->A5->Prop}
theorem U_{Q:A2->A5->Prop}(hu:A.units+1<Am)(I:Inv X p_ σ H s)(g:Bn H a y o)(q:B0 y u)(h:∀t p,Inv X p_ σ H p->B0 (o.getD .non) t->Q t p):
  AA (AD X.prog X.w) A (call (.builtin "dict.get") [.ref a,u]) Q E s:=by
 rcases g with⟨n,k,e,j,l⟩|⟨n,k,b,e,j,v,l⟩;.subst j;obtain⟨z,m,B,f,i⟩:=C_ I.hok e;refine call_meetsIn PySem.F.slot_dict_get i.typeIs PySem.F.entry_dict_get (PySem.F.args_dict_get_2 _ _) (meets_dict_get (BQ X.prog X.w) a (Dh q) m) ⟨_,i.mapOf,h _ _ (I.tok _) ?_⟩;rw[l];exact(f.val k).getD rfl
 .subst j;cases(show u=A2.ref b from q);obtain⟨z,m,x,f,i⟩:=CI I.hok e;refine call_meetsIn PySem.F.slot_dict_get i.typeIs PySem.F.entry_dict_get (PySem.F.args_dict_get_2 _ _) (meetsH_dict_get (tupleKind (BQ X.prog X.w)) a b m) ⟨tupleKind_room_in1 hu,k,x,Cj I.hok v,i,h _ _ (I.tok _) ?_⟩;rw[l];exact(f.val k).getD rfl
end
section
variable{X:Cx}
theorem V0:BI X (.builtin "len") (λd H Q=>∃a b,d=[V.ref a]/\H a=A0 (.dK b)/\Q (.int b.length) H):=by intro j s m H d i Q I r h;obtain⟨a,b,rfl,e,q⟩:=h;obtain⟨u,rfl,g⟩:=CP r;cases g;exact Ut I (.inl e) λt l f=>⟨.int b.length,H,f,⟨t,rfl⟩,q⟩
end
section
variable{X:Cx}{tg:A8}
theorem V1:Aq "reversed"=A0 (.type "reversed"):=⋯
end
section
variable{X:Cx}
theorem V2{i:Int}(h:0<=i):AK.bitAnd i 1=i%2:=by rw[PyProof.Rows.bitAnd_pp h (by decide)];have e:(1:Int).toNat=1:=rfl;rw[e,Nat.and_one_is_mod];omega
theorem V3:OpR X (Ap .BitAnd) (rI (λi j=>0<=i/\j=1) λi _=>.int (i%2)):=by intro d s f H x y v u Q I e g h;obtain⟨i,j,rfl,rfl,⟨b,rfl⟩,q⟩:=h;refine SL d s f H _ _ v u Q I e g ⟨i,1,rfl,rfl,?_⟩;have a:Q (.int (i%2)) H:=q;rw[<-V2 b]at a;exact a
def inT(x y:AI):Bool:=!(AK.Str.occurrences x y 0 x.length 1).isEmpty
def Fl(neg:Bool):R2:=λx y H Q=>∃a b,x=.str a/\y=.str b/\Q (.bl (if neg then !inT b a else inT b a)) H
theorem V4:OpR X (AU .In) (Fl A7):=by intro f s i H x y v u Q I d e h;obtain⟨a,b,rfl,rfl,q⟩:=h;obtain⟨t,rfl⟩:=d;obtain⟨g,rfl⟩:=e;exact in_str ⟨.bl _,H,I,rfl,q⟩
theorem V5:OpR X (AU .NotIn) (Fl A3):=by intro g s j H x y v u Q I d f h;obtain⟨a,b,rfl,rfl,q⟩:=h;obtain⟨t,rfl⟩:=d;obtain⟨i,rfl⟩:=f;have e:Q (.bl (!inT b a)) H:=q;refine notIn_str ⟨.bl (!inT b a),H,I,?_,e⟩;show A2.bool _=A2.bool _;simp[inT]
end
def SD(h h':AM):Prop:=∀(b:A4)(o:AT),h.objs[b]?=A0 o->∃a:AT,h'.objs[b]?=A0 a/\a.dict=o.dict
def V6(h:AM)(e:A4)(cls:A2)(T:A4)(i:Option A4):Prop:=∃a b f d g,h.get? e=A0 a/\(a.cls=cls/\b[0]?=A0 g)/\a.data=.fields b/\b[1]?=A0 (.ref T)/\T≠e/\h.get? T=A0 f/\f.data=.fields d/\d[3]?=A0 .none/\a.dict=i
set_option tactic.hygienic true in
theorem V7{K:W.Frag}{cd:A2}{q:AI}(e:W.codeIn K cd q=A3):W.kdsCode K cd=A3:=by
 unfold W.codeIn at e;unfold W.kdsCode;split at e
 .split at e;.rename_i h;dsimp only;rw[h]
  .cases e
 .cases e
structure FnCx(X:Cx):Prop where
 ex:X.ex=[]
 fn:∀x,X.fn x=A3
 stk:X.stack=X.env::X.outer
 fr:X.env.frame=A0 X.env.locals
 cd:W.kdsCode X.K X.env.code=A3
section
variable{X:Cx}{p_:List (A4×AT)}{σ:St}{H:Hp}{s:A5}
def CX1(P:AC)(w:AL)(mg:AI->Option A2):CXT:=λa H s E e b=>∃(f T g:A4)(i:AI)(h:Option A4)(d:Hp),e=.ref f/\mg i=A0 (.ref g)/\b.os=s.os/\AllBare b.gens/\Un (frs a) [] H d s.heap b.heap/\HOk P w d b.heap/\
 V6 b.heap f (.ref g) T h/\d f=A6/\d T=A6/\s.heap.get? f=A6/\s.heap.get? T=A6/\E (.str i 0) h d
end
def bmV:List A2:=[.type "ValueError",.type "Exception",.type "BaseException",.type "object"]
open PySem.W
def M3:Option Int->A2->Bool
 |A0 k,v=>A2.isInt k v
 |A6,.none=>A3
 |A6,_=>A7
theorem Ck:∀{k:Option Int}{v:A2},M3 k v=A3->(∃i t,k=A0 i/\v=A2.int i t)\/(k=A6/\v=A2.none)
 |A0 i,v,h=>by obtain⟨t,e⟩:=A2.isInt_shape (k:=i) (v:=v) h;exact .inl ⟨i,t,rfl,e⟩
 |A6,v,h=>by cases v<;>first|exact .inr ⟨rfl,rfl⟩|cases h
def okH:Option Int->Int
 |A0 k=>hashInt k
 |A6=>0xFCA86420
def DL(prog:AC)(w:AL):PySem.KeyKind prog w (Option Int)where
 is:=M3
 hash:=okH
 inj:=λv a b g f=>by
  rcases Ck g with⟨i,t,rfl,rfl⟩|⟨rfl,rfl⟩
  .rcases Ck f with⟨j,u,rfl,e⟩|⟨rfl,e⟩;.injection e with l _;rw[l]
   .exact nomatch e
  .rcases Ck f with⟨j,u,rfl,e⟩|⟨rfl,e⟩;.exact nomatch e
   .rfl
 byValue:=λk v h=>by rcases Ck h with⟨i,t,rfl,rfl⟩|⟨rfl,rfl⟩<;>rfl
 pyHash:=λd h=>by
  rcases Ck d with⟨i,t,rfl,rfl⟩|⟨rfl,rfl⟩;.exact wpAny_pyHash_int h
  .exact FY h
 eqBool:=λ{A E s a b u v Q}hu d h=>by
  rcases Ck hu with⟨i,t,rfl,rfl⟩|⟨rfl,rfl⟩
  .rcases Ck d with⟨j,u,rfl,rfl⟩|⟨rfl,rfl⟩
   .have e:decide ((A0 i:Option Int)=A0 j)=(i==j):=by
     by_cases q:i=j;.subst q;simp
     .rw[decide_eq_false (λz=>q (Option.some.inj z)),(beq_eq_false_iff_ne.mpr q)]
    rw[e]at h;exact wpAny_eqBool_int h
   .exact SeqAt.EqAt.int_none i t _ _ _ _ h
  .rcases Ck d with⟨j,u,rfl,rfl⟩|⟨rfl,rfl⟩;.exact SeqAt.EqAt.none_int j u _ _ _ _ h
   .exact SeqAt.EqAt.same .none _ _ _ _ h
 «strs»:=λk x t v h=>by rcases Ck h with⟨i,u,rfl,e⟩|⟨rfl,e⟩<;>exact nomatch e
end L2
namespace PySem
open PyProof.Rows
section
variable{prog:AC}{w:AL}{K:Type} [DecidableEq K]{knd:KeyKind prog w K}{A:AN}{E:A2->A5->Prop}{s:A5}
def C6(a:Bool):AT:={cls:=.type "set",dict:=A6,data:=.set #[] 0 (.fresh 0 0 a)}
theorem M4:(C6 (!(w.params.followText "set-order"))).SetIt knd (λ_=>A7) 0:=
 ⟨#[],0,_,⟨rfl,rfl,rfl⟩,rfl,λe a=>by simp at a,λk=>by simp,by decide,by rfl,rfl,by simp[Dst],by
  cases h:w.params.followText "set-order"with
  |true=>exact .inl rfl
  |false=>exact .inr ⟨rfl,by unfold Rsn;exact List.Pairwise.nil⟩⟩
theorem V8{Q:A2->A5->Prop}(h:Q (.ref s.heap.objs.size) {s with heap:=s.heap.push (C6 (!(w.params.followText "set-order")))}):AA (AD prog w) A (newSet (.type "set")) Q E s:=by unfold newSet setsByText;refine aa (aa (bL (af ?_)));exact aS h
theorem V9(a:A2){Q1:A2->A5->Prop}(h:Q1 (.ref s.heap.objs.size) {s with heap:=s.heap.push (C6 (!(w.params.followText "set-order")))}):
  codeAny (AD prog w) A (.call (.builtin "set.__new__") ⟨[.type "set",a],[]⟩) (wants Q1 E) s:=by refine codeAny_of_tree ?_;show AA _ A.in1 (checkBuiltinCall "set.__new__" ⟨[.type "set",a],[]⟩>>=λ_=>again (.builtin "set.__new__" ⟨[.type "set",a],[]⟩)) _ _ s;refine aa (bZ (F.newCall_set_1 a) (af ⟨plainId_quiet F.plain_set_new _,Ad F.entry_set_new ?_⟩));rw[AN.under_plainId F.plain_set_new _];unfold AK.«set.__new__»AK.Frozenset.newClass;have b:=sub_set_self;obtain⟨e,g,d,i,f⟩:=s;dsimp only;wp_walk;refine bL (af ?_);dsimp only;simp only[newObj];exact aa (wpAny_alloc (af (af h)))
set_option maxHeartbeats 3200000 in
theorem VA{l:A4}{its:Array A2}{Q:A2->A5->Prop}(Res:AM->Prop)(hh:A.handled=A6)(hl:s.heap.IsList l its)
  (lp:∀(A1:AN)(R:Result->A5->Prop)(h1:AM)(I:A4)(St:Nat->A5->Prop),A1.in1.units<=A.units+16->(∀b o,s.heap.get? b=A0 o->h1.get? b=A0 o)->h1.get? s.heap.objs.size=A0 (C6 (!(w.params.followText "set-order")))->s.heap.objs.size∉[I,l]->s.heap.objs.size<I->
   WalksS prog w A1.in1 I [I,l] [I] (λa b=>b=a) its.size (λi v=>its[i]?=A0 v) St->St 0 {s with heap:=h1}->(∀s',Moved [s.heap.objs.size,I] (λa b=>b=a) {s with heap:=h1} s'->Res s'.heap->R (.ok (.ret .none)) s')->codeAny (AD prog w) A1 (.builtin "set.update.loop" ⟨[.ref s.heap.objs.size,.ref I],[]⟩) R {s with heap:=h1})
  (hr0:∀h',Res h'->∃o,h'.get? s.heap.objs.size=A0 o)
  (h:∀(h':AM)(tk:Nat),Res h'->(∀b o,b<s.heap.objs.size->s.heap.get? b=A0 o->h'.get? b=A0 o)->s.heap.objs.size<h'.objs.size->Q (.ref s.heap.objs.size) {s with heap:=h',toks:=tk}):
  AA (AD prog w) A (call (.type "set") [.ref l]) Q E s:=by
 obtain⟨c,tl,hmro⟩:=F.called_set.mro;have hmade:=F.called_set.made;have hsub:=F.called_set.sub;refine wpAny_call (codeAny_of_tree ?_);show AA _ _ (callAny (.type "set") _) _ _ _;refine af ⟨Code.quiet_builtin _ ⋯,Ad F.entry_type_call ?_⟩;rw[AN.under_plain (weight_type_call_type "set" [.ref l] []) rfl];have h1:=F.called_set.notType;have h2:=F.called_set.canCreate;have hct:=F.typeCall_set_1 (.ref l);repeat(any_goals(first|assumption|wp_step))
 refine Ai (V9 (.ref l) (E:=E) (Q1:=λv s1=>v=.ref s.heap.objs.size/\s1={s with heap:=s.heap.push (C6 (!(w.params.followText "set-order")))}) ⟨rfl,rfl⟩) λr s1 hr=>?_;generalize(!(w.params.followText "set-order"))=led at hr lp;cases r with
 |error e=>exact hr
 |ok fl=>
  cases fl with
  |ret v=>
   obtain⟨rfl,rfl⟩:=hr;have hS:(s.heap.push (C6 led)).get? s.heap.objs.size=A0 (C6 led):=au _ rfl;have hT:A5.TypeIs {s with heap:=s.heap.push (C6 led)} (.ref s.heap.objs.size) "set":=⟨_,hS,rfl⟩;have hli:=F.called_set.init.lookup;have hbi:=F.called_set.init.bind (.ref s.heap.objs.size);repeat(any_goals(first|assumption|wp_step))
   refine Ai (codeAny_call_builtin (R:=wants (λr s2=>r=.none/\∃h' tk,s2={s with heap:=h',toks:=tk}/\Res h'/\
     ∀b o,b<s.heap.objs.size->s.heap.get? b=A0 o->h'.get? b=A0 o) E) F.called_set.init.plain F.entry_set_init (check_set_init_1 hT ?_)) λr2 s2 hr2=>?_
   .obtain⟨ol,hol,hcl,nl,hdl⟩:=hl;obtain⟨oc,od,odt,osl⟩:=ol;simp only at hcl hdl;subst hcl;subst hdl;have hol':(s.heap.push (C6 led)).get? l=A0 {cls:=.type "list",dict:=od,data:=.seq its nl,slots:=osl}:=ag _ hol;have q1:=F.sub_list_set;have q2:=F.sub_list_frozenset;have q3:(A2.type "list"==A2.type "dict")=A7:=by decide
    have hl1:(s.heap.push (C6 led)).IsList l its:=⟨_,hol',rfl,nl,rfl⟩;unfold AK.«set.__init__»noKeywords AK.Frozenset.updateFrom;unfold C6 at*;generalize hPI:pyIter=PI;wp_walk;subst hPI;refine dz hl1 ?_;refine aa (wpAny_runValue ?_);have hlS:l<s.heap.objs.size:=aq hol;have hh3:A.in1.in1.in1.handled=A6:=by simp[hh]
    have n1:l≠(s.heap.push (C6 led)).objs.size:=by rw[bu];exact az (bE hlS)
    have n2:s.heap.objs.size∉[(s.heap.push (C6 led)).objs.size,l]:=by rw[bu];simp only[ap,av,or_false,not_or];exact⟨az (cC _),bJ hlS⟩
    refine lp _ _ _ _ _ (by simp) (λb o e=>ag _ (ag _ e)) (ag _ hS) n2 (by rw[bu];exact cC _) ((Walks.list hh3 _ l n1 its).toS) ⟨⟨_,au _ rfl,rfl,rfl⟩,hl1.push _⟩ λs' hm hi'=>?_;obtain⟨h',g',d',tk',os'⟩:=s';have eg:g'=s.gens:=hm.gens;have ed:d'=s.drawn:=hm.drawn;have eo:os'=s.os:=hm.os;subst eg;subst ed;subst eo;refine af ?_;show AA _ _ (ret A2.none) _ _ _;refine af ⟨rfl,h',tk',rfl,hi',λb o hb' e=>?_⟩;refine hm.heap b o ?_ (ag _ (ag _ e));simp only[ap,av,or_false,not_or];rw[bu];exact⟨az hb',az (bE hb')⟩
   .cases r2 with
    |error e=>exact hr2
    |ok fl2=>
     cases fl2 with
     |ret r=>
      obtain⟨rfl,h',tk,rfl,hS',hk'⟩:=hr2;repeat(any_goals(first|assumption|wp_step))
      exact h _ _ hS' hk' (by obtain⟨o,ho⟩:=hr0 _ hS';exact aq ho)
     |_=>exact hr2.elim
  |_=>exact hr.elim
end
end PySem
namespace L2
open PySem PySem.Spec PyProof.Rows
section
variable{X:Cx}
def VB(x y:AI):Bool:=decide (y.cps.toList<x.cps.toList)
def M5:R2:=λx y H Q=>∃a b,x=.str a/\y=.str b/\Q (.bl (VB a b)) H
theorem VC:OpR X (AU .Gt) M5:=by intro f s i H x y v u Q I d e h;obtain⟨a,b,rfl,rfl,k⟩:=h;obtain⟨t,rfl⟩:=d;obtain⟨g,rfl⟩:=e;exact PySem.P.gt_str ⟨.bl _,H,I,rfl,k⟩
def Fm(neg:Bool):R2:=λ_ _ _ _=>False
open PySem.SeqAt in
theorem VD(hu:X.A.units+64<Am):OpR X (AU .Eq) (Fm A7):=λ_ _ _ _ _ _ _ _ _ _ _ _ h=>h.elim
open PySem.SeqAt in
theorem VE(hu:X.A.units+64<Am):OpR X (AU .NotEq) (Fm A3):=λ_ _ _ _ _ _ _ _ _ _ _ _ h=>h.elim
end
section
variable{X:Cx}
def M6(K:W.Frag):R2:=λ_ _ _ _=>False
theorem VF:OpR X (Ap .Add) (M6 X.K):=λ_ _ _ _ _ _ _ _ _ _ _ _ h=>h.elim
end
open PySem.Calls PySem.NumText
def B2(x:PySem.Str)(n:Int):Prop:=(x.cps.all (· <128))=A3/\(x.cps.toList.takeWhile (·!=0)).length<=640/\(int_private%"readNumeral") 0 2 (x.cps.toList.takeWhile (·!=0))=(int_private%"Numeral.value") n/\((x.cps.toList.takeWhile (·!=0)).length==x.cps.toList.length)=A3
end L2
namespace PySem
namespace F
theorem M7:Manifest.owners.lookup (String.ofList ['d','e','s','r','e','v','e','r'].reverse)=A0 Manifest.sig_reversed:=by kernel_rfl
theorem VG:Slot "reversed" "__init__" "object.__init__":=
 .of (owner:="object") (n:="__init__") (by rw[Av,Af];kernel_rfl) ⋯ ⋯ ⋯
  (by first|exact .inl ⋯|exact .inr ⋯) (by rw[As];kernel_rfl)
theorem Eh:Slot "reversed" "__next__" "reversed.__next__":=
 .of (owner:="reversed") (n:="__next__") (by rw[Av,Af];kernel_rfl) ⋯ ⋯ ⋯
  (by first|exact .inl ⋯|exact .inr ⋯) (by rw[As];kernel_rfl)
theorem M8:entryFor table "reversed.__next__"=A0 AK.«reversed.__next__»:=entryFor_of_tree (by kernel_rfl)
theorem M9:Slot "reversed" "__iter__" "reversed.__iter__":=
 .of (owner:="reversed") (n:="__iter__") (by rw[Av,Af];kernel_rfl) ⋯ ⋯ ⋯
  (by first|exact .inl ⋯|exact .inr ⋯) (by rw[As];kernel_rfl)
theorem VH:entryFor table "reversed.__iter__"=A0 AK.«dict_keyiterator.__iter__»:=
 entryFor_alias (id':="dict_keyiterator.__iter__") (by kernel_rfl) (by first|rfl|decide+kernel|(unfold String.splitOn;simp+decide [String.splitOnAux])) ⋯ (by kernel_rfl)
theorem MA(a:A2):argsOk "reversed.__next__" ⟨[a],[]⟩:=by unfold argsOk;rw[signature?_of (id:="reversed.__next__") (n:=['_','_','t','x','e','n','_','_']) (o:=['d','e','s','r','e','v','e','r']) (by kernel_rfl) M7];kernel_rfl
theorem VI(a:A2):argsOk "reversed.__iter__" ⟨[a],[]⟩:=by unfold argsOk;rw[signature?_of (id:="reversed.__iter__") (n:=['_','_','r','e','t','i','_','_']) (o:=['d','e','s','r','e','v','e','r']) (by kernel_rfl) M7];kernel_rfl
theorem VJ:TypeCalled "reversed" "reversed.__new__" "object.__init__":=
 ⟨⋯,⋯,⟨_,_,mro_reversed⟩,made_reversed,⋯,sub_reversed_self,VG⟩
end F
open PyProof.Rows
theorem MB{h h':AM}{t:A4}{items:Array A2}(x:IsTup h t items)(k:∀o,h.get? t=A0 o->h'.get? t=A0 o):IsTup h' t items:=let⟨o,a,r⟩:=x;⟨o,k o a,r⟩
open PyProof.Rows
namespace F
theorem MC:Manifest.owners.lookup (String.ofList ['r','o','t','a','r','e','t','i','_','t','e','s'].reverse)=A0 Manifest.sig_set_iterator:=by kernel_rfl
theorem DM:Slot "set_iterator" "__next__" "set_iterator.__next__":=
 .of (owner:="set_iterator") (n:="__next__") (by rw[Av,Af];kernel_rfl) ⋯ ⋯ ⋯
  (by first|exact .inl ⋯|exact .inr ⋯) (by rw[As];kernel_rfl)
theorem MD:entryFor table "set_iterator.__next__"=A0 AK.«set_iterator.__next__»:=entryFor_of_tree (by kernel_rfl)
theorem ME:Slot "set_iterator" "__iter__" "set_iterator.__iter__":=
 .of (owner:="set_iterator") (n:="__iter__") (by rw[Av,Af];kernel_rfl) ⋯ ⋯ ⋯
  (by first|exact .inl ⋯|exact .inr ⋯) (by rw[As];kernel_rfl)
theorem VL:entryFor table "set_iterator.__iter__"=A0 AK.«dict_keyiterator.__iter__»:=
 entryFor_alias (id':="dict_keyiterator.__iter__") (by kernel_rfl) (by first|rfl|decide+kernel|(unfold String.splitOn;simp+decide [String.splitOnAux])) ⋯ (by kernel_rfl)
theorem MF(a:A2):argsOk "set_iterator.__next__" ⟨[a],[]⟩:=by unfold argsOk;rw[signature?_of (id:="set_iterator.__next__") (n:=['_','_','t','x','e','n','_','_']) (o:=['r','o','t','a','r','e','t','i','_','t','e','s']) (by kernel_rfl) MC];kernel_rfl
theorem VM(a:A2):argsOk "set_iterator.__iter__" ⟨[a],[]⟩:=by unfold argsOk;rw[signature?_of (id:="set_iterator.__iter__") (n:=['_','_','r','e','t','i','_','_']) (o:=['r','o','t','a','r','e','t','i','_','t','e','s']) (by kernel_rfl) MC];kernel_rfl
theorem VN:entryFor table "set.__iter__"=A0 AK.«frozenset.__iter__»:=
 entryFor_alias (id':="frozenset.__iter__") (by kernel_rfl) (by first|rfl|decide+kernel|(unfold String.splitOn;simp+decide [String.splitOnAux])) ⋯ (by kernel_rfl)
end F
def Heap.IsSti(h:AM)(a d:A4)(f:A2)(i n b:Nat):Prop:=∃o,h.get? a=A0 o/\o.cls=.type "set_iterator"/\o.data=.fields #[f,AZ i,.ref d,AZ n,AZ b]
theorem Heap.IsSti.at{h h':AM}{a d:A4}{f:A2}{i n b:Nat}(x:h.IsSti a d f i n b)(e:∀o,h.get? a=A0 o->h'.get? a=A0 o):h'.IsSti a d f i n b:=let⟨o,g,r⟩:=x;⟨o,e _ g,r⟩
def Ord(b:Bool)(w:AL)(d e:Nat)(es:Array (Int×A2))(t:AB)(xs:Array A2)(h:AM)(f:A2)(i:Nat):Prop:=
 (b=A3/\f=AZ 0/\xs=(pickOrder (w.params.setOrder d e) es).map (·.2))\/
 (b=A7/\(!t.plain&&decide (es.size>1))=A7/\Rsn t.place/\f=AZ (if i=0 then 0 else((t.place.getD (i-1) 0+1:Nat):Int))/\xs=es.map (·.2))\/
 (b=A7/\∃(T:A4)(a:Array Nat),f=.ref T/\IsTup h T (a.map λ(j:Nat)=>AZ j)/\xs.size=a.size/\∀(j p:Nat),a[j]?=A0 p->∃x:Int×A2,es[p]?=A0 x/\xs[j]?=A0 x.2)
section
variable{prog:AC}{w:AL}{A:AN}{E:A2->A5->Prop}{s:A5}
theorem Heap.IsSti.typeIs{a d:A4}{f:A2}{i n e:Nat}(x:s.heap.IsSti a d f i n e):s.TypeIs (.ref a) "set_iterator":=let⟨o,b,g,_⟩:=x;⟨o,b,g⟩
theorem VO{it d:A4}{f:A2}{i n b:Nat}{Q:A2->A5->Prop}(a:s.heap.IsSti it d f i n b)(h:Q (.ref it) s):AA (AD prog w) A (pyIter (.ref it)) Q E s:=by refine wpAny_pyIter_slot a.typeIs F.ME (aV F.ME a.typeIs F.VL ?_ (F.VM _));show AA _ _ (ret (.ref it)) _ _ s;exact af ⟨_,rfl,"set_iterator",_,a.typeIs,F.DM.lookup,h⟩
theorem MG{xs:Array Nat}(a:Rsn xs){i:Nat}(hi:i<=xs.size):AB.below xs (Int.toNat (if i=0 then 0 else((xs.getD (i-1) 0+1:Nat):Int)))=i:=by
 by_cases d:i=0
 .subst d;rw[if_pos rfl];obtain⟨f,b,e⟩:=Ec a (Int.toNat 0);by_cases h:AB.below xs (Int.toNat 0)=0;.exact h
  .exact absurd (b 0 ⋯ ⋯) (by simp)
 .rw[if_neg d,bg];have g:xs.getD (i-1) 0=xs[i-1]'⋯:=by simp[Array.getD,show i-1<xs.size by omega]
  rw[g];obtain⟨f,b,e⟩:=Ec a (xs[i-1]'⋯+1);refine Nat.le_antisymm (Nat.le_of_not_lt λz=>?_) (Nat.le_of_not_lt λz=>?_);.have l:=b i ⋯ z;have m:=DJ a (i:=i-1) (j:=i) ⋯ ⋯;omega
  .have l:=e (i-1) ⋯ ⋯;omega
theorem Ip{b:Type}:∀(l:List b)(i:Nat)(h:i<l.length),(l[i]::l.eraseIdx i).Perm l
 |a::l,0,h=>List.Perm.refl _
 |a::l,i+1,h=>by rw[List.eraseIdx_cons_succ,List.getElem_cons_succ];exact(List.Perm.swap a _ _).trans ((Ip l i (by simpa using h)).cons a)
theorem MH{d:Type}(f:Nat->Nat):∀(n k:Nat)(l:List d)(a:Array d),n=l.length->(pickOrder.go f n k l a).toList.Perm (a.toList++l)
 |0,k,l,a,e=>by have:l=[]:=cn.mp e.symm;subst this;unfold pickOrder.go;simp
 |n+1,k,l,a,e=>by unfold pickOrder.go;have b:f k%l.length<l.length:=Nat.mod_lt _ ⋯;rw[ae b];dsimp only;refine(MH f n (k+1) _ _ (by rw[List.length_eraseIdx_of_lt b];omega)).trans ?_;rw[dw,bc];refine List.Perm.append_left _ ?_;rw[List.singleton_append];exact Ip l _ b
theorem MI{a:Type}(f:Nat->Nat)(xs:Array a):(pickOrder f xs).toList.Perm xs.toList:=by have:=MH f xs.size 0 xs.toList #[] (by simp);simpa[pickOrder]using this
theorem VP{it d:A4}{o:AT}{f:A2}{i m:Nat}{es:Array (Int×A2)}{t:AB}{xs:Array A2}{v:A2}{Q:Option A2->A5->Prop}(r:s.heap.IsSti it d f i es.size m)(a4:d≠it)(hT:∀T,f=.ref T->T≠it)(C:s.heap.get? d=A0 o)(H:o.data=.set es m t)
  (q:t.fits es.size=A3)(a0:TOk (w.params.followText "set-order") t)(a1:Ord (w.params.followText "set-order") w d m es t xs s.heap f i)(l:xs[i]?=A0 v)
  (Y:∀S f',S.IsSti it d f' (i+1) es.size m->bP it s.heap S->Ord (w.params.followText "set-order") w d m es t xs S f' (i+1)->(∀T,f'=.ref T->f=.ref T)->Q (A0 v) {s with heap:=S}):AA (AD prog w) A (pyNext (.ref it)) Q E s:=by
 obtain⟨oi,g,B,b⟩:=id r;have a5:t.place.size=es.size:=by simp only[AB.fits,ai,beq_iff_eq]at q;exact q.1
 unfold pyNext;refine aa (ci (aY (name:=AI.ofString "__next__") r.typeIs F.DM (aV F.DM r.typeIs F.MD ?_ (F.MF _))));unfold AK.«set_iterator.__next__»;refine aa (bZ (a:=(A2.ref it,[])) rfl ?_);dsimp only;refine aa (wpAny_fieldsOf g b ?_);dsimp only[AZ];refine aa (wpAny_setEntries_of C H q ?_);rw[if_neg (by simp)];have k1:∀(O:A2)(R:AM),R=(s.heap.update it (AT.mapFields λx=>x.setIfInBounds 0 O)).update it (AT.mapFields λx=>x.setIfInBounds 1 (AZ ((i:Int)+1)))->R.IsSti it d O (i+1) es.size m/\bP it s.heap R:=by intro O R e;subst e;have M:=aT (AT.mapFields λx=>x.setIfInBounds 0 O) g (AT.isFreed_of_fields (AO b _));have g2:=aT (AT.mapFields λx=>x.setIfInBounds 1 (AZ ((i:Int)+1))) M (AT.isFreed_of_fields (AO (AO b _) _));exact⟨⟨_,g2,(AT.cls_mapFields ..).trans ((AT.cls_mapFields ..).trans B),by rw[AO (AO b _)];simp[AZ]⟩,(AM.SameBut.update ..).trans (AM.SameBut.update ..)⟩
 rcases id a1 with⟨n,rfl,h⟩|⟨n,J,K,rfl,h⟩|⟨n,T,P,rfl,N,Z,I⟩
 .dsimp only[AZ];unfold setNext;refine aa (aa (bB C H q ?_));dsimp only;unfold setsByText;refine aa (aa (bL (af ?_)));show AA _ _ (if w.params.followText "set-order"=A3 then _ else _) _ _ _;rw[if_pos n];rw[if_neg (by simp)];unfold setWalk;refine aa (aa (bB C H q ?_));dsimp only;unfold setsByText;refine aa (aa (bL (af ?_)));show AA _ _ (if w.params.followText "set-order"=A3 then _ else _) _ _ _;rw[if_pos n];refine aa (bL (af ?_));have y:(pickOrder (w.params.setOrder d m) es)[i]?.map (·.2)=A0 v:=by rw[h,Array.getElem?_map]at l;exact l
  obtain⟨p,hp,rfl⟩:∃p,(pickOrder (w.params.setOrder d m) es)[i]?=A0 p/\p.2=v:=by
   cases hq:(pickOrder (w.params.setOrder d m) es)[i]? with
   |none=>rw[hq]at y;cases y
   |some p=>rw[hq]at y;exact⟨p,rfl,by injection y⟩
  show AA _ _ (pure (Option.map (λe=>(e.2,(0:Int).toNat)) (pickOrder (w.params.setOrder d m) es)[(i:Int).toNat]?)) _ _ _;rw[bg,hp];refine af ?_;dsimp only[Option.map];refine aa (bI g b (by simp) ?_);have M:=aT (AT.mapFields λx=>x.setIfInBounds 0 (AZ ((0:Int).toNat:Int))) g (AT.isFreed_of_fields (AO b _));refine aa (bI M (AO b _) (by simp) ?_);obtain⟨z1,z2⟩:=k1 (AZ ((0:Int).toNat:Int)) _ rfl;exact af ⟨_,rfl,af (Y _ _ z1 z2 (.inl ⟨n,rfl,h⟩) λT z=>nomatch z)⟩
 .dsimp only[AZ];have G:i<es.size:=by rw[h]at l;have:=(bb.mp l).1;rwa [cH]at this
  have y:es[i].2=v:=by rw[h,Array.getElem?_map,aA G]at l;injection l
  unfold setNext;refine aa (aa (bB C H q ?_));dsimp only;unfold setsByText;refine aa (aa (bL (af ?_)));show AA _ _ (if w.params.followText "set-order"=A3 then _ else _) _ _ _;rw[if_neg (by rw[n];exact aD)];show AA _ _ (if(!t.plain&&decide (es.size>1))=A3 then _ else _) _ _ _;rw[if_neg (by rw[J];exact aD)];have D:t.led=A3:=by
   rcases a0 with z|z;.rw[n]at z;cases z
   .exact z.1
  refine aa ?_;show AA _ _ (if(!t.led&&!es.isEmpty)=A3 then _ else _) _ _ _;rw[if_neg (by rw[D];simp)];refine af ?_;rw[MG K ⋯];rw[aA G,aA (show i<t.place.size by omega)];refine af ?_;dsimp only;refine aa (bI g b (by simp) ?_);have M:=aT (AT.mapFields λx=>x.setIfInBounds 0 (AZ ((t.place[i]'⋯+1:Nat):Int))) g (AT.isFreed_of_fields (AO b _));refine aa (bI M (AO b _) (by simp) ?_);obtain⟨z1,z2⟩:=k1 (AZ ((t.place[i]'⋯+1:Nat):Int)) _ rfl;subst y;refine af ⟨_,rfl,af (Y _ _ z1 z2 (.inr (.inl ⟨n,J,K,?_,h⟩)) λT z=>nomatch z)⟩;rw[if_neg ⋯];simp[Array.getD,show i<t.place.size by omega]
 .have G:i<P.size:=by have:=(bb.mp l).1;omega
  dsimp only[AZ];obtain⟨x,ex,a2⟩:=I i _ (aA G);rw[a2]at l;injection l with l;subst l;obtain⟨oT,X,a3,nT,U⟩:=id N;refine aa ?_;show AA _ _ (load T>>=_) _ _ _;refine aa (wpAny_load X ?_);rw[U];refine af ?_;dsimp only;have hg:(P.map λ(j:Nat)=>AZ j)[(i:Int).toNat]?=A0 (AZ (P[i]:Nat)):=by rw[bg,Array.getElem?_map,aA G];rfl
  rw[hg];dsimp only[AZ];unfold setNextDrawn;refine aa (aa (bB C H q ?_));dsimp only;rw[if_neg (by simp)];rw[bg,ex];refine af ?_;refine aa (bI g b (by simp) ?_);have L:=AM.SameBut.update s.heap it (AT.mapFields λx=>x.setIfInBounds 1 (AZ ((i:Int)+1)));refine af ⟨_,rfl,af (Y _ (.ref T) ⟨_,aT _ g (AT.isFreed_of_fields (AO b _)),(AT.cls_mapFields ..).trans B,by rw[AO b];simp[AZ]⟩ L (.inr (.inr ⟨n,T,P,rfl,MB N λo e=>(L.2 T (hT T rfl)).trans e,Z,I⟩)) λT' z=>z)⟩
end
section
variable{prog:AC}{w:AL}{A:AN}{E:A2->A5->Prop}{s:A5}
theorem VQ{it d:A4}{o:AT}{f:A2}{y:Nat}{es:Array (Int×A2)}{t:AB}{xs:Array A2}{Q:Option A2->A5->Prop}(p:A.handled=A6)(l:s.heap.IsSti it d f es.size es.size y)(C:s.heap.get? d=A0 o)(D:o.data=.set es y t)
  (n:t.fits es.size=A3)(J:TOk (w.params.followText "set-order") t)(K:Ord (w.params.followText "set-order") w d y es t xs s.heap f es.size)(B:xs.size=es.size)
  (I:∀O,dr it s.heap O->Q A6 {s with heap:=O}):AA (AD prog w) A (pyNext (.ref it)) Q E s:=by
 obtain⟨oi,i,U,h⟩:=id l;have v:t.place.size=es.size:=by simp only[AB.fits,ai,beq_iff_eq]at n;exact n.1
 unfold pyNext;refine aa (ci (aY (name:=AI.ofString "__next__") l.typeIs F.DM (aV F.DM l.typeIs F.MD ?_ (F.MF _))));unfold AK.«set_iterator.__next__»;refine aa (bZ (a:=(A2.ref it,[])) rfl ?_);dsimp only;refine aa (wpAny_fieldsOf i h ?_);dsimp only[AZ];refine aa (wpAny_setEntries_of C D n ?_);rw[if_neg (by simp)];rcases id K with⟨g,rfl,q⟩|⟨g,L,M,rfl,q⟩|⟨g,T,X,rfl,N,P,Y⟩
 .dsimp only[AZ];unfold setNext;refine aa (aa (bB C D n ?_));dsimp only;unfold setsByText;refine aa (aa (bL (af ?_)));show AA _ _ (if w.params.followText "set-order"=A3 then _ else _) _ _ _;rw[if_pos g];rw[if_neg (by simp)];unfold setWalk;refine aa (aa (bB C D n ?_));dsimp only;unfold setsByText;refine aa (aa (bL (af ?_)));show AA _ _ (if w.params.followText "set-order"=A3 then _ else _) _ _ _;rw[if_pos g];refine aa (bL (af ?_));have S:(pickOrder (w.params.setOrder d y) es)[es.size]?=A6:=by rw[q,cH]at B;exact cQ.mpr (Nat.le_of_eq B)
  show AA _ _ (pure (Option.map (λe=>(e.2,(0:Int).toNat)) (pickOrder (w.params.setOrder d y) es)[(es.size:Int).toNat]?)) _ _ _;rw[bg,S];refine af ?_;dsimp only[Option.map];refine aa (bI i h (by simp) ?_);have k:dr it s.heap (s.heap.update it (AT.mapFields λx=>x.setIfInBounds 2 A2.none)):=(AM.SameBut.update ..).extBut;refine aa ?_;simp only[newExc,newTuple];refine aa (aS ?_ (by size_fits));refine aa (m:=An _ _) (bZ (a:=A2.none) (by first|rfl|(simp only[An];rfl)) ?_);refine aS ?_ (by size_fits);simp only[raiseNew];refine aa (dy ?_);first|rw[show A.in1.handled=A6 from p]|rw[p]
  refine aa (af (wpAny_throw ?_));refine aa (bR (T:="StopIteration") (b:=A3) ⟨_,au _ rfl,rfl⟩ isSubtype_stop ?_);exact af (I _ λb o g e=>((AM.ExtBut.refl _ _).push _|>.push _) b o g (k b o g e))
 .dsimp only[AZ];unfold setNext;refine aa (aa (bB C D n ?_));dsimp only;unfold setsByText;refine aa (aa (bL (af ?_)));show AA _ _ (if w.params.followText "set-order"=A3 then _ else _) _ _ _;rw[if_neg (by rw[g];exact aD)];show AA _ _ (if(!t.plain&&decide (es.size>1))=A3 then _ else _) _ _ _;rw[if_neg (by rw[L];exact aD)];have r:t.led=A3:=by
   rcases J with z|z;.rw[g]at z;cases z
   .exact z.1
  refine aa ?_;show AA _ _ (if(!t.led&&!es.isEmpty)=A3 then _ else _) _ _ _;rw[if_neg (by rw[r];simp)];refine af ?_;rw[show(if es.size=0 then(0:Int)else((t.place.getD (es.size-1) 0+1:Nat):Int))=(if t.place.size=0 then(0:Int)else((t.place.getD (t.place.size-1) 0+1:Nat):Int))by rw[v]];rw[MG M (ah _),v];rw[cQ.mpr (ah es.size)];refine af ?_;dsimp only;refine aa (bI i h (by simp) ?_);have k:dr it s.heap (s.heap.update it (AT.mapFields λx=>x.setIfInBounds 2 A2.none)):=(AM.SameBut.update ..).extBut;refine aa ?_;simp only[newExc,newTuple];refine aa (aS ?_ (by size_fits));refine aa (m:=An _ _) (bZ (a:=A2.none) (by first|rfl|(simp only[An];rfl)) ?_);refine aS ?_ (by size_fits);simp only[raiseNew];refine aa (dy ?_);first|rw[show A.in1.handled=A6 from p]|rw[p]
  refine aa (af (wpAny_throw ?_));refine aa (bR (T:="StopIteration") (b:=A3) ⟨_,au _ rfl,rfl⟩ isSubtype_stop ?_);exact af (I _ λb o g e=>((AM.ExtBut.refl _ _).push _|>.push _) b o g (k b o g e))
 .dsimp only[AZ];obtain⟨oT,H,R,nT,G⟩:=id N;refine aa ?_;show AA _ _ (load T>>=_) _ _ _;refine aa (wpAny_load H ?_);rw[G];refine af ?_;dsimp only;have Z:(X.map λ(j:Nat)=>AZ j)[(es.size:Int).toNat]?=A6:=by rw[bg];exact cQ.mpr (by rw[cH];omega)
  rw[Z];dsimp only;refine aa (bI i h (by simp) ?_);refine aa (bI (aT _ i (AT.isFreed_of_fields (AO h _))) (AO h _) (by simp) ?_);have k:dr it s.heap ((s.heap.update it (AT.mapFields λx=>x.setIfInBounds 0 (AZ 0))).update it (AT.mapFields λx=>x.setIfInBounds 2 A2.none)):=λb o g e=>
   (AM.SameBut.update ..).extBut b o g ((AM.SameBut.update ..).extBut b o g e);refine aa ?_;simp only[newExc,newTuple];refine aa (aS ?_ (by size_fits));refine aa (m:=An _ _) (bZ (a:=A2.none) (by first|rfl|(simp only[An];rfl)) ?_);refine aS ?_ (by size_fits);simp only[raiseNew];refine aa (dy ?_);first|rw[show A.in1.handled=A6 from p]|rw[p]
  refine aa (af (wpAny_throw ?_));refine aa (bR (T:="StopIteration") (b:=A3) ⟨_,au _ rfl,rfl⟩ isSubtype_stop ?_);exact af (I _ λb o g e=>((AM.ExtBut.refl _ _).push _|>.push _) b o g (k b o g e))
theorem MJ{b:Type}:∀(n:Nat)(l:List b)(s:A5)(Q:List b->A5->Prop),n=l.length->(∀g d,g.Perm l->Q g {s with drawn:=d})->AA (AD prog w) A (drawOrder n l) Q E s
 |0,l,s,Q,e,h=>by have:l=[]:=cn.mp e.symm;subst this;unfold drawOrder;exact af (h [] s.drawn (List.Perm.refl _))
 |n+1,[],s,Q,e,h=>by simp at e
 |n+1,x::l,s,Q,e,h=>by
  unfold drawOrder;have j:∀(k:Nat->Sem (List b)),(∀i,i<(x::l).length->∀d,AA (AD prog w) A (k i) Q E {s with drawn:=d})->AA (AD prog w) A (choose .order (x::l).length>>=k) Q E s:=by intro k o m p a;show Sem.wp _ m (.choose .order (x::l).length λi=>k i) _ _ p s;rw[Sem.wp_choose];exact⟨by simp,o _ (Nat.mod_lt _ (by simp)) _ m p a⟩
  refine j _ λi f d=>?_;rw[ae f];dsimp only;refine aa (MJ n _ _ _ (by rw[List.length_eraseIdx_of_lt f];omega) λg r q=>af ?_);exact h _ r ((q.cons _).trans (Ip _ _ f))
end
theorem MK{a:Bool}{w:AL}{d b:Nat}{es:Array (Int×A2)}{t:AB}{xs:Array A2}{h h':AM}{f:A2}{i:Nat}(x:Ord a w d b es t xs h f i)(k:∀T,f=.ref T->∀o,h.get? T=A0 o->h'.get? T=A0 o):Ord a w d b es t xs h' f i:=by
 rcases x with z|z|⟨z,T,g,e,j,r⟩;.exact .inl z
 .exact .inr (.inl z)
 .exact .inr (.inr ⟨z,T,g,e,MB j (k T e),r⟩)
section
variable{prog:AC}{w:AL}
def Iq(w:AL)(I D:A4)(o:AT)(TL:List A4)(es:Array (Int×A2))(a:Nat)(t:AB)(xs:Array A2)(i:Nat)(s:A5):Prop:=
 s.heap.get? D=A0 o/\∃f,s.heap.IsSti I D f i es.size a/\Ord (w.params.followText "set-order") w D a es t xs s.heap f i/\∀T,f=.ref T->T∈TL
theorem VR{A:AN}(O:A.handled=A6){I D:A4}{o:AT}{TL:List A4}{es:Array (Int×A2)}{M:Nat}{t:AB}{xs:Array A2}(l:D≠I)(G:I∉TL)(L:o.data=.set es M t)(J:t.fits es.size=A3)(n:TOk (w.params.followText "set-order") t)(H:xs.size=es.size):
  WalksS prog w A I (I::D::TL) [I] Eq es.size (λi v=>xs[i]?=A0 v) (Iq w I D o TL es M t xs)where
 sub:=λb h=>by simp at h;simp[h]
 grefl:=λ_=>rfl
 gtrans:=λ_ _ _=>Eq.trans
 frame:=λ_ _ _ _ x _ y=>by obtain⟨g,f,K,a,hT⟩:=x;exact⟨y D (by simp) o g,f,K.at λo e=>y I (by simp) o e,MK a λT e o p=>y T (by simp[hT T e]) o p,hT⟩
 item:=λi s Q E K x j=>by obtain⟨g,f,d,a,hT⟩:=x;have N:xs[i]?=A0 (xs[i]'⋯):=aA ⋯;refine VP d l (λT e z=>G (z▸hT T e)) g L J n a N λP R r q m B=>?_;exact j _ _ N ⟨(q.2 D l).trans g,R,r,m,λT e=>hT T (B T e)⟩ ⟨λb o h p=>q.extBut b o (λz=>h (by simp[z])) p,rfl,rfl,rfl,ah _⟩
 done:=λs Q E x j=>by obtain⟨g,f,d,a,hT⟩:=x;exact VQ O d g L J n a H λP C=>j _ ⟨λb o h p=>C b o (λz=>h (by simp[z])) p,rfl,rfl,rfl,ah _⟩
 self:=λ_ _ _ _ x j=>by obtain⟨g,f,d,a,hT⟩:=x;exact VO d j
variable{A:AN}{E:A2->A5->Prop}{s:A5}
theorem VS{D:A4}{o:AT}{es:Array (Int×A2)}{B:Nat}{t:AB}{Q:A2->A5->Prop}(n:s.heap.get? D=A0 o)(hc:o.ExactSet)(N:o.data=.set es B t)(J:t.fits es.size=A3)(M:TOk (w.params.followText "set-order") t)(hz:es.size<=A9)
  (Z:∀g I TL l,(∀b o,s.heap.get? b=A0 o->g.heap.get? b=A0 o)->g.gens=s.gens->g.os=s.os->s.toks<=g.toks->s.heap.objs.size<=g.heap.objs.size->(∀b∈I::TL,s.heap.objs.size<=b/\b<g.heap.objs.size)->I∉TL->l.size=es.size->l.toList.Perm (es.toList.map (·.2))->Iq w I D o TL es B t l 0 g->Q (.ref I) g):
  AA (AD prog w) A (pyIter (.ref D)) Q E s:=by
 have hT:s.TypeIs (.ref D) "set":=⟨o,n,hc.1⟩;have a0:D<s.heap.objs.size:=aq n;refine wpAny_pyIter_slot hT F.slot_set_iter (aV F.slot_set_iter hT F.VN ?_ (F.args_set_iter_1 _));unfold AK.«frozenset.__iter__»;refine aa (bZ (a:=D) rfl ?_);dsimp only;refine aa ?_;unfold AK.Frozenset.sizeOf;refine aa (wpAny_setEntries_of n N J (af ?_));unfold setDrawn;refine aa (aa (bB n N J ?_));dsimp only;unfold setsByText;refine aa (aa (bL (af (af ?_))));have i:∀(f:A2)(h:A5)(TL:List A4)(l:Array A2)(K:Fin->A5->Prop),h.heap.get? D=A0 o->(∀b o,s.heap.get? b=A0 o->h.heap.get? b=A0 o)->h.gens=s.gens->h.os=s.os->h.toks=s.toks->s.heap.objs.size<=h.heap.objs.size->(∀b∈TL,s.heap.objs.size<=b/\b<h.heap.objs.size)->
   l.size=es.size->l.toList.Perm (es.toList.map (·.2))->Ord (w.params.followText "set-order") w D B es t l h.heap f 0->(∀T,f=.ref T->T∈TL)->
   (∀v g,Q v g->g.TypeIs v "set_iterator"->K (.done (.ret v)) g)->
   AA (AD prog w) A.in1 (do ret (<-newFields "set_iterator" [f,AZ 0,.ref D,AZ es.size,AZ (<-setEpoch D)])) K E h:=by
  intro f h TL l K X h2 h3 h4 h5 U O h8 Y L P S;refine aa (wpAny_setEpoch_of X N J ?_);unfold newFields;refine aa (aS ?_ (by size_fits));refine af (S _ _ ?_ ⟨_,au _ rfl,rfl⟩);refine Z _ h.heap.objs.size TL l (λb o e=>ag _ (h2 b o e)) h3 h4 (Nat.le_of_eq h5.symm) (by show _<=(h.heap.push _).objs.size;rw[bu];exact Nat.le_succ_of_le U) (λb m=>?_) (λz=>bC _ (O _ z).2) h8 Y ⟨ag _ X,f,⟨_,au _ rfl,rfl,rfl⟩,MK L λT e o eo=>ag _ eo,P⟩;show _/\b<(h.heap.push _).objs.size;rw[bu];rcases ap.mp m with rfl|m;.exact⟨U,cC _⟩
  .exact⟨(O b m).1,bE (O b m).2⟩
 show AA _ _ (if(!(w.params.followText "set-order")&&(!t.plain&&decide (es.size>1)))=A3 then _ else _) _ _ _;cases m:w.params.followText "set-order"with
 |true=>
  rw[if_neg (by simp)];refine aa (af ?_);refine i (AZ 0) s [] ((pickOrder (w.params.setOrder D B) es).map (·.2)) _ n (λ_ _ e=>e) rfl rfl rfl (ah _) (λb z=>nomatch z) ?_ ?_ ?_ (λT z=>nomatch z) λv g q ty=>⟨_,rfl,"set_iterator",_,ty,F.DM.lookup,q⟩;.rw[cH,<-ak,(MI _ _).length_eq,ak]
  .rw[dE];exact(MI _ _).map _
  .rw[m];exact .inl ⟨rfl,rfl,rfl⟩
 |false=>
  cases R:(!t.plain&&decide (es.size>1))with
  |false=>
   rw[if_neg (by simp)];refine aa (af ?_);refine i (AZ 0) s [] (es.map (·.2)) _ n (λ_ _ e=>e) rfl rfl rfl (ah _) (λb z=>nomatch z) ?_ ?_ ?_ (λT z=>nomatch z) λv g q ty=>⟨_,rfl,"set_iterator",_,ty,F.DM.lookup,q⟩;.rw[cH]
   .rw[dE]
   .rw[m];refine .inr (.inl ⟨rfl,R,?_,rfl,rfl⟩);rcases M with z|z;.rw[m]at z;cases z
    .exact z.2
  |true=>
   rw[if_pos (by simp)];refine aa (MJ _ _ _ _ (by simp) λr d y=>?_);unfold newTuple;refine aa ?_;refine aS ?_ (by show(List.map _ r).toArray.size<=_;rw[aE,ac,y.length_eq,bf];exact hz);have H:∀p∈r,p<es.size:=λp z=>aI.mp (y.mem_iff.mp z);have G:r.length=es.size:=by rw[y.length_eq,bf]
   let l:List A2:=r.map λp=>(es.getD p (0,.none)).2;refine i (.ref s.heap.objs.size) _ [s.heap.objs.size] l.toArray _ (ag _ n) (λ_ _ e=>ag _ e) rfl rfl rfl ?_ (λb z=>?_) ?_ ?_ ?_ (λT z=>by injection z with z;simp[z]) λv g q ty=>⟨_,rfl,"set_iterator",_,ty,F.DM.lookup,q⟩;.show _<=(s.heap.push _).objs.size;rw[bu];exact dq _
   .rw[aF]at z;subst z;show _/\_<(s.heap.push _).objs.size;rw[bu];exact⟨ah _,cC _⟩
   .rw[aE,ac,G]
   .show(r.map λp=>(es.getD p (0,.none)).2).Perm _;refine(y.map _).trans (List.Perm.of_eq ?_);apply bW;intro j;rw[aj,aj];by_cases C:j<es.size;.rw[cv C,ae (show j<es.toList.length by rw[ak];exact C)];simp[Array.getD,C]
    .rw[bi (by simpa using C),bi (by rw[ak];omega)];rfl
   .rw[m];refine .inr (.inr ⟨rfl,s.heap.objs.size,r.toArray,rfl,⟨_,au _ rfl,rfl,0,?_⟩,?_,λj p e=>?_⟩);.show Data.seq _ _=_;congr 1;simp
    .rw[aE,aE,ac]
    .rw[List.getElem?_toArray]at e;have x:=H p (ao e);refine⟨_,aA x,?_⟩;rw[List.getElem?_toArray];show(List.map _ r)[j]?=_;rw[aj,e];simp[Array.getD,x]
theorem ML{D:A4}{o:AT}{es:Array (Int×A2)}{ep:Nat}{t:AB}{Q:List A2->A5->Prop}(hh:A.handled=A6)(S:s.heap.get? D=A0 o)(U:o.ExactSet)(hd:o.data=.set es ep t)(hf:t.fits es.size=A3)(H:TOk (w.params.followText "set-order") t)(hz:es.size<=A9)
  (hQ:∀g x,(∀b o,s.heap.get? b=A0 o->g.heap.get? b=A0 o)->g.gens=s.gens->g.os=s.os->s.toks<=g.toks->s.heap.objs.size<=g.heap.objs.size->x.Perm (es.toList.map (·.2))->Q x g):AA (AD prog w) A (collect (.ref D)) Q E s:=by
 have C:D<s.heap.objs.size:=aq S;have M:s.heap.objs.size≠D:=bJ C;unfold collect;refine aa (wpAny_runValue (Ad F.entry_proto_collect ?_));rw[AN.under_plainId F.plain_proto_collect _];show AA _ A.in1 (newList []>>=λl=>again (.builtin "list.__iadd__" ⟨[l,.ref D],[]⟩)) _ _ s;refine aa (aS ?_);refine af ⟨plainId_quiet F.plain_list_iadd _,Ad F.entry_list_iadd ?_⟩;rw[AN.under_plainId F.plain_list_iadd _];generalize a:({cls:=.type "list",data:=.seq ([]:List A2).toArray}:AT)=h;have Z:A5.TypeIs {s with heap:=s.heap.push h} (.ref D) "set":=⟨o,ag _ S,U.1⟩;have X:(s.heap.push h).get? s.heap.objs.size=A0 h:=au _ (by rw[<-a];rfl);have h1:AK.List.listSameRef (.ref s.heap.objs.size) (.ref D)=A7:=by simp[AK.List.listSameRef,M]
 show AA _ A.in1 (AK.List.listExtendWith (.ref s.heap.objs.size) (.ref D) (.ref s.heap.objs.size)) _ _ _;unfold AK.List.listExtendWith;refine aa (wpAny_typeOf Z ?_);rw[if_neg (by rw[h1];decide)];refine aa (VS (s:={s with heap:=s.heap.push h}) (ag _ S) U hd hf H hz λr I TL x k1 k2 k3 k4 k5 k6 k7 k8 k9 Y=>?_);have m:r.TypeIs (.ref D) "set":=⟨o,k1 D o (ag _ S),U.1⟩;refine aa (aR ?_);unfold AK.List.listLengthHint;refine aa (cy m F.slot_set_len.lookup ?_);dsimp only;(generalize p:("set.__len__":String)=G;(fail_if_success(clear p G));rw[show splitId G=A0 ("set","__len__")from by subst p;decide+kernel];subst p);dsimp only;refine aa (bR (b:=A3) m (by rw[As];kernel_rfl) ?_);rw[if_neg (by decide),if_pos ⋯];refine aa (wpAny_typeOf m (af ?_));rw[if_pos (by decide)];refine aa (ck ?_);refine aa ?_;have y:r.heap.get? s.heap.objs.size=A0 h:=k1 _ _ X;have T:h.data=.seq #[] 0:=by rw[<-a]
 have K:(s.heap.push h).objs.size=s.heap.objs.size+1:=bu ..;show AA _ A.in1 (updateSeq s.heap.objs.size (·.push .none)>>=λ_=>updateSeq s.heap.objs.size (·.pop)) _ _ _;refine aa (wpAny_updateSeq y T ?_);have P:=aT (AT.mapSeq (·.push A2.none)) y (by rw[<-a];rfl);refine wpAny_updateSeq P (by rw[<-a];rfl) ?_;have a0:=aT (AT.mapSeq (·.pop)) P (by rw[<-a];rfl);have J:∀b o,b≠s.heap.objs.size->r.heap.get? b=A0 o->((r.heap.update s.heap.objs.size (AT.mapSeq (·.push A2.none))).update s.heap.objs.size (AT.mapSeq (·.pop))).get? b=A0 o:=
  λb o d e=>(dh _ _ (Ne.symm d)).trans ((dh _ _ (Ne.symm d)).trans e);have n:∀b∈I::TL,s.heap.objs.size<b:=λb d=>by have:=(k6 b d).1;rw[show(A5.heap {s with heap:=s.heap.push h}).objs.size=s.heap.objs.size+1 from K]at this;exact this
 have a1:D≠I:=λe=>bC _ (Nat.lt_trans C (e▸n I (by simp)));have N:s.heap.objs.size∉I::D::TL:=λq=>by
  have O:∀b∈I::TL,s.heap.objs.size≠b:=λb d e=>bC _ (e▸n b d);simp only[ap]at q;rcases q with e|e|e;.exact O I (by simp) e
  .exact M e
  .exact O _ (ax _ e) rfl
 have W:WalksS prog w A.in1 I (I::D::TL) [I] Eq es.size (λi v=>x[i]?=A0 v) (Iq w I D o TL es ep t x):=VR (A:=A.in1) hh a1 k7 hd hf H k8;have a2:=W.frame 0 r _ r.toks Y (ah _) λb d o e=>J b o (λz=>N (z▸d)) e;refine af ⟨plainId_quiet F.plain_extend_loop _,codeAny_extend_loopS W hz _ N _ es.size 0 _ _ _ rfl (aJ _) a2 (by rw[a0,<-a];rfl) (ItemsOf.nil _) λg f c' q R L=>?_⟩;show AA _ A (load s.heap.objs.size>>=_) _ _ g;refine aa (wpAny_load R (af ?_));have B:f.toList=x.toList:=by
  obtain⟨hl,hp⟩:=L;apply bW;intro j;by_cases hj:j<es.size;.have h2:f[j]?=A0 (f[j]'⋯):=aA ⋯;rw[bA,bA,h2,<-hp j _ h2]
  .rw[bi (by rw[ak];omega),bi (by rw[ak];omega)]
 have a3:s.heap.objs.size<g.heap.objs.size:=aq R;refine hQ g _ (λb o e=>?_) ?_ ?_ ?_ (bO a3) (by rw[B];exact k9);.have d:b≠s.heap.objs.size:=az (aq e);refine q.heap b o ?_ (J b o d (k1 b o (ag _ e)));simp only[ap,av,or_false,not_or];refine⟨d,λz=>?_⟩;exact bC _ (Nat.lt_trans (aq e) (z▸n I (by simp)))
 .have:=q.gens;exact this.symm.trans k2
 .exact q.os.trans k3
 .exact aN k4 q.toks
end
end PySem
namespace L2
open PySem PySem.Spec PyProof.Rows
def DN{a:Type}(own:List Nat)(j:TI)(g:TG)(i:TT)(Aw:TL a)(a0:a)(f:A4->a->HO)(ok:a->Hp->Prop):TE:=λd H Q=>j d H λJ h=>C5 own g i Aw J d a0 h λe b=>ok e b/\∀p,b p=A6->Q (.ref p) (upd b p (f p e))
structure CompInG{α:Type}(Is:α->AT->Prop)(X:Cx)(e:A8)(scope:AX)(tg:A8)(iter:A8)(ifs:List A8)(nx:A4->Env->Sem Unit)(g:TG)(tc:TT)(Aw:TL α)(own:List Nat):Prop where
 sc:CompSc X scope
 ow:∀i x,X.N[i]?=A0 x->(scope.names.lookup x=A0 .local\/scope.names.lookup x=A0 .cell)->i∈own
 cl:∃gs,clausesOf e=⟨tg,iter,ifs,0⟩::gs
 fs:∀x,foldedSetIterable iter X.env x=pure x
 calm:X.calm=A3
 q:∀it D env,(Code.compLoop e 0 it (.ref D) env).quiet=A3/\(Code.compStart e 0 it (.ref D) env).quiet=A3
 u:∀A it D env,AN.under A (Code.compLoop e 0 it (.ref D) env)=A/\AN.under A (Code.compStart e 0 it (.ref D) env)=A
 T:∀P w it D env,(AD P w).den (.compLoop e 0 it (.ref D) env)=(CH e 0 tg iter ifs (nx D env) it (.ref D) env).onRaise (λx=>do noteFrame x env;Au x)
 S:∀P w it D env,(AD P w).den (.compStart e 0 it (.ref D) env)=(compStart e 0 it (.ref D) env).onRaise (λx=>do noteFrame x env;standAt theWindowsPlace)
 ge:EA own g
 inn:∀s0 H0 ex D,PG (X.comp scope s0 H0 ex) tg g/\PTs (X.comp scope s0 H0 ex) ifs tc/\∃ws',(∀j∈ws',j∈own)/\Cg (X.comp scope s0 H0 ex) D Is ws' (nx D (X.comp scope s0 H0 ex).env) Aw
section
variable{X:Cx}{e:A8}{scope:AX}{tg iter:A8}{ifs:List A8}{nx:A4->Env->Sem Unit}{g:TG}{tc:TT}{α:Type}{Is:α->AT->Prop}{Aw:TL α}{own:List Nat}{wi:TI}{a0:α}{o0:Bool->AT}{newAcc:Sem A2}{ho:A4->α->HO}{ok:α->Hp->Prop}
theorem Ir(Y:∀(s:A5)(Q:A2->A5->Prop),(∀d,Q (.ref s.heap.objs.size) {s with heap:=s.heap.push (o0 d)})->AA (AD X.prog X.w) X.A newAcc Q X.xe s)(a7:∀d,(o0 d).isFreed=A7)(a8:∀d,Is a0 (o0 d))(a4:∀(a:α)(o:AT),Is a o->∀v:Option A2,o.data≠.cell v)(C:CompInG Is X e scope tg iter ifs nx g tc Aw own)(hi:PI X tg iter wi){t:List (A4×AT)}{s:A5}{σ:St}{H:Hp}{R:V->Hp->Prop}(I:Inv X t σ H s)(hw:DN own wi g tc Aw a0 ho ok σ H R)
  {N:Option (A2->Sem Unit)}{Q:A2->A5->Prop}{pos:Pos}
  (a5:∀(i s':A5)(H0 H':Hp)(ex:List A4)(D:A4)(xs:α)(o:AT)(a2:St),Inv X t σ H0 i->(∀b∈ex,BW X t H0 b)->Inv (X.comp scope i H0 ex) [] a2 H' s'->s'.heap.get? D=A0 o->D<i.heap.objs.size->X.s₀.heap.objs.size<=D->BW X t H0 D->(D==AS)=A7->Is xs o->H' D=A6->ok xs H'->R (.ref D) (upd H' D (ho D xs))->
   compPost (AD X.prog X.w) X.A X.xe N Q (.ref D) i.heap.objs.size (.ok .next) s'):
  AA (AD X.prog X.w) X.A (Ak e scope X.env pos newAcc A7 (Ac iter X.env) N) Q X.xe s:=by
 obtain⟨gs,P⟩:=C.cl;refine wpAny_comprehension_free P C.fs (Lb λn hn=>I.ok.has n (C.sc.free n hn)) C.sc.kind C.sc.names ?_;refine thn (hi t s σ H _ I hw) λv s1 h1=>thn h1 λb2 f h2=>?_;obtain⟨it,m,tn,J,l,rfl,U,T,st2,f2,hc⟩:=h2;refine Y _ _ λd=>Le ?_;have keep:∀b o,f.heap.get? b=A0 o->(f.heap.push (o0 d)).get? b=A0 o:=λb o e=>ag _ e;have I3:Inv X t σ l {f with heap:=f.heap.push (o0 d)}:=U.kept (t':=f.toks) keep;have b0:(f.heap.push (o0 d)).objs.size=f.heap.objs.size+1:=bu ..;have fD:BW X t l f.heap.objs.size:=U.fpOk (ah _) (U.hok.fresh (ah _));have O:∀b∈m,b<f.heap.objs.size:=λb j=>by obtain⟨o,e,_⟩:=T.obj _ _ st2 b j;exact aq e
 have b1:f.heap.objs.size∉m:=λz=>bC _ (O _ z);have G:∀b∈f.heap.objs.size::m,BW X t l b:=λb j=>by
  rcases ap.mp j with rfl|j;.exact fD
  .exact f2 b j
 generalize B:({f with heap:=f.heap.push (o0 d)}:A5)=i at*;have a1:i.heap.objs.size=f.heap.objs.size+1:=by rw[<-B];exact b0
 have x:∀b∈f.heap.objs.size::m,b<i.heap.objs.size:=λb j=>by
  rw[a1];rcases ap.mp j with rfl|j;.exact cC _
  .exact bE (O b j)
 have J0:=Lf (own:=own) I3 G x C.sc C.ow;obtain⟨c1,c2,b3,c4,c5⟩:=C.inn i l (f.heap.objs.size::m) f.heap.objs.size;have kp:∀b o,f.heap.get? b=A0 o->(CQ i.heap scope.names).get? b=A0 o:=λb o e=>pushCells_keeps _ _ b o (ag _ (by rw[<-B];exact keep b o e));have oD:(CQ i.heap scope.names).get? f.heap.objs.size=A0 (o0 d):=pushCells_keeps _ _ _ _ (ag _ (by rw[<-B];exact au _ (a7 d)));have y:∀b∈f.heap.objs.size::m,BW (X.comp scope i l (f.heap.objs.size::m)) [] l b:=λb j=>
  ⟨(G b j).1,(J0.ok.exf b j).1,J0.ok.exfs b j,.inl j,(J0.ok.exf b j).2,λp hp=>absurd (show p∈([]:List (A4×AT))from hp) (by simp)⟩;have T':Turn (X.comp scope i l (f.heap.objs.size::m)).prog (X.comp scope i l (f.heap.objs.size::m)).w (X.comp scope i l (f.heap.objs.size::m)).K tg J m it tn:=T;have a9:C5 own g tc Aw J (clr own σ) a0 l (λxs l=>ok xs l/\∀p,l p=A6->R (.ref p) (upd l p (ho p xs))):=by obtain⟨W,w0,Z⟩:=hc;refine⟨W,w0,?_⟩;rw[Lg];exact Z
 have M:tn 0 ({i with heap:=CQ i.heap scope.names}:A5).heap:=T.keep _ _ _ st2 λb j o e=>kp b o e;have L:=IZ (X:=X.comp scope i l (f.heap.objs.size::m)) (Is:=Is) (D:=f.heap.objs.size) rfl C.calm (C.q _ _ _).1 (C.u _ _ _ _).1 (C.T _ _ _ _ _) T' c1 C.ge c2 c5 c4 a4 b1 J0
  (λb j=>y b (ax _ j)) (y _ ay) oD (a8 d) M a9;have L2:=Ib (C.q _ _ _).2 (C.u _ _ _ _).2 (λa6=>(C.q a6 _ _).1) (C.S _ _ _ _ _) ⟨_,by rw[P];rfl,rfl⟩ L (λE=>T.self _ 0 _ _ E M ⟨rfl,rfl⟩);refine Ai L2 λr s' h=>?_;obtain⟨rfl,xs,o',H',J',e',a3,n',hN⟩:=h;exact a5 i s' l H' _ _ xs o' _ I3 G J' e' (x _ ay) U.sz fD (beq_eq_false_iff_ne.mpr (bJ U.big)) a3 n' hN.1 (hN.2 _ n')
end
section
variable{X:Cx}{e:A8}{scope:AX}{tg iter:A8}{ifs:List A8}{nx:A4->Env->Sem Unit}{g:TG}{tc:TT}{α:Type}{Is:α->AT->Prop}{Aw:TL α}{own:List Nat}{wi:TI}{a0:α}{o0:Bool->AT}{newAcc:Sem A2}{ho:A4->α->HO}{ok:α->Hp->Prop}
theorem VT(f:∀(s:A5)(Q:A2->A5->Prop),(∀b,Q (.ref s.heap.objs.size) {s with heap:=s.heap.push (o0 b)})->AA (AD X.prog X.w) X.A newAcc Q X.xe s)(j:∀b,(o0 b).isFreed=A7)(r:∀b,Is a0 (o0 b))(p:∀(a:α)(o:AT),Is a o->∀v:Option A2,o.data≠.cell v)
  (d:∀(a:α)(o:AT)(D:A4)(H:Hp)(h:AM),Is a o->h.get? D=A0 o->(D==AS)=A7->H D=A6->ok a H->HOk X.prog X.w H h->B7 X.prog X.w (upd H D (ho D a)) h D (ho D a))(C:CompInG Is X e scope tg iter ifs nx g tc Aw own)(hi:PI X tg iter wi){pos:Pos}(S:Ac e X.env=Ak e scope X.env pos newAcc A7 (Ac iter X.env)):PE X e (DN own wi g tc Aw a0 ho ok):=by intro Y s σ H Q I hw;rw[S];refine Ir f j r p C hi I hw λO s' Z E U D q o P L x J M t N T R n G i hR=>?_;obtain⟨m,K,_⟩:=J.loc;refine⟨m,K,λh' y=>?_⟩;have B:=Ef L x J y;have l:D≠O.heap.objs.size:=az t;refine⟨.ref D,upd E D (ho D q),B.track (o:=ho D q) ⟨G,T.2⟩ N (d q o D E _ n ((y.2 D l).trans M) R G i B.hok),rfl,hR⟩
theorem VU(B:∀(s:A5)(Q:A2->A5->Prop),(∀d,Q (.ref s.heap.objs.size) {s with heap:=s.heap.push (o0 d)})->AA (AD X.prog X.w) X.A newAcc Q X.xe s)(P:∀d,(o0 d).isFreed=A7)(a1:∀d,Is a0 (o0 d))(Z:∀(a:α)(o:AT),Is a o->∀v:Option A2,o.data≠.cell v)
  (n:∀(a:α)(o:AT)(D:A4)(H:Hp)(h:AM),Is a o->h.get? D=A0 o->(D==AS)=A7->H D=A6->ok a H->HOk X.prog X.w H h->B7 X.prog X.w (upd H D (ho D a)) h D (ho D a))(C:CompInG Is X e scope tg iter ifs nx g tc Aw own)(hi:PI X tg iter wi){i:Nat}{y:AI}{G pos t:Pos}(hN:X.N.Nodup)(hy:X.N[i]?=A0 y)(hx:Loc X.env.scope y)(hf:X.fn y=A3\/X.env.scope.names.lookup y=A0 .local)
  (he:evalThenUse e X.env (assign (.Name y G) X.env)=(do let _<-Ak e scope X.env t newAcc A7 (Ac iter X.env) (A0 (assign (.Name y G) X.env))))
  (S:swapsWith e (A0 (.Name y G)) pos.line X.env=pure A3):PS X (.Assign [.Name y G] e pos) (CM (DN own wi g tc Aw a0 ho ok) (C8 i)):=by
 intro x s σ H D I hw;rw[exec_Assign_Name_used _ _ _ _ S];refine aa (cw (aa ?_));rw[he];refine aa (thn (Q:=λ_ l=>SP X x D .next l) (Ir B P a1 Z C hi I hw λr l H0 K ex f xs o a5 O a3 J e' a2 h0 fD sy U n' E hR=>?_) λ_ l q=>af (af q));obtain⟨m,hn,_⟩:=J.loc;have J2:Inv X x σ K l:=Ef O a3 J (AM.SameBut.refl ..);have R:f≠r.heap.objs.size:=az a2;have J3:Inv X x σ (upd K f (ho f xs)) l:=J2.track ⟨n',fD.2⟩ h0 (n xs o f K _ U e' sy n' E J2.hok);have j:BW X x H0 r.heap.objs.size:=O.fpOk (ah _) (O.hok.fresh (ah _));refine wpAny_assign_Name (Hd J3 hN hy hx (v:=.ref f) rfl (λp J4 hs=>?_) hf);obtain⟨a,T,M⟩:=hs;have a4:r.heap.objs.size≠a:=by
  rcases M with rfl|M;.exact j.2.1
  .exact λq=>j.2.2.2.2.1 _ _ M q.symm
 have L:l.heap.Ns r.heap.objs.size m:=hn;refine⟨m,L.sameBut T a4,λh' Y=>?_⟩;have J5:Inv X x (σ.set i (A0 (.ref f))) (upd K f (ho f xs)) {p with heap:=h'}:=J4.turned (it:=r.heap.objs.size) (t':=p.toks) (λb ob hb q=>(Y.2 b hb).trans q) (by rw[Ay (Ne.symm R)];exact J.free) j.2.1 j.2.2.2.1 j.2.2.2.2.1 j.2.2.2.2.2;exact⟨_,_,J5,hR⟩
end
def kO:Option Int->V
 |A0 i=>.int i
 |A6=>.non
theorem DO{P:AC}{w:AL}{k:Option Int}{u:A2}(r:B0 (kO k) u):(DL P w).is k u=A3/\u.scannable=A3:=by
 cases k with
 |none=>cases r;exact⟨rfl,rfl⟩
 |some i=>obtain⟨t,rfl⟩:=r;exact⟨by show A2.isInt i (.int i t)=A3;simp[A2.isInt],rfl⟩
def IsS(a:(Option Int->Bool)×Nat)(o:AT):Prop:=a.2<=4000/\(∃d b t,o.data=.set d b t)/\∃m,m<=a.2/\∀(P:AC)(w:AL),o.SetObjOf (DL P w) a.1 m
theorem MM{P:AC}{w:AL}{S:Option Int->Bool}{n m:Nat}{o:AT}(h:o.SetObjOf (DL P w) S m)(d:m<=n)(b:n<=4000):IsS (S,n) o:=⟨b,⟨_,_,_,h.2.choose_spec.choose_spec.choose_spec.1⟩,m,d,λa e=>h.transport (knd':=DL a e) rfl rfl⟩
theorem Iu(a:(Option Int->Bool)×Nat)(o:AT)(h:IsS a o)(v:Option A2):o.data≠.cell v:=by obtain⟨_,⟨e,d,t,b⟩,_⟩:=h;rw[b];exact λz=>nomatch z
def Bi(D:A4)(S:Option Int->Bool)(n:Nat):HO:=.ext λh=>∃o,h.get? D=A0 o/\IsS (S,n) o
theorem MN{P:AC}{w:AL}{H:Hp}{h:AM}{D:A4}{S:Option Int->Bool}{n:Nat}{o:AT}(e:h.get? D=A0 o)(i:IsS (S,n) o):B7 P w H h D (Bi D S n):=
 ⟨⟨o,e,i⟩,⟨o,e⟩,λg f⟨a,b,d⟩k=>⟨a,k a b,d⟩⟩
section
variable{X:Cx}
theorem Iv{s:A5}{D:A4}{a:(Option Int->Bool)×Nat}{o:AT}(e:s.heap.get? D=A0 o)(i:IsS a o):∃m,m<=a.2/\s.heap.SetOf (DL X.prog X.w) D a.1 m:=by obtain⟨d,_,m,b,h⟩:=i;exact⟨m,b,(h X.prog X.w).setOf e (cm (aN b d) (by decide))⟩
def Fo(neg:Bool):R2:=λx y H Q=>∃k D S n,x=kO k/\y=.ref D/\H D=A0 (Bi D S n)/\Q (.bl (if neg then !(S k)else S k)) H
theorem VV:OpR X (AU .In) (Fo A7):=by intro g s j H x y v u Q I a f h;obtain⟨k,D,S,n,rfl,rfl,b,q⟩:=h;cases f;obtain⟨o,e,i⟩:=(show B7 X.prog X.w H s.heap D (Bi D S n)from I.hok D _ b).1;obtain⟨m,_,d⟩:=Iv (X:=X) e i;exact wpAny_inSet_of (DO a).1 (DO (P:=X.prog) (w:=X.w) a).2 d ⟨.bl (S k),H,I.tok _,rfl,q⟩
theorem VW:OpR X (AU .NotIn) (Fo A3):=by intro g s j H x y v u Q I a f h;obtain⟨k,D,S,n,rfl,rfl,b,q⟩:=h;cases f;obtain⟨o,e,i⟩:=(show B7 X.prog X.w H s.heap D (Bi D S n)from I.hok D _ b).1;obtain⟨m,_,d⟩:=Iv (X:=X) e i;exact wpAny_notInSet_of (DO a).1 (DO (P:=X.prog) (w:=X.w) a).2 d ⟨.bl (!S k),H,I.tok _,rfl,q⟩
def inL(ns:List Int):Option Int->Bool
 |A0 i=>ns.contains i
 |A6=>A7
def MO(K:W.Frag):List V->Hp->VK->Prop:=λd H Q=>∃a b,d=[.ref a]/\SqL K H a (b.map V.int)/\b.length<=3999/\∀p,H p=A6->Q (.ref p) (upd H p (Bi p (inL b) b.length))
theorem VX(O:X.calm=A3):BI X (.type "set") (MO X.K):=by
 intro p_ s σ H xs us Q I y h;obtain⟨a,f,rfl,S,hl,q⟩:=h;cases y with
 |cons r1 y=>
  cases y;cases r1;obtain⟨g,r,Z,hz⟩:=I.list S;have d:=r.length;rw[ac]at d;refine call_set_list (I.ok.hd O) Z.isList (S_ r) (by rw[aE,<-d];exact cm (Nat.succ_le_succ hl) (by decide)) λh' R Y P=>?_;have N:H s.heap.objs.size=A6:=I.hok.fresh (ah _);obtain⟨o,U,A⟩:=Y.objOf;have M:=firstMet_length_le (λi=>f.getD i 0) g.toArray.size;have C:o.SetObjOf (DL X.prog X.w) (inL f) (firstMet (λi=>f.getD i 0) g.toArray.size).length:=by
   obtain⟨E,es,ep,t,hd,m,n,v,T⟩:=A;refine⟨E,es,ep,t,hd,λe D=>?_,λk=>?_,v,T⟩;.obtain⟨⟨j,l,J⟩,p⟩:=m e D;exact⟨⟨A0 j,l,J⟩,p⟩
   .cases k with
    |none=>
     constructor;.intro z;cases z
     .rintro⟨e,D,L⟩;obtain⟨⟨j,l,J⟩,p⟩:=m e D;obtain⟨t',et⟩:=A2.isInt_shape l;rw[et]at L;cases L
    |some i=>
     have:=n i;dsimp only at this;rw[firstMet_any]at this;refine Iff.trans ?_ this;show f.contains i=A3↔_;have en:(aG g.toArray.size).map (λi=>f.getD i 0)=f:=by
      rw[aE,<-d];apply bW;intro j;rw[aj];by_cases l:j<f.length;.rw[cv l];simp[List.getD,l]
      .rw[bH.mpr (by simpa using l),bH.mpr ⋯];rfl
     rw[en,List.contains_eq_any_beq];constructor;.intro z;rw[br]at z⊢;obtain⟨x,B,e⟩:=z;exact⟨x,B,by rw[beq_iff_eq]at e⊢;exact e.symm⟩
     .intro z;rw[br]at z⊢;obtain⟨x,B,e⟩:=z;exact⟨x,B,by rw[beq_iff_eq]at e⊢;exact e.symm⟩
  refine⟨.ref s.heap.objs.size,_,I.laid (t':=R) (λb o G=>P b o (aq G) G) (ah _) (o:=Bi s.heap.objs.size (inL f) f.length) (MN U (MM C (aN M (by rw[aE,d];exact ah _)) ⋯)),rfl,q _ N⟩
def D0(d:TE):TL ((Option Int->Bool)×Nat):=λb a H N=>d b H λv e=>∃k,v=kO k/\a.2<4000/\N (λj=>a.1 j||decide (j=k),a.2+1) e
theorem VY{D:A4}{d:A8}{y:TE}(n:X.xe=λ_ _=>False)(Z:PE X d y):Cg X D IsS [] (do let v<-Ac d X.env;standAt d.pos;let _<-call (.builtin "set.add") [.ref D,v]) (D0 y):=by
 intro t s g H a o N I q r x hq;have S:Inv X (t++C3 [D] s.heap) g H s:=I.pinned (λb f=>by
  have e:b=D:=by simpa using f
  subst e;exact q) (λb f=>by
  have e:b=D:=by simpa using f
  subst e;exact⟨o,r,Iu _ _ x⟩);have B:=Z _ s g H _ S hq;rw[n]at B;refine aa (thn B λu i⟨v,A,C,r1,k,Q,L,U⟩=>?_);subst Q;have h:=C.pin (D,o) (am _ (am _ (CN (by simp) r)));obtain⟨m,T,O⟩:=Iv (X:=X) h.1 x;refine aa (cw (aa (call_set_add (DO r1).1 (DO (P:=X.prog) (w:=X.w) r1).2 O (cm (Nat.succ_le_of_lt (cm T L)) (by decide)) λh' J p=>?_)));obtain⟨_,R,f2,E,G,K⟩:=q;obtain⟨Y,j,l⟩:=p.objOf;have M:Inv X t g A {i with heap:=h',toks:=i.toks+1}:=C.unpinned.turned (it:=D) (t':=i.toks+1) (λb o f e=>(J.2 b f).trans e) h.2.1 R E G K;exact af ⟨g,_,Y,A,M,Ext.refl,j,MM l (by split<;>omega) ⋯,h.2.1,U⟩
theorem VZ{A:AN}{E:A2->A5->Prop}(s:A5)(Q:A2->A5->Prop)(h:∀a,Q (.ref s.heap.objs.size) {s with heap:=s.heap.push {cls:=.type "set",dict:=A6,data:=.set #[] 0 (.fresh 0 0 a)}}):AA (AD X.prog X.w) A (newSet (.type "set")) Q E s:=by unfold newSet setsByText;refine aa (aa (bL (af ?_)));exact aS (h _)
theorem Va(a:Bool):IsS (λ_=>A7,0) {cls:=.type "set",dict:=A6,data:=.set #[] 0 (.fresh 0 0 a)}:=⟨aJ _,⟨_,_,_,rfl⟩,0,ah _,λ_ _=>setObjOf_fresh a⟩
end
abbrev NH:Int:=0xFCA86420
section
variable{prog:AC}{w:AL}{A:AN}{E:A2->A5->Prop}{s:A5}
theorem MP{d:A4}{o:AT}{es:Array At}{m:Nat}{Q:Option Nat->A5->Prop}(l:s.heap.get? d=A0 o)(j:o.data=.dict es m)(f:∀e∈es.toList,e.hash≠NH)(h:Q A6 s):
  AA (AD prog w) A (dictFind d .none NH) Q E s:=by
 have g:placesWithHash es.size (λi=>es[i]?.map (·.hash)) NH=[]:=by
  unfold placesWithHash;rw[List.filter_eq_nil_iff];intro i p a;dsimp only at a;cases b:es[i]? with
  |none=>rw[b]at a;cases a
  |some e=>rw[b]at a;have n:e∈es.toList:=bY.mpr (dm b);exact f e n (by simpa using a)
 unfold dictFind;try with_reducible refine aR ?_
 refine aa (cJ l j ?_);dsimp only;rw[g];rw[if_pos (show((A2.none::([]:List Nat).filterMap (λi=>es[i]?.map (·.key))).all carriedByValue)=A3 by rfl)];unfold dictWalkPlain;simp only[List.forIn_nil,pure_bind,bind_pure];exact af h
theorem Vb{d:A4}(f:(d==AS)=A7):
  MeetsIn prog w (AK.«dict.get» ⟨[.ref d,.none],[]⟩) (λ_ R s=>∃o a b,s.heap.get? d=A0 o/\o.data=.dict a b/\(∀e∈a.toList,e.hash≠NH)/\R (.ok (.ret .none)) {s with toks:=s.toks+1}):=
 .of_wp λA R s⟨o,a,b,i,g,j,h⟩=>by
  show AA _ _ (dictGet d .none>>=_) _ _ s;refine aa ?_;unfold dictGet;try with_reducible refine aR ?_
  refine aa (FY (aa (MP (s:={s with toks:=s.toks+1}) i g j (af ?_))));show AA _ _ (AK.Dict.missed d .none>>=_) _ _ _;exact aa (wpAny_missed_other f (af ⟨.none,rfl,h⟩))
end
theorem MQ{P:AC}{w:AL}{k:Key}:∀{b:List At}{f:List (Key×A2)}{a:At},Pairs (BQ P w) b f->a∈b->(BQ P w).is k a.key=A3->k∈f.map (·.1)
 |_,_,_,.nil,h,_=>by cases h
 |_,_,a,.cons (e:=e) (kv:=kv) g i r,h,d=>by
  rcases ap.mp h with rfl|h;.rw[(BQ P w).inj _ _ _ d g];exact ay
  .exact ax _ (MQ r h d)
theorem EE{d a:Type}{F:d->a->Prop}:∀{b:List d}{e:List a}{y:a},Aj F b e->y∈e->∃x∈b,F x y
 |_,_,_,.nil,h=>by cases h
 |_,_,y,.cons i r,h=>by
  rcases ap.mp h with rfl|h;.exact⟨_,ay,i⟩
  .obtain⟨x,g,f⟩:=EE r h;exact⟨x,ax _ g,f⟩
def NoN(H:Hp)(a:A4):Prop:=(∃b,H a=A0 (.dK b)/\∀d∈b,∃i:Int,d.1=.inl i/\hashInt i≠NH)\/
 ∃b,H a=A0 (.dT b)/\∀d∈b,∃e:List Int,d.1=e.map Key.inl/\reduceHash (AK.Tuple.tupleHashOf (e.map hashInt))≠NH
theorem NoN.at{X:Cx}{J:List (A4×AT)}{σ:St}{H:Hp}{s:A5}{a:A4}(I:Inv X J σ H s)(h:NoN H a):(a==AS)=A7/\s.TypeIs (.ref a) "dict"/\∃o g l,s.heap.get? a=A0 o/\o.data=.dict g l/\∀e∈g.toList,e.hash≠NH:=by
 rcases h with⟨m,e,p⟩|⟨m,e,p⟩
 .obtain⟨z,A,O,d,j⟩:=Ly I.hok e;refine⟨A,j.typeIs,?_⟩;obtain⟨o,g,l,B,_,C,n,L,_⟩:=j;refine⟨o,g,l,B,C,λE b=>?_⟩;obtain⟨k,r,D⟩:=n E (bY.mp b);have q:k∈m.map (·.1):=by rw[d.keys];exact MQ L b r
  obtain⟨v,f,rfl⟩:=ar.mp q;obtain⟨i,t,y⟩:=p v f;rw[D,t];exact y
 .obtain⟨z,A,N,d,j⟩:=Lz I.hok e;refine⟨A,j.typeIs,?_⟩;obtain⟨o,g,l,B,_,C,n,_⟩:=j;refine⟨o,g,l,B,C,λE b=>?_⟩;rw[n]at b;obtain⟨x,K,rfl⟩:=ar.mp b;obtain⟨v,f,G⟩:=EE d K;obtain⟨M,t,y⟩:=p v f;show(tupleKind (BQ X.prog X.w)).hash x.1≠NH;rw[<-G.1,t];show reduceHash (AK.Tuple.tupleHashOf ((M.map Key.inl).map (BQ X.prog X.w).hash))≠NH;rw[aU];exact y
theorem Vc{X:Cx}{b:List (A4×AT)}{σ:St}{H:Hp}{s:A5}{a:A4}{A:AN}{E:A2->A5->Prop}{Q:A2->A5->Prop}(I:Inv X b σ H s)(g:NoN H a)(h:∀d,Inv X b σ H d->Q .none d):
  AA (AD X.prog X.w) A (call (.builtin "dict.get") [.ref a,.none]) Q E s:=by obtain⟨f,j,o,n,i,l,e,m⟩:=g.at I;exact call_meetsIn PySem.F.slot_dict_get j PySem.F.entry_dict_get (PySem.F.args_dict_get_2 _ _) (Vb f) ⟨o,n,i,l,e,m,h _ (I.tok _)⟩
def Ei(P:AC)(w:AL)(a:List (Key×V))(o:AT):Prop:=a.length<=A9/\∃d b e,KV a d/\o.ExactDict/\o.data=.dict b e/\KeysOf (BQ P w) b/\Pairs (BQ P w) b.toList d/\(d.map (·.1)).Nodup
theorem MR{P:AC}{w:AL}(a:List (Key×V))(o:AT)(h:Ei P w a o)(v:Option A2):o.data≠.cell v:=by obtain⟨_,_,e,d,_,_,b,_⟩:=h;rw[b];exact λz=>nomatch z
theorem MS{X:Cx}{A:AN}{E:A2->A5->Prop}(s:A5)(Q:A2->A5->Prop)(h:∀a:Bool,Q (.ref s.heap.objs.size) {s with heap:=s.heap.push {cls:=.type "dict",dict:=A6,data:=.dict #[]}}):AA (AD X.prog X.w) A newDict Q E s:=aS (h A3)
theorem Vd{P:AC}{w:AL}(a:Bool):Ei P w [] {cls:=.type "dict",dict:=A6,data:=.dict #[]}:=
 ⟨aJ _,[],#[],0,.nil,⟨rfl,rfl,rfl⟩,rfl,λe b=>by simp at b,.nil,dg⟩
theorem Ve{P:AC}{w:AL}(a:List (Key×V))(o:AT)(D:A4)(H:Hp)(h:AM)(i:Ei P w a o)(e:h.get? D=A0 o)(l:(D==AS)=A7)(_:H D=A6)(_:True)(_:HOk P w H h):B7 P w (upd H D (.dK a)) h D (.dK a):=by obtain⟨z,q,p,g,j,f,n,b,m,d⟩:=i;exact⟨z,l,q,j,o,p,g,e,f,n,b,m,d⟩
section
variable{X:Cx}
def Fp(g d:TE):TL (List (Key×V)):=λb a H N=>g b H λy e=>d b e λv f=>∃k,y=kV k/\a.length<A9/\N (BX a k v) f
theorem Vf{D:A4}{B p:A8}{S R:TE}(m:X.xe=λ_ _=>False)(hk:PE X B S)(hv:PE X p R):Cg X D (Ei X.prog X.w) [] (do
   let E<-Ac B X.env
   let K<-holding [E] (Ac p X.env)
   match A2.ref D with
   | .ref d=>do
    standAt {B.pos with endLine:=p.pos.endLine,endCol:=p.pos.endCol}
    holding [E,K] (dictSet d E K)
   |_=>unsupported "internal:dictcomp") (Fp S R):=by
 intro p_ s i H a o N I M r U hq;have j:∀{h:A5}{g:List (A4×AT)}{n:Hp},Inv X g i n h->BW X g n D->h.heap.get? D=A0 o->Inv X (g++C3 [D] h.heap) i n h:=λJ f e=>J.pinned (λb l=>by
  have z:b=D:=by simpa using l
  subst z;exact f) (λb l=>by
  have z:b=D:=by simpa using l
  subst z;exact⟨o,e,MR _ _ U⟩);have O:=hk _ s i H _ (j I M r) hq;rw[m]at O;refine aa (thn O λu h⟨y,n,L,r1,x⟩=>?_);have q1:=L.pin (D,o) (am _ (am _ (CN (by simp) r)));have P:=hv _ h i n _ L x;rw[m]at P;refine aa (aR (thn P λu2 q⟨v,T,Q,r2,k,ek,z2,n2⟩=>?_));subst ek;have G:=Q.pin (D,o) (am _ (am _ (CN (by simp) r)));obtain⟨z,vs,es,ep,Y,Z,g3,g4,g5,g6⟩:=U;have dd:q.heap.DictOf (BQ X.prog X.w) D vs:=⟨o,es,ep,G.1,Z,g3,g4,g5,g6⟩;refine aa (cw (aR (wpAny_dictSet_pairs (hsz:=by rw[<-Y.length];exact z) (Dh r1) dd λh' t hs=>?_)));obtain⟨_,f1,f2,f3,f4,f5⟩:=M;obtain⟨o',A,C,d1,d2,d3,d4,d5,d6⟩:=t;have J3:Inv X p_ i T {q with heap:=h',toks:=q.toks+1}:=Q.unpinned.turned (it:=D) (t':=q.toks+1) (λb o l e=>(hs.2 b l).trans e) G.2.1 f1 f3 f4 f5;exact⟨i,_,o',T,J3,Ext.refl,d1,⟨aN (Ij a k v) z2,_,A,C,Y.put k r2,d2,d3,d4,d5,d6⟩,G.2.1,n2⟩
end
abbrev KTL:=List (List Key×A4×V)
def Ej(P:AC)(w:AL)(a:KTL)(o:AT):Prop:=a.length<=A9/\∃(b:List (List Key×A4×A2))(d:Array At)(e:Nat),Aj (λ(p:List Key×A4×V)(q:List Key×A4×A2)=>p.1=q.1/\p.2.1=q.2.1/\B0 p.2.2 q.2.2) a b/\o.ExactDict/\o.data=.dict d e/\d.toList=b.map (entryOfKey (tupleKind (BQ P w)))/\(b.map (·.1)).Nodup
theorem MT{P:AC}{w:AL}(a:KTL)(o:AT)(h:Ej P w a o)(v:Option A2):o.data≠.cell v:=by obtain⟨_,_,e,d,_,_,b,_⟩:=h;rw[b];exact λz=>nomatch z
theorem Vg{P:AC}{w:AL}(a:Bool):Ej P w [] {cls:=.type "dict",dict:=A6,data:=.dict #[]}:=
 ⟨aJ _,[],#[],0,.nil,⟨rfl,rfl,rfl⟩,rfl,rfl,dg⟩
def okT(a:KTL)(H:Hp):Prop:=∀x∈a,H x.2.1=A0 (.tup (x.1.map kV))
def plT(a:KTL):List (List Key×V):=a.map λx=>(x.1,x.2.2)
theorem MU{H:Hp}:∀{a:KTL}{b:List (List Key×A4×A2)},Aj (λ(p:List Key×A4×V)(q:List Key×A4×A2)=>p.1=q.1/\p.2.1=q.2.1/\B0 p.2.2 q.2.2) a b->okT a H->Aj (λ(p:List Key×V)(q:List Key×A4×A2)=>p.1=q.1/\H q.2.1=A0 (.tup (p.1.map kV))/\B0 p.2 q.2.2) (plT a) b
 |_,_,.nil,_=>.nil
 |_,_,.cons h r,ok=>.cons ⟨h.1,by rw[<-h.2.1];exact ok _ ay,h.2.2⟩ (MU r λx d=>ok x (ax _ d))
theorem Vh{P:AC}{w:AL}(a:KTL)(o:AT)(D:A4)(H:Hp)(h:AM)(i:Ej P w a o)(e:h.get? D=A0 o)(m:(D==AS)=A7)(f:H D=A6)(ok:okT a H)(_:HOk P w H h):B7 P w (upd H D (.dT (plT a))) h D (.dT (plT a)):=by obtain⟨z,r,q,j,l,g,p,d,n⟩:=i;refine⟨by unfold plT;rw[ac];exact z,m,r,MU l λx b=>?_,o,q,j,e,g,p,d,n⟩;rw[Ay (Bm (ok x b) f)];exact ok x b
section
variable{X:Cx}
def Fq(h f:TE):TL KTL:=λe a H N=>h e H λy g=>f e g λv d=>∃(k:List Key)(b:A4),y=.ref b/\d b=A0 (.tup (k.map kV))/\okT a d/\(∀x∈a,x.1≠k)/\a.length<A9/\N (a++[(k,b,v)]) d
theorem Vi{D:A4}{P B:A8}{tk tv:TE}(hu:X.A.units+1<Am)(q:X.xe=λ_ _=>False)(hk:PE X P tk)(hv:PE X B tv):Cg X D (Ej X.prog X.w) [] (do
   let S<-Ac P X.env
   let U<-holding [S] (Ac B X.env)
   match A2.ref D with
   | .ref d=>do
    standAt {P.pos with endLine:=B.pos.endLine,endCol:=B.pos.endCol}
    holding [S,U] (dictSet d S U)
   |_=>unsupported "internal:dictcomp") (Fq tk tv):=by
 intro p_ s i H a o N I Z Y hi hq;have m:∀{h:A5}{g:List (A4×AT)}{r:Hp},Inv X g i r h->BW X g r D->h.heap.get? D=A0 o->Inv X (g++C3 [D] h.heap) i r h:=λJ f e=>J.pinned (λb n=>by
  have z:b=D:=by simpa using n
  subst z;exact f) (λb n=>by
  have z:b=D:=by simpa using n
  subst z;exact⟨o,e,MT _ _ hi⟩);have h1:=hk _ s i H _ (m I Z Y) hq;rw[q]at h1;refine aa (thn h1 λu h⟨y,r,J1,r1,L⟩=>?_);have h2:=hv _ h i r _ J1 L;rw[q]at h2;refine aa (aR (thn h2 λu2 E⟨v,H2,C,r2,k,b,ek,eb,ok,nw,z2,n2⟩=>?_));subst ek;cases(show u=A2.ref b from r1);have T:=C.pin (D,o) (am _ (am _ (CN (by simp) Y)));obtain⟨z,xs,es,ep,G,g2,g3,g4,g5⟩:=hi;have K:=Ah G;have dd:E.heap.DictOfH (tupleKind (BQ X.prog X.w)) D xs:=⟨o,es,ep,T.1,g2,g3,g4,λx l=>by obtain⟨p,R,O,e2,_⟩:=EE G l;rw[<-O,<-e2];exact Cj C.hok (ok p R),g5⟩;refine aa (cw (aR (wpAny_dictSet_heap (hsz:=by rw[<-K];exact z) (show X.A.units<Am from Nat.lt_of_succ_lt hu) (Cj C.hok eb) dd λh' j hs=>?_)));obtain⟨_,f1,f2,f3,f4,f5⟩:=Z;have t:∀x∈xs,x.1≠k:=λx l e=>by obtain⟨p,R,O,_⟩:=EE G l;exact nw p R (O.trans e)
 rw[storedH_new (by unfold atKey;rw[List.find?_eq_none.mpr (λx l=>by simpa using t x l)];rfl)]at j;obtain⟨o',M,Q,d1,d2,d3,d4,d5,d6⟩:=j;have J3:Inv X p_ i H2 {E with heap:=h',toks:=E.toks+(tupleKind (BQ X.prog X.w)).draws k}:=C.unpinned.turned (it:=D) (t':=E.toks+(tupleKind (BQ X.prog X.w)).draws k) (λb o n e=>(hs.2 b n).trans e) T.2.1 f1 f3 f4 f5;exact⟨i,_,o',H2,J3,Ext.refl,d1,⟨by rw[aB];exact z2,_,M,Q,Aj.snoc G ⟨rfl,rfl,r2⟩,d2,d3,d4,d6⟩,T.2.1,n2⟩
end
theorem ltG{a:Type}{l:List a}{i:Nat}{x:a}(h:l[i]?=A0 x):i<l.length:=(aW.mp h).1
def hT(k:List Int):Int:=reduceHash (AK.Tuple.tupleHashOf (k.map hashInt))
theorem Vj{k:List Int}:(k.map Key.inl).map kV=k.map V.int:=by rw[aU];rfl
theorem Vk{P:AC}{w:AL}{k:List Int}:(tupleKind (BQ P w)).hash (k.map Key.inl)=hT k:=by show reduceHash (AK.Tuple.tupleHashOf ((k.map Key.inl).map (BQ P w).hash))=_;rw[aU];rfl
section
variable{X:Cx}{p_:List (A4×AT)}{σ:St}{H:Hp}{s:A5}{A:AN}{E:A2->A5->Prop}
def NoR(H:Hp)(a:A4):Prop:=∃b,Rd H a (.dT b)/\∀e∈b,∃d:List Int,e.1=d.map Key.inl/\hT d≠NH
theorem NoR.at{a:A4}(I:Inv X p_ σ H s)(h:NoR H a):(a==AS)=A7/\s.TypeIs (.ref a) "dict"/\∃o d g,s.heap.get? a=A0 o/\o.data=.dict d g/\∀e∈d.toList,e.hash≠NH:=by obtain⟨C,e,m⟩:=h;obtain⟨z,t,G,f,j⟩:=CI I.hok e;refine⟨t,j.typeIs,?_⟩;obtain⟨o,d,g,y,_,B,l,_⟩:=j;refine⟨o,d,g,y,B,λD b=>?_⟩;rw[l]at b;obtain⟨x,v,rfl⟩:=ar.mp b;obtain⟨q,i,n⟩:=EE f v;obtain⟨J,p,r⟩:=m q i;show(tupleKind (BQ X.prog X.w)).hash x.1≠NH;rw[<-n.1,p,Vk];exact r
theorem MV{a:A4}{Q:Bool->A5->Prop}(I:Inv X p_ σ H s)(g:NoR H a)(h:∀d,Inv X p_ σ H d->Q A7 d):AA (AD X.prog X.w) A (contains (.ref a) .none) Q E s:=by
 obtain⟨i,hT,o,l,j,f,e,b⟩:=g.at I;unfold contains;try with_reducible refine aR ?_
 refine aa (cy hT F.slot_dict_contains.lookup ?_);show AA _ _ (if(A0 (A2.builtin "dict.__contains__")==A0 A2.none)=A3 then _ else _) _ E s;rw[if_neg (by rw[beq_builtin_none];exact aD)];refine aa (wpAny_callSpecialUnlessNone?_slot (name:=AI.ofString "__contains__") hT F.slot_dict_contains (aV F.slot_dict_contains hT F.entry_dict_contains ?_ (F.args_dict_contains_2 _ _)));show AA _ _ (dictGet a .none>>=_) _ _ s;refine aa ?_;unfold dictGet;try with_reducible refine aR ?_
 refine aa (FY (aa (MP (s:={s with toks:=s.toks+1}) f e b (af ?_))));show AA _ _ (AK.Dict.pendingKey? a .none>>=_) _ _ _;exact aa (wpAny_pendingKey_other i (af ⟨_,rfl,bT (h _ (I.tok _))⟩))
def Fs(neg:Bool):R2:=λy x H Q=>False\/(y=.non/\∃D,x=.ref D/\NoR H D/\Q (.bl neg) H)
theorem Vl(hu:X.A.units+1<Am):OpR X (AU .In) (Fs A7):=by
 intro p_ s σ H y x v u Q I e d h;show AA _ _ (contains u v>>=λb=>pure (A2.bool b)) _ _ s;rcases h with z|⟨rfl,D,rfl,g,q⟩;.exact z.elim
 .cases e;cases d;exact aa (MV I g λf a=>af ⟨.bl A7,H,a,rfl,q⟩)
theorem Vm(hu:X.A.units+1<Am):OpR X (AU .NotIn) (Fs A3):=by
 intro p_ s σ H y x v u Q I e d h;show AA _ _ (contains u v>>=λb=>pure (A2.bool (!b))) _ _ s;rcases h with z|⟨rfl,D,rfl,g,q⟩;.exact z.elim
 .cases e;cases d;exact aa (MV I g λf a=>af ⟨.bl A3,H,a,rfl,q⟩)
def Iw(e ty d:TE):TS:=λD σ H=>d σ H λv f=>e σ f λx g=>ty σ g λy h=>(∃a b,x=.ref a/\ED h a y v b/\D.nx σ b)\/False
variable{o i value:A8}{pos pos':Pos}{td ty tv:TE}
theorem Vn(hu:X.A.units+1<Am)(p:PE X o td)(hi:PE X i ty)(L:PE X value tv)(hs:swapsWith value (A0 (.Subscript o i pos')) pos.line X.env=pure A7):
  PS X (.Assign [.Subscript o i pos'] value pos) (Iw td ty tv):=by
 intro p_ s σ H D I h;refine wpAny_Assign_Subscript (thn (L p_ s σ H _ I h) λr j⟨v,C,G,d,f⟩=>thn (p p_ j σ C _ G f) λu J⟨x,n,q,t,B⟩=>thn (hi p_ J σ n _ q B) λO M⟨y,N,e,K,b⟩=>?_) hs;rcases b with⟨a,w,l,g,b⟩|z;.subst l;obtain rfl:u=A2.ref a:=t;exact Us hu e g K d λP m=>⟨σ,w,m,b⟩
 .exact z.elim
end
def Ix(neg:Bool)(ty e:TE):TE:=λd H Q=>ty d H λy f=>e d f λx b=>(∃a o,x=.ref a/\Bn b a y o/\Q (.bl (if neg then !o.isSome else o.isSome)) b)\/Fo neg y x b Q\/Fs neg y x b Q
def Iy(f ty:TE):TE:=λd H Q=>f d H λx e=>∃a,x=.ref a/\IsD e a/\ty d e λy b=>(∃o,Bn b a y o/\Q (o.getD .non) b)\/(y=.non/\NoN b a/\Q .non b)
section
variable{X:Cx}{o e f i:A8}{apos cpos:Pos}{td ty tx:TE}
theorem MW(hu:X.A.units+1<Am)(hi:PE X i ty)(C:PE X o td):PC X .In i o (Ix A7 ty td):=by
 intro d s j H Q I h;refine thn (hi d s j H _ I h) λq w⟨y,E,G,p,v⟩=>thn (C d w j E _ G v) λu r⟨x,l,m,n,b⟩=>?_;rcases b with⟨a,D,B,g,b⟩|b|b;.subst B;obtain rfl:u=A2.ref a:=n;exact Up hu m g p λJ t=>⟨.bl D.isSome,l,t,rfl,b⟩
 .exact VV d r j l y x q u Q m p n b
 .exact Vl hu d r j l y x q u Q m p n b
theorem MX(hu:X.A.units+1<Am)(hi:PE X i ty)(C:PE X o td):PC X .NotIn i o (Ix A3 ty td):=by
 intro d s j H Q I h;refine thn (hi d s j H _ I h) λq w⟨y,E,G,p,v⟩=>thn (C d w j E _ G v) λu r⟨x,l,m,n,b⟩=>?_;rcases b with⟨a,D,B,g,b⟩|b|b;.subst B;obtain rfl:u=A2.ref a:=n;exact Uq hu m g p λJ t=>⟨.bl (!D.isSome),l,t,rfl,b⟩
 .exact VW d r j l y x q u Q m p n b
 .exact Vm hu d r j l y x q u Q m p n b
theorem Vo(hu:X.A.units+1<Am)(G:PE X o td)(O:PE X e ty)(m:M1 X o "get" apos e cpos):PE X (.Call (.Attribute o "get" apos) [e] [] cpos) (Iy td ty):=by
 intro p s t H Q I h;refine wpAny_Call_method m.base m.few m.line PySem.F.plainAttrs_dict PySem.F.slot_dict_get PySem.F.type_dict_get (thn (G p s t H _ I h) λu C⟨x,N,r,K,a,D,d,B⟩=>?_);subst D;obtain rfl:u=A2.ref a:=K;obtain⟨w,M,_⟩:=M2 r d;refine⟨w,M,?_⟩;rw[m.trees];refine Calls.callWith_builtin rfl (Calls.evalArgs_plain (Calls.spliced_cons (thn (O p C t N _ r B) λL R⟨y,n,q,v,b⟩=>Calls.spliced_nil ?_)));rcases b with⟨P,g,b⟩|⟨E,g,b⟩;.exact U_ hu q g v λS J j l=>⟨_,n,j,l,b⟩
 .subst E;obtain rfl:L=A2.none:=v;exact Vc q g λJ j=>⟨.non,n,j,rfl,b⟩
end
abbrev MY(own:List Nat)(d:TI)(g:TG)(b:TT)(Aw:TL ((Option Int->Bool)×Nat)):TE:=DN own d g b Aw (λ_=>A7,0) (λp a=>Bi p a.1 a.2) λ_ _=>True
abbrev MZ(own:List Nat)(e:TI)(g:TG)(d:TT)(f b:TE):TE:=DN own e g d (Fp f b) [] (λ_ a=>.dK a) λ_ _=>True
abbrev Ma(own:List Nat)(e:TI)(g:TG)(d:TT)(f b:TE):TE:=DN own e g d (Fq f b) [] (λ_ a=>.dT (plT a)) okT
section
variable{X:Cx}{e:A8}{scope:AX}{tg iter:A8}{ifs:List A8}{nx:A4->Env->Sem Unit}{g:TG}{tc:TT}{own:List Nat}{wi:TI}
theorem Vp{P:AC}{w:AL}(a:(Option Int->Bool)×Nat)(o:AT)(D:A4)(H:Hp)(h:AM)(i:IsS a o)(e:h.get? D=A0 o)(_:(D==AS)=A7)(_:H D=A6)(_:True)(_:HOk P w H h):B7 P w (upd H D (Bi D a.1 a.2)) h D (Bi D a.1 a.2):=MN e i
theorem Iz{n:Type}{Is:n->AT->Prop}{Aw:TL n}{a0:n}{o0:Bool->AT}{d:Sem A2}{x:A4->n->HO}{ok:n->Hp->Prop}{i:Nat}{y:AI}{q pos l:Pos}
  (m:∀(s:A5)(Q:A2->A5->Prop),(∀f,Q (.ref s.heap.objs.size) {s with heap:=s.heap.push (o0 f)})->AA (AD X.prog X.w) X.A d Q X.xe s)(p:∀f,(o0 f).isFreed=A7)(t:∀f,Is a0 (o0 f))(r:∀(a:n)(o:AT),Is a o->∀v:Option A2,o.data≠.cell v)
  (j:∀(a:n)(o:AT)(D:A4)(H:Hp)(h:AM),Is a o->h.get? D=A0 o->(D==AS)=A7->H D=A6->ok a H->HOk X.prog X.w H h->B7 X.prog X.w (upd H D (x D a)) h D (x D a))
  (C:CompInG Is X e scope tg iter ifs nx g tc Aw own)(hi:PI X tg iter wi)(J:X.N.Nodup)(L:X.N[i]?=A0 y)(K:Loc X.env.scope y)(I:X.fn y=A3\/X.env.scope.names.lookup y=A0 .local)
  (O:PG X (.Name y q) (C8 i))
  (M:Ac e X.env=Ak e scope X.env l d A7 (Ac iter X.env))
  (E:evalThenUse e X.env (assign (.Name y q) X.env)=(do let _<-Ak e scope X.env l d A7 (Ac iter X.env) (A0 (assign (.Name y q) X.env))))
  (B:∃b,swapsWith e (A0 (.Name y q)) pos.line X.env=pure b):PS X (.Assign [.Name y q] e pos) (CM (DN own wi g tc Aw a0 x ok) (C8 i)):=by
 obtain⟨b,G⟩:=B;cases b with
 |true=>exact VU m p t r j C hi J L K I E G
 |false=>exact Fb (VT m p t r j C hi M) O G rfl
end
def iOf:A2->Int
 | .int i _=>i
 |_=>0
theorem Ft:∀{a:List A2},(∀v∈a,∃i t,v=.int i t)->IntsAre a (a.map iOf)
 | [],_=>.nil
 |v::a,h=>by obtain⟨i,t,rfl⟩:=h v (by simp);exact .cons i t (Ft λv b=>h v (by simp[b]))
theorem Mb:∀{a:List Int}{b:List A2},IntsAre b a->B5 (a.map V.int) b
 |_,_,.nil=>.nil
 |_,_,.cons y t r=>.cons ⟨t,rfl⟩ (Mb r)
theorem Mc:∀{l b:List Int},l.Nodup->(∀i∈l,i∈b)->l.length<=b.length
 | [],_,_,_=>aJ _
 |a::l,b,h,j=>by
  have g:a∈b:=j a (by simp);have:=Mc (l:=l) (b:=b.erase a) (cc.mp h).2 λi f=>by have d:i≠a:=λe=>(cc.mp h).1 (by rw[<-e];exact f);exact(List.mem_erase_of_ne d).mpr (j i (by simp[f]))
  rw[List.length_erase_of_mem g]at this;have:=List.length_pos_of_mem g;rw[bv];omega
section
variable{X:Cx}
theorem Inv.other{a:List (A4×AT)}{σ:List (Option V)}{H:Hp}{s s':A5}(I:Inv X a σ H s)(h1:s'.heap=s.heap)(b:s'.gens=s.gens)(e:s'.os=s.os):Inv X a σ H s':=by obtain⟨f,g,d,t,os⟩:=s';cases h1;cases b;cases e;exact⟨I.ok,I.os,I.bare,I.base,I.loc,I.cell,I.free,I.freeC,I.pin,I.hok,I.len⟩
theorem Inv.ints{f:List (A4×AT)}{σ:List (Option V)}{H:Hp}{s s':A5}{l:A4}{d:List Int}{vs:Array A2}{e:Nat}(I:Inv X f σ H s)(m:∀b o,s.heap.get? b=A0 o->s'.heap.get? b=A0 o)(p:s'.gens=s.gens)(i:s'.os=s.os)(g:s.heap.objs.size<=l)(h:s'.heap.get? l=A0 (seqObj "list" vs e))(j:IntsAre vs.toList d)(n:d.length<=A9):
  Inv X f σ (upd H l (.lst (d.map V.int))) s':=by have J:=I.laid (a:=l) (o:=.lst (d.map V.int)) (h':=s'.heap) (t':=s.toks) m g ⟨by rw[ac];exact n,vs.toList,e,Mb j,by rw[h]⟩;exact J.other rfl p i
def Fu(P:AC)(w:AL)(a:(Option Int->Bool)×Nat)(o:AT):Prop:=a.2<=4000/\∃m,m<=a.2/\o.SetIt (DL P w) a.1 m
theorem Md{P:AC}{w:AL}(a:(Option Int->Bool)×Nat)(o:AT)(h:Fu P w a o)(v:Option A2):o.data≠.cell v:=by obtain⟨_,m,_,e,d,t,_,b,_⟩:=h;rw[b];exact λz=>nomatch z
theorem Vq{D:A4}{d:A8}{x:TE}(l:X.xe=λ_ _=>False)(Y:PE X d x):Cg X D (Fu X.prog X.w) [] (do let v<-Ac d X.env;standAt d.pos;let _<-call (.builtin "set.add") [.ref D,v]) (D0 x):=by
 intro r s g H a o N I p q t hq;have R:Inv X (r++C3 [D] s.heap) g H s:=I.pinned (λb f=>by
  have e:b=D:=by simpa using f
  subst e;exact p) (λb f=>by
  have e:b=D:=by simpa using f
  subst e;exact⟨o,q,Md _ _ t⟩);have A:=Y _ s g H _ R hq;rw[l]at A;refine aa (thn A λu i⟨v,y,B,r1,k,O,K,T⟩=>?_);subst O;have h:=B.pin (D,o) (am _ (am _ (CN (by simp) q)));obtain⟨hn,m,S,M⟩:=t;refine aa (cw (aa (U5 (DO r1).1 (DO (P:=X.prog) (w:=X.w) r1).2 h.1 M (cm (Nat.succ_le_of_lt (cm S K)) (by decide)) λZ U G j n=>?_)));obtain⟨_,Q,f2,C,E,J⟩:=p;have L:Inv X r g y {i with heap:=Z,toks:=i.toks+1}:=B.unpinned.turned (it:=D) (t':=i.toks+1) (λb o f e=>(G.2 b f).trans e) h.2.1 Q C E J;exact af ⟨g,_,U,y,L,Ext.refl,j,⟨by show a.2+1<=4000;omega,_,by show _<=a.2+1;split<;>omega,n⟩,h.2.1,T⟩
variable{e:A8}{scope:AX}{tg iter:A8}{ifs:List A8}{nx:A4->Env->Sem Unit}{g:TG}{tc:TT}{Aw:TL ((Option Int->Bool)×Nat)}{own:List Nat}{wi:TI}
end
section
variable{X:Cx}
def I_(K:W.Frag):V->Option Int->Option Int->Hp->VK->Prop:=λ_ _ _ _ _=>False
theorem Vr:SlR X (I_ X.K):=λ_ _ _ _ _ _ _ _ _ _ _ _ _ _ _ _ _ h=>h.elim
end
end L2
namespace So
open PySem PySem.Spec PyProof.Rows
def CS:Bool->AG->Array AG->Nat->Nat->Nat->StateT AF Sem (Option Nat):=sortPriv%PySem.Builtin.gallop
def Fv:Array AG->Array AG->StateT AF Sem (Array AG):=sortPriv%PySem.Builtin.mergeLo
def Fw:Array AG->Array AG->StateT AF Sem (Array AG):=sortPriv%PySem.Builtin.mergeHi
section
variable{M:Model}{A:AN}{E:A2->A5->Prop}{s:A5}{O:KeyOrd}{ky:AG->O.α}{P:AG->Prop}{kd:SortKind}
theorem C2{σ d o:Type}{a b:Nat}{f:Nat->d->StateT σ Sem (ForInStep d)}{g:d->StateT σ Sem o}{Q:o->σ->Prop}{c:d}{st:σ}(I:Nat->d->σ->Prop)(D:d->σ->Prop)(m:I a c st)
  (j:∀i c st,a<=i->i<b->I i c st->wpS M A E s (f i c) (λr e=>match r with| .done n=>D n e| .yield n=>I (i+1) n e) st)
  (h:∀c st,I (max a b) c st->D c st)(l:∀c st,D c st->wpS M A E s (g c) Q st):wpS M A E s (forIn [a:b] c f>>=g) Q st:=
 AE (wpS_mono (wpS_forRange I j h m) l)
theorem Bj{a:Array AG}{i:Nat}{x:AG}{Q:AG->AF->Prop}{st:AF}(e:a[i]?=A0 x)(h:Q x st):wpS M A E s (elem' a i) Q st:=by rw[elem'_eq,e];exact AH h
def bey(a:Bool)(key:AG)(b:Array AG)(i:Nat):StateT AF Sem (Option Bool):=do
  let x<-elem' b i
  if a then lt' x key else return(<-lt' key x).map (!·)
def Fx(a:Bool)(key:AG)(e:Array AG)(base n l h:Nat):StateT AF Sem (Option Nat):=do
 let mut d:=l
 let mut b:=h
 for _ in [0:n]do
  if d≥b then break
  let m:=d+(b-d)/2
  let A0 more<-bey a key e (base+m)|return A6
  if more then d:=m+1 else b:=m
 return A0 b
theorem Vs(b:Bool)(key:AG)(d:Array AG)(base n a:Nat):CS b key d base n a=(do
 let mut u:=0
 let mut v:=1
 let A0 right<-bey b key d (base+a)|return A6
 if right then
  for _ in [0:n]do
   if v≥n-a then break
   let A0 more<-bey b key d (base+(a+v))|return A6
   if !more then break
   u:=v
   v:=2*v+1
  Fx b key d base n (a+u+1) (a+min v (n-a))
 else
  for _ in [0:n]do
   if v≥a+1 then break
   let A0 found<-bey b key d (base+(a-v))|return A6
   if found then break
   u:=v
   v:=2*v+1
  Fx b key d base n (a+1-min v (a+1)) (a-u)):=rfl
end
section
variable{M:Model}{A:AN}{E:A2->A5->Prop}{s:A5}{O:KeyOrd}{ky:AG->O.α}{P:AG->Prop}{kd:SortKind}
def BF(st a:AF):Prop:=kindOf a=kindOf st/\AV a=AV st/\AJ a=AJ st/\Ae a=Ae st
theorem BF.rfl'(st:AF):BF st st:=⟨rfl,rfl,rfl,rfl⟩
theorem BF.trans{a b c:AF}(h:BF a b)(g:BF b c):BF a c:=⟨g.1.trans h.1,g.2.1.trans h.2.1,g.2.2.1.trans h.2.2.1,g.2.2.2.trans h.2.2.2⟩
theorem BF.set(st:AF)(m:Nat):BF st (AF.mk' (kindOf st) (AV st) (AJ st) m (Ae st)):=⟨rfl,rfl,rfl,rfl⟩
theorem Bq{a:Array AG}{i:Nat}(h:i<a.size):∃p,a[i]?=A0 p/\p∈a.toList:=⟨a[i],by simp,by simp⟩
theorem Me{a:Array AG}{i:Nat}{p:AG}(e:a[i]?=A0 p):a.toList.drop i=p::a.toList.drop (i+1):=by
 have b:i<a.size:=by
  rcases dl i a.size with h|h;.exact h
  .rw[Array.getElem?_eq_none h]at e;cases e
 have:a[i]=p:=by rw[aA b]at e;exact Option.some.inj e
 rw[cx (by simpa using b)];simp[this]
theorem Cm(a:Array AG)(i j:Nat):(a.extract i j).toList=(a.toList.drop i).take (j-i):=by simp
theorem Fy(a:Array AG)(i:Nat):(a.extract i a.size).toList=a.toList.drop i:=by rw[Cm,bK];simp
theorem F_(l:List AG)(i k:Nat):l.drop i=(l.drop i).take k++l.drop (i+k):=by rw[<-List.drop_drop,bG]
end
section
variable{M:Model}{A:AN}{E:A2->A5->Prop}{s:A5}{O:KeyOrd}{ky:AG->O.α}{P:AG->Prop}{kd:SortKind}{x y:Array AG}
theorem Mg{m:Nat}{st:AF}{Q:PUnit->AF->Prop}(h:∀a,BF st a->Q ⟨⟩ a):wpS M A E s (modify λst=>AF.mk' (kindOf st) (AV st) (AJ st) m (Ae st)) Q st:=
 wpS_modify (h _ (BF.set _ _))
def dnL(x y o:Array AG)(i j:Nat):Array AG:=o++x.extract i x.size++y.extract j y.size
def laL(x y o:Array AG)(i j:Nat):Array AG:=o++y.extract j y.size++x.extract i x.size
abbrev SG:Type:=Option (Array AG)×Array AG×Nat×Nat×Nat×Nat×Nat
def lo3(x y o:Array AG)(i j mg ca cb:Nat):StateT AF Sem (ForInStep SG):=do
 let p<-elem' x i
 if(i+1+1==x.size)=A3 then pure (.done (A0 (laL x y (o.push p) (i+1) j),o.push p,i+1,j,mg,ca,cb))
 else if(decide (ca<7)&&decide (cb<7))=A3 then pure (.done (A6,o.push p,i+1,j,mg,ca,cb))else pure (.yield (A6,o.push p,i+1,j,mg,ca,cb))
def lo2(x y o:Array AG)(i j mg ca cb:Nat):StateT AF Sem (ForInStep SG):=do
 let q<-elem' y j
 if(j+1==y.size)=A3 then pure (.done (A0 (dnL x y (o.push q) i (j+1)),o.push q,i,j+1,mg,ca,cb))
 else do
  let p<-elem' x i
  let r<-CS A3 p y (j+1) (y.size-(j+1)) 0
  match r with
  |A0 k=>
   if k>0 then
    if(j+1+k==y.size)=A3 then pure (.done (A0 (dnL x y (o.push q++y.extract (j+1) (j+1+k)) i (j+1+k)),o.push q++y.extract (j+1) (j+1+k),i,j+1+k,mg,ca,k))
    else lo3 x y (o.push q++y.extract (j+1) (j+1+k)) i (j+1+k) mg ca k
   else lo3 x y (o.push q) i (j+1) mg ca k
  |_=>pure (.done (A0 (dnL x y (o.push q) i (j+1)),o.push q,i,j+1,mg,ca,cb))
def lo1(x y o:Array AG)(i j mg ca cb:Nat):StateT AF Sem (ForInStep SG):=do
 modify λa=>AF.mk' (kindOf a) (AV a) (AJ a) mg (Ae a)
 let q<-elem' y j
 let r<-CS A7 q x i (x.size-i) 0
 match r with
 |A0 k=>
  if k>0 then
   if(i+k+1==x.size)=A3 then pure (.done (A0 (laL x y (o++x.extract i (i+k)) (i+k) j),o++x.extract i (i+k),i+k,j,mg,k,cb))
   else if(i+k==x.size)=A3 then pure (.done (A0 (dnL x y (o++x.extract i (i+k)) (i+k) j),o++x.extract i (i+k),i+k,j,mg,k,cb))
   else lo2 x y (o++x.extract i (i+k)) (i+k) j mg k cb
  else lo2 x y o i j mg k cb
 |_=>pure (.done (A0 (dnL x y o i j),o,i,j,mg,ca,cb))
abbrev SI:Type:=Option (Array AG)×Array AG×Nat×Nat×Nat×Nat
abbrev SO:Type:=Option (Array AG)×Array AG×Nat×Nat×Nat
def loI(x y:Array AG)(o:Array AG)(i j mg ca cb:Nat):StateT AF Sem (ForInStep SI):=do
 let q<-elem' y j
 let p<-elem' x i
 let r<-lt' q p
 match r with
 |A0 b=>
  if b=A3 then do
   let q<-elem' y j
   if(j+1==y.size)=A3 then pure (.done (A0 (dnL x y (o.push q) i (j+1)),o.push q,i,j+1,0,cb+1))
   else if cb+1≥mg then pure (.done (A6,o.push q,i,j+1,0,cb+1))else pure (.yield (A6,o.push q,i,j+1,0,cb+1))
  else do
   let p<-elem' x i
   if(i+1+1==x.size)=A3 then pure (.done (A0 (laL x y (o.push p) (i+1) j),o.push p,i+1,j,ca+1,0))
   else if ca+1≥mg then pure (.done (A6,o.push p,i+1,j,ca+1,0))else pure (.yield (A6,o.push p,i+1,j,ca+1,0))
 |_=>pure (.done (A0 (dnL x y o i j),o,i,j,ca,cb))
def loG(x y:Array AG)(u:SG):StateT AF Sem (ForInStep SG):=
 if u.2.2.2.2.1>1 then lo1 x y u.2.1 u.2.2.1 u.2.2.2.1 (u.2.2.2.2.1-1) u.2.2.2.2.2.1 u.2.2.2.2.2.2 else lo1 x y u.2.1 u.2.2.1 u.2.2.2.1 u.2.2.2.2.1 u.2.2.2.2.2.1 u.2.2.2.2.2.2
def loO(x y:Array AG)(c:SO):StateT AF Sem (ForInStep SO):=do
 let r<-forIn [0:x.size+y.size] ((A6,c.2.1,c.2.2.1,c.2.2.2.1,0,0):SI) λ_ r=>loI x y r.2.1 r.2.2.1 r.2.2.2.1 c.2.2.2.2 r.2.2.2.2.1 r.2.2.2.2.2
 match r.1 with
 |A0 v=>pure (.done (A0 v,r.2.1,r.2.2.1,r.2.2.2.1,c.2.2.2.2))
 |A6=>do
  liftM (rule "list.sort.gallop")
  let u<-forIn [0:x.size+y.size] ((A6,r.2.1,r.2.2.1,r.2.2.2.1,c.2.2.2.2+1,r.2.2.2.2.1,r.2.2.2.2.2):SG) λ_ u=>loG x y u
  match u.1 with
  |A0 v=>pure (.done (A0 v,u.2.1,u.2.2.1,u.2.2.2.1,u.2.2.2.2.1))
  |A6=>do
   modify λa=>AF.mk' (kindOf a) (AV a) (AJ a) (u.2.2.2.2.1+1) (Ae a)
   pure (.yield (A6,u.2.1,u.2.2.1,u.2.2.2.1,u.2.2.2.2.1+1))
theorem Vt(x y:Array AG):Fv x y=(do
 rule "list.sort.merge-lo"
 let t:=x.size+y.size
 let d(o:Array AG)(i j:Nat):=o++x.extract i x.size++y.extract j y.size
 let f(o:Array AG)(i j:Nat):=o++y.extract j y.size++x.extract i x.size
 let mut o:Array AG:=#[<-elem' y 0]
 let mut i:=0
 let mut j:=1
 if j==y.size then return d o i j
 if i+1==x.size then return f o i j
 let mut a:=gallopOf (<-get)
 for _ in [0:t]do
  let mut e:=0
  let mut cb:=0
  for _ in [0:t]do
   let A0 bw<-lt' (<-elem' y j) (<-elem' x i)|return d o i j
   if bw then
    o:=o.push (<-elem' y j);j:=j+1;cb:=cb+1;e:=0
    if j==y.size then return d o i j
    if cb≥a then break
   else
    o:=o.push (<-elem' x i);i:=i+1;e:=e+1;cb:=0
    if i+1==x.size then return f o i j
    if e≥a then break
  rule "list.sort.gallop"
  a:=a+1
  for _ in [0:t]do
   if a>1 then a:=a-1
   modify λb=>AF.mk' (kindOf b) (AV b) (AJ b) a (Ae b)
   let A0 k<-CS A7 (<-elem' y j) x i (x.size-i) 0|return d o i j
   e:=k
   if k>0 then
    o:=o++x.extract i (i+k);i:=i+k
    if i+1==x.size then return f o i j
    if i==x.size then return d o i j
   o:=o.push (<-elem' y j);j:=j+1
   if j==y.size then return d o i j
   let A0 k<-CS A3 (<-elem' x i) y j (y.size-j) 0|return d o i j
   cb:=k
   if k>0 then
    o:=o++y.extract j (j+k);j:=j+k
    if j==y.size then return d o i j
   o:=o.push (<-elem' x i);i:=i+1
   if i+1==x.size then return f o i j
   if e<7&&cb<7 then break
  a:=a+1
  modify λb=>AF.mk' (kindOf b) (AV b) (AJ b) a (Ae b)
 unsupported "internal:list.sort.merge-bound"):=rfl
theorem Bx{a b:Type}{t:Std.Legacy.Range}{c:a}{f g:Nat->a->StateT AF Sem (ForInStep a)}{u v:a->StateT AF Sem b}(h:∀n c,f n c=g n c)(k:∀c,u c=v c):(forIn t c f>>=u)=(forIn t c g>>=v):=by rw[show f=g from funext λn=>funext λc=>h n c,show u=v from funext k]
theorem BN{b d:Type}{m:StateT AF Sem b}{u v:b->StateT AF Sem d}(h:∀a,u a=v a):(m>>=u)=(m>>=v):=by rw[show u=v from funext h]
theorem CA{f:Type}{c:Prop} [Decidable c]{a b d e:f}(h:a=d)(k:b=e):(if c then a else b)=(if c then d else e):=by rw[h,k]
def loM(x y:Array AG):StateT AF Sem (Array AG):=do
 liftM (rule "list.sort.merge-lo")
 let q<-elem' y 0
 if(1==y.size)=A3 then pure (dnL x y #[q] 0 1)
 else if(0+1==x.size)=A3 then pure (laL x y #[q] 0 1)
 else do
  let a<-get
  let r<-forIn [0:x.size+y.size] ((A6,#[q],0,1,gallopOf a):SO) λ_ r=>loO x y r
  match r.1 with
  |A0 v=>pure v
  |A6=>unsupported "internal:list.sort.merge-bound"
theorem Vu(x y:Array AG):Fv x y=loM x y:=by
 refine(Vt x y).trans ?_;refine BN λ_=>BN λq=>CA rfl (CA rfl (BN λe=>Bx (λn c=>?_) λc=>by obtain⟨a,f⟩:=c;cases a<;>rfl));refine Bx (λn c=>rfl) λc=>?_;obtain⟨a,o,i,j,b,cb⟩:=c;cases a
 .refine BN λ_=>Bx (λn c=>rfl) λc=>?_;obtain⟨a,o,i,j,d,b,cb⟩:=c;cases a;.rfl
  .rfl
 .rfl
end
def dnH(x y o:Array AG)(i j:Nat):Array AG:=x.extract 0 i++y.extract 0 j++o.reverse
def fbH(x y o:Array AG)(i j:Nat):Array AG:=y.extract 0 j++x.extract 0 i++o.reverse
abbrev TG:Type:=Option (Array AG)×Nat×Nat×Array AG×Nat×Nat×Nat
abbrev TI:Type:=Option (Array AG)×Nat×Nat×Array AG×Nat×Nat
abbrev TO:Type:=Option (Array AG)×Nat×Nat×Array AG×Nat
def hi3(x y:Array AG)(i j:Nat)(o:Array AG)(mg ca cb:Nat):StateT AF Sem (ForInStep TG):=do
 let p<-elem' x (i-1)
 if(i-1==0)=A3 then pure (.done (A0 (dnH x y (o.push p) (i-1) j),i-1,j,o.push p,mg,ca,cb))
 else if(decide (ca<7)&&decide (cb<7))=A3 then pure (.done (A6,i-1,j,o.push p,mg,ca,cb))else pure (.yield (A6,i-1,j,o.push p,mg,ca,cb))
def hi2(x y:Array AG)(i j:Nat)(o:Array AG)(mg ca cb:Nat):StateT AF Sem (ForInStep TG):=do
 let q<-elem' y (j-1)
 if(j-1==1)=A3 then pure (.done (A0 (fbH x y (o.push q) i (j-1)),i,j-1,o.push q,mg,ca,cb))
 else do
  let p<-elem' x (i-1)
  let r<-CS A3 p y 0 (j-1) (j-1-1)
  match r with
  |A0 z=>
   if j-1-z>0 then
    if(z==1)=A3 then pure (.done (A0 (fbH x y (o.push q++(y.extract z (j-1)).reverse) i z),i,z,o.push q++(y.extract z (j-1)).reverse,mg,ca,j-1-z))
    else if(z==0)=A3 then pure (.done (A0 (dnH x y (o.push q++(y.extract z (j-1)).reverse) i z),i,z,o.push q++(y.extract z (j-1)).reverse,mg,ca,j-1-z))
    else hi3 x y i z (o.push q++(y.extract z (j-1)).reverse) mg ca (j-1-z)
   else hi3 x y i (j-1) (o.push q) mg ca (j-1-z)
  |_=>pure (.done (A0 (dnH x y (o.push q) i (j-1)),i,j-1,o.push q,mg,ca,cb))
def hi1(x y:Array AG)(i j:Nat)(o:Array AG)(mg ca cb:Nat):StateT AF Sem (ForInStep TG):=do
 modify λa=>AF.mk' (kindOf a) (AV a) (AJ a) mg (Ae a)
 let q<-elem' y (j-1)
 let r<-CS A7 q x 0 i (i-1)
 match r with
 |A0 z=>
  if i-z>0 then
   if(z==0)=A3 then pure (.done (A0 (dnH x y (o++(x.extract z i).reverse) z j),z,j,o++(x.extract z i).reverse,mg,i-z,cb))
   else hi2 x y z j (o++(x.extract z i).reverse) mg (i-z) cb
  else hi2 x y i j o mg (i-z) cb
 |_=>pure (.done (A0 (dnH x y o i j),i,j,o,mg,ca,cb))
def hiI(x y:Array AG)(i j:Nat)(o:Array AG)(mg ca cb:Nat):StateT AF Sem (ForInStep TI):=do
 let q<-elem' y (j-1)
 let p<-elem' x (i-1)
 let r<-lt' q p
 match r with
 |A0 b=>
  if b=A3 then do
   let p<-elem' x (i-1)
   if(i-1==0)=A3 then pure (.done (A0 (dnH x y (o.push p) (i-1) j),i-1,j,o.push p,ca+1,0))
   else if ca+1≥mg then pure (.done (A6,i-1,j,o.push p,ca+1,0))else pure (.yield (A6,i-1,j,o.push p,ca+1,0))
  else do
   let q<-elem' y (j-1)
   if(j-1==1)=A3 then pure (.done (A0 (fbH x y (o.push q) i (j-1)),i,j-1,o.push q,0,cb+1))
   else if cb+1≥mg then pure (.done (A6,i,j-1,o.push q,0,cb+1))else pure (.yield (A6,i,j-1,o.push q,0,cb+1))
 |_=>pure (.done (A0 (dnH x y o i j),i,j,o,ca,cb))
def hiG(x y:Array AG)(u:TG):StateT AF Sem (ForInStep TG):=
 if u.2.2.2.2.1>1 then hi1 x y u.2.1 u.2.2.1 u.2.2.2.1 (u.2.2.2.2.1-1) u.2.2.2.2.2.1 u.2.2.2.2.2.2 else hi1 x y u.2.1 u.2.2.1 u.2.2.2.1 u.2.2.2.2.1 u.2.2.2.2.2.1 u.2.2.2.2.2.2
def hiO(x y:Array AG)(c:TO):StateT AF Sem (ForInStep TO):=do
 let r<-forIn [0:x.size+y.size] ((A6,c.2.1,c.2.2.1,c.2.2.2.1,0,0):TI) λ_ r=>hiI x y r.2.1 r.2.2.1 r.2.2.2.1 c.2.2.2.2 r.2.2.2.2.1 r.2.2.2.2.2
 match r.1 with
 |A0 v=>pure (.done (A0 v,r.2.1,r.2.2.1,r.2.2.2.1,c.2.2.2.2))
 |A6=>do
  liftM (rule "list.sort.gallop")
  let u<-forIn [0:x.size+y.size] ((A6,r.2.1,r.2.2.1,r.2.2.2.1,c.2.2.2.2+1,r.2.2.2.2.1,r.2.2.2.2.2):TG) λ_ u=>hiG x y u
  match u.1 with
  |A0 v=>pure (.done (A0 v,u.2.1,u.2.2.1,u.2.2.2.1,u.2.2.2.2.1))
  |A6=>do
   modify λa=>AF.mk' (kindOf a) (AV a) (AJ a) (u.2.2.2.2.1+1) (Ae a)
   pure (.yield (A6,u.2.1,u.2.2.1,u.2.2.2.1,u.2.2.2.2.1+1))
theorem Vv(x y:Array AG):Fw x y=(do
 rule "list.sort.merge-hi"
 let t:=x.size+y.size
 let d(o:Array AG)(i j:Nat):=x.extract 0 i++y.extract 0 j++o.reverse
 let f(o:Array AG)(i j:Nat):=y.extract 0 j++x.extract 0 i++o.reverse
 let mut i:=x.size-1
 let mut j:=y.size
 let mut o:Array AG:=#[<-elem' x i]
 if i==0 then return d o i j
 if j==1 then return f o i j
 let mut a:=gallopOf (<-get)
 for _ in [0:t]do
  let mut e:=0
  let mut cb:=0
  for _ in [0:t]do
   let A0 aw<-lt' (<-elem' y (j-1)) (<-elem' x (i-1))|return d o i j
   if aw then
    i:=i-1;o:=o.push (<-elem' x i);e:=e+1;cb:=0
    if i==0 then return d o i j
    if e≥a then break
   else
    j:=j-1;o:=o.push (<-elem' y j);cb:=cb+1;e:=0
    if j==1 then return f o i j
    if cb≥a then break
  rule "list.sort.gallop"
  a:=a+1
  for _ in [0:t]do
   if a>1 then a:=a-1
   modify λb=>AF.mk' (kindOf b) (AV b) (AJ b) a (Ae b)
   let A0 z<-CS A7 (<-elem' y (j-1)) x 0 i (i-1)|return d o i j
   let k:=i-z
   e:=k
   if k>0 then
    o:=o++(x.extract z i).reverse;i:=z
    if i==0 then return d o i j
   j:=j-1;o:=o.push (<-elem' y j)
   if j==1 then return f o i j
   let A0 z<-CS A3 (<-elem' x (i-1)) y 0 j (j-1)|return d o i j
   let k:=j-z
   cb:=k
   if k>0 then
    o:=o++(y.extract z j).reverse;j:=z
    if j==1 then return f o i j
    if j==0 then return d o i j
   i:=i-1;o:=o.push (<-elem' x i)
   if i==0 then return d o i j
   if e<7&&cb<7 then break
  a:=a+1
  modify λb=>AF.mk' (kindOf b) (AV b) (AJ b) a (Ae b)
 unsupported "internal:list.sort.merge-bound"):=rfl
def hiM(x y:Array AG):StateT AF Sem (Array AG):=do
 liftM (rule "list.sort.merge-hi")
 let p<-elem' x (x.size-1)
 if(x.size-1==0)=A3 then pure (dnH x y #[p] (x.size-1) y.size)
 else if(y.size==1)=A3 then pure (fbH x y #[p] (x.size-1) y.size)
 else do
  let a<-get
  let r<-forIn [0:x.size+y.size] ((A6,x.size-1,y.size,#[p],gallopOf a):TO) λ_ r=>hiO x y r
  match r.1 with
  |A0 v=>pure v
  |A6=>unsupported "internal:list.sort.merge-bound"
theorem Vw(x y:Array AG):Fw x y=hiM x y:=by
 refine(Vv x y).trans ?_;refine BN λ_=>BN λq=>CA rfl (CA rfl (BN λe=>Bx (λn c=>?_) λc=>by obtain⟨a,f⟩:=c;cases a<;>rfl));refine Bx (λn c=>rfl) λc=>?_;obtain⟨a,o,i,j,b,cb⟩:=c;cases a
 .refine BN λ_=>Bx (λn c=>rfl) λc=>?_;obtain⟨a,o,i,j,d,b,cb⟩:=c;cases a;.rfl
  .rfl
 .rfl
section
variable{M:Model}{A:AN}{E:A2->A5->Prop}{s:A5}{O:KeyOrd}{ky:AG->O.α}{P:AG->Prop}{kd:SortKind}{x y:Array AG}
theorem G1(a:Array AG)(i:Nat):(a.extract 0 i).toList=a.toList.take i:=by rw[Cm];simp
theorem Vx(l:List AG){z i:Nat}(h:z<=i):(l.take i).reverse=((l.drop z).take (i-z)).reverse++(l.take z).reverse:=by rw[<-List.reverse_append];congr 1;rw[<-bG z (l.take i),List.take_take,List.drop_take];congr 2;omega
end
theorem Vy(i:Nat):mergeAt' i=(do
 let z<-get
 let(A0 (b,d,pw),A0 (sv,nv,_)):=((AJ z)[i]?,(AJ z)[i+1]?)|unsupported "internal:list.sort.pending"
 set (AF.mk' (kindOf z) (AV z) (((AJ z).setIfInBounds i (b,d+nv,pw)).eraseIdxIfInBounds (i+1)) (gallopOf z) (Ae z))
 let A0 k<-CS A7 (<-elem' (AV z) sv) (AV z) b d 0|return A7
 let(b,d):=(b+k,d-k)
 if d==0 then return A3
 let A0 nv<-CS A3 (<-elem' (AV z) (b+d-1)) (AV z) sv nv (nv-1)|return A7
 if nv==0 then return A3
 let x:=(AV z).extract b sv
 let y:=(AV z).extract sv (sv+nv)
 let e<-if d<=nv then Fv x y else Fw x y
 modify λz=>setArr z (e.toList.zipIdx.foldl (λa(p,j)=>a.setIfInBounds (b+j) p) (AV z))
 return(Ae (<-get)).isNone):=rfl
section
variable{M:Model}{A:AN}{E:A2->A5->Prop}{s:A5}{O:KeyOrd}{ky:AG->O.α}{P:AG->Prop}{kd:SortKind}
theorem Vz{σ:Type}{st st2:σ}{Q:PUnit->σ->Prop}(h:Q ⟨⟩ st2):wpS M A E s (set st2:StateT σ Sem PUnit) Q st:=by unfold wpS;rw[StateT.run_set];exact af ⟨rfl,h⟩
theorem Mh{b:Nat}{C:List AG}:∀(l B A:List AG)(n:Nat)(d:Array AG),d.toList=A++(B++C)->B.length=l.length->A.length=b+n->
  ((l.zipIdx n).foldl (λa(x:AG×Nat)=>a.setIfInBounds (b+x.2) x.1) d).toList=A++(l++C)
 | [],B,A,n,d,e,h,_=>by have:B=[]:=df h;subst this;simpa using e
 |p::l,[],A,n,d,e,h,_=>by simp at h
 |p::l,q::B,A,n,d,e,h,g=>by
  rw[List.zipIdx_cons,List.foldl_cons];have i:(d.setIfInBounds (b+n) p).toList=(A++[p])++(B++C):=by rw[Array.toList_setIfInBounds,e,<-g,List.set_append_right _ _ (ah _)];simp
  have f:(A++[p]).length=b+(n+1):=by rw[aB,g];rfl
  have j:=Mh (b:=b) l B (A++[p]) (n+1) (d.setIfInBounds (b+n) p) i (by simpa using h) f;refine j.trans ?_;simp
end
def cT(d n a:Nat):StateT AF Sem (Option Nat):=do
 reverseSlice' d (d+n)
 let r<-forIn [n:a] ((A6,n):Option (Option Nat)×Nat) λ_ r=>do
  let x<-ltAt' (d+r.2) (d+r.2-1)
  match x with
  |A0 b=>if b=A3 then pure (ForInStep.done (A6,r.2))else pure (ForInStep.yield (A6,r.2+1))
  |_=>pure (ForInStep.done (A0 A6,r.2))
 match r.1 with
 |A0 v=>pure v
 |A6=>pure (A0 r.2)
def cS(a n e:Nat):StateT AF Sem (ForInStep (Option (Option Nat)×Nat×Nat)):=do
 let x<-ltAt' (a+n) (a+n-1)
 match x with
 |A0 b=>
  if b=A3 then
   if e>0 then do
    reverseSlice' (a+n-(e+1)) (a+n)
    pure (ForInStep.yield (A6,n+1,0))
   else pure (ForInStep.yield (A6,n+1,0))
  else do
   let x<-ltAt' (a+n-1) (a+n)
   match x with
   |A0 b=>if b=A3 then pure (ForInStep.done (A6,n,e))else pure (ForInStep.yield (A6,n+1,e+1))
   |_=>pure (ForInStep.done (A0 A6,n,e))
 |_=>pure (ForInStep.done (A0 A6,n,e))
def cD(b n a:Nat):StateT AF Sem (Option Nat):=do
 liftM (rule "list.sort.descending-run")
 let r<-forIn [n+1:a] ((A6,n+1,0):Option (Option Nat)×Nat×Nat) λ_ r=>cS b r.2.1 r.2.2
 match r.1 with
 |A0 v=>pure v
 |A6=>if r.2.2>0 then(reverseSlice' (b+r.2.1-(r.2.2+1)) (b+r.2.1)>>=λ_=>cT b r.2.1 a)else cT b r.2.1 a
def cM(d a:Nat):StateT AF Sem (Option Nat):=do
 let r<-forIn [1:a] ((A6,1):Option (Option Nat)×Nat) λ_ r=>do
  let x<-ltAt' (d+r.2) (d+r.2-1)
  match x with
  |A0 b=>if b=A3 then pure (ForInStep.done (A6,r.2))else pure (ForInStep.yield (A6,r.2+1))
  |_=>pure (ForInStep.done (A0 A6,r.2))
 match r.1 with
 |A0 v=>pure v
 |A6=>if(r.2==a)=A3 then pure (A0 r.2)else if r.2>1 then(ltAt' d (d+r.2-1)>>=λx=>match x with
   |A0 b=>if b=A3 then pure (A0 r.2)else(reverseSlice' d (d+r.2)>>=λ_=>cD d r.2 a)
   |_=>pure A6)else cD d r.2 a
theorem V_(f d:Nat):countRun' f d=cM f d:=by
 refine(countRun'_eq f d).trans ?_;refine Bx (λn c=>?_) λc=>?_;.refine BN λx=>?_;cases x<;>rfl
 obtain⟨a,n⟩:=c;cases a
 .refine CA rfl (CA (BN λx=>?_) ?_)
  .cases x with
   |none=>rfl
   |some b=>
    refine CA rfl (BN λ_=>?_);refine BN λ_=>Bx (λn c=>?_) λc=>?_
    .refine BN λx=>?_;cases x with
     |none=>rfl
     |some b=>exact CA rfl (BN λx=>by cases x<;>rfl)
    .obtain⟨a,n,e⟩:=c;cases a;.refine CA (BN λ_=>BN λ_=>Bx (λn c=>BN λx=>by cases x<;>rfl) λc=>by obtain⟨a,n⟩:=c;cases a<;>rfl) (BN λ_=>Bx (λn c=>BN λx=>by cases x<;>rfl) λc=>by obtain⟨a,n⟩:=c;cases a<;>rfl)
     .rfl
  .refine BN λ_=>Bx (λn c=>?_) λc=>?_
   .refine BN λx=>?_;cases x with
    |none=>rfl
    |some b=>exact CA rfl (BN λx=>by cases x<;>rfl)
   .obtain⟨a,n,e⟩:=c;cases a;.refine CA (BN λ_=>BN λ_=>Bx (λn c=>BN λx=>by cases x<;>rfl) λc=>by obtain⟨a,n⟩:=c;cases a<;>rfl) (BN λ_=>Bx (λn c=>BN λx=>by cases x<;>rfl) λc=>by obtain⟨a,n⟩:=c;cases a<;>rfl)
    .rfl
 .rfl
def sP(a n:Nat):StateT AF Sem (ForInStep (Option Unit×Nat)):=do
 modify λs=>setPending s ((AJ s).push (a,n,0))
 pure (ForInStep.yield (A6,a+n))
def sT(z g n:Nat):StateT AF Sem (ForInStep (Option Unit×Nat)):=do
 let d<-get
 match(AJ d).back? with
 |A0 (f,e,_)=>do
  let r<-forIn [0:z] ((A6,()):Option Unit×Unit) λ_ _=>do
   let d<-get
   match(if(AJ d).size>1 then(AJ d)[(AJ d).size-2]? else A6)with
   |A0 (_,_,a)=>(if a<=power' z (2*f+e) (2*f+e+e+n) z then pure (ForInStep.done (A6,()))else mergeAt' ((AJ d).size-2)>>=λb=>if(!b)=A3 then pure (ForInStep.done (A0 (),()))else pure (ForInStep.yield (A6,())))
   |_=>pure (ForInStep.done (A6,()))
  match r.1 with
  |A0 v=>pure (ForInStep.done (A0 v,g))
  |A6=>do
   modify λs=>setPending s ((AJ s).modify ((AJ s).size-1) λ(x:Nat×Nat×Nat)=>(x.1,x.2.1,power' z (2*f+e) (2*f+e+e+n) z))
   sP g n
 |_=>sP g n
def sB(z d a:Nat):StateT AF Sem (ForInStep (Option Unit×Nat)):=
 if a≥z then pure (ForInStep.done (A6,a))else countRun' a (z-a)>>=λx=>match x with
  |A0 m=>if m<d then(liftM (rule "list.sort.binary-insertion")>>=λ(_:Unit)=>binarySort' a (min (z-a) d) m>>=λb=>if(!b)=A3 then pure (ForInStep.done (A0 (),a))else sT z a (min (z-a) d))else sT z a m
  |_=>pure (ForInStep.done (A0 (),a))
def sC(z:Nat):StateT AF Sem (ForInStep (Option Unit×Unit)):=do
 let a<-get
 if(AJ a).size<=1 then pure (ForInStep.done (A6,()))
 else mergeAt' (if(if(AJ a).size-2>0 then((AJ a)[(AJ a).size-2-1]?).map (·.2.1)else A6).any (λx=>decide (x<((AJ a)[(AJ a).size-2+1]?.elim 0 (·.2.1))))=A3 then(AJ a).size-2-1 else(AJ a).size-2)>>=λb=>
  if(!b)=A3 then pure (ForInStep.done (A0 (),()))else pure (ForInStep.yield (A6,()))
def sM:StateT AF Sem Unit:=do
 let a<-get
 let r<-forIn [0:(AV a).size] ((A6,0):Option Unit×Nat) λ_ r=>sB (AV a).size (minRun' (AV a).size (AV a).size 0) r.2
 match r.1 with
 |A0 v=>pure v
 |A6=>do
  let u<-forIn [0:(AV a).size] ((A6,()):Option Unit×Unit) λ_ _=>sC (AV a).size
  match u.1 with
  |A0 v=>pure v
  |A6=>pure ()
theorem W1:sortRuns'=sM:=by
 refine sortRuns'_eq.trans ?_;refine BN λi=>Bx (λn c=>?_) λc=>?_
 .refine CA rfl (BN λx=>?_);cases x with
  |none=>rfl
  |some m=>
   refine CA (BN λ_=>BN λb=>CA rfl (BN λst2=>?_)) (BN λst2=>?_)
   .cases h:(AJ st2).back? with
    |none=>rfl
    |some p=>
     obtain⟨f,g,w⟩:=p;refine Bx (λn c=>BN λa=>?_) λc=>?_;.dsimp only;cases(if(AJ a).size>1 then(AJ a)[(AJ a).size-2]? else A6)<;>rfl
     .obtain⟨d,e⟩:=c;cases d<;>rfl
   .cases h:(AJ st2).back? with
    |none=>rfl
    |some p=>
     obtain⟨f,g,w⟩:=p;refine Bx (λn c=>BN λa=>?_) λc=>?_;.dsimp only;cases(if(AJ a).size>1 then(AJ a)[(AJ a).size-2]? else A6)<;>rfl
     .obtain⟨d,e⟩:=c;cases d<;>rfl
 .obtain⟨d,e⟩:=c;cases d;.refine Bx (λn c=>rfl) λc=>?_;obtain⟨d,e⟩:=c;cases d<;>rfl
  .rfl
end So
namespace L2
open PySem PySem.Spec PyProof.Rows So
abbrev Itm:Type:=Int⊕PySem.Str
def Mi:Itm->Itm->Bool
 | .inl i,.inl j=>decide (i<j)
 | .inl _,.inr _=>A3
 | .inr _,.inl _=>A7
 | .inr x,.inr y=>decide (x.cps.toList<y.cps.toList)
def J6:List Itm->List Itm->Bool
 | [],[]=>A7
 | [],_::_=>A3
 |_::_,[]=>A7
 |a::l,b::m=>if a=b then J6 l m else Mi a b
def EF:Itm->A2->Prop
 | .inl i,v=>∃t,v=.int i t
 | .inr x,v=>∃t,v=.str x t
inductive ItsAre:List A2->List Itm->Prop
 |nil:ItsAre [] []
 |cons{v:A2}{a:Itm}{vs:List A2}{l:List Itm}:EF a v->ItsAre vs l->ItsAre (v::vs) (a::l)
theorem ItsAre.len:∀{a:List A2}{l:List Itm},ItsAre a l->a.length=l.length
 |_,_,.nil=>rfl
 |_,_,.cons _ r=>by simp[r.len]
def shp(l:List Itm):List Bool:=l.map Sum.isLeft
def Tps(h:AM)(q:A4×List Itm):Prop:=∃o a n,h.get? q.1=A0 o/\o.cls=.type "tuple"/\o.data=.seq a n/\ItsAre a.toList q.2
section
variable{prog:AC}{w:AL}{A:AN}{E:A2->A5->Prop}{s:A5}
theorem W2{p q:A2}{b:Bool}{a c:Itm}{Q:Bool->A5->Prop}(h1:EF a p)(d:EF c q)(hs:a.isLeft=c.isLeft)(h:Q (Mi a c) s):AA (AD prog w) A (oneLt' b p q) Q E s:=by
 cases a<;>cases c<;>simp at hs
 .obtain⟨t,rfl⟩:=h1;obtain⟨u,rfl⟩:=d;cases b;.exact W.kat_one _ _ (PyProof.Rows.lt_int h)
  .exact oneLt_int h
 .obtain⟨t,rfl⟩:=h1;obtain⟨u,rfl⟩:=d;cases b;.exact W.kat_one _ _ (PyProof.Rows.lt_str h)
  .exact oneLt_str h
set_option tactic.hygienic true in
theorem W3{p q:A2}{a c:Itm}{Q:Bool->A5->Prop}(h1:EF a p)(h2:EF c q)(hs:a.isLeft=c.isLeft)(h:Q (decide (a=c)) s):AA (AD prog w) A (eqBool p q) Q E s:=by
 cases a<;>cases c<;>simp at hs
 .obtain⟨t,rfl⟩:=h1;obtain⟨u,rfl⟩:=h2;refine wpAny_eqBool_int ?_;rename_i i j;have e:(i==j)=decide ((Sum.inl i:Itm)=Sum.inl j):=by
   by_cases c:i=j;.subst c;simp
   .simp[c]
  rw[e];exact h
 .obtain⟨t,rfl⟩:=h1;obtain⟨u,rfl⟩:=h2;refine wpAny_eqBool_str ?_;simpa using h
theorem Mj{Q:Bool->A5->Prop}:∀{n o:List A2}{l m:List Itm}{i:Nat},ItsAre n l->ItsAre o m->shp l=shp m->Q (J6 l m) s->W.KatLex prog w A A3 A7 Q (n.zip o) i s
 |_,_,_,_,i,.nil,.nil,_,h=>W.kat_nil h
 |_,_,_,_,i,.nil,.cons _ _,b,_=>by simp[shp]at b
 |_,_,_,_,i,.cons _ _,.nil,b,_=>by simp[shp]at b
 |_,_,a::l,c::m,i,.cons j r1,.cons g r2,b,h=>by
  have d:a.isLeft=c.isLeft:=by simp[shp]at b;exact b.1
  have f:shp l=shp m:=by simp[shp]at b⊢;exact b.2
  rw[List.zip_cons_cons];refine W.kat_cons (W3 j g d ?_);rw[J6]at h;by_cases e:a=c;.rw[if_pos e]at h;rw[decide_eq_true e];exact W.kat_yes (Mj r1 r2 f h)
  .rw[if_neg e]at h;rw[decide_eq_false e];exact W.kat_no (W2 j g d h)
end
set_option tactic.hygienic true in
theorem Mk{h:AM}{sh:List Bool}{b:Bool}:∀{qs:List (A4×List Itm)},(∀q∈qs,Tps h q)->(∀q∈qs,shp q.2=b::sh)->∃fs,W.KatTups h (qs.map λq=>A2.ref q.1) fs/\fs.length=qs.length/\∀f∈fs,∃a,EF a f/\a.isLeft=b
 | [],_,_=>⟨[],trivial,rfl,λ_ h=>absurd h av⟩
 |q::qs,hq,hs=>by
  obtain⟨fs,h1,h2,h3⟩:=Mk (qs:=qs) (λx hx=>hq x (by simp[hx])) λx hx=>hs x (by simp[hx]);obtain⟨o,xs,n,ho,hc,hd,hi⟩:=hq q (by simp);have hsq:=hs q (by simp);obtain⟨qa,ql⟩:=q;cases ql with
  |nil=>simp[shp]at hsq
  |cons a l=>
   generalize hxl:xs.toList=xl at hi;cases hi with
   |cons ha hr=>
    rename_i v vr;have hx0:xs[0]?=A0 v:=by
     have:xs.toList[0]?=A0 v:=by rw[hxl];rfl
     simpa using this
    exact⟨v::fs,W.KatTups.cons ho hc hd hx0 h1,by simp[h2],λf hf=>by
     rcases ap.mp hf with rfl|hf;.exact⟨a,ha,by simp[shp]at hsq;exact hsq.1⟩
     .exact h3 f hf⟩
open PySem.Ts
theorem Ml{P:AC}{w:AL}:∀{k:List Int}{a:List A2},B5 (k.map V.int) a->ItemsAre (Aa P w) k a
 | [],_,.nil=>.nil
 |i::k,_,.cons r t=>by obtain⟨u,rfl⟩:=(show∃u,_=A2.int i u from r);exact .cons (by show A2.isInt i (.int i u)=A3;simp[A2.isInt]) (Ml t)
theorem Mm{P:AC}{w:AL}{H:Hp}{h:AM}{q:List Int×A4}(ok:HOk P w H h)(e:H q.2=A0 (.tup (q.1.map V.int))):Tup P w h q:=by obtain⟨_,a,r,o,d,b,⟨n,f⟩,_⟩:=(show B7 P w H h q.2 (.tup (q.1.map V.int))from ok _ _ e);exact⟨o,a.toArray,n,d,b,f,by rw[List.toList_toArray];exact Ml r⟩
def Trk(H:Hp)(L:List (List Int×A4)):Prop:=∀q∈L,H q.2=A0 (.tup (q.1.map V.int))
def IsP(P:AC)(w:AL)(L:List (List Int×A4))(o:AT):Prop:=L.length<=4000/\∃(a:Array (Int×A2))(d:Nat)(t:AB)(b:List (List Int×A4)),b.Perm L/\o.ExactSet/\o.data=.set a d t/\a.toList=b.map (elm P w)/\(b.map (·.1)).Nodup/\TabOk t a/\MaskOk t/\TOk (w.params.followText "set-order") t
theorem W5(a:Bool):TabOk (.fresh 0 0 a) #[]:=⟨List.Pairwise.nil,λp b=>absurd b (by simp[AB.fresh]),rfl,rfl,⟨3,rfl⟩,aJ _,λq d=>absurd d (by simp[AB.fresh])⟩
theorem W6{P:AC}{w:AL}:IsP P w [] (C6 (!(w.params.followText "set-order"))):=by
 refine⟨aJ _,#[],0,.fresh 0 0 (!(w.params.followText "set-order")),[],.refl _,?_,rfl,rfl,dg,W5 _,⟨by simp[AB.fresh],show 0*5<7*3 by decide⟩,?_⟩;.obtain⟨_,_,_,z,_⟩:=M4 (knd:=Aa P w);exact z
 .cases a:w.params.followText "set-order"with
  |true=>exact .inl rfl
  |false=>exact .inr ⟨rfl,List.Pairwise.nil⟩
section
variable{X:Cx}
def kI(k:List Int):List Itm:=k.map Sum.inl
theorem Mn{k:List Int}{vs:List A2}{P:AC}{w:AL}(h:ItemsAre (Aa P w) k vs):ItsAre vs (kI k):=by
 induction h with
 |nil=>exact .nil
 |cons a _ b=>obtain⟨t,e⟩:=A2.isInt_shape a;exact .cons ⟨t,e⟩ b
theorem Mo{k:List Int}:shp (kI k)=bU k.length A3:=by
 unfold shp kI;induction k with
 |nil=>rfl
 |cons i k a=>rw[aK,aK,a];rfl
variable{e:A8}{scope:AX}{tg iter:A8}{ifs:List A8}{nx:A4->Env->Sem Unit}{g:TG}{tc:TT}{Aw:TL (List (List Int×A4))}{own:List Nat}{wi:TI}
theorem J7:∀(a:List (List Int×A4)),B5 (a.map λq=>V.ref q.2) (a.map λq=>A2.ref q.2)
 | []=>.nil
 |q::a=>.cons rfl (J7 a)
end
open PySem.SeqAt
theorem J8:∀{b:List V}{d:List A2},b.length=d.length->(∀(i:Nat)x u,b[i]?=A0 x->d[i]?=A0 u->B0 x u)->B5 b d
 | [],[],_,_=>.nil
 |x::b,u::d,a,h=>.cons (h 0 x u rfl rfl) (J8 (by simpa using a) λi f j g e=>h (i+1) f j (by simpa using g) (by simpa using e))
 | [],_::_,a,_=>by simp at a
 |_::_,[],a,_=>by simp at a
section
variable{X:Cx}
def Mp:List V->Hp->VK->Prop:=λ_ _ _=>False
theorem W7(a:X.calm=A3):BI X (.type "list") Mp:=λ_ _ _ _ _ _ _ _ _ h=>h.elim
def Mq:List V->Hp->VK->Prop:=λd H Q=>∃a b,d=[V.ref a]/\H a=A0 (.dK b)/\Q (.int b.length) H
theorem W8:BI X (.builtin "len") Mq:=V0
end
end L2
namespace PySem
open Sem (wp)
namespace F
theorem W9:typeLookup (.type "list") "__getattr__"=pure A6:=by rw[Av,Af];kernel_rfl
theorem WA:typeLookup (.type "list") "keys"=pure A6:=by rw[Av,Af];kernel_rfl
theorem J9:isSubtype (.type "AttributeError") (.type "AttributeError")=pure A3:=by rw[As];kernel_rfl
end F
section
variable{prog:AC}{w:AL}{A:AN}{h:AM}{g:Array GenState}{d:Drawn}{t:Nat}{os:OsState}{a:A4}
theorem WB{q:Type}{E:A2->A5->Prop}{Q:q->A5->Prop}{o:A2}{name f:AI}(s:A.handled=A6)(x:f.length<=A9)
  (p:∀i l e,(∀b j,h.get? b=A0 j->i.get? b=A0 j)->(∃m,i.get? e=A0 m/\m.cls=.type "AttributeError")->h.objs.size<=i.objs.size->t<=l->E (.ref e) ⟨i,g,d,l,os⟩):
  AA (AD prog w) A (raiseAttrError o name f) Q E ⟨h,g,d,t,os⟩:=by
 unfold raiseAttrError newExc;have v:=F.J9;repeat(any_goals(first|assumption|wp_step))
 simp only[raiseNew];refine aa (dy ?_);rw[s];refine aa (af (wpAny_throw ?_));refine p _ _ _ (λb j n=>?_) ?_ ?_ ⋯;.have r:=aq n;refine(AM.SameBut.update ..).extBut b j (λz=>?_) (ag _ (ag _ n));rw[bu]at z;exact az (bE r) z
 .exact⟨_,aT _ (au _ rfl) (AT.isFreed_of_fields (AO rfl _)),(AT.cls_mapFields ..).trans rfl⟩
 .rw[(AM.SameBut.update ..).1,bu,bu];omega
theorem WC{i:Tok}{E:A2->A5->Prop}{items:Array A2}{o:Nat}{q:Array (Option A2)}{Q:Fin->A5->Prop}(n:h.get? a=A0 {cls:=.type "list",data:=.seq items o,dict:=A6,slots:=q})(p:A.handled=A6)
  (m:∀f i e,(∀b l,h.get? b=A0 l->f.get? b=A0 l)->(∃j,f.get? e=A0 j/\j.cls=.type "AttributeError")->h.objs.size<=f.objs.size->t<=i->E (.ref e) ⟨f,g,d,i,os⟩):
  AA (AD prog w) A (AK.«object.__getattribute__» ⟨[.ref a,.str "keys" i],[]⟩) Q E ⟨h,g,d,t,os⟩:=by
 have hT:(⟨h,g,d,t,os⟩:A5).TypeIs (.ref a) "list":=⟨_,n,rfl⟩;have r:=F.WA;repeat(any_goals(first|assumption|wp_step))
 exact WB p ⋯ m
theorem WD{i:Tok}{items:Array A2}{o:Nat}{q:Array (Option A2)}{R:Result->A5->Prop}(j:h.get? a=A0 {cls:=.type "list",data:=.seq items o,dict:=A6,slots:=q})(p:A.handled=A6)
  (n:∀f i e,(∀b m,h.get? b=A0 m->f.get? b=A0 m)->(∃l,f.get? e=A0 l/\l.cls=.type "AttributeError")->h.objs.size<=f.objs.size->t<=i->R (.error (.ref e)) ⟨f,g,d,i,os⟩):
  codeAny (AD prog w) A (.call (.builtin "list.__getattribute__") ⟨[.ref a,.str "keys" i],[]⟩) R ⟨h,g,d,t,os⟩:=
 codeAny_call_builtin F.slot_list_getattribute.plain F.entry_list_ga (F.slot_list_getattribute.check _ _ _ _ _ _ _ _ (show(⟨h,g,d,t,os⟩:A5).TypeIs (.ref a) "list"from⟨_,j,rfl⟩) (F.args_list_getattribute_2 _ _) (WC j p n))
theorem WE{l:Tok}{E:A2->A5->Prop}{items:Array A2}{B:Nat}{C:Array (Option A2)}{Q:A2->A5->Prop}(o:h.get? a=A0 {cls:=.type "list",data:=.seq items B,dict:=A6,slots:=C})(x:A.handled=A6)
  (r:∀f l e,(∀b q,h.get? b=A0 q->f.get? b=A0 q)->(∃m,f.get? e=A0 m/\m.cls=.type "AttributeError")->h.objs.size<=f.objs.size->t<=l->E (.ref e) ⟨f,g,d,l,os⟩):
  AA (AD prog w) A (getAttrBy (.ref a) (.str "keys" l) A7) Q E ⟨h,g,d,t,os⟩:=by
 have hT:(⟨h,g,d,t,os⟩:A5).TypeIs (.ref a) "list":=⟨_,o,rfl⟩;have I:=F.slot_list_getattribute.lookup;have G:=F.slot_list_getattribute.bind (.ref a);repeat(any_goals(first|assumption|wp_step))
 refine WD o x λf j e y⟨m,p,i⟩D v=>?_;dsimp only;unfold getattributeRaised;have s:=F.J9;have H:=F.W9;have n:(⟨f,g,d,j,os⟩:A5).TypeIs (.ref e) "AttributeError":=⟨_,p,i⟩;refine aa (bR (T:="AttributeError") (b:=A3) n s ?_);rw[if_pos rfl];repeat(any_goals(first|assumption|wp_step))
 exact r f j e y ⟨m,p,i⟩ D v
theorem Mr{E:A2->A5->Prop}{items:Array A2}{x:Nat}{y:Array (Option A2)}{Q:Option A2->A5->Prop}(v:h.get? a=A0 {cls:=.type "list",data:=.seq items x,dict:=A6,slots:=y})(q:A.handled=A6)
  (o:∀i m,(∀b n,h.get? b=A0 n->i.get? b=A0 n)->h.objs.size<=i.objs.size->t<=m->Q A6 ⟨i,g,d,m,os⟩):
  AA (AD prog w) A (getAttr? (.ref a) "keys") Q E ⟨h,g,d,t,os⟩:=by unfold getAttr? getAttrBy?;refine aa (wpAny_mkText (s:=⟨h,g,d,t,os⟩) ?_);refine aa (ci (WE v q λi f e r⟨G,B,j⟩C p=>?_));have l:(⟨i,g,d,f,os⟩:A5).TypeIs (.ref e) "AttributeError":=⟨_,B,j⟩;dsimp only;refine aa (bR (T:="AttributeError") (b:=A3) l F.J9 ?_);rw[if_pos rfl];have D:t+1<=f:=p;exact af (o i f r C ⋯)
end
namespace F
theorem Ms:plainId "dict.__new__"=A3:=⋯
theorem WF:entryFor table "dict.__new__"=A0 AK.«dict.__new__»:=entryFor_of_tree (by kernel_rfl)
theorem Mt:mroOf (.type "dict")=pure [.type "dict",.type "object"]:=by first|rfl|kernel_rfl
theorem WG:Bind.madeBy (.type "dict")=pure (A0 "dict.__new__"):=by first|rfl|kernel_rfl
theorem Mu:isSubtype (.type "dict") (.type "dict")=pure A3:=by rw[As];kernel_rfl
theorem D2:TypeCalled "dict" "dict.__new__" "dict.__init__":=
 ⟨⋯,⋯,⟨_,_,Mt⟩,WG,⋯,Mu,slot_dict_init⟩
theorem WH(a:A2):checkTypeCall "dict" ⟨[a],[]⟩=pure ():=by kernel_rfl
theorem WI(a:A2):checkBuiltinCall "dict.__new__" ⟨[.type "dict",a],[]⟩=pure ():=by kernel_rfl
theorem Mv:entryFor table "dict.update.loop"=A0 AK.«dict.update.loop»:=entryFor_of_tree (by kernel_rfl)
theorem JA:plainId "dict.update.loop"=A3:=⋯
end F
end PySem
namespace L2
open PySem PySem.Spec PyProof.Rows
section
variable{prog:AC}{w:AL}{A:AN}{R:Result->A5->Prop}{I:A4}{fp wr:List A4}{G:Array GenState->Array GenState->Prop}{n:Nat}{St:Nat->A5->Prop}
abbrev kT(prog:AC)(w:AL):=tupleKind (BQ prog w)
def OkP(prog:AC)(w:AL)(n:Nat)(ps:Nat->A4)(key:Nat->List Key)(ka:Nat->A4)(xv:Nat->A2)(h:AM):Prop:=
 ∀i,i<n->IsTup h (ps i) #[.ref (ka i),xv i]/\(kT prog w).is h (key i) (ka i)
theorem OkP.at{ps:Nat->A4}{key:Nat->List Key}{ka:Nat->A4}{xv:Nat->A2}{h h':AM}(x:OkP prog w n ps key ka xv h)(k:∀i,i<n->∀b,b=ps i\/b=ka i->∀o,h.get? b=A0 o->h'.get? b=A0 o):OkP prog w n ps key ka xv h':=λi a=>by obtain⟨⟨o,e,c,m,z⟩,⟨f,d,g,j,r⟩⟩:=x i a;exact⟨⟨o,k i a _ (.inl rfl) o e,c,m,z⟩,⟨f,d,g,k i a _ (.inr rfl) f j,r⟩⟩
def DP(prog:AC)(w:AL)(h:AM)(d:A4)(xs:List (List Key×A4×A2)):Prop:=∃o a b,h.get? d=A0 o/\o.ExactDict/\o.data=.dict a b/\a.toList=xs.map (entryOfKey (kT prog w))/\(xs.map (·.1)).Nodup
def CJ(base:List (List Key×A4×A2))(key:Nat->List Key)(ka:Nat->A4)(xv:Nat->A2):Nat->List (List Key×A4×A2)
 |0=>base
 |i+1=>storedH (CJ base key ka xv i) (key i) (ka i) (xv i)
theorem JB{base:List (List Key×A4×A2)}{key:Nat->List Key}{ka:Nat->A4}{xv:Nat->A2}:∀{i:Nat}{x:List Key×A4×A2},x∈CJ base key ka xv i->(∃y∈base,x.1=y.1/\x.2.1=y.2.1)\/∃j,j<i/\x.1=key j/\x.2.1=ka j
 |0,x,h=>.inl ⟨x,h,rfl,rfl⟩
 |i+1,x,h=>by
  have h:x∈storedH (CJ base key ka xv i) (key i) (ka i) (xv i):=h;cases b:atKey (CJ base key ka xv i) (key i)with
  |none=>
   rw[storedH_new b]at h;rcases aL.mp h with h|h
   .rcases JB h with h|⟨j,f,a⟩;.exact .inl h
    .exact .inr ⟨j,⋯,a⟩
   .cases aF.mp h;exact .inr ⟨i,⋯,rfl,rfl⟩
  |some p=>
   rw[storedH_old b]at h;obtain⟨y,g,rfl⟩:=ar.mp h;have d:(putAt (key i) (xv i) y).1=y.1:=by unfold putAt;split<;>rfl
   have e:(putAt (key i) (xv i) y).2.1=y.2.1:=by unfold putAt;split<;>rfl
   rw[d,e];rcases JB g with h|⟨j,f,a⟩;.exact .inl h
   .exact .inr ⟨j,⋯,a⟩
theorem G2{base:List (List Key×A4×A2)}{key:Nat->List Key}{ka:Nat->A4}{xv:Nat->A2}:∀{i:Nat},(CJ base key ka xv i).length<=base.length+i
 |0=>ah _
 |i+1=>by
  show(storedH (CJ base key ka xv i) (key i) (ka i) (xv i)).length<=_;have:=G2 (base:=base) (key:=key) (ka:=ka) (xv:=xv) (i:=i);cases a:atKey (CJ base key ka xv i) (key i)with
  |none=>rw[storedH_new a,aB];exact Nat.succ_le_succ this
  |some p=>rw[storedH_old a,ac];omega
theorem Mw{ps:Nat->A4}{key:Nat->List Key}{ka:Nat->A4}{xv:Nat->A2}(W:WalksS prog w A.in1 I fp wr G n (λi v=>v=.ref (ps i)) St)(d:A4)(N:d∉fp)(hu:A.in1.units<Am)
  (P:∀i,i<n->ps i∉d::wr)(J:∀i,i<n->ka i∉d::wr)(base:List (List Key×A4×A2))(a7:∀x∈base,x.2.1∉d::wr)(hn:base.length+n<=A9):
  ∀(k i:Nat)(s:A5),n-i=k->i<=n->St i s->OkP prog w n ps key ka xv s.heap->(∀x∈base,(kT prog w).is s.heap x.1 x.2.1)->DP prog w s.heap d (CJ base key ka xv i)->
   (∀g,Moved (d::wr) G s g->DP prog w g.heap d (CJ base key ka xv n)->R (.ok (.ret .none)) g)->
   codeAny (AD prog w) A (.builtin "dict.update.loop" ⟨[.ref d,.ref I,AZ (i:Int),.none],[]⟩) R s:=by
 have X:d∉wr:=λh=>N (W.sub _ h);have a:∀b∈wr,b∈d::wr:=λb f=>ax _ f;intro k;induction k with
 |zero=>
  intro i s hk hi D E Q hD hR;have a2:i=n:=by omega
  subst a2;refine Ad F.Mv ?_;rw[AN.under_plainId F.JA _];show AA _ A.in1 (pyNext (.ref I)>>=_) _ _ s;refine aa (W.done s _ _ D λg C=>?_);dsimp only;unfold AK.Dict.addKeywords;refine aa (af ?_);refine af (hR g (C.mono a) ?_);obtain⟨o,Z,T,q,t⟩:=hD;exact⟨o,Z,T,C.heap _ _ X q,t⟩
 |succ k ih=>
  intro i s hk hi D E Q hD hR;have p:i<n:=by omega
  refine Ad F.Mv ?_;rw[AN.under_plainId F.JA _];show AA _ A.in1 (pyNext (.ref I)>>=_) _ _ s;refine aa (W.item i s _ _ p D λv g hP Y C=>?_);subst hP;dsimp only;obtain⟨K,L⟩:=E i p;have l:OkP prog w n ps key ka xv g.heap:=E.at λj H b f o e=>C.heap b o (λz=>by
   rcases f with rfl|rfl;.exact P j H (a _ z)
   .exact J j H (a _ z)) e;have m:∀{q t:AM},(∀x∈base,(kT prog w).is q x.1 x.2.1)->(∀b o,b∉d::wr->q.get? b=A0 o->t.get? b=A0 o)->∀x∈base,(kT prog w).is t x.1 x.2.1:=λ{q t}f hk x hx=>by obtain⟨o2,a6,m2,U,r⟩:=f x hx;exact⟨o2,a6,m2,hk _ _ (a7 x hx) U,r⟩
  have B:∀x∈base,(kT prog w).is g.heap x.1 x.2.1:=m Q λb o f e=>C.heap b o (λz=>f (a _ z)) e;obtain⟨K,L⟩:=l i p;obtain⟨ot,M,a5,nt,a3⟩:=K;have a4:g.TypeIs (.ref (ps i)) "tuple":=⟨ot,M,a5⟩;refine aa (aR ?_);refine aa (wpAny_tryCatch ?_);unfold AK.Dict.pairItems;refine aa (wpAny_typeOf a4 ?_);rw[if_pos (by decide)];refine aa (bV M a3 ?_);refine af ?_;show AA _ _ (holding [.ref (ka i),xv i] (dictSet d (.ref (ka i)) (xv i))) _ _ g;have a0:g.heap.DictOfH (kT prog w) d (CJ base key ka xv i):=by
   obtain⟨o,Z,T,q,t,h3,h4,h5⟩:=hD;refine⟨o,Z,T,C.heap _ _ X q,t,h3,h4,λx hx=>?_,h5⟩;rcases JB hx with⟨y,hy,e1,U⟩|⟨j,H,e1,U⟩;.rw[e1,U];exact B y hy
   .rw[e1,U];exact(l j ⋯).2
  refine aR (wpAny_dictSet_heap (hsz:=aN G2 ⋯) hu L a0 λh' dd hs=>?_);have k':∀b o,b∉d::wr->g.heap.get? b=A0 o->h'.get? b=A0 o:=λb o f e=>(hs.2 b (λz=>f (by rw[z];exact ay))).trans e;refine af ⟨plainId_quiet F.JA _,?_⟩;rw[show AZ ((i:Int)+1)=AZ (((i+1:Nat)):Int)by rw[Int.natCast_add];rfl];refine ih (i+1) _ ⋯ p (W.frame _ g _ _ Y (bF _ _) λb f o e=>?_) (l.at λj H b f o e=>k' b o (λz=>?_) e) (m B k') ?_ λa1 S O=>?_;.exact(hs.2 b (λh:b=d=>N (by rw[<-h];exact f))).trans e
  .rcases f with rfl|rfl;.exact P j H z
   .exact J j H z
  .obtain⟨o,Z,T,q,t,h3,h4,_,h5⟩:=dd;exact⟨o,Z,T,q,t,h3,h4,h5⟩
  .exact hR a1 (Moved.trans W.gtrans ((C.mono a).then_heap (bF _ _) k') S) O
abbrev EG(key:Nat->List Key)(ka:Nat->A4)(xv:Nat->A2):Nat->List (List Key×A4×A2):=CJ [] key ka xv
theorem WJ{key:Nat->List Key}{ka:Nat->A4}{xv:Nat->A2}{i:Nat}:(EG key ka xv i).length<=i:=aN G2 (Nat.le_of_eq (Nat.zero_add i))
theorem WK{ps:Nat->A4}{key:Nat->List Key}{ka:Nat->A4}{xv:Nat->A2}(W:WalksS prog w A.in1 I fp wr G n (λi v=>v=.ref (ps i)) St)(d:A4)(a:d∉fp)(hu:A.in1.units<Am)
  (e:∀i,i<n->ps i∉d::wr)(b:∀i,i<n->ka i∉d::wr)(j:n<=A9):
  ∀(k i:Nat)(s:A5),n-i=k->i<=n->St i s->OkP prog w n ps key ka xv s.heap->DP prog w s.heap d (EG key ka xv i)->
   (∀f,Moved (d::wr) G s f->DP prog w f.heap d (EG key ka xv n)->R (.ok (.ret .none)) f)->
   codeAny (AD prog w) A (.builtin "dict.update.loop" ⟨[.ref d,.ref I,AZ (i:Int),.none],[]⟩) R s:=by intro k i s l o g h m hR;exact Mw W d a hu e b [] (λ_ z=>absurd z av) (by rw[cN,Nat.zero_add];exact j) k i s l o g h (λ_ z=>absurd z av) m hR
end
section
variable{prog:AC}{w:AL}{A:AN}{E:A2->A5->Prop}{s:A5}
theorem WM(a:A2){Q₁:A2->A5->Prop}(h:Q₁ (.ref s.heap.objs.size) {s with heap:=s.heap.push {cls:=.type "dict",data:=.dict #[]}}):
  codeAny (AD prog w) A (.call (.builtin "dict.__new__") ⟨[.type "dict",a],[]⟩) (wants Q₁ E) s:=by refine codeAny_of_tree ?_;show AA _ A.in1 (do checkBuiltinCall "dict.__new__" ⟨[.type "dict",a],[]⟩;again (.builtin "dict.__new__" ⟨[.type "dict",a],[]⟩)) _ _ s;refine aa (bZ (F.WI a) (af ⟨plainId_quiet F.Ms _,Ad F.WF ?_⟩));rw[AN.under_plainId F.Ms _];unfold AK.«dict.__new__»;have b:=F.Mu;have e:=F.Mt;obtain⟨f,g,d,j,i⟩:=s;dsimp only;wp_walk;exact h
theorem Mx{I:A4}{fp wr:List A4}{G:Array GenState->Array GenState->Prop}{n:Nat}{P a:Nat->A2->Prop}{St:Nat->A5->Prop}(W:WalksS prog w A I fp wr G n P St)(h:∀i v,i<n->P i v->a i v):WalksS prog w A I fp wr G n a St where
 sub:=W.sub
 grefl:=W.grefl
 gtrans:=W.gtrans
 frame:=W.frame
 item:=λi s Q E b g d=>W.item i s Q E b g λv f e=>d v f (h i v b e)
 done:=W.done
 self:=W.self
set_option maxRecDepth 100000 in
set_option maxHeartbeats 3200000 in
theorem WN{l:A4}{items:Array A2}{ps:Nat->A4}{key:Nat->List Key}{ka:Nat->A4}{xv:Nat->A2}{Q:A2->A5->Prop}
  (hh:A.handled=A6)(hu:A.units+64<Am)(hl:PlainL s.heap l items)(hit:∀i,i<items.size->items[i]?=A0 (.ref (ps i)))(hok:OkP prog w items.size ps key ka xv s.heap)(hsz:items.size<=A9)
  (h:∀(h':AM)(tk:Nat),DP prog w h' s.heap.objs.size (EG key ka xv items.size)->(∀b o,s.heap.get? b=A0 o->h'.get? b=A0 o)->s.toks<=tk->Q (.ref s.heap.objs.size) {s with heap:=h',toks:=tk}):
  AA (AD prog w) A (call (.type "dict") [.ref l]) Q E s:=by
 obtain⟨c,tl,hmro⟩:=F.D2.mro;have hmade:=F.D2.made;have hsub:=F.D2.sub;refine wpAny_call (codeAny_of_tree ?_);show AA _ _ (callAny (.type "dict") _) _ _ _;refine af ⟨Code.quiet_builtin _ ⋯,Ad F.entry_type_call ?_⟩;rw[AN.under_plain (weight_type_call_type "dict" [.ref l] []) rfl];have h1:=F.D2.notType;have h2:=F.D2.canCreate;have hct:=F.WH (.ref l);repeat(any_goals(first|assumption|wp_step))
 refine Ai (WM (.ref l) (E:=E) (Q₁:=λobj s₁=>obj=.ref s.heap.objs.size/\s₁={s with heap:=s.heap.push {cls:=.type "dict",data:=.dict #[]}}) ⟨rfl,rfl⟩) λr s₁ hr=>?_;cases r with
 |error e=>exact hr
 |ok fl=>
  cases fl with
  |ret obj=>
   obtain⟨rfl,rfl⟩:=hr;have hS:(s.heap.push {cls:=.type "dict",data:=.dict #[]}).get? s.heap.objs.size=A0 {cls:=.type "dict",data:=.dict #[]}:=au _ rfl;have hT:A5.TypeIs {s with heap:=s.heap.push {cls:=.type "dict",data:=.dict #[]}} (.ref s.heap.objs.size) "dict":=⟨_,hS,rfl⟩;have hli:=F.D2.init.lookup;have hbi:=F.D2.init.bind (.ref s.heap.objs.size);repeat(any_goals(first|assumption|wp_step))
   refine Ai (codeAny_call_builtin (R:=wants (λr s₂=>r=.none/\∃h' tk,s₂={s with heap:=h',toks:=tk}/\DP prog w h' s.heap.objs.size (EG key ka xv items.size)/\(∀b o,s.heap.get? b=A0 o->h'.get? b=A0 o)/\s.toks<=tk) E) F.D2.init.plain F.entry_dict_init (F.D2.init.check _ _ _ _ _ _ _ _ hT (F.args_dict_init_2 _ _) ?_)) λr₂ s₂ hr₂=>?_
   .obtain⟨⟨ocls,odict,odata,oslots⟩,nl,hol,hcl,hdl,hdd⟩:=hl;simp only at hcl hdl hdd;subst hcl;subst hdl;subst hdd;have hol':(s.heap.push {cls:=.type "dict",data:=.dict #[]}).get? l=A0 {cls:=.type "list",dict:=A6,data:=.seq items nl,slots:=oslots}:=ag _ hol;have hTl:A5.TypeIs {s with heap:=s.heap.push {cls:=.type "dict",data:=.dict #[]}} (.ref l) "list":=⟨_,hol',rfl⟩;unfold AK.«dict.__init__»AK.Dict.selfAndRest AK.Dict.notOrdered AK.Dict.updateCommon AK.Dict.updateFrom;generalize hGA:getAttr?=GA;generalize hPI:pyIter=PI;repeat(any_goals(first|assumption|wp_step))
    subst hGA;have hh2:A.in1.in1.handled=A6:=by simp[hh]
    refine Mr hol' hh2 λh2 tk2 k2 z2 t2=>?_;have hlS:l<s.heap.objs.size:=aq hol;rw[bu]at z2;simp only[Option.isNone_none,if_true];refine aa (ck ?_);subst hPI;have hl2:h2.IsList l items:=⟨_,k2 _ _ hol',rfl,nl,rfl⟩;refine aa (dz (s:=⟨h2,s.gens,s.drawn,tk2,s.os⟩) hl2 ?_);refine af ⟨Code.quiet_builtin _ ⋯,?_⟩;have hneI:l≠h2.objs.size:=az (al hlS ⋯);have hDI:s.heap.objs.size≠h2.objs.size:=by omega
    have hDf:s.heap.objs.size∉[h2.objs.size,l]:=by simp only[ap,aF,av,or_false,not_or];exact⟨hDI,bJ hlS⟩
    have hok2:OkP prog w items.size ps key ka xv (h2.push {cls:=.type "list_iterator",data:=.fields #[.ref l,.int 0 0]}):=hok.at λi hi b hb o e=>ag _ (k2 _ _ (ag _ e));have old:∀{b:A4}{o:AT},s.heap.get? b=A0 o->b∉[s.heap.objs.size,h2.objs.size]:=λ{b o}e=>by have:=aq e;simp only[ap,aF,av,or_false,not_or];exact⟨az this,az (al this ⋯)⟩
    have hh3:A.in1.in1.handled=A6:=hh2;refine WK (G:=λa b=>b=a) (fp:=[h2.objs.size,l]) (wr:=[h2.objs.size]) (n:=items.size) (ps:=ps) (key:=key) (ka:=ka) (xv:=xv) (St:=λi s=>(AM.IsListIter s.heap h2.objs.size l i)/\s.heap.IsList l items) ?W s.heap.objs.size hDf ?hu (λi hi=>old (hok i hi).1.choose_spec.1) (λi hi=>old (hok i hi).2.choose_spec.choose_spec.choose_spec.1) hsz (items.size-0) 0 _ ⋯ (aJ _) ?hSt hok2 ?hD0 ?hR;case W=>exact Mx ((Walks.list hh3 _ l hneI items).toS) λi v hi hv=>(Option.some.inj ((hit i hi).symm.trans hv)).symm
    case hu=>simp[units_in1];omega
    case hSt=>exact⟨⟨_,au _ rfl,rfl,rfl⟩,hl2.push _⟩
    case hD0=>exact⟨_,#[],0,ag _ (k2 _ _ hS),⟨rfl,rfl,rfl⟩,rfl,rfl,dg⟩
    case hR=>intro s' hm hD';obtain⟨h',g',d',tk',os'⟩:=s';have eg:g'=s.gens:=hm.gens;have ed:d'=s.drawn:=hm.drawn;have eo:os'=s.os:=hm.os;subst eg;subst ed;subst eo;have htk:tk2<=tk':=hm.toks;have ht2:s.toks<=tk2:=t2;exact⟨rfl,h',tk',rfl,hD',λb o e=>hm.heap b o (old e) (ag _ (k2 _ _ (ag _ e))),⋯⟩
   .cases r₂ with
    |error e=>exact hr₂
    |ok fl₂=>
     cases fl₂ with
     |ret r=>
      obtain⟨rfl,h',tk,rfl,hS',hk',htk⟩:=hr₂;repeat(any_goals(first|assumption|wp_step))
      exact h _ _ hS' hk' htk
     |_=>exact hr₂.elim
  |_=>exact hr.elim
end
section
variable{X:Cx}
abbrev PL:=List (A4×List Key×A4×V)
def Cn(L:PL):List (List Key×V):=L.foldl (λa x=>BX a x.2.1 x.2.2.2) []
theorem WO{L:PL}{x:A4×List Key×A4×V}:Cn (L++[x])=BX (Cn L) x.2.1 x.2.2.2:=by unfold Cn;rw[List.foldl_append];rfl
def WP(K:W.Frag):List V->Hp->VK->Prop:=λa H Q=>∃(p:A4)(L:PL),a=[.ref p]/\SqL K H p (L.map λx=>V.ref x.1)/\(∀x∈L,H x.1=A0 (.tup [.ref x.2.2.1,x.2.2.2])/\H x.2.2.1=A0 (.tup (x.2.1.map kV)))/\∀d,H d=A6->Q (.ref d) (upd H d (.dT (Cn L)))
def My:List V->Hp->VK->Prop:=λa H Q=>∃(p:A4)(L:PL),a=[.ref p]/\H p=A0 (.lst (L.map λx=>V.ref x.1))/\(∀x∈L,H x.1=A0 (.tup [.ref x.2.2.1,x.2.2.2])/\H x.2.2.1=A0 (.tup (x.2.1.map kV)))/\∀d,H d=A6->Q (.ref d) (upd H d (.dT (Cn L)))
theorem WQ(P:X.calm=A3)(hu:X.A.units+64<Am):BI X (.type "dict") (WP X.K):=by
 intro p_ s σ H xs us Q I t h;obtain⟨p,L,rfl,T,C,q⟩:=h;cases t with
 |cons r1 t=>
  cases t;cases r1;obtain⟨y,r,pl,D⟩:=I.list T;have j:=r.length;rw[ac]at j D;have G:H s.heap.objs.size=A6:=I.hok.fresh (ah _);have n:∀i,i<L.length->∃u:A2,B0 ((L[i]?.getD (0,[],0,.non)).2.2.2) u/\IsTup s.heap (L[i]?.getD (0,[],0,.non)).1 #[.ref (L[i]?.getD (0,[],0,.non)).2.2.1,u]:=λi d=>by
   have g:L[i]?.getD (0,[],0,.non)=L[i]:=by rw[ae d];rfl
   rw[g];obtain⟨_,N,r2,t2⟩:=(show B7 X.prog X.w H s.heap _ (.tup [.ref L[i].2.2.1,L[i].2.2.2])from I.hok _ _ (C _ (bQ d)).1);cases r2 with
   |cons O r2=>
    cases r2 with
    |cons a2 r2=>cases r2;cases O;exact⟨_,a2,t2.tup⟩
  let xv:Nat->A2:=λi=>if h:i<L.length then(n i h).choose else .none;have m:∀i(h:i<L.length),xv i=(n i h).choose:=λi h=>by show(if h:i<L.length then _ else _)=_;rw[dif_pos h]
  have f:y.toArray.size=L.length:=by rw[aE,<-j]
  refine WN (ps:=λi=>(L[i]?.getD (0,[],0,.non)).1) (key:=λi=>(L[i]?.getD (0,[],0,.non)).2.1) (ka:=λi=>(L[i]?.getD (0,[],0,.non)).2.2.1) (xv:=xv) (I.ok.hd P) hu pl (λi d=>?_) (λi d=>?_) (by rw[f];exact D) λh' S J R Z=>?_
  .rw[f]at d;have g:L[i]?.getD (0,[],0,.non)=L[i]:=by rw[ae d];rfl
   obtain⟨u,B,ru⟩:=r.get (i:=i) (x:=.ref L[i].1) (by rw[aj,ae d];rfl);cases ru;rw[g];simpa using B
  .rw[f]at d;have g:L[i]?.getD (0,[],0,.non)=L[i]:=by rw[ae d];rfl
   refine⟨by rw[m i d];exact(n i d).choose_spec.2,?_⟩;show(kT X.prog X.w).is s.heap (L[i]?.getD (0,[],0,.non)).2.1 (L[i]?.getD (0,[],0,.non)).2.2.1;rw[g];exact Cj I.hok (C _ (bQ d)).2
  .rw[f]at J;have l:∀i,i<=L.length->KT H (Cn (L.take i)) (EG (λi=>(L[i]?.getD (0,[],0,.non)).2.1) (λi=>(L[i]?.getD (0,[],0,.non)).2.2.1) xv i):=by
    intro i;induction i with
    |zero=>intro _;exact .nil
    |succ i ih=>
     intro d;have g:L[i]?.getD (0,[],0,.non)=L[i]:=by rw[ae ⋯];rfl
     rw[aO,ae (show i<L.length by omega),Option.toList_some,WO];show KT H _ (storedH _ (L[i]?.getD (0,[],0,.non)).2.1 (L[i]?.getD (0,[],0,.non)).2.2.1 _);have M:=(n i ⋯).choose_spec.1;rw[<-m i ⋯,g]at M;rw[g];exact KT.put (ih ⋯) _ (C _ (bQ ⋯)).2 M
   have v:=l L.length (ah _);rw[aQ]at v;have E:(Cn L).length<=L.length:=by have:=Ah v;rw[this];exact WJ
   obtain⟨o,es,ep,U,d2,d3,Y,d5⟩:=J;refine⟨.ref s.heap.objs.size,_,I.laid (a:=s.heap.objs.size) (o:=.dT (Cn L)) (h':=h') (t':=S) R (ah _) ?_,rfl,q _ G⟩;have sy:(s.heap.objs.size==AS)=A7:=by have:=I.big;rw[beq_eq_false_iff_ne];exact bJ this
   refine⟨aN E D,sy,_,?_,o,es,ep,U,d2,d3,Y,d5⟩;exact KT.keeps v λb ys e=>by rw[Ay (Bm e G)];exact e
theorem WR(g:X.calm=A3)(hu:X.A.units+64<Am):BI X (.type "dict") My:=λi s b H d j Q I f⟨p,L,e,a,h⟩=>WQ g hu i s b H d j Q I f ⟨p,L,e,.inl (.inl a),h⟩
end
section
variable{prog:AC}{w:AL}{A:AN}{E:A2->A5->Prop}{s:A5}
set_option maxRecDepth 100000 in
set_option maxHeartbeats 3200000 in
end
section
variable{prog:AC}{w:AL}{A:AN}{E:A2->A5->Prop}{s:A5}
theorem Mz{q b:A4}{j g:Nat}{n:AT}{es:Array At}{i:At}{Q:Option A2->A5->Prop}(a:s.heap.IsKeyIter q b j es.size g)(o:s.heap.get? b=A0 n)(m:n.data=.dict es g)(r:es[j]?=A0 i)
  (p:∀l,l.IsKeyIter q b (j+1) es.size g->bP q s.heap l->Q (A0 i.key) {s with heap:=l}):AA (AD prog w) A (pyNext (.ref q)) Q E s:=by
 obtain⟨v,h,t,f⟩:=id a;unfold pyNext;refine aa (ci (aY (name:=AI.ofString "__next__") a.typeIs F.slot_dict_keyiterator_next (aV F.slot_dict_keyiterator_next a.typeIs F.entry_dict_keyiterator_next ?_ (F.args_dict_keyiterator_next_1 _))));refine aa (af (aa (aa ?_)));first|refine aa (cE a.typeIs (af ?_))|refine aa (da a.typeIs (af ?_))
 refine aa (wpAny_fieldsOf h f ?_);have d:AK.Dict_items.ownsTuple "dict_keyiterator"=A7:=by decide
 simp only[d,ba,if_false];show AA _ _ (if(A2.ref b==A2.none)=A3 then _ else _) _ _ s;rw[if_neg (show¬((A2.ref b==A2.none)=A3)from aD)];refine aa (af (aa (cJ o m ?_)));rw[if_neg (by simp)];refine aa (af (aa (wpAny_dictEpoch o m ?_)));rw[if_neg (by simp)];refine af ?_;simp only[show¬((j:Int)<0)from by omega,if_false,bg,r];refine aa ?_;first|refine aa (cE a.typeIs (af ?_))|refine aa (da a.typeIs (af ?_))
 refine aa (wpAny_isOneOf_keyiter a.typeIs ?_);show AA _ _ (setField (.ref q) 1 (AZ ((j:Int)+1))>>=_) _ _ s;refine aa (bI h f (by simp) ?_);have e:(s.heap.update q (AT.mapFields (·.setIfInBounds 1 (AZ ((j:Int)+1))))).IsKeyIter q b (j+1) es.size g:=
  ⟨_,aT _ h (AT.isFreed_of_fields (AO f _)),(AT.cls_mapFields ..).trans t,by rw[AO f];simp[AZ]⟩;refine aa (aR ?_);refine aa (wpAny_isOneOf_keyiter (s:={s with heap:=s.heap.update q (AT.mapFields (·.setIfInBounds 1 (AZ ((j:Int)+1))))}) e.typeIs ?_);show AA _ _ (pure i.key) _ _ _;exact af (af ⟨_,rfl,af (p _ e (AM.SameBut.update ..))⟩)
theorem M_{q f:A4}{j l:Nat}{n:AT}{es:Array At}{Q:Option A2->A5->Prop}(t:A.handled=A6)(d:s.heap.IsKeyIter q f j es.size l)(p:s.heap.get? f=A0 n)(g:n.data=.dict es l)(v:es.size<=j)
  (r:∀o,dr q s.heap o->Q A6 {s with heap:=o}):AA (AD prog w) A (pyNext (.ref q)) Q E s:=by
 obtain⟨x,h,y,i⟩:=id d;unfold pyNext;refine aa (ci (aY (name:=AI.ofString "__next__") d.typeIs F.slot_dict_keyiterator_next (aV F.slot_dict_keyiterator_next d.typeIs F.entry_dict_keyiterator_next ?_ (F.args_dict_keyiterator_next_1 _))));refine aa (af (aa (aa ?_)));first|refine aa (cE d.typeIs (af ?_))|refine aa (da d.typeIs (af ?_))
 refine aa (wpAny_fieldsOf h i ?_);have e:AK.Dict_items.ownsTuple "dict_keyiterator"=A7:=by decide
 simp only[e,ba,if_false];show AA _ _ (if(A2.ref f==A2.none)=A3 then _ else _) _ _ s;rw[if_neg (show¬((A2.ref f==A2.none)=A3)from aD)];refine aa (af (aa (cJ p g ?_)));rw[if_neg (by simp)];refine aa (af (aa (wpAny_dictEpoch p g ?_)));rw[if_neg (by simp)];refine af ?_;simp only[show¬((j:Int)<0)from by omega,if_false,bg,Array.getElem?_eq_none v];refine aa ?_;first|refine aa (cE d.typeIs (af ?_))|refine aa (da d.typeIs (af ?_))
 show AA _ _ (setField (.ref q) 0 .none>>=_) _ _ s;refine aa (bI h i (by simp) ?_);show AA _ _ (newExc (.type "StopIteration") []>>=_) _ _ _;refine aa ?_;simp only[newExc,newTuple];refine aa (aS ?_ (by size_fits));refine aa (m:=An _ _) (bZ (a:=A2.none) (by first|rfl|(simp only[An];rfl)) ?_);refine aS ?_ (by size_fits);simp only[raiseNew];refine aa (dy ?_);rw[show A.in1.handled=A6 from t];refine aa (af (wpAny_throw ?_));refine aa (bR (T:="StopIteration") (b:=A3) ⟨_,au _ rfl,rfl⟩ isSubtype_stop ?_);exact af (r _ (((AM.SameBut.update ..).extBut.push _).push _))
theorem N2{a:A4}{d:Nat}{e:AT}{es:Array At}{Q:A2->A5->Prop}(g:(a==AS)=A7)(hT:s.TypeIs (.ref a) "dict")(f:s.heap.get? a=A0 e)(b:e.data=.dict es d)
  (h:Q (.ref s.heap.objs.size) {s with heap:=s.heap.push {cls:=.type "dict_keyiterator",data:=.fields #[.ref a,.int 0 0,.int es.size 0,.int d 0]}}):AA (AD prog w) A (pyIter (.ref a)) Q E s:=by refine wpAny_pyIter_slot hT F.slot_dict_iter (aV F.slot_dict_iter hT F.entry_dict_iter ?_ (F.args_dict_iter_1 _));unfold AK.«dict.__iter__»;refine aa ?_;unfold AK.Dict.dictSlotNone;refine aa (wpAny_notOrdered_dict hT ?_);show AA _ _ (pure (A2.ref a)) _ _ s;refine af ?_;show AA _ _ (AK.Dict.showsAll a>>=_) _ _ s;unfold AK.Dict.showsAll;rw[if_neg (by rw[g];exact aD)];refine aa (af (aa (cJ f b (aa (wpAny_dictEpoch f b ?_)))));refine aa (aS (af ⟨_,rfl,"dict_keyiterator",_,⟨_,au _ rfl,rfl⟩,F.slot_dict_keyiterator_next.lookup,?_⟩));simpa[AZ]using h
end
def Fz(H:Hp)(d:A4)(o:AT):Prop:=∃u,H d=A0 (.frz o u)
def KsO(o:AT)(ks:List V):Prop:=∃a b,o.data=.dict a b/\B5 ks (a.toList.map (·.key))
def EH(d:A4)(o:AT)(ks:List V):It:=⟨λi H=>i<ks.length/\Fz H d o,λi H x a=>a=H/\ks[i]?=A0 x,λi H=>ks.length<=i/\Fz H d o⟩
theorem Fz.at{P:AC}{w:AL}{H:Hp}{h:AM}{d:A4}{o:AT}(f:Fz H d o)(x:HOk P w H h):h.get? d=A0 o:=let⟨u,e⟩:=f;(x d _ e).1
theorem WS{P:AC}{w:AL}{K:W.Frag}{S:A8}(it d:A4){o:AT}{ks:List V}{es:Array At}{M:Nat}(hd:o.data=.dict es M)(Q:B5 ks (es.toList.map (·.key))):Turn P w K S (EH d o ks) [it] it (λi h=>h.IsKeyIter it d i es.size M)where
 mem:=by simp
 obj:=λi h a b f=>by
  have e:b=it:=by simpa using f
  subst e;obtain⟨m,e,c,r⟩:=a;exact⟨m,e,λv z=>by rw[r]at z;cases z⟩
 keep:=λi h l a k=>a.at λm e=>k it (by simp) m e
 item:=by intro X y hw q G i J s O H E I j a C;subst y hw q;obtain⟨L,D⟩:=C;have N:ks[i]?=A0 ks[i]:=ae L;obtain⟨u,hu,Y⟩:=Q.get N;rw[aj]at hu;obtain⟨en,he,rfl⟩:=aP.mp hu;obtain⟨B,x,T,n,p,t⟩:=j it (by simp);refine Mz a (D.at I.hok) hd (by simpa using he) λl g sb=>?_;have U:Inv X J O H {s with heap:=l}:=I.turned (t':=s.toks) (λb o f e=>(sb.2 b f).trans e) B x n p t;obtain⟨m,R,c,r⟩:=id g;exact⟨_,rfl,E3 (s:={s with heap:=l}) R c r (by decide) ⟨_,H,U,Y,⟨rfl,N⟩,g,λb f=>(j b f).1⟩⟩
 done:=by
  intro X y hw q G i J s O H E I j a C;subst y hw q;obtain⟨L,D⟩:=C;obtain⟨B,x,T,n,p,t⟩:=j it (by simp);have hl:ks.length=es.size:=by have:=Q.length;simpa using this
  exact M_ (I.ok.hd G) a (D.at I.hok) hd ⋯ λl Z=>⟨rfl,I.turned (t':=s.toks) (λb o f e=>Z b o f e) B x n p t⟩
 self:=λ_ _ _ _ _ a h=>wpAny_pyIter_keyiter a h
section
variable{X:Cx}{tg:A8}
theorem HOk.freeze{P:AC}{w:AL}{H:Hp}{h:AM}{d:A4}{u:HO}{o:AT}(x:HOk P w H h)(e:H d=A0 u)(hu:Mut (A0 u))(m:h.get? d=A0 o):HOk P w (upd H d (.frz o u)) h:=λb v q=>by
 have f:∀c i,H c=A0 (.tup i)->c≠d:=λc i r z=>by subst z;rw[r]at e;cases e;exact hu
 have g:∀c y,H c=A0 (.own y)->c≠d:=λc y r z=>by subst z;rw[r]at e;cases e;exact hu
 have l:∀a v,B7 P w H h a v->B7 P w (upd H d (.frz o u)) h a v:=λa v y=>y.stay (λ_ _ _ q=>q) (λc r=>by rw[Ay (g c a r)];exact r) λc i r=>by rw[Ay (f c i r)];exact r
 by_cases j:b=d;.subst j;rw[A_]at q;cases q;exact⟨m,l _ _ (x _ _ e)⟩
 .rw[Ay j]at q;exact l _ _ (x b v q)
theorem Inv.freeze{a:List (A4×AT)}{σ:St}{H:Hp}{s:A5}{d:A4}{u:HO}{o:AT}(I:Inv X a σ H s)(e:H d=A0 u)(hu:Mut (A0 u))(f:s.heap.get? d=A0 o):Inv X a σ (upd H d (.frz o u)) s:=by
 have:=I.step (h':=s.heap) (g':=s.gens) (d':=s.drawn) (t':=s.toks) (ch:=[]) (H':=upd H d (.frz o u)) (λ_ z=>nomatch z) (λb o _ _ _ q _=>q) (λb o _ _ _ q _=>⟨o.slots,q⟩)
  (λb o _ _ n=>by rw[Ay (λz=>by subst z;rw[n]at e;cases e)];exact n) (λb o _ q=>⟨o,q⟩)
  (λb h q=>by rw[Ay (λz=>by subst z;rw[q]at e;cases e;exact hu)];exact q)
  (λb o v q=>by rw[Ay (λz=>by subst z;rw[q]at e;cases e;exact hu)];exact q)
  (λb g q=>⟨#[],by rw[Ay (λz=>by subst z;rw[q]at e;cases e;exact hu),Array.append_empty];exact q⟩)
  (λm n=>n) (I.hok.freeze e hu f) I.bare;exact this
def DkV(x:V)(a:Hp)(R:It->Hp->Prop):Prop:=False
def DtV(x:V)(f:Hp)(R:It->Hp->Prop):Prop:=∃d b,x=.ref d/\Rd f d (.dT b)/\∀o(e:List A4),e.length=b.length->(∀(i:Nat)a g,e[i]?=A0 a->b[i]?=A0 g->f a=A0 (.tup (g.1.map kV)))->KsO o (e.map V.ref)->R (EH d o (e.map V.ref)) (upd f d (.frz o (.dT b)))
def DnV(x:V)(a:Hp)(R:It->Hp->Prop):Prop:=False
def DvV(x:V)(a:Hp)(R:It->Hp->Prop):Prop:=False
def JC(b:TE):TI:=λd H R=>b d H λx a=>DkV x a R\/DtV x a R\/DnV x a R\/DvV x a R
set_option tactic.hygienic true in
theorem WT{H:Hp}{d:A4}{u:HO}(e:H d=A0 u):upd H d u=H:=by
 funext b;unfold upd;split;.rename_i z;rw[z,e]
 .rfl
theorem WU{h:List (A4×AT)}{σ:St}{f:Hp}{a:A5}{d:A4}{u:HO}{R:It->Hp->Prop}{ks:List V}{o:AT}{es:Array At}{m:Nat}(l:Inv X h σ f a)(r:Rd f d u)(hu:Mut (A0 u))(hs:(d==AS)=A7)(hT:a.TypeIs (.ref d) "dict")
  (g:a.heap.get? d=A0 o)(j:o.data=.dict es m)(n:B5 ks (es.toList.map (·.key)))(q:∀o,KsO o ks->R (EH d o ks) (upd f d (.frz o u))):AA (AD X.prog X.w) X.A (pyIter (.ref d)) (PIE X h σ tg R) X.xe a:=by
 have i:Inv X h σ (upd f d (.frz o u)) a:=by
  rcases r with e|⟨t,e⟩;.exact l.freeze e hu g
  .have:=(l.hok d _ e).1;rw[g]at this;cases this;rw[WT e];exact l
 refine N2 hs hT g j ?_;refine⟨a.heap.objs.size,[a.heap.objs.size],_,_,upd f d (.frz o u),rfl,i.kept (t':=a.toks) (λb o e=>ag _ e),WS _ d j n,⟨_,au _ rfl,rfl,rfl⟩,λb p=>?_,q o ⟨es,m,j,n⟩⟩;have e:b=a.heap.objs.size:=by simpa using p
 subst e;exact i.fpOk (ah _) (i.hok.fresh (ah _))
theorem WV{l:A8}{O:TE}(D:PE X l O):PI X tg l (JC O):=by
 intro p_ s σ H R I h;refine thn (D p_ s σ H _ I h) λv K⟨x,B,P,r1,U⟩=>?_;rcases U with z|⟨d,n,rfl,L,q⟩|z|z;.exact z.elim
 .cases r1;obtain⟨z,Y,t,g,o,es,ep,M,T,j,S,hn⟩:=(show B7 X.prog X.w B K.heap d (.dT n)from L.ok P.hok);have hT:K.TypeIs (.ref d) "dict":=⟨o,M,T.1⟩;have D:t.length=n.length:=g.length.symm;refine WU P L trivial Y hT M j (ks:=(t.map λx=>x.2.1).map V.ref) (J8 ?_ ?_) λo' y=>q o' (t.map λx=>x.2.1) (by rw[ac];exact D) (λi a b J G=>?_) y;.rw[S];simp
  .intro i x u f hu;rw[S,aj,aj]at hu;rw[aj,aj]at f;cases e:t[i]? with
   |none=>rw[e]at f;simp at f
   |some p=>rw[e]at f hu;simp at f hu;rw[<-f,<-hu];rfl
  .rw[aj]at J;obtain⟨p,Z,rfl⟩:=aP.mp J;have C:∀{l:List (List Key×V)}{m:List (List Key×A4×A2)},Aj (λ(p:List Key×V)(q:List Key×A4×A2)=>p.1=q.1/\B q.2.1=A0 (.tup (p.1.map kV))/\B0 p.2 q.2.2) l m->∀(i:Nat)b p,l[i]?=A0 b->m[i]?=A0 p->B p.2.1=A0 (.tup (b.1.map kV)):=by
    intro l m r;induction r with
    |nil=>intro i b p h;simp at h
    |cons h r ih=>
     intro i b p Q N;cases i with
     |zero=>cases Q;cases N;exact h.2.1
     |succ i=>exact ih i b p (by simpa using Q) (by simpa using N)
   exact C g i b p G Z
 .exact z.elim
 .exact z.elim
end
section
variable{X:Cx}{pos:Pos}
def JD(K:W.Frag)(n:Nat)(t:TGs):TG:=λv d H Q=>∃a b,v=.ref a/\(SqT K H a b\/SqL K H a b)/\b.length=n/\t b d H Q
theorem WW{es:List A8}{k:Nat}{t:TGs}{n:Nat}(p:X.calm=A3)(h:PGs X es t)
  (m:(Al es X.env).length=n:=by rfl)(d:(Al es X.env).findIdx? (·.1)=A6:=by rfl):PG X (.Tuple es k pos) (JD X.K n t):=by
 intro g s j H v u Q I r hw;obtain⟨a,x,q,f,y,hw⟩:=hw;rcases f with f|f;.exact Ru p h m d g s j H v u Q I r ⟨a,x,q,f,y,hw⟩
 .subst q;cases r;obtain⟨i,l,B,J⟩:=I.list f;rw[assign_Tuple];refine aa (cw ?_);unfold unpack;rw[m,d];have e:n=i.toArray.size:=by simp[<-y,l.length]
  rw[e];refine aa (aR (W.kun_itemsOf (I.ok.hd p) B.isList λG C=>?_));have D:Inv X g j H {s with heap:=G}:=I.kept (t':=s.toks) λb o e=>C b o (az (aq e)) e;exact h g _ j H x _ Q D (by simpa using l) hw
end
section
variable{prog:AC}{w:AL}{A:AN}{E:A2->A5->Prop}{s:A5}{K:Type} [DecidableEq K]{knd:HeapKind prog w K}{d:A4}
theorem WX(knd:HeapKind prog w K)(e:(d==AS)=A7):MeetsIn prog w (AK.«dict.__len__» ⟨[.ref d],[]⟩) (λ_ R s=>∃b,s.heap.DictOfH knd d b/\R (.ok (.ret (.int b.length s.toks))) {s with toks:=s.toks+1}):=
 .of_wp λA R s⟨b,g,h⟩=>by obtain⟨o,m,j,f,l,a,i,_⟩:=g;show AA _ _ (dictSize d>>=_) _ _ s;unfold dictSize;refine aa (aa (cJ f a (af ?_)));show AA _ _ (AK.Dict.pendingCount d>>=_) _ _ s;refine aa (wpAny_pendingCount_other e ?_);refine wpAny_ret_mkInt ?_;rw[Nat.add_zero,size_of_entries i];exact h
theorem WY{xs:List (K×A4×A2)}{Q:A2->A5->Prop}(e:(d==AS)=A7)(a:s.heap.DictOfH knd d xs)(b:(xs.length:Int)<2^63)
  (h:Q (.int xs.length (s.toks+1)) {s with toks:=s.toks+1+1}):AA (AD prog w) A (call (.builtin "len") [.ref d]) Q E s:=by
 refine Calls.call_function_entry kind_len plain_len entry_len (args_len1 _) ?_;unfold AK.«len»;refine aa (m:=oneArg "len" _) (af ?_);refine aa (m:=callSpecial? (.ref d) (AI.ofString "__len__")) (aY (name:=AI.ofString "__len__") a.typeIs F.slot_dict_len
  (call_meetsIn F.slot_dict_len a.typeIs F.entry_dict_len (F.args_dict_len_1 _) (WX knd e) ⟨xs,a,?_⟩));show AA _ _ _ _ _ {s with toks:=s.toks+1};refine aa (aR (af ?_));refine aa (wpAny_letGo ?_);show AA _ _ (if((xs.length:Nat):Int)<0 then _ else _) _ _ _;rw[if_neg ⋯];show AA _ _ (if((xs.length:Nat):Int)≥2^63 then _ else _) _ _ _;rw[if_neg ⋯];exact aa (wpAny_mkInt (af ⟨_,rfl,h⟩))
end
section
variable{X:Cx}
def N7:List V->Hp->VK->Prop:=λd H Q=>Mq d H Q\/∃a b,d=[V.ref a]/\Rd H a (.dT b)/\Q (.int b.length) H
theorem WZ:BI X (.builtin "len") N7:=by
 intro j s o H n i Q I r h;rcases h with h|⟨a,d,rfl,f,q⟩;.exact W8 j s o H n i Q I r h
 .obtain⟨u,rfl,m⟩:=CP r;cases m;obtain⟨z,l,p,b,g⟩:=CI I.hok f;have e:=Ah b;exact WY l g (by rw[<-e];rw[sizeLine_eq]at z;omega) ⟨.int d.length,H,I.tok _,⟨_,by rw[e]⟩,q⟩
end
open PySem.SeqAt
section
variable{prog:AC}{w:AL}{d:A4}{o:AT}{es:Array At}{ep:Nat}
theorem Wa{A:AN}(y:A.handled=A6)(I:A4)(m:d≠I)(r:o.data=.dict es ep):
  Walks prog w A I [I,d] [I] es.size (λi v=>∃x,es[i]?=A0 x/\v=x.key) (λi h=>h.IsKeyIter I d i es.size ep/\h.get? d=A0 o)where
 sub:=λb f=>by simp at f;simp[f]
 frame:=λ_ _ _ a q=>⟨a.1.at λo e=>q I (by simp) o e,q d (by simp) _ a.2⟩
 item:=λi s Q E B a g=>by
  have t:es[i]?=A0 es[i]:=by simp[B]
  refine Mz a.1 a.2 r t λp l j=>?_;exact g _ p s.toks ⟨_,t,rfl⟩ ⟨l,j.extBut d _ m a.2⟩ λb o f e=>j.extBut b o (λh=>f (by simp[h])) e
 done:=λs Q E a g=>M_ y a.1 a.2 r (ah _) λp n=>g p s.toks λb o f e=>n b o (λh=>f (by simp[h])) e
 self:=λ_ _ _ _ a g=>wpAny_pyIter_keyiter a.1 g
theorem N8(j:(d==AS)=A7)(b:o.cls=.type "dict")(g:o.data=.dict es ep):W.KdlSrc prog w "dict" d d es.size (λi v=>∃f,es[i]?=A0 f/\v=f.key) (λh=>h.get? d=A0 o)where
 type:=λ_ a=>⟨o,a,b⟩
 there:=λ_ a=>⟨aq a,aq a⟩
 keep:=λ_ _ a l=>l d (.inl rfl) _ a
 notList:=by decide
 notTuple:=by decide
 hint:=λ_ _ _ _ a e=>W.kdl_hint_dict ⟨o,a,b⟩ e
 iter:=λ_ _ m a=>⟨_,_,(λ_ _ e=>N2 j ⟨o,a,b⟩ a g e),Wa m _ (az (aq a)) g,⟨⟨_,au _ rfl,rfl,rfl⟩,ag _ a⟩⟩
end
section
variable{X:Cx}
def KsA(H:Hp)(d:List A4)(b:List (List Key×V)):Prop:=d.length=b.length/\∀(i:Nat)a e,d[i]?=A0 a->b[i]?=A0 e->H a=A0 (.tup (e.1.map kV))
def N9:List V->Hp->VK->Prop:=λd H Q=>Mp d H Q\/∃(a:A4)(b:List (List Key×V)),d=[.ref a]/\Rd H a (.dT b)/\∀l(e:List A4),H l=A6->KsA H e b->Q (.ref l) (upd H l (.lst (e.map V.ref)))
theorem Wb{H:Hp}{l:List (List Key×V)}{m:List (List Key×A4×A2)}(r:KT H l m):∀(i:Nat)a p,l[i]?=A0 a->m[i]?=A0 p->H p.2.1=A0 (.tup (a.1.map kV)):=by
 induction r with
 |nil=>intro i a p h;simp at h
 |cons h r e=>
  intro i a p d b;cases i with
  |zero=>cases d;cases b;exact h.2.1
  |succ i=>exact e i a p (by simpa using d) (by simpa using b)
theorem Wc(D:X.calm=A3):BI X (.type "list") N9:=by
 intro P s Y H j L Q I C h;rcases h with h|⟨a,y,rfl,U,q⟩;.exact W7 D P s Y H j L Q I C h
 obtain⟨u,rfl,r1⟩:=CP C;cases r1;obtain⟨z,hd,j,r,o,T,ep,O,A,t,G,_⟩:=CI I.hok U;have d:y.length=j.length:=Ah r;have n:T.size=j.length:=size_of_entries G;refine W.kdl_call (N8 hd A.1 t) (I.ok.hd D) O (by rw[n,<-d];exact z) λh' M m c K S g=>?_;have J:H s.heap.objs.size=A6:=I.hok.fresh (ah _);have w:m.toList.length=j.length:=by rw[ak,g.1,n]
 refine⟨.ref s.heap.objs.size,_,I.laid (a:=s.heap.objs.size) (o:=.lst ((j.map λx=>x.2.1).map V.ref)) (h':=h') (t':=M) (λb o e=>K b o e) (ah _) ⟨by rw[ac,ac,<-d];exact z,m.toList,c,J8 (by rw[ac,ac,w]) λi x v l Z=>?_,by rw[S]⟩,rfl,q _ _ J ⟨by rw[ac,d],λi b R E B=>?_⟩⟩
 .obtain⟨en,f,rfl⟩:=g.2 i v (by rw[<-bA];exact Z);rw[entry_at G]at f;rw[aj,aj]at l;cases e:j[i]? with
  |none=>rw[e]at l;simp at l
  |some p=>rw[e]at l f;simp at l f;rw[<-l,<-f];rfl
 .rw[aj]at E;obtain⟨p,N,rfl⟩:=aP.mp E;exact Wb r i R p B N
end
open PySem.Ts
def unK(ks:List Key):List Int:=ks.map λk=>match k with
 | .inl i=>i
 |_=>0
theorem Wd{a:List Int}:unK (a.map Key.inl)=a:=by
 unfold unK;rw[aU];conv=>rhs;rw[<-List.map_id a]
 rfl
section
variable{prog:AC}{w:AL}{A:AN}{E:A2->A5->Prop}{s:A5}{T:String}{r d:A4}{n:Nat}{P:Nat->A2->Prop}{OK:AM->Prop}
theorem We{R:List A2->A5->Prop}(K:W.KdlSrc prog w T r d n P OK)(G:A.handled=A6)(p:OK s.heap)(C:n<=A9)
  (h:∀(h':AM)(i:Nat)(acc:Array A2),(∀b o,s.heap.get? b=A0 o->h'.get? b=A0 o)->s.heap.objs.size<=h'.objs.size->ItemsOf P acc n->R acc.toList {s with heap:=h',toks:=i}):AA (AD prog w) A (collect (.ref r)) R E s:=by
 obtain⟨J,I⟩:=K.there _ p;unfold collect;refine aa (wpAny_runValue (Ad F.entry_proto_collect ?_));rw[AN.under_plainId F.plain_proto_collect _];show AA _ A.in1 (newList []>>=λl=>again (.builtin "list.__iadd__" ⟨[l,.ref r],[]⟩)) _ _ s;refine aa (aS ?_);refine af ⟨plainId_quiet F.plain_list_iadd _,Ad F.entry_list_iadd ?_⟩;rw[AN.under_plainId F.plain_list_iadd _];generalize m:({cls:=.type "list",data:=.seq ([]:List A2).toArray}:AT)=t;have H:(s.heap.push t).get? s.heap.objs.size=A0 t:=au _ (by rw[<-m];rfl);show AA _ A.in1 (AK.List.listExtendWith (.ref s.heap.objs.size) (.ref r) (.ref s.heap.objs.size)) _ _ _;refine cX (W.kdl_extend (A:=A) (s:={s with heap:=s.heap.push t})
  (R:=λq v=>∃h' i acc,q=.ok (.ret (.ref s.heap.objs.size))/\v={s with heap:=h',toks:=i}/\(∀b o,s.heap.get? b=A0 o->h'.get? b=A0 o)/\(∃c,h'.get? s.heap.objs.size=A0 {cls:=.type "list",dict:=A6,data:=.seq acc c,slots:=#[]})/\ItemsOf P acc n)
  K G (K.keep _ _ p λb _ o e=>ag _ e) s.heap.objs.size (bJ J) (bJ I) (.ref s.heap.objs.size) 0 (by rw[H,<-m])
  (λh' i acc c j g a=>⟨h',i,acc,rfl,rfl,λb o e=>j b o (az (aq e)) (ag _ e),⟨c,g⟩,a⟩) C) (λB v x=>?_) λe v x=>?_
 .cases B with
  |done f=>obtain⟨h',i,acc,e,rfl,j,⟨c,g⟩,a⟩:=x;cases e;show AA _ A (load s.heap.objs.size>>=_) _ _ _;exact aa (wpAny_load g (af (h h' i acc j (bO (aq g)) a)))
  |again c=>refine⟨x.1,Ai x.2 λq L y=>?_⟩;obtain⟨h',i,acc,rfl,rfl,j,⟨c,g⟩,a⟩:=y;show AA _ A (load s.heap.objs.size>>=_) _ _ _;exact aa (wpAny_load g (af (h h' i acc j (bO (aq g)) a)))
 .obtain⟨_,_,_,D,_⟩:=x;cases D
end
section
variable{X:Cx}
theorem NA{b a e:Type}{F:b->a->Prop}{f:b->e}{g:a->e}:∀{d:List b}{i:List a},Aj F d i->(∀x y,F x y->f x=g y)->d.map f=i.map g
 |_,_,.nil,_=>rfl
 |_,_,.cons h r,k=>by rw[aK,aK,k _ _ h,NA r k]
end
end L2
namespace So
open PySem PySem.Spec PyProof.Rows
section
variable{M:Model}{A:AN}{E:A2->A5->Prop}{s:A5}{P:AG->Prop}{kd:SortKind}
structure CmpP(M:Model)(A:AN)(E:A2->A5->Prop)(s:A5)(P:AG->Prop)(kd:SortKind):Prop where
 lt:∀{x y:AG}{st:AF}{Q:Option Bool->AF->Prop},P x->P y->kindOf st=kd->(∀b,Q (A0 b) st)->wpS M A E s (lt' x y) Q st
theorem Wf(C:CmpP M A E s P kd){a:Bool}{key x:AG}{d:Array AG}{i:Nat}{st:AF}{Q:Option Bool->AF->Prop}(g:P key)(f:P x)(e:d[i]?=A0 x)(k:kindOf st=kd)(h:∀b,Q (A0 b) st):wpS M A E s (bey a key d i) Q st:=by
 unfold bey;refine AE (Bj e ?_);cases a;.exact AE (C.lt g f k λb=>AH (h _))
 .exact C.lt f g k h
theorem EI(C:CmpP M A E s P kd){t:Bool}{key:AG}{j:Array AG}{base n f:Nat}{st:AF}{Q:Option Nat->AF->Prop}(J:P key)(k:kindOf st=kd)(K:f<n)(L:base+n<=j.size)(I:∀p∈j.toList,P p)
  (h:∀m,m<=n->Q (A0 m) st):wpS M A E s (CS t key j base n f) Q st:=by
 have w:∀i,i<n->∀{Q:Option Bool->AF->Prop},(∀b,Q (A0 b) st)->wpS M A E s (bey t key j (base+i)) Q st:=λi v Q q=>by obtain⟨p,e,m⟩:=Bq (a:=j) (i:=base+i) ⋯;exact Wf C J (I p m) e k q
 have H:∀B v,v<=n->wpS M A E s (Fx t key j base n B v) Q st:=λB v D=>by
  unfold Fx;refine C2 (λ_ c d=>st=d/\∃l r,c=(A6,l,r)/\r<=n) (λc d=>st=d/\∃l r,c=(A6,l,r)/\r<=n) ⟨rfl,B,v,rfl,D⟩ ?_ (λ_ _ z=>z) ?_
  .rintro x c d _ G⟨rfl,l,r,rfl,y⟩;dsimp only;by_cases g:l≥r;.rw[if_pos g];exact AH ⟨rfl,l,r,rfl,y⟩
   .rw[if_neg g];refine AE (w _ ⋯ λb=>?_);cases b;.exact AH ⟨rfl,l,_,rfl,⋯⟩
    .exact AH ⟨rfl,_,r,rfl,y⟩
  .rintro c d⟨rfl,l,r,rfl,y⟩;exact AH (h r y)
 rw[Vs];refine AE (w f K λb=>?_);cases b
 .refine C2 (λ_ c d=>st=d/\∃l o,c=(A6,l,o)) (λc d=>st=d/\∃l o,c=(A6,l,o)) ⟨rfl,0,1,rfl⟩ ?_ (λ_ _ z=>z) ?_
  .rintro x c d _ G⟨rfl,l,o,rfl⟩;dsimp only;by_cases g:o≥f+1;.rw[if_pos g];exact AH ⟨rfl,l,o,rfl⟩
   .rw[if_neg g];refine AE (w _ ⋯ λb=>?_);cases b<;>exact AH ⟨rfl,_,_,rfl⟩
  .rintro c d⟨rfl,l,o,rfl⟩;exact H _ _ ⋯
 .refine C2 (λ_ c d=>st=d/\∃l o,c=(A6,l,o)) (λc d=>st=d/\∃l o,c=(A6,l,o)) ⟨rfl,0,1,rfl⟩ ?_ (λ_ _ z=>z) ?_
  .rintro x c d _ G⟨rfl,l,o,rfl⟩;dsimp only;by_cases g:o≥n-f;.rw[if_pos g];exact AH ⟨rfl,l,o,rfl⟩
   .rw[if_neg g];refine AE (w _ ⋯ λb=>?_);cases b<;>exact AH ⟨rfl,_,_,rfl⟩
  .rintro c d⟨rfl,l,o,rfl⟩;exact H _ _ ⋯
section
variable{x y:Array AG}
def By(x y r:Array AG):Prop:=r.toList.Perm (x.toList++y.toList)
def Wp(x y o:Array AG)(i j:Nat):Prop:=(o.toList++(x.toList.drop i++y.toList.drop j)).Perm (x.toList++y.toList)/\i<=x.size/\j<=y.size
theorem Wp.dn{o:Array AG}{i j:Nat}(w:Wp x y o i j):By x y (dnL x y o i j):=by unfold By dnL;rw[bo,bo,Fy,Fy,bc];exact w.1
theorem Wp.la{o:Array AG}{i j:Nat}(w:Wp x y o i j):By x y (laL x y o i j):=by unfold By laL;rw[bo,bo,Fy,Fy,bc];exact(List.Perm.append_left _ List.perm_append_comm).trans w.1
theorem Wp.manyA{o:Array AG}{i j k:Nat}(w:Wp x y o i j)(hi:i+k<=x.size):Wp x y (o++x.extract i (i+k)) (i+k) j:=by refine⟨?_,hi,w.2.2⟩;have m:=w.1;rw[F_ _ i k]at m;rw[bo,Cm,cG];simpa only[bc]using m
theorem Wp.manyB{o:Array AG}{i j k:Nat}(w:Wp x y o i j)(hj:j+k<=y.size):Wp x y (o++y.extract j (j+k)) i (j+k):=by refine⟨?_,w.2.1,hj⟩;have m:=w.1;rw[F_ _ j k]at m;rw[bo,Cm,cG,bc];refine(List.Perm.append_left _ ?_).trans m;exact List.perm_append_comm_assoc _ _ _
theorem NB{o a:Array AG}{i:Nat}{p:AG}(e:a[i]?=A0 p):o.push p=o++a.extract i (i+1):=by apply Array.toList_inj.mp;rw[dw,bo,Cm,cG,Me e];rfl
theorem Wp.putA{o:Array AG}{i j:Nat}{p:AG}(w:Wp x y o i j)(e:x[i]?=A0 p)(hi:i+1<=x.size):Wp x y (o.push p) (i+1) j:=by rw[NB e];exact w.manyA hi
theorem Wp.putB{o:Array AG}{i j:Nat}{p:AG}(w:Wp x y o i j)(e:y[j]?=A0 p)(hj:j+1<=y.size):Wp x y (o.push p) i (j+1):=by rw[NB e];exact w.manyB hj
def PtG(st:AF)(x y:Array AG)(b:Nat):ForInStep SG->AF->Prop:=λr a=>match r with
 | .done c=>BF st a/\((∃r,c.1=A0 r/\By x y r)\/∃o i j e d cb,c=(A6,o,i,j,e,d,cb)/\Wp x y o i j/\i+1<x.size/\j<y.size/\b<=i+j)
 | .yield c=>BF st a/\∃o i j e d cb,c=(A6,o,i,j,e,d,cb)/\Wp x y o i j/\i+1<x.size/\j<y.size/\b<=i+j
theorem NC{st d:AF}{o:Array AG}{i j mg ca cb b:Nat}(f:BF st d)(w:Wp x y o i j)(hi:i+1<x.size)(hj:j<y.size)(l:b<=i+j):wpS M A E s (lo3 x y o i j mg ca cb) (PtG st x y b) d:=by
 obtain⟨p,h,_⟩:=Bq (a:=x) (i:=i) ⋯;have e:=w.putA h ⋯;refine AE (Bj h ?_);by_cases g:i+1+1=x.size;.rw[if_pos (by simpa using g)];exact AH ⟨f,.inl ⟨_,rfl,e.la⟩⟩
 rw[if_neg (by simpa using g)];split;.exact AH ⟨f,.inr ⟨_,_,_,_,_,_,rfl,e,⋯,⋯,⋯⟩⟩
 .exact AH ⟨f,_,_,_,_,_,_,rfl,e,⋯,⋯,⋯⟩
theorem ND(C:CmpP M A E s P kd){st d:AF}{o:Array AG}{i j mg ca cb b:Nat}(f:BF st d)(w:Wp x y o i j)(h:kindOf st=kd)(v:∀p∈x.toList,P p)(D:∀p∈y.toList,P p)(hi:i+1<x.size)(hj:j<y.size)(H:b<=i+j):wpS M A E s (lo2 x y o i j mg ca cb) (PtG st x y b) d:=by
 obtain⟨p,B,mp⟩:=Bq (a:=x) (i:=i) ⋯;obtain⟨q,t,_⟩:=Bq hj;refine AE (Bj t ?_);have g:=w.putB t hj;by_cases r:j+1=y.size;.rw[if_pos (by simpa using r)];exact AH ⟨f,.inl ⟨_,rfl,g.dn⟩⟩
 rw[if_neg (by simpa using r)];refine AE (Bj B (AE (EI C (v p mp) (f.1.trans h) ⋯ ⋯ D λl G=>?_)));dsimp only;by_cases e:l>0
 .have n:=g.manyB (k:=l) ⋯;rw[if_pos e];by_cases m:j+1+l=y.size;.rw[if_pos (by simpa using m)];exact AH ⟨f,.inl ⟨_,rfl,n.dn⟩⟩
  rw[if_neg (by simpa using m)];exact NC f n hi ⋯ ⋯
 .rw[if_neg e];exact NC f g hi ⋯ ⋯
theorem Wg(C:CmpP M A E s P kd){st d:AF}{o:Array AG}{i j mg ca cb b:Nat}(H:BF st d)(w:Wp x y o i j)(a:kindOf st=kd)(l:∀p∈x.toList,P p)(m:∀p∈y.toList,P p)(hi:i+1<x.size)(hj:j<y.size)(I:b<=i+j):wpS M A E s (lo1 x y o i j mg ca cb) (PtG st x y b) d:=by
 obtain⟨q,D,G⟩:=Bq hj;refine AE (Mg λt B=>?_);have f:=H.trans B;refine AE (Bj D (AE (EI C (m q G) (f.1.trans a) ⋯ ⋯ l λg v=>?_)));dsimp only;by_cases e:g>0
 .have h:=w.manyA (k:=g) ⋯;rw[if_pos e];by_cases n:i+g+1=x.size;.rw[if_pos (by simpa using n)];exact AH ⟨f,.inl ⟨_,rfl,h.la⟩⟩
  rw[if_neg (by simpa using n)];by_cases r:i+g=x.size;.rw[if_pos (by simpa using r)];exact AH ⟨f,.inl ⟨_,rfl,h.dn⟩⟩
  rw[if_neg (by simpa using r)];exact ND C f h a l m ⋯ hj ⋯
 .rw[if_neg e];exact ND C f w a l m ⋯ hj ⋯
def PtI(st:AF)(x y:Array AG)(n:Nat):ForInStep SI->AF->Prop:=λr a=>match r with
 | .done c=>BF st a/\((∃r,c.1=A0 r/\By x y r)\/∃o i j b cb,c=(A6,o,i,j,b,cb)/\Wp x y o i j/\i+1<x.size/\j<y.size/\n+2<=i+j)
 | .yield c=>BF st a/\∃o i j b cb,c=(A6,o,i,j,b,cb)/\Wp x y o i j/\i+1<x.size/\j<y.size/\n+2<=i+j
theorem Wh(C:CmpP M A E s P kd){st st2:AF}{o:Array AG}{i j mg ca cb n:Nat}(d:BF st st2)(w:Wp x y o i j)(l:kindOf st=kd)(m:∀p∈x.toList,P p)(r:∀p∈y.toList,P p)(hi:i+1<x.size)(hj:j<y.size)(v:n+1<=i+j):wpS M A E s (loI x y o i j mg ca cb) (PtI st x y n) st2:=by
 obtain⟨q,h,t⟩:=Bq hj;obtain⟨p,g,mp⟩:=Bq (a:=x) (i:=i) ⋯;refine AE (Bj h (AE (Bj g (AE (C.lt (r q t) (m p mp) (d.1.trans l) λb=>?_)))));cases b
 .have e:=w.putA g ⋯;refine AE (Bj g ?_);by_cases f:i+1+1=x.size;.rw[if_pos (by simpa using f)];exact AH ⟨d,.inl ⟨_,rfl,e.la⟩⟩
  .rw[if_neg (by simpa using f)];split;.exact AH ⟨d,.inr ⟨_,_,_,_,_,rfl,e,⋯,hj,⋯⟩⟩
   .exact AH ⟨d,_,_,_,_,_,rfl,e,⋯,hj,⋯⟩
 .have e:=w.putB h hj;refine AE (Bj h ?_);by_cases f:j+1=y.size;.rw[if_pos (by simpa using f)];exact AH ⟨d,.inl ⟨_,rfl,e.dn⟩⟩
  .rw[if_neg (by simpa using f)];split;.exact AH ⟨d,.inr ⟨_,_,_,_,_,rfl,e,hi,⋯,⋯⟩⟩
   .exact AH ⟨d,_,_,_,_,_,rfl,e,hi,⋯,⋯⟩
theorem Wi(C:CmpP M A E s P kd){st:AF}{Q:Array AG->AF->Prop}(B:kindOf st=kd)(L:∀p∈x.toList,P p)(R:∀p∈y.toList,P p)(hx:0<x.size)(O:0<y.size)
  (h:∀r a,By x y r->BF st a->Q r a):wpS M A E s (Fv x y) Q st:=by
 rw[Vu];refine AE (wpS_lift (ck ⟨rfl,?_⟩));obtain⟨Z,N,m0⟩:=Bq O;have X:Wp x y #[] 0 0:=⟨List.Perm.refl _,aJ _,aJ _⟩;have I:Wp x y #[Z] 0 1:=X.putB N O;refine AE (Bj N ?_);by_cases v:1=y.size;.rw[if_pos (by simpa using v)];exact AH (h _ _ I.dn (BF.rfl' _))
 rw[if_neg (by simpa using v)];by_cases K:0+1=x.size;.rw[if_pos (by simpa using K)];exact AH (h _ _ I.la (BF.rfl' _))
 rw[if_neg (by simpa using K)];refine AE (wpS_get ?_);refine C2 (λn c a=>BF st a/\∃o i j mg,c=(A6,o,i,j,mg)/\Wp x y o i j/\i+1<x.size/\j<y.size/\n+1<=i+j)
  (λc a=>BF st a/\∃r,c.1=A0 r/\By x y r) ⟨BF.rfl' _,_,_,_,_,rfl,I,⋯,⋯,⋯⟩ ?_ ?_ ?_
 .rintro n c l _ hn⟨H,o,i,j,mg,rfl,w,d,b,f⟩;refine C2 (λk c a=>BF st a/\∃o i j ca cb,c=(A6,o,i,j,ca,cb)/\Wp x y o i j/\i+1<x.size/\j<y.size/\n+1+min k 1<=i+j)
   (λc a=>PtI st x y n (.done c) a) ⟨H,o,i,j,0,0,rfl,w,d,b,⋯⟩ ?_ ?_ ?_
  .rintro k c st2 _ T⟨m,o,i,j,ca,cb,rfl,w,d,b,f⟩;refine wpS_mono (Wh (o:=o) (i:=i) (j:=j) (mg:=mg) (ca:=ca) (cb:=cb) (n:=n) C m w B L R d b ⋯) λr a D=>?_;cases r with
   |done c=>exact D
   |yield c=>obtain⟨g,o,i,j,ca,cb,e,S,Y,U,a4⟩:=D;exact⟨g,o,i,j,ca,cb,e,S,Y,U,⋯⟩
  .rintro c st2⟨m,o,i,j,ca,cb,rfl,w,d,b,f⟩;exact⟨m,.inr ⟨_,_,_,_,_,rfl,w,d,b,⋯⟩⟩
  .rintro⟨J,v⟩st2⟨m,⟨r,e,G⟩|⟨o,i,j,ca,cb,e,w,d,b,f⟩⟩;.cases e;exact AH ⟨m,r,rfl,G⟩
   cases e;refine AE (wpS_lift (ck ⟨rfl,?_⟩));refine C2 (λk c a=>PtG st x y (n+2) (.yield c) a) (λc a=>PtG st x y (n+2) (.done c) a) ⟨m,o,i,j,_,_,_,rfl,w,d,b,f⟩ ?_ ?_ ?_
   .rintro k c t _ T⟨q,o,i,j,mg,ca,cb,rfl,w,d,b,f⟩;refine wpS_mono (Q:=PtG st x y (n+2)) ?_ λr a D=>by cases r<;>exact D
    unfold loG;split<;>exact Wg C q w B L R d b f
   .rintro c t⟨q,o,i,j,mg,ca,cb,rfl,w,d,b,f⟩;exact⟨q,.inr ⟨_,_,_,_,_,_,rfl,w,d,b,f⟩⟩
   .rintro⟨J,v⟩t⟨q,⟨r,e,G⟩|⟨o,i,j,mg,ca,cb,e,w,d,b,f⟩⟩;.cases e;exact AH ⟨q,r,rfl,G⟩
    cases e;exact AE (wpS_modify (AH ⟨q.trans (BF.set _ _),_,_,_,_,rfl,w,d,b,⋯⟩))
 .rintro c l⟨H,o,i,j,mg,rfl,w,d,b,f⟩;omega
 .rintro⟨J,v⟩l⟨H,r,e,G⟩;cases e;exact AH (h r l G H)
end
section
variable{x y:Array AG}
def Wq(x y o:Array AG)(i j:Nat):Prop:=(x.toList.take i++(y.toList.take j++o.toList.reverse)).Perm (x.toList++y.toList)/\i<=x.size/\j<=y.size
theorem Wq.dn{o:Array AG}{i j:Nat}(w:Wq x y o i j):By x y (dnH x y o i j):=by unfold By dnH;rw[bo,bo,G1,G1,cW,bc];exact w.1
theorem Wq.fb{o:Array AG}{i j:Nat}(w:Wq x y o i j):By x y (fbH x y o i j):=by unfold By fbH;rw[bo,bo,G1,G1,cW,bc];exact(List.perm_append_comm_assoc _ _ _).trans w.1
theorem NE(l:List AG){z i:Nat}(h:z<=i):l.take i=l.take z++(l.drop z).take (i-z):=by have:=Vx l h;rw[<-List.reverse_append]at this;exact List.reverse_inj.mp this
theorem Wq.manyA{o:Array AG}{i j z:Nat}(w:Wq x y o i j)(a:z<=i):Wq x y (o++(x.extract z i).reverse) z j:=by refine⟨?_,by have:=w.2.1;omega,w.2.2⟩;have m:=w.1;rw[NE _ a,bc]at m;rw[bo,cW,Cm,List.reverse_append,List.reverse_reverse];exact(List.Perm.append_left _ (List.perm_append_comm_assoc _ _ _)).trans m
theorem Wq.manyB{o:Array AG}{i j z:Nat}(w:Wq x y o i j)(a:z<=j):Wq x y (o++(y.extract z j).reverse) i z:=by refine⟨?_,w.2.1,by have:=w.2.2;omega⟩;have m:=w.1;rw[NE _ a,bc]at m;rw[bo,cW,Cm,List.reverse_append,List.reverse_reverse];exact m
theorem NF{o a:Array AG}{i:Nat}{p:AG}(e:a[i]?=A0 p):o.push p=o++(a.extract i (i+1)).reverse:=by apply Array.toList_inj.mp;rw[dw,bo,cW,Cm,cG,Me e];rfl
theorem Wq.putA{o:Array AG}{i j:Nat}{p:AG}(w:Wq x y o (i+1) j)(e:x[i]?=A0 p):Wq x y (o.push p) i j:=by rw[NF e];exact w.manyA (dq _)
theorem Wq.putB{o:Array AG}{i j:Nat}{p:AG}(w:Wq x y o i (j+1))(e:y[j]?=A0 p):Wq x y (o.push p) i j:=by rw[NF e];exact w.manyB (dq _)
def QtG(st:AF)(x y:Array AG)(b:Nat):ForInStep TG->AF->Prop:=λr a=>match r with
 | .done c=>BF st a/\((∃r,c.1=A0 r/\By x y r)\/∃o i j e d cb,c=(A6,i,j,o,e,d,cb)/\Wq x y o i j/\1<=i/\2<=j/\b+i+j<=x.size+y.size)
 | .yield c=>BF st a/\∃o i j e d cb,c=(A6,i,j,o,e,d,cb)/\Wq x y o i j/\1<=i/\2<=j/\b+i+j<=x.size+y.size
theorem NG{st d:AF}{o:Array AG}{i j mg ca cb b:Nat}(f:BF st d)(w:Wq x y o (i+1) j)(hj:2<=j)(l:b+i+j<=x.size+y.size):wpS M A E s (hi3 x y (i+1) j o mg ca cb) (QtG st x y b) d:=by
 obtain⟨p,h,_⟩:=Bq (a:=x) (i:=i) (by have:=w.2.1;omega);have e:=w.putA h;unfold hi3;simp only[dj];refine AE (Bj h ?_);by_cases g:i=0;.rw[if_pos (by simpa using g)];exact AH ⟨f,.inl ⟨_,rfl,e.dn⟩⟩
 rw[if_neg (by simpa using g)];split;.exact AH ⟨f,.inr ⟨_,_,_,_,_,_,rfl,e,⋯,hj,l⟩⟩
 .exact AH ⟨f,_,_,_,_,_,_,rfl,e,⋯,hj,l⟩
theorem NI(C:CmpP M A E s P kd){st e:AF}{o:Array AG}{i j mg ca cb b:Nat}(d:BF st e)(w:Wq x y o (i+1) (j+1))(l:kindOf st=kd)(v:∀p∈x.toList,P p)(D:∀p∈y.toList,P p)(hj:1<=j)(H:b+(i+1)+(j+1)<=x.size+y.size):wpS M A E s (hi2 x y (i+1) (j+1) o mg ca cb) (QtG st x y b) e:=by
 have I:=w.2.1;have J:=w.2.2;obtain⟨q,t,_⟩:=Bq (a:=y) (i:=j) ⋯;obtain⟨p,B,mp⟩:=Bq (a:=x) (i:=i) ⋯;have h:=w.putB t;unfold hi2;simp only[dj];refine AE (Bj t ?_);by_cases n:j=1;.rw[if_pos (by simpa using n)];exact AH ⟨d,.inl ⟨_,rfl,h.fb⟩⟩
 rw[if_neg (by simpa using n)];refine AE (Bj B (AE (EI C (v p mp) (d.1.trans l) ⋯ ⋯ D λz G=>?_)));dsimp only;by_cases f:j-z>0
 .have g:=h.manyB G;rw[if_pos f];by_cases m:z=1;.rw[if_pos (by simpa using m)];exact AH ⟨d,.inl ⟨_,rfl,g.fb⟩⟩
  rw[if_neg (by simpa using m)];by_cases r:z=0;.rw[if_pos (by simpa using r)];exact AH ⟨d,.inl ⟨_,rfl,g.dn⟩⟩
  rw[if_neg (by simpa using r)];exact NG d g ⋯ ⋯
 .rw[if_neg f];exact NG d h ⋯ ⋯
theorem Wj(C:CmpP M A E s P kd){st e:AF}{o:Array AG}{i j mg ca cb b:Nat}(I:BF st e)(w:Wq x y o i (j+1))(d:kindOf st=kd)(h:∀p∈x.toList,P p)(l:∀p∈y.toList,P p)(hi:1<=i)(hj:1<=j)(r:b+i+(j+1)<=x.size+y.size):wpS M A E s (hi1 x y i (j+1) o mg ca cb) (QtG st x y b) e:=by
 have K:=w.2.1;have L:=w.2.2;obtain⟨q,B,H⟩:=Bq (a:=y) (i:=j) ⋯;unfold hi1;simp only[dj];refine AE (Mg λt v=>?_);have g:=I.trans v;refine AE (Bj B (AE (EI C (l q H) (g.1.trans d) ⋯ ⋯ h λz J=>?_)));dsimp only;by_cases f:i-z>0
 .have n:=w.manyA J;rw[if_pos f];by_cases m:z=0;.rw[if_pos (by simpa using m)];exact AH ⟨g,.inl ⟨_,rfl,n.dn⟩⟩
  rw[if_neg (by simpa using m)];obtain⟨z,rfl⟩:∃G,z=G+1:=⟨z-1,⋯⟩;exact NI C g n d h l hj ⋯
 .rw[if_neg f];obtain⟨i,rfl⟩:∃D,i=D+1:=⟨i-1,⋯⟩;exact NI C g w d h l hj r
def QtI(st:AF)(x y:Array AG)(n:Nat):ForInStep TI->AF->Prop:=λr a=>match r with
 | .done c=>BF st a/\((∃r,c.1=A0 r/\By x y r)\/∃o i j b cb,c=(A6,i,j,o,b,cb)/\Wq x y o i j/\1<=i/\2<=j/\n+2+i+j<=x.size+y.size)
 | .yield c=>BF st a/\∃o i j b cb,c=(A6,i,j,o,b,cb)/\Wq x y o i j/\1<=i/\2<=j/\n+2+i+j<=x.size+y.size
theorem Wk(C:CmpP M A E s P kd){st st2:AF}{o:Array AG}{i j mg ca cb n:Nat}(d:BF st st2)(w:Wq x y o (i+1) (j+1))(l:kindOf st=kd)(m:∀p∈x.toList,P p)(r:∀p∈y.toList,P p)(hj:1<=j)(v:n+1+(i+1)+(j+1)<=x.size+y.size):wpS M A E s (hiI x y (i+1) (j+1) o mg ca cb) (QtI st x y n) st2:=by
 have B:=w.2.1;have D:=w.2.2;obtain⟨q,h,t⟩:=Bq (a:=y) (i:=j) ⋯;obtain⟨p,g,mp⟩:=Bq (a:=x) (i:=i) ⋯;unfold hiI;simp only[dj];refine AE (Bj h (AE (Bj g (AE (C.lt (r q t) (m p mp) (d.1.trans l) λb=>?_)))));cases b
 .have e:=w.putB h;refine AE (Bj h ?_);by_cases f:j=1;.rw[if_pos (by simpa using f)];exact AH ⟨d,.inl ⟨_,rfl,e.fb⟩⟩
  .rw[if_neg (by simpa using f)];split;.exact AH ⟨d,.inr ⟨_,_,_,_,_,rfl,e,⋯,⋯,⋯⟩⟩
   .exact AH ⟨d,_,_,_,_,_,rfl,e,⋯,⋯,⋯⟩
 .have e:=w.putA g;refine AE (Bj g ?_);by_cases f:i=0;.rw[if_pos (by simpa using f)];exact AH ⟨d,.inl ⟨_,rfl,e.dn⟩⟩
  .rw[if_neg (by simpa using f)];split;.exact AH ⟨d,.inr ⟨_,_,_,_,_,rfl,e,⋯,⋯,⋯⟩⟩
   .exact AH ⟨d,_,_,_,_,_,rfl,e,⋯,⋯,⋯⟩
theorem Wl(C:CmpP M A E s P kd){st:AF}{Q:Array AG->AF->Prop}(D:kindOf st=kd)(O:∀p∈x.toList,P p)(R:∀p∈y.toList,P p)(hx:0<x.size)(hy:0<y.size)
  (h:∀r b,By x y r->BF st b->Q r b):wpS M A E s (Fw x y) Q st:=by
 rw[Vw];refine AE (wpS_lift (ck ⟨rfl,?_⟩));obtain⟨S,T,n0⟩:=Bq (a:=x) (i:=x.size-1) ⋯;have w0:Wq x y #[] (x.size-1+1) y.size:=by have Y:x.toList.take (x.size-1+1)=x.toList:=bK (by simp;omega);have e2:y.toList.take y.size=y.toList:=bK (by simp);refine⟨?_,⋯,ah _⟩;rw[Y,e2];simp
 have J:Wq x y #[S] (x.size-1) y.size:=w0.putA T;refine AE (Bj T ?_);by_cases B:x.size-1=0;.rw[if_pos (by simpa using B)];exact AH (h _ _ J.dn (BF.rfl' _))
 rw[if_neg (by simpa using B)];by_cases N:y.size=1;.rw[if_pos (by simpa using N)];exact AH (h _ _ J.fb (BF.rfl' _))
 rw[if_neg (by simpa using N)];refine AE (wpS_get ?_);refine C2 (λn c b=>BF st b/\∃o i j mg,c=(A6,i,j,o,mg)/\Wq x y o i j/\1<=i/\2<=j/\n+1+i+j<=x.size+y.size)
  (λc b=>BF st b/\∃r,c.1=A0 r/\By x y r) ⟨BF.rfl' _,#[S],x.size-1,y.size,gallopOf st,rfl,J,⋯,⋯,⋯⟩ ?_ ?_ ?_
 .rintro n c m _ hn⟨I,o,i,j,mg,rfl,w,d,f,l⟩;refine C2 (λk c b=>BF st b/\∃o i j ca cb,c=(A6,i,j,o,ca,cb)/\Wq x y o i j/\1<=i/\2<=j/\n+1+min k 1+i+j<=x.size+y.size)
   (λc b=>QtI st x y n (.done c) b) ⟨I,o,i,j,0,0,rfl,w,d,f,⋯⟩ ?_ ?_ ?_
  .rintro k c st2 _ X⟨q,o,i,j,ca,cb,rfl,w,d,f,l⟩;obtain⟨i,rfl⟩:∃i0,i=i0+1:=⟨i-1,⋯⟩;obtain⟨j,rfl⟩:∃K,j=K+1:=⟨j-1,⋯⟩;refine wpS_mono (Wk (o:=o) (i:=i) (j:=j) (ca:=ca) (cb:=cb) (mg:=mg) (n:=n) C q w D O R ⋯ ⋯) λr b H=>?_;cases r with
   |done c=>exact H
   |yield c=>obtain⟨g,o,i,j,ca,cb,e,U,a2,Z,a4⟩:=H;exact⟨g,o,i,j,ca,cb,e,U,a2,Z,⋯⟩
  .rintro c st2⟨q,o,i,j,ca,cb,rfl,w,d,f,l⟩;exact⟨q,.inr ⟨_,_,_,_,_,rfl,w,d,f,⋯⟩⟩
  .rintro⟨L,B⟩st2⟨q,⟨r,e,G⟩|⟨o,i,j,ca,cb,e,w,d,f,l⟩⟩;.cases e;exact AH ⟨q,r,rfl,G⟩
   cases e;refine AE (wpS_lift (ck ⟨rfl,?_⟩));refine C2 (λk c b=>QtG st x y (n+2) (.yield c) b) (λc b=>QtG st x y (n+2) (.done c) b) ⟨q,o,i,j,_,_,_,rfl,w,d,f,l⟩ ?_ ?_ ?_
   .rintro k c v _ X⟨t,o,i,j,mg,ca,cb,rfl,w,d,f,l⟩;refine wpS_mono (Q:=QtG st x y (n+2)) ?_ λr b H=>by cases r<;>exact H
    obtain⟨j,rfl⟩:∃K,j=K+1:=⟨j-1,⋯⟩;unfold hiG;split<;>exact Wj C t w D O R d ⋯ l
   .rintro c v⟨t,o,i,j,mg,ca,cb,rfl,w,d,f,l⟩;exact⟨t,.inr ⟨_,_,_,_,_,_,rfl,w,d,f,l⟩⟩
   .rintro⟨L,B⟩v⟨t,⟨r,e,G⟩|⟨o,i,j,mg,ca,cb,e,w,d,f,l⟩⟩;.cases e;exact AH ⟨t,r,rfl,G⟩
    cases e;exact AE (wpS_modify (AH ⟨t.trans (BF.set _ _),_,_,_,_,rfl,w,d,f,⋯⟩))
 .rintro c m⟨I,o,i,j,mg,rfl,w,d,f,l⟩;omega
 .rintro⟨L,B⟩m⟨I,r,e,G⟩;cases e;exact AH (h r m G I)
end
theorem Wm(l:List AG){a b k:Nat}(h:a<=b):l.take a++(((l.drop a).take (b-a)++(l.drop b).take k)++l.drop (b+k))=l:=by have e:=F_ l b k;have d:=F_ l a (b-a);rw[show a+(b-a)=b by omega]at d;rw[bc,<-e,<-d,bG]
theorem Wn(C:CmpP M A E s P kd){st:AF}{Q:Bool->AF->Prop}{i e j pw sv nv Z:Nat}(d:kindOf st=kd)(m:∀p∈(AV st).toList,P p)
  (U:(AJ st)[i]?=A0 (e,j,pw))(e2:(AJ st)[i+1]?=A0 (sv,nv,Z))(hv:sv=e+j)(h1:0<j)(h2:0<nv)(hz:sv+nv<=(AV st).size)(y:Ae st=A6)
  (h:∀f,kindOf f=kd->Ae f=A6->AJ f=((AJ st).setIfInBounds i (e,j+nv,pw)).eraseIdxIfInBounds (i+1)->(AV f).toList.Perm (AV st).toList->Q A3 f):
  wpS M A E s (mergeAt' i) Q st:=by
 rw[Vy];refine AE (wpS_get ?_);rw[U,e2];refine AE (Vz ?_);obtain⟨y0,D,v⟩:=Bq (a:=AV st) (i:=sv) ⋯;refine AE (Bj D (AE (EI C (m y0 v) d ⋯ ⋯ m λk hk=>?_)));dsimp only;by_cases J:j-k=0;.rw[if_pos (by simpa using J)];exact AH (h _ d y rfl (List.Perm.refl _))
 rw[if_neg (by simpa using J)];obtain⟨R,H,I⟩:=Bq (a:=AV st) (i:=e+k+(j-k)-1) ⋯;refine AE (Bj H (AE (EI C (m R I) d ⋯ ⋯ m λl a0=>?_)));dsimp only;by_cases q:l=0;.rw[if_pos (by simpa using q)];exact AH (h _ d y rfl (List.Perm.refl _))
 rw[if_neg (by simpa using q)];have w:=Cm (AV st) (e+k) sv;have B:=Cm (AV st) sv (sv+l);have zX:((AV st).extract (e+k) sv).size=j-k:=by simp;omega
 have S:((AV st).extract sv (sv+l)).size=l:=by simp;omega
 generalize(AV st).extract (e+k) sv=X at w zX⊢;generalize(AV st).extract sv (sv+l)=Y at B S⊢;have N:∀p∈X.toList,P p:=λp o=>by rw[w]at o;exact m p (dA (dB o))
 have K:∀p∈Y.toList,P p:=λp o=>by rw[B]at o;exact m p (dA (dB o))
 have t:∀r st2,By X Y r->BF (AF.mk' (kindOf st) (AV st) (((AJ st).setIfInBounds i (e,j+nv,pw)).eraseIdxIfInBounds (i+1)) (gallopOf st) (Ae st)) st2->
   wpS M A E s (do
    modify λz=>setArr z (r.toList.zipIdx.foldl (λa(x:AG×Nat)=>a.setIfInBounds (e+k+x.2) x.1) (AV z))
    return(Ae (<-get)).isNone) Q st2:=by
  intro r st2 G g;refine AE (wpS_modify (AE (wpS_get (AH ?_))));have n:Ae st2=A6:=g.2.2.2.trans y;show Q (Ae st2).isNone _;rw[n];have hl:(AV st).toList.length=(AV st).size:=ak;have O:(AV st).toList=(AV st).toList.take (e+k)++((X.toList++Y.toList)++(AV st).toList.drop (sv+l)):=by rw[w,B,cG];exact(Wm _ ⋯).symm
  have eA:(AV st2).toList=_:=(congrArg Array.toList g.2.1).trans O;have T:=G.length_eq;have L:=Mh (b:=e+k) (C:=(AV st).toList.drop (sv+l)) r.toList (X.toList++Y.toList) ((AV st).toList.take (e+k)) 0 (AV st2) eA T.symm (by rw[aM];omega);refine h _ (g.1.trans d) n g.2.2.1 ?_;refine(List.Perm.of_eq L).trans ?_;refine(List.Perm.append_left _ (List.Perm.append_right _ G)).trans (List.Perm.of_eq O.symm)
 by_cases q:j-k<=l;.rw[if_pos q];exact AE (Wi C d N K ⋯ ⋯ t)
 .rw[if_neg q];exact AE (Wl C d N K ⋯ ⋯ t)
structure Sv(st0:AF)(st:AF):Prop where
 perm:(AV st).Perm (AV st0)
 kind:kindOf st=kindOf st0
 fail:Ae st=Ae st0
 pend:AJ st=AJ st0
section
variable{st0:AF}{lo nrem:Nat}
theorem Sv.size{st:AF}(B:Sv st0 st):(AV st).size=(AV st0).size:=B.perm.size_eq
theorem Sv.rev{st:AF}(B:Sv st0 st){i j:Nat}{Q:Unit->AF->Prop}(h:∀a,Sv st0 a->Q () a):wpS M A E s (reverseSlice' i j) Q st:=by rw[reverseSlice'_eq];exact wpS_modify (h _ ⟨(mirror_perm _ _ _ _).trans B.perm,B.kind,B.fail,B.pend⟩)
theorem Sv.lt(C:CmpP M A E s P kd){st:AF}{i j:Nat}{Q:Option Bool->AF->Prop}(d:kindOf st0=kd)(f:∀p∈(AV st0).toList,P p)(B:Sv st0 st)(hi:i<(AV st0).size)(hj:j<(AV st0).size)
  (h:∀b,Q (A0 b) st):wpS M A E s (ltAt' i j) Q st:=by obtain⟨p,g,mp⟩:=Bq (a:=AV st) (i:=i) (by rw[B.size];exact hi);obtain⟨q,l,m⟩:=Bq (a:=AV st) (i:=j) (by rw[B.size];exact hj);have e:=Array.perm_iff_toList_perm.mp B.perm;rw[ltAt'_eq];exact AE (wpS_get (AE (Bj g (AE (Bj l (C.lt (f p (e.mem_iff.mp mp)) (f q (e.mem_iff.mp m)) (B.kind.trans d) h))))))
theorem NJ(C:CmpP M A E s P kd){st:AF}{n:Nat}{f:Type}{Q:f->AF->Prop}{g:Option (Option Nat)×Nat->StateT AF Sem f}(e:kindOf st0=kd)(o:∀p∈(AV st0).toList,P p)(t:lo+nrem<=(AV st0).size)(h1:1<=n)(j:n<=nrem)(B:Sv st0 st)
  (h:∀m,n<=m->m<=nrem->wpS M A E s (g (A6,m)) Q st):
  wpS M A E s (forIn [n:nrem] (A6,n) (λ_ r=>do
   let x<-ltAt' (lo+r.2) (lo+r.2-1)
   match x with
   |A0 b=>if b=A3 then pure (ForInStep.done (A6,r.2))else pure (ForInStep.yield (A6,r.2+1))
   |_=>pure (ForInStep.done (A0 A6,r.2)))>>=g) Q st:=by
 refine C2 (λx c a=>st=a/\c=(A6,x)) (λc a=>st=a/\∃m,c=(A6,m)/\n<=m/\m<=nrem) ⟨rfl,rfl⟩ ?_ ?_ ?_
 .rintro x c a d l⟨rfl,rfl⟩;refine AE (B.lt C e o ⋯ ⋯ λb=>?_);cases b;.exact AH ⟨rfl,rfl⟩
  .exact AH ⟨rfl,x,rfl,d,⋯⟩
 .rintro c a⟨rfl,rfl⟩;exact⟨rfl,_,rfl,⋯,⋯⟩
 .rintro c a⟨rfl,m,rfl,i,q⟩;exact h m i q
theorem NK(C:CmpP M A E s P kd){Q:Option Nat->AF->Prop}{b:AF}{x:Nat}(f:kindOf st0=kd)(j:∀p∈(AV st0).toList,P p)(l:lo+nrem<=(AV st0).size)(h:∀m a,Sv st0 a->1<=m->m<=nrem->Q (A0 m) a)
  (i:Sv st0 b)(n:1<=x)(d:x<=nrem):wpS M A E s (cT lo x nrem) Q b:=
 AE (i.rev λo g=>NJ C f j l ⋯ d g λm q e=>AH (h m _ g ⋯ e))
theorem Wo(C:CmpP M A E s P kd){d:AF}{x e:Nat}(f:kindOf st0=kd)(h:∀p∈(AV st0).toList,P p)(n:lo+nrem<=(AV st0).size)(m:1<=x)(l:x<nrem)(a:Sv st0 d):
  wpS M A E s (cS lo x e) (λr g=>Sv st0 g/\match r with| .done c=>∃e,c=(A6,x,e)| .yield c=>∃e,c=(A6,x+1,e)) d:=by
 refine AE (a.lt C f h ⋯ ⋯ λb=>?_);cases b
 .refine AE (a.lt C f h ⋯ ⋯ λb=>?_);cases b;.exact AH ⟨a,_,rfl⟩
  .exact AH ⟨a,_,rfl⟩
 .show wpS M A E s (if e>0 then _ else _) _ _;split;.exact AE (a.rev λi j=>AH ⟨j,_,rfl⟩)
  .exact AH ⟨a,_,rfl⟩
theorem NL(C:CmpP M A E s P kd){Q:Option Nat->AF->Prop}{st2:AF}{n:Nat}(g:kindOf st0=kd)(o:∀p∈(AV st0).toList,P p)(l:lo+nrem<=(AV st0).size)(h:∀m a,Sv st0 a->1<=m->m<=nrem->Q (A0 m) a)
  (B2:Sv st0 st2)(v:n+1<=nrem):wpS M A E s (cD lo n nrem) Q st2:=by
 refine AE (wpS_lift (ck ⟨rfl,?_⟩));refine C2 (λx c a=>Sv st0 a/\∃e,c=(A6,x,e)) (λc a=>Sv st0 a/\∃x e,c=(A6,x,e)/\1<=x/\x<=nrem) ⟨B2,0,rfl⟩ ?_ ?_ ?_
 .rintro x c j f d⟨i,e,rfl⟩;refine wpS_mono (Wo (x:=x) (e:=e) C g o l ⋯ d i) λr a⟨b,q⟩=>?_;cases r with
  |done c=>obtain⟨e,z⟩:=q;exact⟨b,x,e,z,⋯,⋯⟩
  |yield c=>exact⟨b,q⟩
 .rintro c j⟨i,e,rfl⟩;exact⟨i,_,e,rfl,⋯,⋯⟩
 .rintro c j⟨i,x,e,rfl,f,d⟩;show wpS M A E s (if e>0 then _ else _) _ _;split;.exact AE (i.rev λt w=>NK C g o l h w f d)
  .exact NK C g o l h i f d
theorem Wr(C:CmpP M A E s P kd){Q:Option Nat->AF->Prop}(a:kindOf st0=kd)(i:∀p∈(AV st0).toList,P p)(j:lo+nrem<=(AV st0).size)(h1:1<=nrem)
  (h:∀m e,Sv st0 e->1<=m->m<=nrem->Q (A0 m) e):wpS M A E s (countRun' lo nrem) Q st0:=by
 rw[V_];have d:Sv st0 st0:=⟨Array.Perm.refl _,rfl,rfl,rfl⟩;refine NJ C a i j (ah 1) h1 d λn g f=>?_;dsimp only;by_cases l:n=nrem;.rw[if_pos (by simpa using l)];exact AH (h n st0 d g f)
 rw[if_neg (by simpa using l)];split
 .refine AE (d.lt C a i ⋯ ⋯ λb=>?_);cases b;.exact AE (d.rev λq o=>NL C a i j h o ⋯)
  .exact AH (h n st0 d g f)
 .exact NL C a i j h d ⋯
theorem Ws(C:CmpP M A E s P kd){st:AF}{n ok:Nat}{Q:Bool->AF->Prop}(i:kindOf st0=kd)(o:∀p∈(AV st0).toList,P p)(t:lo+n<=(AV st0).size)(B:Sv st0 st)
  (h:∀d,Sv st0 d->Q A3 d):wpS M A E s (binarySort' lo n ok) Q st:=by
 rw[binarySort'_eq];refine C2 (λk c d=>c=(A6,())/\Sv st0 d) (λc d=>c=(A6,())/\Sv st0 d) ⟨rfl,B⟩ ?_ (λ_ _ z=>z) ?_
 .rintro k c e j m⟨rfl,f⟩;refine C2 (λx c d=>e=d/\∃l r,c=(A6,l,r)/\r<=k) (λc d=>e=d/\∃l r,c=(A6,l,r)) ⟨rfl,0,k,rfl,ah _⟩ ?_ (λ_ _⟨a,l,r,b,_⟩=>⟨a,l,r,b⟩) ?_
  .rintro x c st2 _ v⟨rfl,l,r,rfl,q⟩;dsimp only;by_cases g:l≥r;.rw[if_pos g];exact AH ⟨rfl,l,r,rfl⟩
   .rw[if_neg g];refine AE (f.lt C i o ⋯ ⋯ λb=>?_);cases b;.exact AH ⟨rfl,_,r,rfl,q⟩
    .exact AH ⟨rfl,l,_,rfl,⋯⟩
  .rintro c st2⟨rfl,l,r,rfl⟩;dsimp only;rw[moveDown'_eq];exact AE (wpS_modify (AH ⟨rfl,(bubble_perm _ _ _).trans f.perm,f.kind,f.fail,f.pend⟩))
 .rintro c e⟨rfl,f⟩;exact AH (h e f)
end
inductive Rq:List (Nat×Nat×Nat)->Nat->Nat->Prop
 |nil(a:Nat):Rq [] a a
 |cons{a b n:Nat}(w:Nat){p:List (Nat×Nat×Nat)}:0<n->Rq p (a+n) b->Rq ((a,n,w)::p) a b
theorem Rq.len:∀{p:List (Nat×Nat×Nat)}{a b:Nat},Rq p a b->a+p.length<=b
 |_,_,_,.nil _=>ah _
 |_,_,_,.cons w d r=>by have:=r.len;rw[bv];omega
theorem Rq.push{n:Nat}(h0:0<n):∀{p:List (Nat×Nat×Nat)}{a b:Nat},Rq p a b->Rq (p++[(b,n,0)]) a (b+n)
 |_,_,_,.nil _=>.cons 0 h0 (.nil _)
 |_,_,_,.cons w d r=>.cons w d (r.push h0)
theorem Rq.power{w:Nat}:∀{p:List (Nat×Nat×Nat)}{a b:Nat},Rq p a b->∀i,Rq (p.modify i λx=>(x.1,x.2.1,w)) a b
 |_,_,_,.nil _,i=>by cases i<;>exact .nil _
 |_,_,_,.cons v d r,0=>.cons w d r
 |_,_,_,.cons v d r,i+1=>by rw[List.modify_succ_cons];exact .cons v d (r.power i)
theorem Rq.merge{f d pw sv nv h:Nat}:∀{p:List (Nat×Nat×Nat)}{a b i:Nat},Rq p a b->p[i]?=A0 (f,d,pw)->p[i+1]?=A0 (sv,nv,h)->
  sv=f+d/\0<d/\0<nv/\sv+nv<=b/\Rq ((p.set i (f,d+nv,pw)).eraseIdx (i+1)) a b
 |_,_,_,i,.nil _,e,_=>by simp at e
 |_,_,_,0,@Rq.cons a b n w p j r,e,l=>by
  have q:(a,n,w)=(f,d,pw):=by simpa using e
  have g:p[0]?=A0 (sv,nv,h):=by simpa using l
  cases q;cases r with
  |nil _=>simp at g
  | @cons _ _ m v p2 x r2=>
   have t:(f+d,m,v)=(sv,nv,h):=by simpa using g
   cases t;refine⟨rfl,j,x,by have:=r2.len;omega,?_⟩;exact .cons _ ⋯ (by rw[<-Nat.add_assoc];exact r2)
 |_,_,_,i+1,@Rq.cons a b n w p j r,e,l=>by obtain⟨o,C,y,D,B⟩:=r.merge (i:=i) (by simpa using e) (by simpa using l);exact⟨o,C,y,D,.cons w j B⟩
structure Wv(kd:SortKind)(a0:Array AG)(st:AF)(b:Nat):Prop where
 rn:Rq (AJ st).toList 0 b
 pm:(AV st).toList.Perm a0.toList
 kd:kindOf st=kd
 fl:Ae st=A6
theorem Wv.size{a0:Array AG}{st:AF}{b:Nat}(w:Wv kd a0 st b):(AV st).size=a0.size:=by have:=w.pm.length_eq;simpa using this
theorem Wv.pa{a0:Array AG}{st:AF}{b:Nat}(w:Wv kd a0 st b)(pa:∀p∈a0.toList,P p):∀p∈(AV st).toList,P p:=λp a=>pa p (w.pm.mem_iff.mp a)
theorem Wv.mergeAt(C:CmpP M A E s P kd){a0:Array AG}{st:AF}{b:Nat}{i:Nat}{Q:Bool->AF->Prop}(w:Wv kd a0 st b)(pa:∀p∈a0.toList,P p)(hi:i+1<(AJ st).size)(t:b<=a0.size)
  (h:∀a,Wv kd a0 a b->(AJ a).size+1=(AJ st).size->Q A3 a):wpS M A E s (mergeAt' i) Q st:=by
 obtain⟨⟨v,y,pw⟩,d⟩:∃x,(AJ st)[i]?=A0 x:=⟨_,aA ⋯⟩;obtain⟨⟨sv,nv,r⟩,e⟩:∃x,(AJ st)[i+1]?=A0 x:=⟨_,aA hi⟩;obtain⟨g,o,l,B,m⟩:=w.rn.merge (by simpa using d) (by simpa using e);refine Wn C w.kd (w.pa pa) d e g o l (by rw[w.size];omega) w.fl λa q j f n=>?_;refine h a ⟨?_,n.trans w.pm,q,j⟩ ?_;.rw[f];simpa using m
 .rw[f];simp[Array.eraseIdxIfInBounds,hi];omega
def SvP(kd:SortKind)(a0:Array AG)(x:Nat):ForInStep (Option Unit×Nat)->AF->Prop:=λr a=>match r with
 | .done c=>c.1=A6/\Wv kd a0 a a0.size
 | .yield c=>∃b,c=(A6,b)/\Wv kd a0 a b/\b<=a0.size/\(x<=b\/b=a0.size)
theorem NM{a0:Array AG}{a:AF}{n x b:Nat}(h1:1<=n)(d:Wv kd a0 a b)(f:x<=b)(e:b+n<=a0.size):wpS M A E s (sP b n) (SvP kd a0 (x+1)) a:=by refine AE (wpS_modify (AH ⟨b+n,rfl,⟨?_,d.pm,d.kd,d.fl⟩,e,.inl ⋯⟩));show Rq ((AJ a).push _).toList _ _;rw[dw];exact d.rn.push h1
set_option tactic.hygienic true in
theorem Wt(C:CmpP M A E s P kd){a0:Array AG}{st3:AF}{n x lo:Nat}(pa:∀p∈a0.toList,P p)(h1:1<=n)(w3:Wv kd a0 st3 lo)(hx:x<=lo)(hn:lo+n<=a0.size):
  wpS M A E s (sT a0.size lo n) (SvP kd a0 (x+1)) st3:=by
 unfold sT;refine AE (wpS_get ?_);split
 .rename_i s1 n1 _ _;refine C2 (λ_ c st'=>c=(A6,())/\Wv kd a0 st' lo) (λc st'=>c=(A6,())/\Wv kd a0 st' lo) ⟨rfl,w3⟩ ?_ (λ_ _ hh=>hh) ?_
  .rintro y c st4 _ _⟨rfl,w4⟩;refine AE (wpS_get ?_);by_cases c5:(AJ st4).size>1
   .rw[if_pos c5];split
    .split;.exact AH ⟨rfl,w4⟩
     .exact AE (w4.mergeAt C pa ⋯ ⋯ λst5 w5 _=>AH ⟨rfl,w5⟩)
    .exact AH ⟨rfl,w4⟩
   .rw[if_neg c5];exact AH ⟨rfl,w4⟩
  .rintro c st4⟨rfl,w4⟩;refine AE (wpS_modify (NM h1 ⟨?_,w4.pm,w4.kd,w4.fl⟩ hx hn));show Rq (Array.modify _ _ _).toList _ _;rw[Array.toList_modify];exact w4.rn.power _
 .exact NM h1 w3 hx hn
theorem Wu(C:CmpP M A E s P kd){a0:Array AG}{d:AF}{x j b:Nat}(pa:∀p∈a0.toList,P p)(w:Wv kd a0 d b)(t:b<=a0.size)(q:x<=b\/b=a0.size):
  wpS M A E s (sB a0.size j b) (SvP kd a0 (x+1)) d:=by
 unfold sB;by_cases l:b≥a0.size
 .rw[if_pos l];have e:b=a0.size:=by omega
  exact AH ⟨rfl,e▸w⟩
 rw[if_neg l];have g:∀{a:AF}{n:Nat},Sv d a->1<=n->n<=a0.size-b->wpS M A E s (sT a0.size b n) (SvP kd a0 (x+1)) a:=λ{a n}f r v=>
  Wt C pa r ⟨by rw[f.pend];exact w.rn,(Array.perm_iff_toList_perm.mp f.perm).trans w.pm,f.kind.trans w.kd,f.fail.trans w.fl⟩ ⋯ ⋯;refine AE (Wr C w.kd (w.pa pa) (by rw[w.size];omega) ⋯ λm st2 B2 h i=>?_);show wpS M A E s (if m<j then _ else _) _ _;by_cases o:m<j;.rw[if_pos o];refine AE (wpS_lift (ck ⟨rfl,?_⟩));exact AE (Ws C w.kd (w.pa pa) (by rw[w.size];omega) B2 λa f=>g f ⋯ ⋯)
 .rw[if_neg o];exact g B2 h i
theorem Ww(C:CmpP M A E s P kd){a0:Array AG}{st:AF}{Q:Unit->AF->Prop}(i:AV st=a0)(n:kindOf st=kd)(q:Ae st=A6)(t:AJ st=#[])(l:∀p∈a0.toList,P p)
  (h:∀a,(AV a).toList.Perm a0.toList->Ae a=A6->Q () a):wpS M A E s sortRuns' Q st:=by
 rw[W1];refine AE (wpS_get ?_);rw[i];refine C2 (λx c a=>SvP kd a0 x (.yield c) a) (λc a=>c.1=A6/\Wv kd a0 a a0.size) ⟨0,rfl,⟨by rw[t];exact .nil _,by rw[i],n,q⟩,aJ _,.inl (ah _)⟩ ?_ ?_ ?_;.rintro x c d _ y⟨b,rfl,w,j,f⟩;exact wpS_mono (Wu C l w j f) λr a v=>by cases r<;>exact v
 .rintro c d⟨b,rfl,w,j,f⟩;have e:b=a0.size:=by omega
  exact⟨rfl,e▸w⟩
 .rintro⟨D,g⟩d⟨m,w⟩;cases m;refine C2 (λx c a=>c=(A6,())/\Wv kd a0 a a0.size) (λc a=>c=(A6,())/\Wv kd a0 a a0.size) ⟨rfl,w⟩ ?_ (λ_ _ z=>z) ?_
  .rintro x c st2 _ y⟨rfl,w⟩;unfold sC;refine AE (wpS_get ?_);by_cases g:(AJ st2).size<=1;.rw[if_pos g];exact AH ⟨rfl,w⟩
   rw[if_neg g];refine AE (w.mergeAt C l ?_ (ah _) λo B G=>AH ⟨rfl,B⟩);repeat' split
   all_goals omega
  .rintro c st2⟨rfl,w⟩;exact AH (h st2 w.pm w.fl)
end
end So
namespace L2
open PySem PySem.Spec PyProof.Rows So
def Ek(prog:AC)(w:AL)(h0:AM)(a:A4)(vs:List A2):Prop:=
 2<=vs.length->∃d:SortKind,∀(A:AN)(s:A5),(∀b o,b≠a->h0.get? b=A0 o->s.heap.get? b=A0 o)->
  (∀(E:A2->A5->Prop)(Q:SortKind->A5->Prop),Q d s->AA (AD prog w) A (keyKind' vs.toArray) Q E s)/\
  ∀x y,x∈vs->y∈vs->∀(E:A2->A5->Prop)(Q:Bool->A5->Prop),(∀b,Q b s)->AA (AD prog w) A (keyLt' d x y) Q E s
theorem Wx{prog:AC}{w:AL}{h0:AM}{a:A4}{vs:List A2}(d:∀v∈vs,∃i t,v=.int i t):Ek prog w h0 a vs:=by
 intro b;refine⟨oneType',λA s _=>⟨λE Q h=>?_,λx y e f E Q h=>?_⟩⟩
 .obtain⟨x,y,r,rfl⟩:∃x y r,vs=x::y::r:=by
   match vs,b with
   | [],b=>simp at b
   | [_],b=>simp at b
   |x::y::r,_=>exact⟨x,y,r,rfl⟩
  rw[keyKind_ints (Ft d)];exact af h
 .obtain⟨p,t,rfl⟩:=d x e;obtain⟨q,u,rfl⟩:=d y f;rw[keyLt'_oneType];exact oneLt_int (h _)
section
variable{prog:AC}{w:AL}{A:AN}{E:A2->A5->Prop}{s:A5}
theorem JE{a:A4}{vs:List A2}{n:Nat}{P:Fin->A5->Prop}(v:s.heap.get? a=A0 (seqObj "list" vs.toArray n))(hu:Ek prog w s.heap a vs)(J:vs.length<=A9)
  (h:∀r:List A2,r.Perm vs->P (.done (.ret .none)) {s with heap:=sortedHeap s.heap a vs r.toArray}):AA (AD prog w) A (AK.«list.sort» ⟨[.ref a],[]⟩) P E s:=by
 rw[list_sort_plain];have H:a<s.heap.objs.size:=aq v;refine aa (listItems_at v rfl (aa (listUpdate_at v rfl ?_)));obtain⟨D,j⟩:∃D,(s.heap.update a (AT.mapSeq λ_=>#[])).get? a=A0 (seqObj "list" #[] D):=⟨_,get?_update_seq v (λ_=>#[])⟩;refine aa (seqEpoch_at j rfl (aa (wpAny_newTuple (aa (wpAny_newList (aR ?_))))));have g:(((s.heap.update a (AT.mapSeq λ_=>#[])).push (seqObj "tuple" vs.toArray 0)).push (seqObj "list" #[] 0)).get? a=A0 (seqObj "list" #[] D):=by rw[AM.get?_push_ne _ _ _ (by rw[size_push',AM.size_update];exact az (bE H)),AM.get?_push_ne _ _ _ (by rw[AM.size_update];exact az H)];exact j
 have i:∀b o,b≠a->s.heap.get? b=A0 o->(((s.heap.update a (AT.mapSeq λ_=>#[])).push (seqObj "tuple" vs.toArray 0)).push (seqObj "list" #[] 0)).get? b=A0 o:=λb o N q=>by have t:b<s.heap.objs.size:=aq q;rw[AM.get?_push_ne _ _ _ (by rw[size_push',AM.size_update];exact az (bE t)),AM.get?_push_ne _ _ _ (by rw[AM.size_update];exact az t),AM.get?_update_ne _ _ _ _ N];exact q
 show AA (AD prog w) A _ P E {s with heap:=((s.heap.update a (AT.mapSeq λ_=>#[])).push (seqObj "tuple" vs.toArray 0)).push (seqObj "list" #[] 0)};dsimp only;by_cases m:vs.toArray.size<2
 .rw[if_pos m,if_pos m];refine aa (af ?_);rw[StateT.run_pure];refine aa (af ?_);dsimp only;refine aa (seqEpoch_at g rfl (aa (listUpdate_at g rfl ?_ (hsz2:=by rw[cH];show(pairsOf vs).size<=_;rw[pairsOf_size];exact Nat.le_succ_of_le J))));simp only[bne_self_eq_false,ba,if_false];refine af ?_;have X:(pairsOf vs).map (·.2)=vs.toArray:=by apply Array.toList_inj.mp;rw[dE,pairsOf_toList,List.map_snd_zip (ah _)]
  have f:=h vs (List.Perm.refl _);rw[<-X]at f;exact f
 .rw[if_neg m,if_neg m];have G:2<=vs.length:=by rw[aE]at m;omega
  obtain⟨I,B⟩:=hu G;obtain⟨S,Z⟩:=B A {s with heap:=((s.heap.update a (AT.mapSeq λ_=>#[])).push (seqObj "tuple" vs.toArray 0)).push (seqObj "list" #[] 0)} i;refine aa (S _ _ ?_);have C:CmpP (AD prog w) A E {s with heap:=((s.heap.update a (AT.mapSeq λ_=>#[])).push (seqObj "tuple" vs.toArray 0)).push (seqObj "list" #[] 0)} (λp=>p.1∈vs) I:=⟨λ{x y st Q}T U L q=>by rw[lt'_eq];refine AE (wpS_get ?_);rw[L];exact AE (wpS_lift (ci (Z x.1 y.1 T U _ _ λb=>⟨rfl,AH (q b)⟩)))⟩;refine aa (cX (Ww C (a0:=pairsOf vs) (st:=AF.mk' I (pairsOf vs) #[] 7 A6) (Q:=λ_ d=>(AV d).toList.Perm (pairsOf vs).toList/\Ae d=A6) rfl rfl rfl rfl (λp l=>by rw[pairsOf_toList]at l;exact(mem_zip_self l).2) λd K R=>⟨K,R⟩) ?_ λ_ _ e=>e);rintro⟨⟨⟩,d⟩s'⟨rfl,l,M⟩;dsimp only;have Y:(AV d).size=vs.length:=by have:=l.length_eq;rw[ak,ak,pairsOf_size]at this;exact this
  refine aa (seqEpoch_at g rfl (aa (listUpdate_at g rfl ?_ (hsz2:=by rw[cH];show(AV d).size<=_;rw[Y];exact Nat.le_succ_of_le J))));rw[M];simp only[bne_self_eq_false,ba,if_false];refine af ?_;have f:=h ((AV d).toList.map (·.2)) (by have:=l.map (·.2);rw[pairsOf_toList,List.map_snd_zip (ah _)]at this;exact this);have O:((AV d).toList.map (·.2)).toArray=(AV d).map (·.2):=by apply Array.toList_inj.mp;rw[dE]
  rw[O]at f;exact f
theorem Wy{D:A4}{o:AT}{S:Option Int->Bool}{n:Nat}{Q:A2->A5->Prop}(hh:A.handled=A6)(ho:s.heap.get? D=A0 o)(hS:o.SetIt (DL prog w) S n)(Y:S A6=A7)
  (h:∀(s':A5)(l:A4)(K:List Int)(vs:Array A2)(e:Nat),(∀b o,s.heap.get? b=A0 o->s'.heap.get? b=A0 o)->s'.gens=s.gens->s'.os=s.os->s.heap.objs.size<=l->s'.heap.get? l=A0 (seqObj "list" vs e)->IntsAre vs.toList K->K.Nodup->(∀i,i∈K↔S (A0 i)=A3)->K.length=n->Q (.ref l) s'):
  AA (AD prog w) A (call (.builtin "sorted") [.ref D]) Q E s:=by
 obtain⟨es,ep,t,a0,hd,N,g,O,hf,hn,H,T⟩:=hS;refine Calls.call_function_entry kind_sorted plain_sorted entry_sorted (args_sorted1 _) ?_;unfold AK.«sorted»;refine aa (m:=checkCount "sorted" 1 1 _) (af (aa (ML (A:=A.in1) hh ho a0 hd hf T (fits_of_scanBound O) λM y k1 k2 k3 k4 k5 r=>aa (wpAny_newList ?_ (by rw[r.length_eq,ac,ak];exact fits_of_scanBound O)))));have d:∀e∈es.toList,∃i t,e.2=.int i t/\S (A0 i)=A3:=by
  intro e f;obtain⟨⟨k,J,_⟩,_⟩:=N e f;have C:=(g k).mpr ⟨e,f,J⟩;rcases Ck J with⟨i,t,rfl,q⟩|⟨rfl,_⟩;.exact⟨i,t,q,C⟩
  .rw[Y]at C;cases C
 have B:∀v∈y,∃i t,v=.int i t:=by intro v I;obtain⟨e,f,rfl⟩:=ar.mp (r.mem_iff.mp I);obtain⟨i,t,q,_⟩:=d e f;exact⟨i,t,q⟩
 have hI:=Ft B;have L:y.length=n:=by rw[r.length_eq,ac,ak,hn]
 have P:(y.map iOf).Nodup:=by
  have h1:(es.toList.map (·.2)).Pairwise λa b=>iOf a≠iOf b:=by rw[cI];refine List.Pairwise.imp_of_mem (λ{a b}ha Z z q=>?_) H;obtain⟨i,t,e1,_⟩:=d a ha;obtain⟨j,u,e2,_⟩:=d b Z;rw[e1,e2]at q;have q':i=j:=q;subst q';exact z (A0 i) (by rw[e1];show A2.isInt i (.int i t)=A3;simp[A2.isInt]) (by rw[e2];show A2.isInt i (.int i u)=A3;simp[A2.isInt])
  rw[List.Nodup,cI];exact(List.Perm.pairwise_iff (λ{a b}z=>Ne.symm z) r).mpr h1
 have X:y.length<=A9:=by rw[r.length_eq,ac,ak];exact fits_of_scanBound O
 have p:(M.heap.push (seqObj "list" y.toArray 0)).get? M.heap.objs.size=A0 (seqObj "list" y.toArray 0):=au _ rfl;refine aa (aR (aV slot_list_sort ⟨_,p,rfl⟩ entry_list_sort (JE p (Wx B) X λout a2=>⟨_,rfl,af ⟨_,rfl,?_⟩⟩) (args_list_sort _)));obtain⟨e',R⟩:=sortedHeap_at (out:=out.toArray) p;have U:∀v∈out,∃i t,v=.int i t:=λv I=>B v (a2.mem_iff.mp I);have x:(out.map iOf).Perm (y.map iOf):=a2.map _;refine h _ M.heap.objs.size (out.map iOf) out.toArray e' (λb o eb=>?_) k2 k3 k5 R (Ft U) ?_ (λi=>?_) (by rw[x.length_eq,ac,L]);.have G:=aq (k1 b o eb);rw[sortedHeap_old (az G) (by rw[size_push'];exact bE G)];exact ag _ (k1 b o eb)
 .exact x.nodup_iff.mpr P
 .rw[x.mem_iff,ar];constructor;.rintro⟨v,I,rfl⟩;obtain⟨e,f,rfl⟩:=ar.mp (r.mem_iff.mp I);obtain⟨i,t,q,z⟩:=d e f;rw[q];exact z
  .intro z;obtain⟨e,f,J⟩:=(g (A0 i)).mp z;obtain⟨u,eu⟩:=A2.isInt_shape J;exact⟨e.2,r.mem_iff.mpr (List.mem_map_of_mem f),by rw[eu];rfl⟩
end
section
variable{X:Cx}
def JF(Q:VK)(a:(Option Int->Bool)×Nat)(d:Hp):Prop:=a.1 A6=A7/\∀(l:A4)(b:List Int),d l=A6->b.Nodup->(∀i:Int,i∈b↔a.1 (A0 i)=A3)->Q (.ref l) (upd d l (.lst (b.map V.int)))
def JG(own:List Nat)(e:TI)(g:TG)(d:TT)(Aw:TL ((Option Int->Bool)×Nat)):TE:=λb H Q=>DN own e g d Aw (λ_=>A7,0) (λp a=>Bi p a.1 a.2) (JF Q) b H λ_ _=>True
variable{e:A8}{scope:AX}{tg iter:A8}{ifs:List A8}{nx:A4->Env->Sem Unit}{g:TG}{tc:TT}{Aw:TL ((Option Int->Bool)×Nat)}{own:List Nat}{wi:TI}
theorem Wz{p pos b:Pos}(x:Gl X "sorted")(r:X.mg "sorted"=A6)(C:CompInG (Fu X.prog X.w) X e scope tg iter ifs nx g tc Aw own)(hi:PI X tg iter wi)(he:Ac e X.env=Ak e scope X.env b (newSet (.type "set")) A7 (Ac iter X.env))(hs:AY [e] X.env=[(A7,Ac e X.env)]):
  PE X (.Call (.Name "sorted" p) [e] [] pos) (JG own wi g tc Aw):=by
 intro R s σ H Q I hw;refine cR (Cf I x r (u:=.builtin "sorted") rfl ?_);refine PyProof.Rows.callWith_builtin1 ?_ (by rw[hs];rfl) rfl;rw[hs];show AA _ _ (spliced [(A7,Ac e X.env)]) _ _ s;refine Calls.spliced_cons ?_;rw[he];refine thn (Ir (o0:=λ_=>C6 (!(X.w.params.followText "set-order"))) (Q:=λv s'=>∃D a o d,v=.ref D/\Inv X R σ d s'/\s'.heap.get? D=A0 o/\Fu X.prog X.w a o/\JF Q a d) (λs Q h=>V8 (h A3)) (λ_=>rfl) (λ_=>⟨aJ _,0,ah _,M4⟩) Md C hi I hw λN s' H0 d ex D xs o T K A J E y h0 fD sy t n' f hR=>?_) λv s'⟨D,a,o,d,P,J,O,i,hok⟩=>Calls.spliced_nil ?_;.obtain⟨m,j,_⟩:=J.loc;refine⟨m,j,λh' hs=>?_⟩;have q:D≠N.heap.objs.size:=az y;exact⟨D,xs,o,d,rfl,Ef K A J hs,(hs.2 D q).trans E,t,f⟩
 .subst P;obtain⟨j,m,hm,Y⟩:=i;obtain⟨L,G⟩:=hok;refine Wy (I.ok.hd C.calm) O Y L λn l M vs E k1 k2 U B S Z k7 k8 k9=>?_;exact⟨.ref l,_,J.ints (s':=n) k1 k2 U B S Z (by rw[k9];exact aN hm (aN j (by decide))),rfl,G l M (J.hok.fresh B) k7 k8⟩
end
open PySem.Ts
def DQ(P:AC)(w:AL)(h:AM)(D:A4)(L:List (List Int×A4)):Prop:=∃(o:AT)(b:Array (Int×A2))(d:Nat)(t:AB)(a:List (List Int×A4)),h.get? D=A0 o/\o.ExactSet/\o.data=.set b d t/\Elms P w h b t a/\TOk (w.params.followText "set-order") t/\(∀q∈a,q∈L)/\(∀k,k∈a.map (·.1)↔k∈L.map (·.1))/\a.length<=L.length
theorem DQ.kept{P:AC}{w:AL}{h h':AM}{D:A4}{L b:List (List Int×A4)}(x:DQ P w h D L)(hs:∀q∈L,q∈b)(l:∀q∈b,Tup P w h' q)(e:∀o,h.get? D=A0 o->h'.get? D=A0 o):DQ P w h' D L:=by obtain⟨o,r,i,t,g,m,d,p,X,n,a,j,f⟩:=x;exact⟨o,r,i,t,g,e _ m,d,p,⟨X.its,λq s=>l q (hs q (a q s)),X.nd,X.tab,X.mask⟩,n,a,j,f⟩
theorem G3{P:AC}{w:AL}{h h':AM}{q:List Int×A4}(x:Tup P w h q)(e:∀o,h.get? q.2=A0 o->h'.get? q.2=A0 o):Tup P w h' q:=by obtain⟨o,a,n,b,r⟩:=x;exact⟨o,a,n,e _ b,r⟩
section
variable{prog:AC}{w:AL}{A:AN}{R:Result->A5->Prop}{I:A4}{fp wr:List A4}{G:Array GenState->Array GenState->Prop}{P:Nat->A2->Prop}{St:Nat->A5->Prop}
theorem W_{L:List (List Int×A4)}{n:Nat}(a2:L.length=n)(W:WalksS prog w A.in1 I fp wr G n P St)(D:A4)(hD:D∉fp)(hv:∀i v,P i v->∃q,L[i]?=A0 q/\v=.ref q.2)(p:∀q∈L,q.2∉wr/\q.2≠D)(hb:L.length<4000)(hu:A.in1.units<Am):
  ∀(k i:Nat)(s:A5),L.length-i=k->i<=L.length->St i s->(∀q∈L,Tup prog w s.heap q)->DQ prog w s.heap D (L.take i)->
   (∀a,Moved (D::wr) G s a->DQ prog w a.heap D L->R (.ok (.ret .none)) a)->
   codeAny (AD prog w) A (.builtin "set.update.loop" ⟨[.ref D,.ref I],[]⟩) R s:=by
 subst a2;have hw:D∉wr:=λz=>hD (W.sub _ z);have sb:∀b∈wr,b∈D::wr:=λb z=>ax _ z;intro k;induction k with
 |zero=>
  intro i s hk hi B Z N hR;obtain rfl:i=L.length:=by omega
  rw[aQ]at N;refine Ad F.entry_set_update_loop ?_;rw[AN.under_plainId F.plain_set_update_loop _];show AA _ A.in1 (pyNext (.ref I)>>=_) _ _ s;exact aa (W.done s _ _ B λa l=>af (hR a (l.mono sb) (N.kept (λ_ z=>z) (λq d=>G3 (Z q d) λo e=>l.heap _ _ (p q d).1 e) λo e=>l.heap D _ hw e)))
 |succ k ih=>
  intro i s hk hi B Z N hR;have C:i<L.length:=by omega
  refine Ad F.entry_set_update_loop ?_;rw[AN.under_plainId F.plain_set_update_loop _];show AA _ A.in1 (pyNext (.ref I)>>=_) _ _ s;refine aa (W.item i s _ _ C B λv a hP j l=>?_);obtain⟨q,d,rfl⟩:=hv i v hP;have H:=ao d;have E:L.take (i+1)=L.take i++[q]:=by rw[aO,d];rfl
  have g:∀q∈L,Tup prog w a.heap q:=λq d=>G3 (Z q d) λo e=>l.heap _ _ (p q d).1 e;obtain⟨o,es,ep,t,L',ho,M,hd,X,K,h6,h7,U⟩:=N.kept (λq z=>dB z) g λo e=>l.heap D _ hw e;show AA _ A.in1 (holding [A2.ref q.2] (setAdd D (A2.ref q.2))>>=_) _ _ a;refine aa (aR ?_);unfold setAdd;refine aR (aa (wpAny_pyHash_tuple hu (g q H) ?_));have hl:L'.length<4000:=by rw[aM]at U;omega
  refine UC (s:={a with toks:=a.toks+(q.1.length+1)}) hu ho M hd X K (g q H) hl (λO=>?_) λa3 h' o' Q Y t' L2 hs S J a1 X2 y a0=>?_
  .refine af ⟨plainId_quiet F.plain_set_update_loop _,ih (i+1) _ ⋯ C (W.frame _ a a.heap _ j (bF _ _) λb _ o e=>e) g ⟨o,es,ep,t,L',ho,M,hd,X,K,λq d=>by rw[E];exact bq _ (h6 q d),λk=>?_,by rw[E,aB];exact Nat.le_succ_of_le U⟩ λr m x=>?_⟩
   .rw[h7,E,aC,aL];constructor;.exact .inl
    .rintro(z|z);.exact z
     .rw[aF.mp z];exact(h7 _).mp O
   .exact hR r (Moved.trans W.gtrans ((l.mono sb).then_heap (bF _ _) λb o h e=>e) m) x
  .have f:∀b,b≠D->∀o,a.heap.get? b=A0 o->h'.get? b=A0 o:=λb hb o e=>(hs.2 b hb).trans e;refine af ⟨plainId_quiet F.plain_set_update_loop _,ih (i+1) _ ⋯ C (W.frame _ a h' _ j (bF _ _) λb h o e=>f b (λz:b=D=>hD (z▸h)) o e) (λq d=>G3 (g q d) λo e=>f _ (p q d).2 o e) ⟨o',Q,Y,t',L2,S,J,a1,X2,a0,λq' T=>?_,λk=>?_,?_⟩ λr m x=>?_⟩
   .rw[E];rcases ap.mp (y.mem_iff.mp T)with rfl|z;.exact am _ ay
    .exact bq _ (h6 q' z)
   .rw[(y.map (·.1)).mem_iff,E,aK,ap,aC,aL,h7,or_comm];exact or_congr Iff.rfl aF.symm
   .rw[y.length_eq,E,aB,bv];exact Nat.succ_le_succ U
   .exact hR r (Moved.trans W.gtrans ((l.mono sb).then_heap (bF _ _) λb o h e=>f b (λz:b=D=>h (z▸ay)) o e) m) x
end
section
variable{prog:AC}{w:AL}{A:AN}{E:A2->A5->Prop}{s:A5}
theorem X0{l:A4}{L:List (List Int×A4)}{Q:A2->A5->Prop}(M:A.handled=A6)(hu:A.units+16<Am)(hl:s.heap.IsList l (L.map λq=>A2.ref q.2).toArray)(m:∀q∈L,Tup prog w s.heap q)(H:L.length<4000)
  (h:∀(h':AM)(G:Nat),DQ prog w h' s.heap.objs.size L->(∀b o,b<s.heap.objs.size->s.heap.get? b=A0 o->h'.get? b=A0 o)->s.heap.objs.size<h'.objs.size->Q (.ref s.heap.objs.size) {s with heap:=h',toks:=G}):
  AA (AD prog w) A (call (.type "set") [.ref l]) Q E s:=by
 have d:∀q∈L,q.2<s.heap.objs.size:=λq a=>by obtain⟨o,g,n,p,_⟩:=m q a;exact aq p
 refine VA (λh'=>DQ prog w h' s.heap.objs.size L) M hl (λA1 R p I St j C he r y W T k=>?_) (λh'⟨o,_,_,_,_,J,_⟩=>⟨o,J⟩) h;refine W_ (L:=L) (by simp) W s.heap.objs.size r (λi v z=>?_) (λq a=>⟨?_,az (d q a)⟩) H (cm j hu) (L.length-0) 0 _ ⋯ (aJ _) T (λq a=>G3 (m q a) λo e=>C _ _ e) ?_ λS U f=>k S U f;.rw[<-bA,aj]at z;obtain⟨q,K,z2⟩:=aP.mp z;exact⟨q,K,z2.symm⟩
 .rw[aF];exact az (Nat.lt_trans (d q a) y)
 .obtain⟨_,Y,O,t,N,p1,p2,x,Z,p5,B,p7,D⟩:=W6 (P:=prog) (w:=w);have X:N=[]:=df p1.length_eq;subst X;exact⟨_,Y,O,t,[],he,p2,x,⟨Z,λq a=>absurd a av,p5,B,p7⟩,D,λq a=>absurd a av,λk=>Iff.rfl,ah _⟩
theorem NN{prog:AC}{w:AL}{h0:AM}{a:A4}{qs:List (A4×List Itm)}{U:List Bool}{b:Bool}(Y:∀q∈qs,Tps h0 q)(B:∀q∈qs,q.1≠a)(hs:∀q∈qs,shp q.2=b::U):Ek prog w h0 a (qs.map λq=>A2.ref q.1):=by
 intro M;refine⟨tuples' A3,λA s e=>?_⟩;have d:∀q∈qs,Tps s.heap q:=λq O=>let⟨o,J,n,P,r⟩:=Y q O;⟨o,J,n,e _ _ (B q O) P,r⟩;refine⟨λE Q h=>?_,λx y f S E Q h=>?_⟩
 .obtain⟨fs,N,l,j⟩:=Mk d hs;cases b;.refine W.kat_kind (T:=.type "str") N (by rw[l];rw[ac]at M;omega) (λv K=>?_) rfl h;obtain⟨x,f,C⟩:=j v K;cases x<;>simp at C;obtain⟨t,rfl⟩:=f;exact .now
  .refine W.kat_kind (T:=.type "int") N (by rw[l];rw[ac]at M;omega) (λv K=>?_) rfl h;obtain⟨x,f,C⟩:=j v K;cases x<;>simp at C;obtain⟨t,rfl⟩:=f;exact .now
 .obtain⟨qx,mx,rfl⟩:=ar.mp f;obtain⟨p,L,rfl⟩:=ar.mp S;obtain⟨ox,J,n,G,_,H,i⟩:=d qx mx;obtain⟨oy,Z,m,I,_,D,g⟩:=d p L;refine W.kat_lt G H I D ?_;have X:¬J.size<Z.size:=by have l:=i.len;have j:=g.len;have R:=congrArg cL ((hs qx mx).trans (hs p L).symm);simp only[shp,ac]at R;rw[ak]at l j;omega
  rw[decide_eq_false X];exact Mj i g ((hs qx mx).trans (hs p L).symm) (h _)
theorem X1{D:A4}{L:List (List Int×A4)}{Q:A2->A5->Prop}(hh:A.handled=A6)(hS:DQ prog w s.heap D L)(hL:L.length<4000){n:Nat}(I:∀q∈L,q.1.length=n+1)
  (h:∀(s':A5)(l:A4)(qs:List (List Int×A4))(e:Nat),(∀b o,s.heap.get? b=A0 o->s'.heap.get? b=A0 o)->s'.gens=s.gens->s'.os=s.os->s.heap.objs.size<=l->s'.heap.get? l=A0 (seqObj "list" (qs.map λq=>A2.ref q.2).toArray e)->(∀q∈qs,q∈L)->(∀k,k∈qs.map (·.1)↔k∈L.map (·.1))->qs.length<=L.length->Q (.ref l) s'):
  AA (AD prog w) A (call (.builtin "sorted") [.ref D]) Q E s:=by
 obtain⟨o,S,ep,t,G,ho,Y,hd,X,O,h6,h7,h8⟩:=hS;have y:=X.its;have J:S.size=G.length:=by rw[<-ak,y,ac]
 have hz:S.size<=A9:=by rw[J];exact aN (show G.length<=4000 by omega) (by decide)
 refine Calls.call_function_entry kind_sorted plain_sorted entry_sorted (args_sorted1 _) ?_;unfold AK.«sorted»;refine aa (m:=checkCount "sorted" 1 1 _) (af (aa (ML (A:=A.in1) hh ho Y hd X.tab.fits O hz λf T R k2 k3 k4 k5 P=>aa (wpAny_newList ?_ (by rw[P.length_eq,ac,ak];exact hz)))));have e6:S.toList.map (·.2)=G.map λq=>A2.ref q.2:=by rw[y,aU];rfl
 rw[e6]at P;obtain⟨L2,d,rfl⟩:=Ff P rfl;have U:∀q∈L2,Tps f.heap (q.2,kI q.1):=λq a=>by obtain⟨o,g,n,C,g2,g3,g4⟩:=X.tup q (d.mem_iff.mp a);exact⟨o,g,n,R _ _ C,g2,g3,Mn g4⟩
 generalize v:L2.map (λq=>(q.2,kI q.1))=qs;have K:(L2.map λq=>A2.ref q.2)=qs.map λq=>A2.ref q.1:=by rw[<-v,aU];rfl
 have hP:∀q∈qs,Tps f.heap q:=λq a=>by rw[<-v]at a;obtain⟨p,j,rfl⟩:=ar.mp a;exact U p j
 have H:∀q∈qs,shp q.2=A3::bU n A3:=λq a=>by rw[<-v]at a;obtain⟨p,j,rfl⟩:=ar.mp a;show shp (kI p.1)=_;rw[Mo,I p (h6 p (d.mem_iff.mp j))];rfl
 have i:(f.heap.push (seqObj "list" (L2.map λq=>A2.ref q.2).toArray 0)).get? f.heap.objs.size=A0 (seqObj "list" (L2.map λq=>A2.ref q.2).toArray 0):=au _ rfl;have x:Ek prog w (f.heap.push (seqObj "list" (L2.map λq=>A2.ref q.2).toArray 0)) f.heap.objs.size (L2.map λq=>A2.ref q.2):=by
  rw[K];refine NN (λq a=>?_) (λq a=>?_) H;.obtain⟨o,T,n,C,r⟩:=hP q a;exact⟨o,T,n,ag _ C,r⟩
  .obtain⟨o,T,n,C,r⟩:=hP q a;exact az (aq C)
 refine aa (aR (aV slot_list_sort ⟨_,i,rfl⟩ entry_list_sort (JE i x (by rw[ac,d.length_eq];exact aN (show G.length<=4000 by omega) (by decide)) λout a1=>⟨_,rfl,af ⟨_,rfl,?_⟩⟩) (args_list_sort _)));obtain⟨L3,Z,rfl⟩:=Ff a1 rfl;obtain⟨e',N⟩:=sortedHeap_at (out:=(L3.map λq=>A2.ref q.2).toArray) i;have M:=Z.trans d;refine h _ f.heap.objs.size L3 e' (λb o eb=>?_) k2 k3 k5 N (λq a=>h6 q (M.mem_iff.mp a)) (λk=>?_) (by rw[M.length_eq];exact h8);.have B:=aq (R b o eb);rw[sortedHeap_old (az B) (by rw[size_push'];exact bE B)];exact ag _ (R b o eb)
 .rw[(M.map (·.1)).mem_iff];exact h7 k
end
section
variable{X:Cx}
def JH(K:W.Frag)(f:TE):TE:=λe H Q=>f e H λx b=>∃(a:A4)(L:List (List Int×A4)),x=.ref a/\SqL K b a (L.map λq=>V.ref q.2)/\Trk b L/\L.length<=3999/\(∃n,∀q∈L,q.1.length=n+1)/\∀(l:A4)(d:List (List Int×A4)),b l=A6->(∀q∈d,q∈L)->(∀k,k∈d.map (·.1)↔k∈L.map (·.1))->d.length<=L.length->Q (.ref l) (upd b l (.lst (d.map λq=>V.ref q.2)))
theorem X3{e:A8}{J:TE}{p p2 pos d:Pos}(hu:X.A.units+64<Am)(G:X.calm=A3)(D:Gl X "sorted")(B:X.mg "sorted"=A6)(C:Gl X "set")(E:X.mg "set"=A6)(he:PE X e J)(hs:AY [e] X.env=[(A7,Ac e X.env)]):
  PE X (.Call (.Name "sorted" p) [.Call (.Name "set" p2) [e] [] d] [] pos) (JH X.K J):=by
 intro Z s σ H Q I h;refine cR (Cf I D B (u:=.builtin "sorted") rfl ?_);refine PyProof.Rows.callWith_builtin1 ?_;show AA _ _ (spliced [(A7,Ac (.Call (.Name "set" p2) [e] [] d) X.env)]) _ _ s;refine Calls.spliced_cons ?_;refine cR (Cf I C E (u:=.type "set") rfl ?_);refine PyProof.Rows.callWith_type1 ?_ (by rw[hs];rfl) rfl;rw[hs];show AA _ _ (spliced [(A7,Ac e X.env)]) _ _ s;refine Calls.spliced_cons (thn (he Z s σ H _ I h) λu y⟨x,H1,t,rx,a,L,S,N,O,hl,m,q⟩=>Calls.spliced_nil ?_);subst S;obtain rfl:u=A2.ref a:=rx;obtain⟨i,r,M,hz⟩:=t.list N;have j:i=L.map λq=>A2.ref q.2:=by
  clear hz M q m hl O N;induction L generalizing i with
  |nil=>cases r;rfl
  |cons p L ih=>
   cases r with
   |cons r1 r2=>cases r1;rw[ih _ r2];rfl
 subst j;refine X0 (L:=L) (I.ok.hd G) ⋯ M.isList (λq hq=>Mm t.hok (O q hq)) ⋯ λh' U v T w=>Calls.spliced_nil ?_;obtain⟨n,m⟩:=m;refine X1 (s:={y with heap:=h',toks:=U}) (I.ok.hd G) v ⋯ m λs' l g Y k1 k2 k3 R k5 k6 k7 k8=>?_;have f:y.heap.objs.size<=l:=bO (al w R);have J2:=t.laid (a:=l) (o:=.lst (g.map λq=>V.ref q.2)) (h':=s'.heap) (t':=y.toks) (λb o P=>k1 b o (T b o (aq P) P)) f ⟨by rw[ac];exact aN (show g.length<=3999 by omega) (by decide),g.map λq=>A2.ref q.2,Y,J7 g,by rw[k5]⟩;exact⟨.ref l,_,J2.other rfl k2 k3,rfl,q l g (t.hok.fresh f) k6 k7 k8⟩
end
open PySem.SeqAt
section
variable{X:Cx}
def NO:List V->Hp->VK->Prop:=λg H Q=>∃(a:A4)(b:List (List Key×V))(n:Nat),g=[.ref a]/\Rd H a (.dT b)/\(∀d∈b,∃f:List Int,d.1=f.map Key.inl/\f.length=n+1)/\
 ∀l(e:List (List Int×A4)),H l=A6->(e.map Prod.fst).Perm (b.map λd=>unK d.1)->(∀q∈e,H q.2=A0 (.tup (q.1.map V.int)))->Q (.ref l) (upd H l (.lst (e.map λq=>V.ref q.2)))
theorem X4(hc:X.calm=A3):BI X (.builtin "sorted") NO:=by
 intro p_ s σ H f us Q I rv h;obtain⟨a,P,n,rfl,hH,hk,q⟩:=h;obtain⟨u,rfl,r1⟩:=CP rv;cases r1;obtain⟨z,hd,f,C,o,es,ep,ho,a7,O,he,_⟩:=CI I.hok hH;have v:P.length=f.length:=Ah C;have l:es.size=f.length:=size_of_entries he;have hz:es.size<=A9:=by rw[l,<-v];exact z
 have hx:∀x∈f,∃M:List Int,x.1=M.map Key.inl/\M.length=n+1/\H x.2.1=A0 (.tup (M.map V.int)):=λx hx=>by obtain⟨kv,a8,e1,e2,_⟩:=EE C hx;obtain⟨M,e3,e4⟩:=hk kv a8;refine⟨M,by rw[<-e1,e3],e4,?_⟩;rw[e2,e3,Vj]
 generalize hL:(f.map λx=>(unK x.1,x.2.1))=L;have K:∀p∈L,H p.2=A0 (.tup (p.1.map V.int))/\p.1.length=n+1:=λp hp=>by rw[<-hL]at hp;obtain⟨x,a4,rfl⟩:=ar.mp hp;obtain⟨M,e1,e2,e3⟩:=hx x a4;show H x.2.1=A0 (.tup ((unK x.1).map V.int))/\(unK x.1).length=n+1;rw[e1,Wd];exact⟨e3,e2⟩
 have G:L.length=f.length:=by rw[<-hL,ac]
 have a3:L.map Prod.fst=P.map λkv=>unK kv.1:=by rw[<-hL,aU];exact(NA C λx y h=>by show unK x.1=unK y.1;rw[h.1]).symm
 refine Calls.call_function_entry kind_sorted plain_sorted entry_sorted (args_sorted1 _) ?_;unfold AK.«sorted»;refine aa (m:=checkCount "sorted" 1 1 _) (af (aa (We (N8 hd a7.1 O) (I.ok.hd hc) ho hz λg tk j k1 T t=>?_)));have U:j.toList.length=f.length:=by rw[ak,t.1,l]
 have Y:j.toList=L.map λq=>A2.ref q.2:=by
  apply bW;intro i;rw[<-hL,aU,aj];cases e:f[i]? with
  |none=>rw[bi (by rw[U];exact bH.mp e)];rfl
  |some p=>
   have hi:i<j.toList.length:=by rw[U];exact ltG e
   obtain⟨en,S,ev⟩:=t.2 i j.toList[i] (by rw[<-bA];exact ae hi);rw[entry_at he,e]at S;cases S;rw[ae hi,ev];rfl
 rw[Y];refine aa (wpAny_newList ?_ (by rw[ac,G,<-l];exact hz));have a6:∀q∈L,Tps g (q.2,kI q.1):=λq d=>by obtain⟨o,B,n,Z,g2,g3,g4⟩:=Mm (q:=q) I.hok (K q d).1;exact⟨o,B,n,k1 _ _ Z,g2,g3,Mn g4⟩
 generalize A:L.map (λq=>(q.2,kI q.1))=qs;have a0:(L.map λq=>A2.ref q.2)=qs.map λq=>A2.ref q.1:=by rw[<-A,aU];rfl
 have hP:∀q∈qs,Tps g q:=λq d=>by rw[<-A]at d;obtain⟨p,E,rfl⟩:=ar.mp d;exact a6 p E
 have a5:∀q∈qs,shp q.2=A3::bU n A3:=λq d=>by rw[<-A]at d;obtain⟨p,E,rfl⟩:=ar.mp d;show shp (kI p.1)=_;rw[Mo,(K p E).2];rfl
 have D:(g.push (seqObj "list" (L.map λq=>A2.ref q.2).toArray 0)).get? g.objs.size=A0 (seqObj "list" (L.map λq=>A2.ref q.2).toArray 0):=au _ rfl;have N:Ek X.prog X.w (g.push (seqObj "list" (L.map λq=>A2.ref q.2).toArray 0)) g.objs.size (L.map λq=>A2.ref q.2):=by
  rw[a0];refine NN (λq d=>?_) (λq d=>?_) a5;.obtain⟨o,f,n,Z,r⟩:=hP q d;exact⟨o,f,n,ag _ Z,r⟩
  .obtain⟨o,f,n,Z,r⟩:=hP q d;exact az (aq Z)
 refine aa (aR (aV slot_list_sort ⟨_,D,rfl⟩ entry_list_sort (JE D N (by rw[ac,G,<-l];exact hz) λout a1=>⟨_,rfl,af ⟨_,rfl,?_⟩⟩) (args_list_sort _)));obtain⟨L3,J,rfl⟩:=Ff a1 rfl;obtain⟨e',a2⟩:=sortedHeap_at (out:=(L3.map λq=>A2.ref q.2).toArray) D;have hn:H g.objs.size=A6:=I.hok.fresh T;refine⟨.ref g.objs.size,_,I.laid (a:=g.objs.size) (o:=.lst (L3.map λq=>V.ref q.2)) (λb o eb=>?_) T ⟨by rw[ac,J.length_eq,G,<-v];exact z,_,e',J7 L3,a2⟩,rfl,q _ L3 hn (by rw[<-a3];exact J.map _) (λp hp=>(K p (J.mem_iff.mp hp)).1)⟩;have R:=aq (k1 b o eb);rw[sortedHeap_old (az R) (by rw[size_push'];exact bE R)];exact ag _ (k1 b o eb)
end
open PySem.W
def X5:A2->Bool
 | .ref _=>A3
 |_=>A7
def X6(l:List A2):Bool:=l.dropWhile X5==bmV
def X7(K:Frag)(C:A4):Bool:=match K.lookup C with
 |A0 ⟨.type "type",_,.cls a,e⟩=>(match a.mro,e.toList with
  | .ref b::d,[_,_,_,_,A0 (.builtin n),_]=>b==C&&n=="ValueError.__new__"&&!a.hasDel&&tailIn K bmV d&&nsOkIn K a.ns&&(X6 a.mro&&a.hasDict)
  |_,_=>A7)
 |_=>A7
structure Xi(K:Frag)(C fI:A4)(f:AI):Prop where
 xi:X7 K C=A3
 ini:findIn K (.ref C) "__init__"=A0 (A0 (.ref fI))
 fn:typeIn K (.ref fI)=A0 (.type "function")
 sa:findIn K (.ref C) "__setattr__"=A0 (A0 (.builtin "object.__setattr__"))
 no:findIn K (.ref C) f=A0 A6
 kp:keepIn K (.ref C)=A3
def exN(a:A4)(b:Option A4)(t:A4):AT:={cls:=.ref a,dict:=b,data:=.fields #[.ref t,.none,.none,.none,.bool A7,.none]}
def NP(e a:A4)(b:Option A4)(t:A4):HO:=.ext λh=>h.get? e=A0 (exN a b t)
def X8(K:Frag)(f:AI):Sp:=λg H Q _=>∃(e a b t:A4)(y:V),g=[.ref e,y]/\Xi K a b f/\H e=A0 (NP e a A6 t)/\∀d,H d=A6->Q .non (upd (upd H e (NP e a (A0 d) t)) d (.xd [(f,y)]))
def X9(X:Cx)(e:A4)(f:AI):Prop:=∃b d a k,Xi X.K e b f/\FnOk X.prog X.w X.K X.mg X.base CX0 k b d a (X8 X.K f)/\Room (k+1) X.A/\CW X.K d a []
section
variable{prog:AC}{w:AL}{A:AN}{E:A2->A5->Prop}{s:A5}
theorem XA{p:String}{a b:A4}{m n:AT}{es e:Array At}{r j:Nat}{Q:Bool->A5->Prop}(o:(a==AS)=A7)(q:(b==AS)=A7)
  (g:s.heap.get? a=A0 m)(f:m.data=.dict es r)(i:s.heap.get? b=A0 n)(l:n.data=.dict e j)(h0:e.size=0)(h:Q (decide (es.size=0)) s):AA (AD prog w) A (AK.Dict.samePairs p a b) Q E s:=by
 unfold AK.Dict.samePairs AK.Dict.showsAll;rw[if_neg (show¬(a==AS)=A3 by rw[o];exact aD),if_neg (show¬(b==AS)=A3 by rw[q];exact aD)];refine aa (af (aa (af ?_)));refine aa (cJ g f ?_);dsimp only;refine aa (cJ i l ?_);by_cases d:es.size=0;case neg=>rw[if_pos (by rw[h0];simpa using d)];rw[decide_eq_false d]at h;exact aa (ck (af h))
 case pos=>rw[decide_eq_true d]at h;rw[if_neg (by rw[h0,d];simp)];refine aa (wpAny_dictEpoch g f ?_);refine aa ?_;rw[Std.Legacy.Range.forIn_eq_forIn_range'];simp only[Std.Legacy.Range.size,Nat.sub_zero,dj,Nat.div_one];rw[d];exact af (af h)
theorem XB{a b:A4}{n o:AT}{es d:Array At}{r g:Nat}{Q:A2->A5->Prop}(p:(a==AS)=A7)(q:(b==AS)=A7)(e:s.TypeIs (.ref a) "dict")(m:s.TypeIs (.ref b) "dict")
  (l:s.heap.get? a=A0 n)(j:n.data=.dict es r)(f:s.heap.get? b=A0 o)(i:o.data=.dict d g)(h0:d.size=0)(hu:A.units<Am)(h:Q (.bool (decide (es.size=0))) s):AA (AD prog w) A (AU .Eq (.ref a) (.ref b)) Q E s:=by
 refine wpAny_richCompare_same_room (op:=.Eq) e m PySem.F.slot_dict_eq (aV PySem.F.slot_dict_eq e PySem.F.entry_dict_eq ?_ (PySem.F.args_dict_eq_2 _ _)) hu;show AA _ _ (AK.Dict.dictSlotArgs "__eq__" ⟨[.ref a,.ref b],[]⟩>>=_) _ _ s;refine aa ?_;unfold AK.Dict.dictSlotArgs;refine aa (wpAny_notOrdered_dict e ?_);show AA _ _ (pure (A2.ref a,A2.ref b)) _ _ s;refine af ?_;refine aa (bR (T:="dict") m PySem.F.sub_dict_dict ?_);simp only[Bool.not_true,ba,if_false];refine aa (af (aa (af ?_)));refine aa (XA p q l j f i h0 ?_);refine af ⟨_,rfl,?_,?_⟩;.exact λx=>nomatch x
 .simpa using h
end
section
variable{X:Cx}
def NQ:R2:=λx y H Q=>∃a b d,x=.ref a/\y=.ref b/\Rd H a (.dT d)/\H b=A0 (.dK [])/\Q (.bl (decide (d=[]))) H
theorem XC(hu:X.A.units+64<Am):OpR X (AU .Eq) NQ:=by
 intro R s U H x y v u Q I D N h;obtain⟨a,b,i,rfl,rfl,J,C,k⟩:=h;cases D;cases N;obtain⟨z,r,T,m,o,L,S,p,t,g,M,_⟩:=CI I.hok J;obtain⟨_,B,P,e,E,l,q,f,j,d,K,n,_⟩:=C_ I.hok (.inl C);have O:P=[]:=df (by have:=Ah e;simpa using this.symm);subst O;have G:l.size=0:=by rw[<-ak,n.length];rfl
 have w:decide (L.size=0)=decide (i=[]):=by rw[<-ak,M,ac,<-Ah m];cases i<;>simp
 refine XB r B ⟨o,p,t.1⟩ ⟨E,f,j.1⟩ p g f d G ⋯ ?_;rw[w];exact⟨.bl _,H,I,rfl,k⟩
end
section
variable{prog:AC}{w:AL}{A:AN}{E:A2->A5->Prop}{s:A5}
set_option maxRecDepth 100000 in
set_option maxHeartbeats 3200000 in
theorem XD{d l:A4}{items:Array A2}{ps:Nat->A4}{key:Nat->List Key}{ka:Nat->A4}{xv:Nat->A2}{Q:A2->A5->Prop}{base:List (List Key×A4×A2)}
  (hh:A.handled=A6)(hu:A.units+64<Am)(hD:DP prog w s.heap d base)(hb:∀x∈base,(kT prog w).is s.heap x.1 x.2.1)(hbd:∀x∈base,x.2.1≠d)(hl:PlainL s.heap l items)(hit:∀i,i<items.size->items[i]?=A0 (.ref (ps i)))(hok:OkP prog w items.size ps key ka xv s.heap)
  (hpd:∀i,i<items.size->ps i≠d/\ka i≠d)(hld:l≠d)(hsz:base.length+items.size<=A9)
  (h:∀(h':AM)(tk:Nat),DP prog w h' d (CJ base key ka xv items.size)->(∀b o,b≠d->s.heap.get? b=A0 o->h'.get? b=A0 o)->s.toks<=tk->Q .none {s with heap:=h',toks:=tk}):
  AA (AD prog w) A (call (.builtin "dict.update") [.ref d,.ref l]) Q E s:=by
 obtain⟨⟨dcls,ddict,ddata,dslots⟩,esd,epd,hod,⟨hdc,hdn⟩,hddt,hed,hnd⟩:=id hD;simp only at hdc hdn hddt;subst hdc;subst hddt;have hT:s.TypeIs (.ref d) "dict":=⟨_,hod,rfl⟩;refine wpAny_call (codeAny_call_builtin (R:=wants Q E) F.slot_dict_update.plain F.entry_dict_update (F.slot_dict_update.check _ _ _ _ _ _ _ _ hT (F.args_dict_update_2 _ _) ?_));obtain⟨⟨ocls,odict,odata,oslots⟩,nl,hol,hcl,hdl,hdd'⟩:=hl;simp only at hcl hdl hdd';subst hcl;subst hdl;subst hdd';have hTl:s.TypeIs (.ref l) "list":=⟨_,hol,rfl⟩;unfold AK.«dict.update»AK.Dict.selfAndRest AK.Dict.notOrdered AK.Dict.updateCommon AK.Dict.updateFrom;generalize hGA:getAttr?=GA;generalize hPI:pyIter=PI;repeat(any_goals(first|assumption|wp_step))
 subst hGA;have hh2:A.in1.in1.handled=A6:=by simp[hh]
 refine Mr hol hh2 λh2 tk2 k2 z2 t2=>?_;have hlS:l<s.heap.objs.size:=aq hol;have hdS:d<s.heap.objs.size:=aq hod;simp only[Option.isNone_none,if_true];refine aa (ck ?_);subst hPI;have hl2:h2.IsList l items:=⟨_,k2 _ _ hol,rfl,nl,rfl⟩;refine aa (dz (s:=⟨h2,s.gens,s.drawn,tk2,s.os⟩) hl2 ?_);refine af ⟨Code.quiet_builtin _ ⋯,?_⟩;have hneI:l≠h2.objs.size:=az (al hlS z2);have hDI:d≠h2.objs.size:=az (al hdS z2);have hDf:d∉[h2.objs.size,l]:=by simp only[ap,av,or_false,not_or];exact⟨hDI,hld.symm⟩
 have hok2:OkP prog w items.size ps key ka xv (h2.push {cls:=.type "list_iterator",data:=.fields #[.ref l,.int 0 0]}):=hok.at λi hi b hb o e=>ag _ (k2 _ _ e);have old:∀{b:A4}{o:AT},b≠d->s.heap.get? b=A0 o->b∉[d,h2.objs.size]:=λ{b o}hb e=>by have:=aq e;simp only[ap,av,or_false,not_or];exact⟨hb,az (al this z2)⟩
 have hb2:∀x∈base,(kT prog w).is (h2.push {cls:=.type "list_iterator",data:=.fields #[.ref l,.int 0 0]}) x.1 x.2.1:=λx hx=>by obtain⟨o2,its,m2,e2,r⟩:=hb x hx;exact⟨o2,its,m2,ag _ (k2 _ _ e2),r⟩
 have hbw:∀x∈base,x.2.1∉[d,h2.objs.size]:=λx hx=>by obtain⟨o2,its,m2,e2,r⟩:=hb x hx;exact old (hbd x hx) e2
 have hh3:A.in1.handled=A6:=by simp[hh]
 refine Mw (G:=λa b=>b=a) (fp:=[h2.objs.size,l]) (wr:=[h2.objs.size]) (n:=items.size) (ps:=ps) (key:=key) (ka:=ka) (xv:=xv) (St:=λi s=>(AM.IsListIter s.heap h2.objs.size l i)/\s.heap.IsList l items) ?W d hDf ?hu (λi hi=>?p1) (λi hi=>?p2) base hbw hsz items.size 0 _ ⋯ (aJ _) ?hSt hok2 hb2 ?hD0 ?hR;case W=>exact Mx ((Walks.list hh3 _ l hneI items).toS) λi v hi hv=>(Option.some.inj ((hit i hi).symm.trans hv)).symm
 case hu=>simp[units_in1];omega
 case p1=>obtain⟨⟨o,e,_⟩,_⟩:=hok i hi;exact old (hpd i hi).1 e
 case p2=>obtain⟨_,⟨o2,its,m2,e2,_⟩⟩:=hok i hi;exact old (hpd i hi).2 e2
 case hSt=>exact⟨⟨_,au _ rfl,rfl,rfl⟩,hl2.push _⟩
 case hD0=>exact⟨_,esd,epd,ag _ (k2 _ _ hod),⟨rfl,hdn⟩,rfl,hed,hnd⟩
 case hR=>intro s' hm hD';obtain⟨h',g',d',tk',os'⟩:=s';have eg:g'=s.gens:=hm.gens;have ed:d'=s.drawn:=hm.drawn;have eo:os'=s.os:=hm.os;subst eg;subst ed;subst eo;have htk:tk2<=tk':=hm.toks;have ht2:s.toks<=tk2:=t2;exact h h' tk' hD' (λb o hb e=>hm.heap b o (old hb e) (ag _ (k2 _ _ e))) ⋯
end
def putA(a:List (List Key×V))(L:PL):List (List Key×V):=L.foldl (λa x=>BX a x.2.1 x.2.2.2) a
theorem XE{a:List (List Key×V)}{L:PL}{x:A4×List Key×A4×V}:putA a (L++[x])=BX (putA a L) x.2.1 x.2.2.2:=by unfold putA;rw[List.foldl_append];rfl
def G4(H:Hp)(a p:A4)(b:List (List Key×V))(L:PL):Prop:=H a=A0 (.dT b)/\H p=A0 (.lst (L.map λx=>V.ref x.1))/\(∀x∈L,H x.1=A0 (.tup [.ref x.2.2.1,x.2.2.2])/\H x.2.2.1=A0 (.tup (x.2.1.map kV)))/\b.length+L.length<=A9
theorem XF{H:Hp}{b:List (List Key×V)}{xs:List (List Key×A4×A2)}(r:KT H b xs):∀{x},x∈xs->∃f,H x.2.1=A0 (.tup f):=by
 induction r with
 |nil=>exact λh=>absurd h av
 |cons h t d=>
  intro x a;rcases ap.mp a with e|a;.rw[e];exact⟨_,h.2.1⟩
  .exact d a
section
variable{X:Cx}{p_:List (A4×AT)}{σ:St}{H:Hp}{s:A5}{A:AN}{E:A2->A5->Prop}
theorem XG{Q:A2->A5->Prop}{a p:A4}{t:List (List Key×V)}{L:PL}(hh:A.handled=A6)(hu:A.units+64<Am)(I:Inv X p_ σ H s)(g:G4 H a p t L)(q:∀s',Inv X p_ σ (upd H a (.dT (putA t L))) s'->Q .none s'):
  AA (AD X.prog X.w) A (call (.builtin "dict.update") [.ref a,.ref p]) Q E s:=by
 obtain⟨K,hp,M,hz⟩:=g;obtain⟨zk,hd,xs,C,dd⟩:=CI I.hok (.inl K);obtain⟨a4,G,n,r,T⟩:=(show B7 X.prog X.w H s.heap p (.lst (L.map λx=>V.ref x.1))from I.hok _ _ hp);have y:=r.length;rw[ac]at y;have O:=Ah C;have J:∀i,i<L.length->∃u:A2,B0 ((L[i]?.getD (0,[],0,.non)).2.2.2) u/\IsTup s.heap (L[i]?.getD (0,[],0,.non)).1 #[.ref (L[i]?.getD (0,[],0,.non)).2.2.1,u]:=λi f=>by
  have m:L[i]?.getD (0,[],0,.non)=L[i]:=by rw[ae f];rfl
  rw[m];obtain⟨_,a3,r2,t2⟩:=(show B7 X.prog X.w H s.heap _ (.tup [.ref L[i].2.2.1,L[i].2.2.2])from I.hok _ _ (M _ (bQ f)).1);cases r2 with
  |cons a1 r2=>
   cases r2 with
   |cons a2 r2=>cases r2;cases a1;exact⟨_,a2,t2.tup⟩
 let xv:Nat->A2:=λi=>if h:i<L.length then(J i h).choose else .none;have D:∀i(h:i<L.length),xv i=(J i h).choose:=λi h=>by show(if h:i<L.length then _ else _)=_;rw[dif_pos h]
 have j:G.toArray.size=L.length:=by rw[aE,<-y]
 have m:∀i(h:i<L.length),L[i]?.getD (0,[],0,.non)=L[i]:=λi h=>by rw[ae h];rfl
 have v:∀b N,H b=A0 (.tup N)->b≠a:=λb N e z=>by rw[z,K]at e;cases e
 obtain⟨o,es,ep,ho,hc,S,he,R,hn⟩:=id dd;refine XD (d:=a) (l:=p) (items:=G.toArray) (base:=xs) (ps:=λi=>(L[i]?.getD (0,[],0,.non)).1) (key:=λi=>(L[i]?.getD (0,[],0,.non)).2.1) (ka:=λi=>(L[i]?.getD (0,[],0,.non)).2.2.1) (xv:=xv) hh hu ⟨o,es,ep,ho,hc,S,he,hn⟩ R ?_ ⟨_,n,T,rfl,rfl,rfl⟩ (λi f=>?_) (λi f=>?_) (λi f=>?_) (λz=>by rw[z,K]at hp;cases hp) (by rw[j,<-O];exact hz) λh' tk hD hk a5=>?_;.intro x m;obtain⟨N,e⟩:=XF C m;exact v _ _ e
 .rw[j]at f;obtain⟨u,U,ru⟩:=r.get (i:=i) (x:=.ref L[i].1) (by rw[aj,ae f];rfl);cases ru;rw[m i f];simpa using U
 .rw[j]at f;refine⟨by rw[D i f];exact(J i f).choose_spec.2,?_⟩;show(kT X.prog X.w).is s.heap (L[i]?.getD (0,[],0,.non)).2.1 (L[i]?.getD (0,[],0,.non)).2.2.1;rw[m i f];exact Cj I.hok (M _ (bQ f)).2
 .rw[j]at f;rw[m i f];have:=M _ (bQ f);exact⟨v _ _ this.1,v _ _ this.2⟩
 .rw[j]at hD;have B:∀i,i<=L.length->KT H (putA t (L.take i)) (CJ xs (λi=>(L[i]?.getD (0,[],0,.non)).2.1) (λi=>(L[i]?.getD (0,[],0,.non)).2.2.1) xv i):=by
   intro i;induction i with
   |zero=>intro _;exact C
   |succ i ih=>intro f;rw[aO,ae (show i<L.length by omega),Option.toList_some,XE];show KT H _ (storedH _ (L[i]?.getD (0,[],0,.non)).2.1 (L[i]?.getD (0,[],0,.non)).2.2.1 _);have rr:=(J i ⋯).choose_spec.1;rw[<-D i ⋯,m i ⋯]at rr;rw[m i ⋯];exact KT.put (ih ⋯) _ (M _ (bQ ⋯)).2 rr
  have Z:=B L.length (ah _);rw[aQ]at Z;have a0:(putA t L).length<=A9:=by have:=Ah Z;rw[this];exact aN G2 ⋯
  obtain⟨o',P,Y,d1,d2,d3,d4,d5⟩:=hD;refine q _ (I.write (x:=a) (e:=a) (by rw[K];exact True.intro) (.inl rfl) (λb u hb z=>hk b u hb z) ⟨_,d1⟩ ?_);refine⟨a0,hd,_,?_,o',P,Y,d1,d2,d3,d4,d5⟩;exact KT.keeps Z λb N e=>by rw[Ay (v _ _ e)];exact e
end
def JI(g ty:TE):TE:=λd H Q=>g d H λx e=>∃a,x=.ref a/\IsD e a/\ty d e λy f=>∃p b L,y=.ref p/\G4 f a p b L/\Q .non (upd f a (.dT (putA b L)))
section
variable{X:Cx}{o e:A8}{apos cpos:Pos}{td ty:TE}
theorem XH(n:X.calm=A3)(hu:X.A.units+64<Am)(B:PE X o td)(M:PE X e ty)(m:M1 X o "update" apos e cpos):PE X (.Call (.Attribute o "update" apos) [e] [] cpos) (JI td ty):=by intro b s j H Q I h;refine wpAny_Call_method m.base m.few m.line PySem.F.plainAttrs_dict PySem.F.slot_dict_update PySem.F.type_dict_update (thn (B b s j H _ I h) λu t⟨x,J,i,C,a,v,d,r⟩=>?_);subst v;obtain rfl:u=A2.ref a:=C;obtain⟨l,E,_⟩:=M2 i d;refine⟨l,E,?_⟩;rw[m.trees];refine Calls.callWith_builtin rfl (Calls.evalArgs_plain (Calls.spliced_cons (thn (M b t j J _ i r) λD R⟨y,O,f,N,p,K,L,w,g,G⟩=>Calls.spliced_nil ?_)));subst w;obtain rfl:D=A2.ref p:=N;exact XG (f.ok.hd n) hu f g λP q=>⟨.non,_,q,rfl,G⟩
end
def NR(X:Cx)(a:AI)(D:List (AI×AI)):Prop:=∃d,X.mg a=A0 (.ref d)/\∀h:AM,X.K.In h->StrTab X.prog X.w h d (D.map λp=>(Ag p.1,Ag p.2))
def G5(D:List (AI×AI))(b:TE):TE:=λa H Q=>b a H λy d=>∃k v,y=.str k/\D.lookup k=A0 v/\Q (.str v) d
theorem NS{k v:AI}:∀{D:List (AI×AI)},D.lookup k=A0 v->PySem.Spec.lookup (Ag k) (D.map λp=>(Ag p.1,Ag p.2))=A0 (.str v)
 | [],h=>by cases h
 |(a,b)::D,h=>by
  rw[List.lookup_cons]at h;show(if same (Ag a) (Ag k)=A3 then _ else _)=_;rw[PyProof.V.same_str];cases e:k==a with
  |true=>rw[e]at h;cases h;rw[if_pos (decide_eq_true (eq_of_beq e).symm)]
  |false=>rw[e]at h;rw[if_neg (λz=>by rw[of_decide_eq_true z,beq_self_eq_true]at e;cases e)];exact NS h
section
variable{X:Cx}{nm:AI}{D:List (AI×AI)}{i:A8}{p pos:Pos}{te:TE}
theorem XI(G:Gl X nm)(a:(nm==("__debug__":AI))=A7)(g:NR X nm D)(hi:PE X i te)(hs:Ik i):PE X (.Subscript (.Name nm p) i pos) (G5 D te):=by intro n s B H Q I h;obtain⟨d,w,T⟩:=g;refine M0 PySem.F.slot_dict_getitem.lookup hs (Kj I G w (thn (hi n s B H _ I h) λo A⟨y,m,e,E,k,v,j,l,r⟩=>?_) a);subst j;obtain⟨K,x,a,f⟩:=T A.heap e.kIn;have C:PySem.Spec.lookup (Ag k) (D.map λp=>(Ag p.1,Ag p.2))=A0 (.str v):=NS l;obtain⟨L,J,b⟩:=f.of_lookup PyProof.V.same_str C;obtain⟨q,rfl⟩:=b.str_inv;obtain⟨t,rfl⟩:=(show∃t,o=A2.str k t from E);exact⟨a.typeIs,wpAny_getItem_of (strKind_is _ _ _ _) a.mapOf J ⟨.str v,m,e.tok _,⟨q,rfl⟩,r⟩⟩
end
end L2
namespace PySem
open PyProof.Rows
theorem F.norev_str:typeLookup (.type "str") "__reversed__"=pure A6:=by rw[Av,Af];kernel_rfl
def G6(x:AI)(t:Tok)(i:Int):AT:={cls:=.type "reversed",data:=.fields #[.str x t,AZ i]}
def Heap.IsRvs(h:AM)(a:A4)(x:AI)(t:Tok)(i:Int):Prop:=∃o,h.get? a=A0 o/\o.cls=.type "reversed"/\o.data=.fields #[.str x t,AZ i]
theorem Heap.IsRvs.at{h h':AM}{a:A4}{y:AI}{t:Tok}{i:Int}(x:h.IsRvs a y t i)(e:∀o,h.get? a=A0 o->h'.get? a=A0 o):h'.IsRvs a y t i:=let⟨o,b,r⟩:=x;⟨o,e _ b,r⟩
theorem XJ(x:AI)(t:Tok):Meets (AK.«reversed.__new__» ⟨[.type "reversed",.str x t],[]⟩) (λ_ R s=>x.cps.size<=A9/\
  ∀f,s.toks<=f->R (.ok (.ret (.ref s.heap.objs.size))) {s with heap:=s.heap.push (G6 x t ((x.cps.size:Int)-1)),toks:=f}):=
 .of_wp λd w A R s h=>by
  obtain⟨g,h⟩:=h;unfold AK.«reversed.__new__»;refine aa (bZ (newClass_reversed _) ?_);try dsimp only
  refine aa (bZ (a:=()) (by first|rfl|kernel_rfl) ?_);refine aa (bZ (a:=()) (by first|rfl|kernel_rfl) ?_);try dsimp only
  refine aa (cy (typeIs_str _ _ _) F.norev_str ?_);try dsimp only
  refine aa ?_;have hT:=typeIs_str s x t;wp_delta;refine aa (bR (T:="str") (b:=A7) hT (by rw[As];kernel_rfl) ?_);simp only[ba,if_false];refine aa (cy hT F.slot_str_getitem.lookup ?_);dsimp only;rw[if_pos ⋯];refine af ?_;simp only[Bool.not_true,ba,if_false];refine aa (PyProof.Rows.len_str (by have:=sizeLine_eq;show¬(x.length:Int)≥_;have e:x.length=x.cps.size:=rfl;rw[e];omega) ?_);refine aa (m:=asInt? (.int _ _)) (af ?_);dsimp only;refine aa (m:=AK.SmallTypes.newRecord _ _) ?_;show AA _ _ (newObj (.type "reversed") (.fields #[.str x t,AZ ((x.cps.size:Int)-1)])) _ _ _;refine aS ?_ (by size_fits);exact af ⟨_,rfl,h _ (by show s.toks<=s.toks+1+1;omega)⟩
section
variable{prog:AC}{w:AL}{A:AN}{E:A2->A5->Prop}{s:A5}
theorem XM{x:AI}{t:Tok}{Q:A2->A5->Prop}(hsz:x.cps.size<=A9)
  (h:∀a,s.toks<=a->Q (.ref s.heap.objs.size) {s with heap:=s.heap.push (G6 x t ((x.cps.size:Int)-1)),toks:=a}):AA (AD prog w) A (call (.type "reversed") [.str x t]) Q E s:=by refine callType_new F.VJ (by decide) (F.typeCall_reversed_1 _) (F.newCall_reversed_1 _) (λb=>F.args_object_init_2 b _) F.entry_reversed_new (XJ x t) ⟨hsz,λa d=>?_⟩;exact⟨⟨_,au _ rfl,rfl⟩,h a d⟩
theorem Heap.IsRvs.typeIs{a:A4}{y:AI}{t:Tok}{i:Int}(x:s.heap.IsRvs a y t i):s.TypeIs (.ref a) "reversed":=let⟨o,b,d,_⟩:=x;⟨o,b,d⟩
theorem XN{it:A4}{x:AI}{t:Tok}{i:Nat}{c:Nat}{Q:Option A2->A5->Prop}(b:s.heap.IsRvs it x t (i:Int))(m:x.cps[i]?=A0 c)(hi:i<2^30)
  (j:∀h l g,s.toks<=l->h.IsRvs it x t ((i:Int)-1)->bP it s.heap h->Q (A0 (.str ⟨#[c]⟩ g)) {s with heap:=h,toks:=l}):AA (AD prog w) A (pyNext (.ref it)) Q E s:=by
 obtain⟨o,f,n,d⟩:=id b;have hT:=typeIs_str s x t;unfold pyNext;refine aa (ci (aY (name:=AI.ofString "__next__") b.typeIs F.Eh
  (aV F.Eh b.typeIs F.M8 ?_ (F.MA _))));unfold AK.«reversed.__next__»;refine aa (bZ (a:=(A2.ref it,[])) rfl ?_);try dsimp only
 refine aa (bD f d (x:=.str x t) rfl ?_);refine aa (bD f d (x:=AZ (i:Int)) rfl ?_);show AA _ _ (if(i:Int)<0 then _ else _) _ _ s;rw[if_neg ⋯];refine aa (cy hT F.slot_str_getitem.lookup ?_);rw[if_neg (by simp)];refine aa (wpAny_mkInt ?_);have p:i<x.cps.size:=(bb.mp m).1;have q:(seqIndex? (i:Int) x.length).bind (x.cps[·]?)=A0 c:=by
  have e:seqIndex? (i:Int) x.length=A0 i:=by unfold seqIndex?;have:x.length=x.cps.size:=rfl;simp[this];omega
  rw[e];exact m
 refine aa (ci (PyProof.Rows.getItem_str (s:={s with toks:=s.toks+1}) (by simp;omega) q ?_));dsimp only;refine aa (bD (s:={s with toks:=s.toks+1+1}) f d (x:=AZ (i:Int)) rfl ?_);show AA _ _ (setField (.ref it) 1 (AZ ((i:Int)-1))>>=_) _ _ _;refine aa (bI (s:={s with toks:=s.toks+1+1}) f d (by simp) ?_);first
 |refine af ⟨_,rfl,af (j _ _ _ (by show s.toks<=s.toks+1+1;omega) ?_ (AM.SameBut.update ..))⟩
 |refine aa (af (af ⟨_,rfl,af (j _ _ _ (by show s.toks<=s.toks+1+1;omega) ?_ (AM.SameBut.update ..))⟩))
 exact⟨_,aT _ f (AT.isFreed_of_fields (AO d _)),(AT.cls_mapFields ..).trans n,by rw[AO d];simp⟩
theorem XO{it:A4}{x:AI}{t:Tok}{Q:Option A2->A5->Prop}(j:A.handled=A6)(d:s.heap.IsRvs it x t (-1))
  (l:∀i,dr it s.heap i->Q A6 {s with heap:=i}):AA (AD prog w) A (pyNext (.ref it)) Q E s:=by
 obtain⟨o,h,n,f⟩:=id d;unfold pyNext;refine aa (ci (aY (name:=AI.ofString "__next__") d.typeIs F.Eh
  (aV F.Eh d.typeIs F.M8 ?_ (F.MA _))));unfold AK.«reversed.__next__»;refine aa (bZ (a:=(A2.ref it,[])) rfl ?_);try dsimp only
 refine aa (bD h f (x:=.str x t) rfl ?_);refine aa (bD h f (x:=AZ (-1)) rfl ?_);show AA _ _ (if(-1:Int)<0 then _ else _) _ _ s;rw[if_pos (by decide)];refine aa (ck ?_);refine aa ?_;wp_delta;refine aa (bI h f (by simp) ?_);refine bI (aT _ h (AT.isFreed_of_fields (AO f _))) (AO f _) (by simp) ?_;have k:dr it s.heap ((s.heap.update it (AT.mapFields λz=>z.setIfInBounds 1 (AZ (-1)))).update it (AT.mapFields λz=>z.setIfInBounds 0 A2.none)):=λb o g e=>
  (AM.SameBut.update ..).extBut b o g ((AM.SameBut.update ..).extBut b o g e);refine aa ?_;show AA _ _ (newExc (.type "StopIteration") []>>=_) _ _ _;refine aa ?_;simp only[newExc,newTuple];refine aa (aS ?_ (by size_fits));refine aa (m:=An _ _) (bZ (a:=A2.none) (by first|rfl|(simp only[An];rfl)) ?_);refine aS ?_ (by size_fits);simp only[raiseNew];refine aa (dy ?_);first|rw[show A.in1.handled=A6 from j]|rw[j]
 refine aa (af (wpAny_throw ?_));refine aa (bR (T:="StopIteration") (b:=A3) ⟨_,au _ rfl,rfl⟩ isSubtype_stop ?_);exact af (l _ λb o g e=>((AM.ExtBut.refl _ _).push _|>.push _) b o g (k b o g e))
theorem NT{it:A4}{x:AI}{t:Tok}{i:Int}{Q:A2->A5->Prop}(a:s.heap.IsRvs it x t i)(h:Q (.ref it) s):AA (AD prog w) A (pyIter (.ref it)) Q E s:=by refine wpAny_pyIter_slot a.typeIs F.M9 (aV F.M9 a.typeIs F.VH ?_ (F.VI _));show AA _ _ (ret (.ref it)) _ _ s;exact af ⟨_,rfl,"reversed",_,a.typeIs,F.Eh.lookup,h⟩
end
end PySem
namespace L2
open PySem PySem.Spec PyProof.Rows
def EJ(x:AI):It:=⟨λi _=>i<x.cps.size,λi H v a=>a=H/\∃c,x.cps[x.cps.size-1-i]?=A0 c/\v=.str ⟨#[c]⟩,λi _=>x.cps.size=i⟩
theorem XP{P:AC}{w:AL}{K:W.Frag}{O:A8}(it:A4)(x:AI)(t:Tok)(hz:x.cps.size<=A9):Turn P w K O (EJ x) [it] it (λi h=>i<=x.cps.size/\h.IsRvs it x t ((x.cps.size:Int)-1-(i:Int)))where
 mem:=by simp
 obj:=λi h a b g=>by
  have e:b=it:=by simpa using g
  subst e;obtain⟨o,e,c,d⟩:=a.2;exact⟨o,e,λv z=>by rw[d]at z;cases z⟩
 keep:=λi h l a k=>⟨a.1,a.2.at λo e=>k it (by simp) o e⟩
 item:=by
  intro X B hw y G i J s M H E I j a D;subst B hw y;have R:i<x.cps.size:=D;have L:x.cps[x.cps.size-1-i]?=A0 (x.cps[x.cps.size-1-i]'⋯):=aA _;obtain⟨C,A,S,m,p,r⟩:=j it (by simp);have e:(x.cps.size:Int)-1-(i:Int)=((x.cps.size-1-i:Nat):Int):=by omega
  have st2:=a.2;rw[e]at st2;have Z:=sizeLine_eq;refine XN st2 L ⋯ λl q T Q f sb=>?_;have U:Inv X J M H {s with heap:=l,toks:=q}:=I.turned (t':=q) (λb o g e=>(sb.2 b g).trans e) C A m p r;obtain⟨o,N,c,d⟩:=id f;have e2:((x.cps.size-1-i:Nat):Int)-1=(x.cps.size:Int)-1-((i+1:Nat):Int):=by omega
  rw[e2]at f;exact⟨_,rfl,E3 (s:={s with heap:=l,toks:=q}) N c d (by decide) ⟨.str ⟨#[x.cps[x.cps.size-1-i]'⋯]⟩,H,U,⟨_,rfl⟩,⟨rfl,_,L,rfl⟩,⟨R,f⟩,λb g=>(j b g).1⟩⟩
 done:=by
  intro X B hw y G i J s M H E I j a D;subst B hw y;have n:x.cps.size=i:=D;subst n;obtain⟨C,A,S,m,p,r⟩:=j it (by simp);have e:(x.cps.size:Int)-1-(x.cps.size:Int)=-1:=by omega
  have st2:=a.2;rw[e]at st2;exact XO (I.ok.hd G) st2 λl Y=>⟨rfl,I.turned (t':=s.toks) (λb o g e=>Y b o g e) C A m p r⟩
 self:=λ_ _ _ _ _ a h=>NT a.2 h
section
variable{X:Cx}{tg:A8}
def JJ(a:TE):TI:=λb H R=>Bw a C4 b H λe d=>∃z,e=[.str z]/\z.cps.size<=A9/\R (EJ z) d
theorem XQ{a:A8}{g:TE}{p pos:Pos}(G:Gl X "reversed")(D:X.mg "reversed"=A6)(w:PA X [a] (Bw g C4))(hs:AY [a] X.env=[(A7,Ac a X.env)]):
  PI X tg (.Call (.Name "reversed" p) [a] [] pos) (JJ g):=by
 intro A s m H R I h;have E:Bw g C4 m H (λv i=>∃z,v=[.str z]/\z.cps.size<=A9/\R (EJ z) i):=h;refine Call_ (Cf I G D V1 (PyProof.Rows.callWith_type1 (thn (w pos A s m H _ I E) λJ d⟨v,i,j,r1,x⟩=>?_) (by rw[hs];rfl) (by rfl)));obtain⟨z,e,n,q⟩:=x;subst e;cases r1 with
 |cons r C=>
  cases C;obtain⟨t,rfl⟩:=(show∃t,_=A2.str z t from r);refine XM n λl B=>?_;have f:(d.heap.push (G6 z t ((z.cps.size:Int)-1))).IsRvs d.heap.objs.size z t ((z.cps.size:Int)-1-((0:Nat):Int)):=by
   have e:(z.cps.size:Int)-1=(z.cps.size:Int)-1-((0:Nat):Int):=by omega
   rw[<-e];exact⟨_,au _ rfl,rfl,rfl⟩
  refine NT (s:={d with heap:=d.heap.push (G6 z t ((z.cps.size:Int)-1)),toks:=l}) f ?_;refine⟨d.heap.objs.size,[d.heap.objs.size],_,_,i,rfl,j.kept (t':=l) (λb o e=>ag _ e),XP _ z t n,⟨aJ _,f⟩,λb y=>?_,q⟩;have e:b=d.heap.objs.size:=by simpa using y
  subst e;exact j.fpOk (ah _) (j.hok.fresh (ah _))
end
abbrev sH1(h:AM)(x:AI)(t:Tok):AM:=h.push {cls:=.type "str_ascii_iterator",data:=.fields #[.str x t,.int 0 0]}
end L2
namespace R3
open PySem PySem.Spec PyProof.Rows L2
inductive Bf where
 |len|abs|int|isinstance|any|max|min|list|tuple|range|set|sortV|listD|lenD
 deriving DecidableEq
inductive Mf where
 |append|join
 deriving DecidableEq
inductive Zf where
 |eqD0
 deriving DecidableEq
inductive Yf where
 |dct
 deriving DecidableEq
set_option genInjectivity false
mutual
inductive Ce where
 |var(i:Nat)|int(n:Int)|bl(b:Bool)|non|str(x:AI)|ty(n:String)
 |bin(op:Operator)(a b:Ce)
 |neg(a:Ce)|not(a:Ce)
 |and(a b:Ce)|or(a b:Ce)
 |cmp(op:CmpOp)(a b:Ce)
 |chn(op op':CmpOp)(a b c:Ce)
 |ife(q:Cq)(a b:Ce)
 |tup(es:Ces)|lst(es:Ces)
 |idx(a b:Ce)
 |cut(a:Ce)(lo hi:Co)
 |call(f:AI)(es:Ces)
 |blt(f:Bf)(es:Ces)
 |met(m:Mf)(o:Ce)(es:Ces)
 |comp(elt:Ce)(own:List Nat)(t:Ct)(it:Ci)(q:Cqo)(r:Cc)
 |dnew|dnt|dix(a b:Ce)|din(neg:Bool)(a b:Ce)|dgt(a b:Ce)|stl(a:Ce)|cal(f:Yf)(a:Ce)
 |upd(a b:Ce)|gtx(nm:AI)(a:Ce)
 |ssa(elt:Ce)(own:List Nat)(t:Ct)(it:Ci)(q:Cqo)
inductive Ces where
 |nil|cons(e:Ce)(r:Ces)
inductive Cq where
 |val(e:Ce)|not(q:Cq)|and(a b:Cq)|or(a b:Cq)|cmp(op:CmpOp)(a b:Ce)|chn(op op':CmpOp)(a b c:Ce)|din(neg:Bool)(a b:Ce)|cmw(k:Zf)(a b:Ce)
inductive Cqo where
 |none|some(q:Cq)
inductive Co where
 |none|some(e:Ce)
inductive Ci where
 |val(e:Ce)|range1(a:Ce)|range2(a b:Ce)|enum(a:Ce)|revs(a:Ce)|dk(e:Ce)
inductive Ct where
 |name(i:Nat)|tup(ts:Cts)|sub(o i:Ce)
inductive Cts where
 |nil|cons(t:Ct)(r:Cts)
inductive Cc where
 |nil|cons(ws:List Nat)(t:Ct)(it:Ci)(q:Cqo)(r:Cc)
end
mutual
inductive Cs where
 |expr(e:Ce)|ret(e:Ce)|asg(t:Ct)(e:Ce)|aug(i:Nat)(sub:Bool)(e:Ce)
 |ite(q:Cq)(a b:Css)|whl(q:Cq)(b:Css)|for_(t:Ct)(it:Ci)(b:Css)|brk|dput(o i e:Ce)
 |setc2(i:Nat)(elt:Ce)(own:List Nat)(t:Ct)(it:Ci)(q:Cqo)(ws:List Nat)(t2:Ct)(it2:Ci)(q2:Cqo)|dctc(tup:Bool)(i:Nat)(k v:Ce)(own:List Nat)(t:Ct)(it:Ci)(q:Cqo)
inductive Css where
 |nil|cons(s:Cs)(r:Css)
end
set_option genInjectivity true
def NU(i j:Int):Prop:=0<=j/\j<=1000000/\i.natAbs<2^250*2^250*2^250
def NV(_ j:Int):Prop:=0<j/\(j<1073741824\/j.natAbs.log2<9000)
def NW(i j:Int):Prop:=(-(2^64)<i/\i<2^64)\/(-(2^64)<j/\j<2^64)\/IntMulOk i j
section
variable(K:W.Frag)
def Br:Operator->R2
 | .Add=>λx y H Q=>match x,y with
  | .int i,.int j=>Q (.int (i+j)) H
  | .str i,.str j=>i.length+j.length<=A9/\Q (.str (i++j)) H
  |x,y=>LF x y H Q\/L8 K x y H Q\/M6 K x y H Q
 | .Sub=>rI0 λi j=>.int (i-j)
 | .Mult=>λx y H Q=>match x,y with
  | .int i,.int j=>NW i j/\Q (.int (i*j)) H
  | .str a,.int n=>-1000000<=n/\n<=1000000/\a.length*n.toNat<=1000000/\Q (.str (Txt.mul a n)) H
  |x,y=>LG x y H Q
 | .Mod=>rI (λ_ j=>0<j) λi j=>.int (i%j)
 | .FloorDiv=>rI NV λi j=>.int (i/j)
 | .Pow=>rI H_ λi j=>.int (i^j.toNat)
 | .LShift=>rI NU λi j=>.int (i*2^j.toNat)
 | .RShift=>rI (λ_ j=>0<=j) λi j=>.int (i/2^j.toNat)
 | .BitAnd=>rI (λi j=>0<=i/\j=1) λi _=>.int (i%2)
 |_=>λ_ _ _ _=>False
def B9:CmpOp->R2
 | .Eq=>λx y H Q=>match x,y with
  | .ref a,.ref b=>Fj K A7 (.ref a) (.ref b) H Q\/Fm A7 (.ref a) (.ref b) H Q
  |x,y=>rEq x y H Q
 | .NotEq=>λx y H Q=>match x,y with
  | .ref a,.ref b=>Fj K A3 (.ref a) (.ref b) H Q\/Fm A3 (.ref a) (.ref b) H Q
  |x,y=>rNe x y H Q
 | .Lt=>rI0 λi j=>.bl (decide (i<j))
 | .LtE=>rI0 λi j=>.bl (decide (i<=j))
 | .Gt=>λx y H Q=>match x with
  | .str a=>M5 (.str a) y H Q
  |x=>rI0 (λi j=>.bl (decide (j<i))) x y H Q
 | .GtE=>rI0 λi j=>.bl (decide (j<=i))
 | .Is=>λx y H Q=>match y with
  | .bl b=>Fk A7 x (.bl b) H Q
  |y=>y=.non/\Q (.bl (decide (x=.non))) H
 | .IsNot=>λx y H Q=>match y with
  | .bl b=>Fk A3 x (.bl b) H Q
  |y=>y=.non/\Q (.bl (!decide (x=.non))) H
 | .In=>λx y H Q=>match y with
  | .str b=>Fl A7 x (.str b) H Q
  |y=>rIn K A7 x y H Q
 | .NotIn=>λx y H Q=>match y with
  | .str b=>Fl A3 x (.str b) H Q
  |y=>rIn K A3 x y H Q
def BZ:Bf->List V->Hp->VK->Prop
 | .len=>λa H Q=>∃x n,a=[x]/\K_ K x H n/\Q (.int n) H
 | .abs=>λa H Q=>∃i,a=[.int i]/\Q (.int (if i<0 then -i else i)) H
 | .int=>λa H Q=>match a with
  | [.int i]=>Q (.int i) H
  | [.bl k]=>Q (.int (if k then 1 else 0)) H
  | [.str x]=>∃n,PySem.intText? x=A0 n/\x.length<=640/\Q (.int n) H
  |_=>False
 | .isinstance=>λa H Q=>Lk a H Q\/False
 | .any=>Ll K A3
 | .max=>λa H Q=>match a with
  | [.int i,.int j]=>Q (.int (if j>i then j else i)) H
  |a=>Fi K A3 a H Q
 | .min=>λa H Q=>match a with
  | [.int i,.int j]=>Q (.int (if j<i then j else i)) H
  |a=>Fi K A7 a H Q
 | .list=>λa H Q=>(∃p b,a=[.ref p]/\(SqL K H p b\/SqT K H p b)/\∀l,H l=A6->Q (.ref l) (upd H l (.lst b)))\/Lr a H Q
 | .range=>Lq
 | .set=>MO K
 | .sortV=>NO
 | .listD=>N9
 | .lenD=>N7
 | .tuple=>λa H Q=>∃p b,a=[.ref p]/\((SqL K H p b/\∀l,H l=A6->Q (.ref l) (upd H l (.tup b)))\/(SqT K H p b/\Q (.ref p) H))
def DR:Mf->V->List V->Hp->VK->Prop
 | .append=>LD
 | .join=>Lj K
def DS:Mf->String
 | .join=>"str"
 |_=>"list"
def NX:Mf->AI
 | .append=>"append"
 | .join=>"join"
def El:Bf->AI
 | .len=>"len"
 | .abs=>"abs"
 | .int=>"int"
 | .isinstance=>"isinstance"
 | .any=>"any"
 | .max=>"max"
 | .min=>"min"
 | .list=>"list"
 | .tuple=>"tuple"
 | .range=>"range"
 | .set=>"set"
 | .sortV=>"sorted"
 | .listD=>"list"
 | .lenD=>"len"
def D3:R2:=λx y H Q=>match x,y with
 | .str z,.int i=>z.length<=A9/\∃c,atI z.cps.toList i=A0 c/\Q (.str ⟨#[c]⟩) H
 |x,y=>CF K x y H Q\/CG K x y H Q
def rSl:V->Option Int->Option Int->Hp->VK->Prop:=λx d b H Q=>match x with
 | .str a=>a.length<=A9/\Q (.str (Txt.slice a d b)) H
 |x=>IH K x d b H Q\/IF K x d b H Q\/I_ K x d b H Q
end
def NY:Zf->CmpOp
 | .eqD0=>.Eq
def rZf:Zf->R2
 | .eqD0=>NQ
def XR:Yf->AI
 | .dct=>"dict"
def rYf:Yf->List V->Hp->VK->Prop
 | .dct=>My
structure Rc where
 N:List AI
 B:List AI
 K:W.Frag
 fs:AI->Option Sp
 xk:L2.St->XK:=λ_=>E0
 cl:AI->Option A4:=λ_=>A6
 ini:AI->Option AI:=λ_=>A6
 gt:AI->Option (List (AI×AI)):=λ_=>A6
def G7(neg:Bool)(ty a:TE):TE:=Ix neg ty a
def G8:Cts->Nat
 | .nil=>0
 | .cons _ r=>G8 r+1
mutual
def tE(C:Rc):Ce->TE
 | .var i=>He i
 | .int n=>tC (.int n)
 | .bl b=>tC (.bl b)
 | .non=>tC .non
 | .str x=>tC (.str x)
 | .ty n=>tC (.ty n)
 | .bin op a b=>tOp (Br C.K op) (tE C a) (tE C b)
 | .neg a=>tUn (rU λi=>.int (-i)) (tE C a)
 | .not a=>Hg (tE C a)
 | .and a b=>FZ (tE C a) (tE C b)
 | .or a b=>Fa (tE C a) (tE C b)
 | .cmp op a b=>tOp (B9 C.K op) (tE C a) (tE C b)
 | .chn op op' a b c=>DI (B9 C.K op) (B9 C.K op') (tE C a) (tE C b) (tE C c)
 | .ife q a b=>tIf (tQ C q) (tE C a) (tE C b)
 | .tup es=>IA (tA C es)
 | .lst es=>IB (tA C es)
 | .idx a b=>tOp (D3 C.K) (tE C a) (tE C b)
 | .cut a lo hi=>tSl (rSl C.K) (tE C a) (tO C lo) (tO C hi)
 | .call f es=>λσ H Q=>match C.fs f with
  |A0 sp=>Fe sp [] (C.xk σ) (tA C es) σ H Q
  |A6=>False
 | .blt f es=>tCB (BZ C.K f) (tA C es)
 | .met m o es=>tBM C.K (DS m) (DR C.K m) (tE C o) (tA C es)
 | .dnew=>Im
 | .dnt=>Io
 | .dix a b=>Il (tE C a) (tE C b)
 | .din neg a b=>G7 neg (tE C a) (tE C b)
 | .dgt a b=>Iy (tE C a) (tE C b)
 | .stl a=>JH C.K (tE C a)
 | .cal f a=>tCB (rYf f) (Bw (tE C a) C4)
 | .upd a b=>JI (tE C a) (tE C b)
 | .gtx nm a=>match C.gt nm with
  |A0 D=>G5 D (tE C a)
  |A6=>λ_ _ _=>False
 | .ssa elt own t it q=>JG own (tI C it) (tG C t) (tQo C q) (D0 (tE C elt))
 | .comp elt own t it q r=>De own (tI C it) (tG C t) (tQo C q) (tR C r (Ch (tE C elt)))
def tA(C:Rc):Ces->TA
 | .nil=>C4
 | .cons e r=>Bw (tE C e) (tA C r)
def tQ(C:Rc):Cq->TT
 | .val e=>λσ H Q=>tE C e σ H λx H'=>∃k,Eb C.K x H' k/\Q k H'
 | .not q=>Hf (tQ C q)
 | .and a b=>Ea (tQ C a) (tQ C b)
 | .or a b=>tOr (tQ C a) (tQ C b)
 | .cmp op a b=>CO (tOp (B9 C.K op) (tE C a) (tE C b))
 | .chn op op' a b c=>CO (DI (B9 C.K op) (B9 C.K op') (tE C a) (tE C b) (tE C c))
 | .din neg a b=>CO (G7 neg (tE C a) (tE C b))
 | .cmw k a b=>CO (tOp (rZf k) (tE C a) (tE C b))
def tQo(C:Rc):Cqo->TT
 | .none=>λ_ H Q=>Q A3 H
 | .some q=>tQ C q
def tO(C:Rc):Co->TO
 | .none=>ID
 | .some e=>IE (tE C e)
def tI(C:Rc):Ci->TI
 | .val e=>Ie C.K (tE C e)
 | .range1 a=>Hu (Bw (tE C a) C4)
 | .range2 a b=>Hv (Bw (tE C a) (Bw (tE C b) C4))
 | .enum a=>Ig C.K (tE C a)
 | .revs a=>JJ (tE C a)
 | .dk e=>JC (tE C e)
def tG(C:Rc):Ct->TG
 | .name i=>C8 i
 | .tup ts=>JD C.K (G8 ts) (tGs C ts)
 | .sub o i=>Hr (tE C o) (tE C i) Cz
def tGs(C:Rc):Cts->TGs
 | .nil=>Ho
 | .cons t r=>Hq (tG C t) (tGs C r)
def tR(C:Rc):Cc->TL (List V)->TL (List V)
 | .nil,em=>em
 | .cons ws t it q r,em=>Dd (tI C it) (C5 ws (tG C t) (tQo C q) (tR C r em))
end
mutual
def tS(C:Rc):Cs->TS
 | .expr e=>Hk (tE C e)
 | .ret e=>Hl (tE C e)
 | .asg t e=>CM (tE C e) (tG C t)
 | .aug i sub e=>Hs i (tE C e) (ipI λi j=>if sub then i-j else i+j)
 | .ite q a b=>Hm (tQ C q) (tSs C a) (tSs C b)
 | .whl q b=>Ht (tQ C q) (tSs C b)
 | .for_ t it b=>Hw (tI C it) (tG C t) (tSs C b)
 | .dput o i e=>Iw (tE C o) (tE C i) (tE C e)
 | .setc2 i elt own t it q ws t2 it2 q2=>CM (MY own (tI C it) (tG C t) (tQo C q) (Dd (tI C it2) (C5 ws (tG C t2) (tQo C q2) (D0 (tE C elt))))) (C8 i)
 | .dctc tup i k v own t it q=>if tup then CM (Ma own (tI C it) (tG C t) (tQo C q) (tE C k) (tE C v)) (C8 i)else CM (MZ own (tI C it) (tG C t) (tQo C q) (tE C k) (tE C v)) (C8 i)
 | .brk=>Hj
def tSs(C:Rc):Css->TS
 | .nil=>Hh
 | .cons s r=>Hi (tS C s) (tSs C r)
end
def vis(sc:AX)(x:AI):Bool:=match sc.names.lookup x with
 |A0 .local=>A3
 |A0 .cell=>A3
 |A0 .free=>A3
 |_=>A7
def locb(sc:AX)(x:AI):Bool:=match sc.names.lookup x with
 |A0 .local=>A3
 |A0 .cell=>A3
 |_=>A7
def glb(sc:AX)(x:AI):Bool:=decide (sc.names.lookup x=A0 .globalImplicit)
def Em(N:List AI)(i:Nat)(x:AI):Bool:=decide (N[i]?=A0 x)&&!(x==("__debug__":AI))&&!(x==("__classdict__":AI))
def Bs:A8->Bool
 | .Starred ..=>A7
 |_=>A3
def Ba:A8->Bool
 | .Set ..=>A7
 |_=>A3
def Di:A8->Bool
 | .Slice ..=>A7
 |_=>A3
def G9:A8->Bool
 | .Call _ [] _ _=>A7
 |_=>A3
def NZ:A8->Bool
 | .UnaryOp .Not _ _=>A7
 | .BoolOp ..=>A7
 | .IfExp ..=>A7
 | .Compare ..=>A7
 |_=>A3
def Na:List String:=["list","tuple","str","bool","int","dict","ValueError"]
def CK(N:List AI)(sc a:AX)(own:List Nat):Bool:=
 decide (a.kind=.function)&&
 a.names.all (λx=>(decide (x.2≠.local)||decide (a.names.lookup x.1=A0 .local))&&(decide (x.2≠.cell)||decide (a.names.lookup x.1=A0 .cell))&&
  (decide (x.2≠.free)||decide (sc.names.lookup x.1=A0 .cell)||decide (sc.names.lookup x.1=A0 .free)))&&
 (aG N.length).all (λi=>match N[i]? with
  |A0 x=>(decide (a.names.lookup x≠A0 .local)&&decide (a.names.lookup x≠A0 .cell))||decide (i∈own)
  |A6=>A3)
def Bt:Ci->A8->Bool
 | .enum _,.Tuple ..=>A3
 | .enum _,_=>A7
 |_,_=>A3
mutual
def Bp(own:List Nat):Ct->Bool
 | .name i=>decide (i∈own)
 | .tup ts=>En own ts
 | .sub _ _=>A7
def En(own:List Nat):Cts->Bool
 | .nil=>A3
 | .cons t r=>Bp own t&&En own r
end
def tld(B:List AI):Bool:=decide (("~":AI)∈B)
def hat(B:List AI):Bool:=decide (("^":AI)∈B)
def pct(B:List AI):Bool:=decide (("%":AI)∈B)
def EK(x:AI):AI:=⟨#[33]++x.cps⟩
theorem B3{P:Prop}(h:A7=A3):P:=(aD h).elim
theorem Bz{a b:Bool}(h:(a&&b)=A3):a=A3/\b=A3:=by grind
def JK(e:A8)(f:A8->A8->Bool):Bool:=match e with
 | .BoolOp .And [x,y] _=>f x y
 | .BoolOp .And (x::y::z::r) pos=>f x (.BoolOp .And (y::z::r) pos)
 |_=>A7
theorem Nb{e:A8}{f:A8->A8->Bool}(h:JK e f=A3):(∃x y pos,e=.BoolOp .And [x,y] pos/\f x y=A3)\/∃x y z r pos,e=.BoolOp .And (x::y::z::r) pos/\f x (.BoolOp .And (y::z::r) pos)=A3:=by
 cases e with
 |BoolOp o a pos=>
  cases o with
  |And=>
   cases a with
   |nil=>exact B3 h
   |cons x r=>
    cases r with
    |nil=>exact B3 h
    |cons y r=>
     cases r with
     |nil=>exact .inl ⟨x,y,pos,rfl,h⟩
     |cons z r=>exact .inr ⟨x,y,z,r,pos,rfl,h⟩
  |_=>exact B3 h
 |_=>exact B3 h
def vOr(e:A8)(f:A8->A8->Bool):Bool:=match e with
 | .BoolOp .Or [x,y] _=>f x y
 | .BoolOp .Or (x::y::z::r) pos=>f x (.BoolOp .Or (y::z::r) pos)
 |_=>A7
theorem Nc{e:A8}{f:A8->A8->Bool}(h:vOr e f=A3):(∃x y pos,e=.BoolOp .Or [x,y] pos/\f x y=A3)\/∃x y z r pos,e=.BoolOp .Or (x::y::z::r) pos/\f x (.BoolOp .Or (y::z::r) pos)=A3:=by
 cases e with
 |BoolOp o a pos=>
  cases o with
  |Or=>
   cases a with
   |nil=>exact B3 h
   |cons x r=>
    cases r with
    |nil=>exact B3 h
    |cons y r=>
     cases r with
     |nil=>exact .inl ⟨x,y,pos,rfl,h⟩
     |cons z r=>exact .inr ⟨x,y,z,r,pos,rfl,h⟩
  |_=>exact B3 h
 |_=>exact B3 h
def BM{a:Type}(z:List a)(f:Bool):Bool:=match z with
 | []=>f
 |_=>A7
theorem BO{a:Type}{z:List a}{f:Bool}(h:BM z f=A3):z=[]/\f=A3:=by
 cases z with
 |nil=>exact⟨rfl,h⟩
 |_=>exact B3 h
def BS{a:Type}(z:List a)(f:a->List a->Bool):Bool:=match z with
 |x::r=>f x r
 |_=>A7
theorem BU{a:Type}{z:List a}{f:a->List a->Bool}(h:BS z f=A3):∃x r,z=x::r/\f x r=A3:=by
 cases z with
 |cons x r=>exact⟨x,r,rfl,h⟩
 |_=>exact B3 h
def JL{a:Type}(z:Option a)(f:Bool):Bool:=match z with
 |A6=>f
 |_=>A7
theorem Nd{a:Type}{z:Option a}{f:Bool}(h:JL z f=A3):z=A6/\f=A3:=by
 cases z with
 |none=>exact⟨rfl,h⟩
 |_=>exact B3 h
def JM{a:Type}(z:Option a)(f:a->Bool):Bool:=match z with
 |A0 x=>f x
 |_=>A7
theorem Nf{a:Type}{z:Option a}{f:a->Bool}(h:JM z f=A3):∃x,z=A0 x/\f x=A3:=by
 cases z with
 |some x=>exact⟨x,rfl,h⟩
 |_=>exact B3 h
def CY(z:Comprehension)(f:A8->A8->List A8->Int->Bool):Bool:=f z.target z.iter z.ifs z.is_async
theorem Cp{z:Comprehension}{f:A8->A8->List A8->Int->Bool}(h:CY z f=A3):∃a b c d,z=⟨a,b,c,d⟩/\f a b c d=A3:=by cases z;exact⟨_,_,_,_,rfl,h⟩
def CZ(z:A8)(f:AI->Pos->Bool):Bool:=match z with
 | .Name b a=>f b a
 |_=>A7
theorem Cr{z f}(h:CZ z f=A3):∃b a,z=.Name b a/\f b a=A3:=by
 cases z with
 |Name b a=>exact⟨b,a,rfl,h⟩
 |_=>exact B3 h
def Eo(z:A8)(f:Const->Nat->Pos->Bool):Bool:=match z with
 | .Constant b a d=>f b a d
 |_=>A7
theorem GB{z f}(h:Eo z f=A3):∃b a d,z=.Constant b a d/\f b a d=A3:=by
 cases z with
 |Constant b a d=>exact⟨b,a,d,rfl,h⟩
 |_=>exact B3 h
def Ng(z:Const)(f:Int->Bool):Bool:=match z with
 | .int a=>f a
 |_=>A7
theorem XS{z f}(h:Ng z f=A3):∃a,z=.int a/\f a=A3:=by
 cases z with
 |int a=>exact⟨a,rfl,h⟩
 |_=>exact B3 h
def Nh(z:Const)(f:Bool->Bool):Bool:=match z with
 | .bool a=>f a
 |_=>A7
theorem XT{z f}(h:Nh z f=A3):∃a,z=.bool a/\f a=A3:=by
 cases z with
 |bool a=>exact⟨a,rfl,h⟩
 |_=>exact B3 h
def Ni(z:Const)(f:Bool):Bool:=match z with
 | .none=>f
 |_=>A7
theorem XU{z f}(h:Ni z f=A3):z=.none/\f=A3:=by
 cases z with
 |none=>exact⟨rfl,h⟩
 |_=>exact B3 h
def Nj(z:Const)(f:AI->Bool):Bool:=match z with
 | .str a=>f a
 |_=>A7
theorem XV{z f}(h:Nj z f=A3):∃a,z=.str a/\f a=A3:=by
 cases z with
 |str a=>exact⟨a,rfl,h⟩
 |_=>exact B3 h
def Nk(z:A8)(f:A8->Operator->A8->Pos->Bool):Bool:=match z with
 | .BinOp d b e a=>f d b e a
 |_=>A7
theorem XW{z f}(h:Nk z f=A3):∃d b e a,z=.BinOp d b e a/\f d b e a=A3:=by
 cases z with
 |BinOp d b e a=>exact⟨d,b,e,a,rfl,h⟩
 |_=>exact B3 h
def JN(z:A8)(f:UnaryOp->A8->Pos->Bool):Bool:=match z with
 | .UnaryOp b a d=>f b a d
 |_=>A7
theorem Nl{z f}(h:JN z f=A3):∃b a d,z=.UnaryOp b a d/\f b a d=A3:=by
 cases z with
 |UnaryOp b a d=>exact⟨b,a,d,rfl,h⟩
 |_=>exact B3 h
def Nm(z:UnaryOp)(f:Bool):Bool:=match z with
 | .USub=>f
 |_=>A7
theorem XX{z f}(h:Nm z f=A3):z=.USub/\f=A3:=by
 cases z with
 |USub=>exact⟨rfl,h⟩
 |_=>exact B3 h
def Nn(z:UnaryOp)(f:Bool):Bool:=match z with
 | .Not=>f
 |_=>A7
theorem XY{z f}(h:Nn z f=A3):z=.Not/\f=A3:=by
 cases z with
 |Not=>exact⟨rfl,h⟩
 |_=>exact B3 h
def JO(z:A8)(f:A8->List CmpOp->List A8->Pos->Bool):Bool:=match z with
 | .Compare d b e a=>f d b e a
 |_=>A7
theorem No{z f}(h:JO z f=A3):∃d b e a,z=.Compare d b e a/\f d b e a=A3:=by
 cases z with
 |Compare d b e a=>exact⟨d,b,e,a,rfl,h⟩
 |_=>exact B3 h
def Np(z:A8)(f:A8->A8->A8->Pos->Bool):Bool:=match z with
 | .IfExp d b e a=>f d b e a
 |_=>A7
theorem XZ{z f}(h:Np z f=A3):∃d b e a,z=.IfExp d b e a/\f d b e a=A3:=by
 cases z with
 |IfExp d b e a=>exact⟨d,b,e,a,rfl,h⟩
 |_=>exact B3 h
def Nq(z:A8)(f:List A8->Nat->Pos->Bool):Bool:=match z with
 | .Tuple b a d=>f b a d
 |_=>A7
theorem Xa{z f}(h:Nq z f=A3):∃b a d,z=.Tuple b a d/\f b a d=A3:=by
 cases z with
 |Tuple b a d=>exact⟨b,a,d,rfl,h⟩
 |_=>exact B3 h
def Nr(z:A8)(f:List A8->Pos->Bool):Bool:=match z with
 | .List b a=>f b a
 |_=>A7
theorem Xb{z f}(h:Nr z f=A3):∃b a,z=.List b a/\f b a=A3:=by
 cases z with
 |List b a=>exact⟨b,a,rfl,h⟩
 |_=>exact B3 h
def GC(z:A8)(f:A8->A8->Pos->Bool):Bool:=match z with
 | .Subscript b a d=>f b a d
 |_=>A7
theorem JP{z f}(h:GC z f=A3):∃b a d,z=.Subscript b a d/\f b a d=A3:=by
 cases z with
 |Subscript b a d=>exact⟨b,a,d,rfl,h⟩
 |_=>exact B3 h
def Nt(z:A8)(f:Option A8->Option A8->Option A8->Pos->Bool):Bool:=match z with
 | .Slice d b e a=>f d b e a
 |_=>A7
theorem Xc{z f}(h:Nt z f=A3):∃d b e a,z=.Slice d b e a/\f d b e a=A3:=by
 cases z with
 |Slice d b e a=>exact⟨d,b,e,a,rfl,h⟩
 |_=>exact B3 h
def D4(z:A8)(f:A8->List A8->List Keyword->Pos->Bool):Bool:=match z with
 | .Call d b e a=>f d b e a
 |_=>A7
theorem DT{z f}(h:D4 z f=A3):∃d b e a,z=.Call d b e a/\f d b e a=A3:=by
 cases z with
 |Call d b e a=>exact⟨d,b,e,a,rfl,h⟩
 |_=>exact B3 h
def JQ(z:A8)(f:A8->AI->Pos->Bool):Bool:=match z with
 | .Attribute b a d=>f b a d
 |_=>A7
theorem Nu{z f}(h:JQ z f=A3):∃b a d,z=.Attribute b a d/\f b a d=A3:=by
 cases z with
 |Attribute b a d=>exact⟨b,a,d,rfl,h⟩
 |_=>exact B3 h
def Nv(z:A8)(f:List (Option A8)->List A8->Pos->Bool):Bool:=match z with
 | .Dict b a d=>f b a d
 |_=>A7
theorem Xd{z f}(h:Nv z f=A3):∃b a d,z=.Dict b a d/\f b a d=A3:=by
 cases z with
 |Dict b a d=>exact⟨b,a,d,rfl,h⟩
 |_=>exact B3 h
def Nw(z:A8)(f:A8->A8->List Comprehension->AX->Pos->Bool):Bool:=match z with
 | .DictComp e d g b a=>f e d g b a
 |_=>A7
theorem Xe{z f}(h:Nw z f=A3):∃e d g b a,z=.DictComp e d g b a/\f e d g b a=A3:=by
 cases z with
 |DictComp e d g b a=>exact⟨e,d,g,b,a,rfl,h⟩
 |_=>exact B3 h
def GD(z:A8)(f:A8->List Comprehension->AX->Pos->Bool):Bool:=match z with
 | .ListComp d b e a=>f d b e a
 |_=>A7
theorem JR{z f}(h:GD z f=A3):∃d b e a,z=.ListComp d b e a/\f d b e a=A3:=by
 cases z with
 |ListComp d b e a=>exact⟨d,b,e,a,rfl,h⟩
 |_=>exact B3 h
def Nx(z:Ao)(f:A8->Pos->Bool):Bool:=match z with
 | .Expr b a=>f b a
 |_=>A7
theorem Xf{z f}(h:Nx z f=A3):∃b a,z=.Expr b a/\f b a=A3:=by
 cases z with
 |Expr b a=>exact⟨b,a,rfl,h⟩
 |_=>exact B3 h
def Ny(z:Ao)(f:Option A8->Pos->Bool):Bool:=match z with
 | .Return b a=>f b a
 |_=>A7
theorem Xg{z f}(h:Ny z f=A3):∃b a,z=.Return b a/\f b a=A3:=by
 cases z with
 |Return b a=>exact⟨b,a,rfl,h⟩
 |_=>exact B3 h
def Ep(z:Ao)(f:List A8->A8->Pos->Bool):Bool:=match z with
 | .Assign b a d=>f b a d
 |_=>A7
theorem GE{z f}(h:Ep z f=A3):∃b a d,z=.Assign b a d/\f b a d=A3:=by
 cases z with
 |Assign b a d=>exact⟨b,a,d,rfl,h⟩
 |_=>exact B3 h
def JS(z:A8)(f:A8->List Comprehension->AX->Pos->Bool):Bool:=match z with
 | .SetComp d b e a=>f d b e a
 |_=>A7
theorem Nz{z f}(h:JS z f=A3):∃d b e a,z=.SetComp d b e a/\f d b e a=A3:=by
 cases z with
 |SetComp d b e a=>exact⟨d,b,e,a,rfl,h⟩
 |_=>exact B3 h
def N_(z:Ao)(f:A8->Operator->A8->Pos->Bool):Bool:=match z with
 | .AugAssign d b e a=>f d b e a
 |_=>A7
theorem Xh{z f}(h:N_ z f=A3):∃d b e a,z=.AugAssign d b e a/\f d b e a=A3:=by
 cases z with
 |AugAssign d b e a=>exact⟨d,b,e,a,rfl,h⟩
 |_=>exact B3 h
def O0(z:Ao)(f:A8->List Ao->List Ao->Pos->Bool):Bool:=match z with
 | .If d b e a=>f d b e a
 |_=>A7
theorem Xj{z f}(h:O0 z f=A3):∃d b e a,z=.If d b e a/\f d b e a=A3:=by
 cases z with
 |If d b e a=>exact⟨d,b,e,a,rfl,h⟩
 |_=>exact B3 h
def OA(z:Ao)(f:A8->List Ao->List Ao->Pos->Bool):Bool:=match z with
 | .While d b e a=>f d b e a
 |_=>A7
theorem Xk{z f}(h:OA z f=A3):∃d b e a,z=.While d b e a/\f d b e a=A3:=by
 cases z with
 |While d b e a=>exact⟨d,b,e,a,rfl,h⟩
 |_=>exact B3 h
def OB(z:Ao)(f:A8->A8->List Ao->List Ao->Pos->Bool):Bool:=match z with
 | .For e d g b a=>f e d g b a
 |_=>A7
theorem Xl{z f}(h:OB z f=A3):∃e d g b a,z=.For e d g b a/\f e d g b a=A3:=by
 cases z with
 |For e d g b a=>exact⟨e,d,g,b,a,rfl,h⟩
 |_=>exact B3 h
def OC(z:Ao)(f:Pos->Bool):Bool:=match z with
 | .Break a=>f a
 |_=>A7
theorem Xm{z f}(h:OC z f=A3):∃a,z=.Break a/\f a=A3:=by
 cases z with
 |Break a=>exact⟨a,rfl,h⟩
 |_=>exact B3 h
def v1(a:A8)(f:AI->Bool):Bool:=CZ a λb d=>f b
theorem GF{a f}{P:Prop}(h:v1 a f=A3)(k:∀x b,a=.Name x b->f x=A3->P):P:=by obtain⟨g,e,d,h⟩:=Cr h;exact k g e (by rw[d]) h
def v2(b:A8)(f:Int->Bool):Bool:=Eo b λd e g=>Ng d λa=>f a
theorem Xn{a f}{P:Prop}(h:v2 a f=A3)(k:∀m e g,a=.Constant (.int m) e g->f m=A3->P):P:=by obtain⟨n,j,l,i,h⟩:=GB h;obtain⟨d,b,h⟩:=XS h;exact k d j l (by rw[i,b]) h
def v3(b:A8)(f:Bool->Bool):Bool:=Eo b λd e g=>Nh d λa=>f a
theorem Xo{a f}{P:Prop}(h:v3 a f=A3)(k:∀c e g,a=.Constant (.bool c) e g->f c=A3->P):P:=by obtain⟨m,j,l,i,h⟩:=GB h;obtain⟨d,b,h⟩:=XT h;exact k d j l (by rw[i,b]) h
def v4(a:A8)(f:Bool):Bool:=Eo a λb d e=>Ni b (f)
theorem Xp{a f}{P:Prop}(h:v4 a f=A3)(k:∀d e,a=.Constant .none d e->f=A3->P):P:=by obtain⟨l,i,j,g,h⟩:=GB h;obtain⟨b,h⟩:=XU h;exact k i j (by rw[g,b]) h
def v5(b:A8)(f:AI->Bool):Bool:=Eo b λd e g=>Nj d λa=>f a
theorem Xq{a f}{P:Prop}(h:v5 a f=A3)(k:∀y e g,a=.Constant (.str y) e g->f y=A3->P):P:=by obtain⟨m,j,l,i,h⟩:=GB h;obtain⟨d,b,h⟩:=XV h;exact k d j l (by rw[i,b]) h
def v6(a:A8)(f:A8->Operator->A8->Bool):Bool:=Nk a λd b e g=>f d b e
theorem Xr{d f}{P:Prop}(h:v6 d f=A3)(k:∀b a e i,d=.BinOp b a e i->f b a e=A3->P):P:=by obtain⟨n,l,m,g,j,h⟩:=XW h;exact k n l m g (by rw[j]) h
def v7(a:A8)(f:A8->Bool):Bool:=JN a λd b e=>Nm d (f b)
theorem Xs{b f}{P:Prop}(h:v7 b f=A3)(k:∀a e,b=.UnaryOp .USub a e->f a=A3->P):P:=by obtain⟨l,i,j,g,h⟩:=Nl h;obtain⟨d,h⟩:=XX h;exact k i j (by rw[g,d]) h
def v8(a:A8)(f:A8->Bool):Bool:=JN a λd b e=>Nn d (f b)
theorem OD{b f}{P:Prop}(h:v8 b f=A3)(k:∀a e,b=.UnaryOp .Not a e->f a=A3->P):P:=by obtain⟨l,i,j,g,h⟩:=Nl h;obtain⟨d,h⟩:=XY h;exact k i j (by rw[g,d]) h
def v9(b:A8)(f:A8->CmpOp->A8->Bool):Bool:=JO b λi g j l=>BS g λa h=>BM h (BS j λd e=>BM e (f i a d))
theorem Er{b f}{P:Prop}(h:v9 b f=A3)(k:∀e a d j,b=.Compare e (a:: []) (d:: []) j->f e a d=A3->P):P:=by obtain⟨o,s,v,m,n,h⟩:=No h;obtain⟨p,t,i,h⟩:=BU h;obtain⟨q,h⟩:=BO h;obtain⟨g,w,l,h⟩:=BU h;obtain⟨r,h⟩:=BO h;exact k o p g m (by rw[n,i,q,l,r]) h
def v10(g:A8)(f:A8->CmpOp->CmpOp->A8->A8->Bool):Bool:=JO g λm j n p=>BS j λe l=>BS l λh i=>BM i (BS n λo d=>BS d λa b=>BM b (f m e h o a))
theorem OE{e f}{P:Prop}(h:v10 e f=A3)(k:∀j b d i g p,e=.Compare j (b::(d:: [])) (i::(g:: [])) p->f j b d i g=A3->P):P:=by obtain⟨w,C,E,t,v,h⟩:=No h;obtain⟨x,D,n,h⟩:=BU h;obtain⟨l,G,A,h⟩:=BU h;obtain⟨q,h⟩:=BO h;obtain⟨s,m,B,h⟩:=BU h;obtain⟨a,o,r,h⟩:=BU h;obtain⟨y,h⟩:=BO h;exact k w x l s a t (by rw[v,n,A,q,B,r,y]) h
def v11(a:A8)(f:A8->A8->A8->Bool):Bool:=Np a λd b e g=>f d b e
theorem Xt{d f}{P:Prop}(h:v11 d f=A3)(k:∀b a e i,d=.IfExp b a e i->f b a e=A3->P):P:=by obtain⟨n,l,m,g,j,h⟩:=XZ h;exact k n l m g (by rw[j]) h
def v12(a:A8)(f:List A8->Bool):Bool:=Nq a λb d e=>f b
theorem OF{b f}{P:Prop}(h:v12 b f=A3)(k:∀a d e,b=.Tuple a d e->f a=A3->P):P:=by obtain⟨l,i,j,g,h⟩:=Xa h;exact k l i j (by rw[g]) h
def v13(a:A8)(f:List A8->Bool):Bool:=Nr a λb d=>f b
theorem Xu{b f}{P:Prop}(h:v13 b f=A3)(k:∀a d,b=.List a d->f a=A3->P):P:=by obtain⟨i,g,e,h⟩:=Xb h;exact k i g (by rw[e]) h
def v14(a:A8)(f:A8->A8->Bool):Bool:=GC a λd b e=>f d b
theorem GG{b f}{P:Prop}(h:v14 b f=A3)(k:∀a d e,b=.Subscript a d e->f a d=A3->P):P:=by obtain⟨l,i,j,g,h⟩:=JP h;exact k l i j (by rw[g]) h
def v15(d:A8)(f:A8->Option A8->Option A8->Bool):Bool:=GC d λh e j=>Nt e λa b g i=>JL g (f h a b)
theorem Xv{a f}{P:Prop}(h:v15 a f=A3)(k:∀b l h g i,a=.Subscript b (.Slice l h A6 g) i->f b l h=A3->P):P:=by obtain⟨n,r,o,m,h⟩:=JP h;obtain⟨j,p,s,d,e,h⟩:=Xc h;obtain⟨q,h⟩:=Nd h;exact k n j p d o (by rw[m,e,q]) h
def v16(b:A8)(f:AI->A8->List A8->Bool):Bool:=D4 b λh g i j=>CZ h λa l=>BS g λd e=>BM i (f a d e)
theorem OG{a f}{P:Prop}(h:v16 a f=A3)(k:∀x i e r l,a=.Call (.Name x i) (e::r) [] l->f x e r=A3->P):P:=by obtain⟨t,s,v,m,n,h⟩:=DT h;obtain⟨o,d,g,h⟩:=Cr h;obtain⟨b,q,p,h⟩:=BU h;obtain⟨j,h⟩:=BO h;exact k o d b q m (by rw[n,g,p,j]) h
def v17(d:A8)(f:A8->AI->Pos->List A8->Pos->Bool):Bool:=D4 d λi g j a=>JQ i λb h e=>BM j (f b h e g a)
theorem Xw{g f}{P:Prop}(h:v17 g f=A3)(k:∀e d b a pos,g=.Call (.Attribute e d b) a [] pos->f e d b a pos=A3->P):P:=by obtain⟨r,j,s,n,o,h⟩:=DT h;obtain⟨p,l,i,m,h⟩:=Nu h;obtain⟨q,h⟩:=BO h;exact k p l i j n (by rw[o,m,q]) h
def v18(a:A8)(f:Bool):Bool:=Nv a λd b e=>BM d (BM b (f))
theorem OH{a f}{P:Prop}(h:v18 a f=A3)(k:∀e,a=.Dict [] [] e->f=A3->P):P:=by obtain⟨l,j,i,g,h⟩:=Xd h;obtain⟨b,h⟩:=BO h;obtain⟨d,h⟩:=BO h;exact k i (by rw[g,b,d]) h
def v20(d:A8)(f:A8->AI->Pos->A8->Pos->Bool):Bool:=D4 d λj h l a=>JQ j λb i e=>BS h λg m=>BM m (BM l (f b i e g a))
theorem OI{e f}{P:Prop}(h:v20 e f=A3)(k:∀d b a y pos,e=.Call (.Attribute d b a) (y:: []) [] pos->f d b a y pos=A3->P):P:=by obtain⟨v,s,w,m,n,h⟩:=DT h;obtain⟨o,i,g,j,h⟩:=Nu h;obtain⟨q,t,p,h⟩:=BU h;obtain⟨l,h⟩:=BO h;obtain⟨r,h⟩:=BO h;exact k o i g q m (by rw[n,j,p,l,r]) h
def v22(j:A8)(f:AI->AI->A8->Bool):Bool:=D4 j λp n q s=>CZ p λh t=>BS n λl m=>D4 l λr b a i=>CZ r λg o=>BS b λe d=>BM d (BM a (BM m (BM q (f h g e))))
theorem Xx{i f}{P:Prop}(h:v22 i f=A3)(k:∀j q g s y B n,i=.Call (.Name j q) ((.Call (.Name g s) (y:: []) [] B):: []) [] n->f j g y=A3->P):P:=by obtain⟨M,K,N,w,A,h⟩:=DT h;obtain⟨C,m,o,h⟩:=Cr h;obtain⟨J,O,E,h⟩:=BU h;obtain⟨L,l,p,b,r,h⟩:=DT h;obtain⟨a,e,H,h⟩:=Cr h;obtain⟨d,t,v,h⟩:=BU h;obtain⟨D,h⟩:=BO h;obtain⟨I,h⟩:=BO h;obtain⟨G,h⟩:=BO h;obtain⟨x,h⟩:=BO h;exact k C m a e d b w (by rw[A,o,E,r,H,v,D,I,G,x]) h
def v70(p:A8)(f:AI->A8->A8->A8->List A8->Int->AX->Bool):Bool:=D4 p λq m r w=>CZ q λs v=>BS m λl t=>BM t (BM r (JS l λo b e n=>BS b λd j=>CY d λi g a h=>BM j (f s o i g a h e)))
theorem Xy{q f}{P:Prop}(h:v70 q f=A3)(k:∀r x o p d e a b A G,q=.Call (.Name r x) ((.SetComp o (⟨p,d,e,a⟩:: []) b A):: []) [] G->f r o p d e a b=A3->P):P:=by obtain⟨R,Q,S,D,E,h⟩:=DT h;obtain⟨H,v,w,h⟩:=Cr h;obtain⟨O,T,J,h⟩:=BU h;obtain⟨y,h⟩:=BO h;obtain⟨L,h⟩:=BO h;obtain⟨C,s,i,j,B,h⟩:=Nz h;obtain⟨t,M,I,h⟩:=BU h;obtain⟨n,l,g,m,N,h⟩:=Cp h;obtain⟨K,h⟩:=BO h;exact k H v C n l g m i j D (by rw[E,w,J,y,L,B,I,N,K]) h
def v23(b:A8)(f:AI->A8->Bool):Bool:=D4 b λh g i j=>CZ h λa l=>BS g λd e=>BM e (BM i (f a d))
theorem GH{a f}{P:Prop}(h:v23 a f=A3)(k:∀x g y j,a=.Call (.Name x g) (y:: []) [] j->f x y=A3->P):P:=by obtain⟨r,q,s,l,m,h⟩:=DT h;obtain⟨n,d,e,h⟩:=Cr h;obtain⟨b,t,o,h⟩:=BU h;obtain⟨i,h⟩:=BO h;obtain⟨p,h⟩:=BO h;exact k n d b l (by rw[m,e,o,i,p]) h
def v26(d:A8)(f:A8->A8->A8->List A8->Int->AX->Bool):Bool:=GD d λj h l n=>BS h λb i=>CY b λe g m a=>BM i (f j e g m a l)
theorem Xz{l f}{P:Prop}(h:v26 l f=A3)(k:∀i j d e a b o,l=.ListComp i (⟨j,d,e,a⟩:: []) b o->f i j d e a b=A3->P):P:=by obtain⟨t,y,v,r,s,h⟩:=JR h;obtain⟨B,A,n,h⟩:=BU h;obtain⟨m,x,q,g,w,h⟩:=Cp h;obtain⟨p,h⟩:=BO h;exact k t m x q g v r (by rw[s,n,w,p]) h
def v27(l:A8)(f:A8->A8->A8->List A8->Int->A8->A8->List A8->Int->AX->Bool):Bool:=GD l λq o r t=>BS o λj p=>CY j λm n s d=>BS p λa b=>CY a λh i g e=>BM b (f q m n s d h i g e r)
theorem X_{s f}{P:Prop}(h:v27 s f=A3)(k:∀q r g i a j b e t d A,s=.ListComp q (⟨r,g,i,a⟩::(⟨j,b,e,t⟩:: [])) d A->f q r g i a j b e t d=A3->P):P:=by obtain⟨H,M,I,E,G,h⟩:=JR h;obtain⟨O,N,w,h⟩:=BU h;obtain⟨v,K,D,l,J,h⟩:=Cp h;obtain⟨x,y,B,h⟩:=BU h;obtain⟨m,p,o,n,L,h⟩:=Cp h;obtain⟨C,h⟩:=BO h;exact k H v K D l m p o n I E (by rw[G,w,J,B,L,C]) h
def v28(v:A8)(f:A8->A8->A8->List A8->Int->A8->A8->List A8->Int->A8->A8->List A8->Int->AX->Bool):Bool:=GD v λw r x B=>BS r λy s=>CY y λq A t b=>BS s λg h=>CY g λd p n i=>BS h λa l=>CY a λm j o e=>BM l (f w q A t b d p n i m j o e x)
theorem Y0{C f}{P:Prop}(h:v28 C f=A3)(k:∀y A j l a n b g D m d i B e K,C=.ListComp y (⟨A,j,l,a⟩::(⟨n,b,g,D⟩::(⟨m,d,i,B⟩:: []))) e K->f y A j l a n b g D m d i B e=A3->P):P:=by obtain⟨S,y2,T,O,R,h⟩:=JR h;obtain⟨y5,y6,H,h⟩:=BU h;obtain⟨G,Y,N,o,X,h⟩:=Cp h;obtain⟨I,J,L,h⟩:=BU h;obtain⟨p,x,v,r,Z,h⟩:=Cp h;obtain⟨E,Q,M,h⟩:=BU h;obtain⟨t,s,w,q,U,h⟩:=Cp h;obtain⟨e7,h⟩:=BO h;exact k S G Y N o p x v r t s w q T O (by rw[R,H,X,L,Z,M,U,e7]) h
def v29(a:List A8)(f:Bool):Bool:=BM a (f)
theorem Es{a f}{P:Prop}(h:v29 a f=A3)(k:a=[]->f=A3->P):P:=by obtain⟨b,h⟩:=BO h;exact k (by rw[b]) h
def v30(b:List A8)(f:A8->List A8->Bool):Bool:=BS b λd a=>f d a
theorem GI{b f}{P:Prop}(h:v30 b f=A3)(k:∀x a,b=(x::a)->f x a=A3->P):P:=by obtain⟨g,e,d,h⟩:=BU h;exact k g e (by rw[d]) h
def v31(b:List A8)(f:A8->Bool):Bool:=BS b λd a=>BM a (f d)
theorem Y1{a f}{P:Prop}(h:v31 a f=A3)(k:∀e,a=(e:: [])->f e=A3->P):P:=by obtain⟨g,i,d,h⟩:=BU h;obtain⟨b,h⟩:=BO h;exact k g (by rw[d,b]) h
def v32(a:Option A8)(f:Bool):Bool:=JL a (f)
theorem Y2{a f}{P:Prop}(h:v32 a f=A3)(k:a=A6->f=A3->P):P:=by obtain⟨b,h⟩:=Nd h;exact k (by rw[b]) h
def v33(a:Option A8)(f:A8->Bool):Bool:=JM a λb=>f b
theorem Y3{a f}{P:Prop}(h:v33 a f=A3)(k:∀y,a=(A0 y)->f y=A3->P):P:=by obtain⟨d,b,h⟩:=Nf h;exact k d (by rw[b]) h
def v34(d:A8)(f:AI->A8->A8->Bool):Bool:=D4 d λi h j m=>CZ i λb n=>BS h λe g=>BS g λl a=>BM a (BM j (f b e l))
theorem Y4{a f}{P:Prop}(h:v34 a f=A3)(k:∀n i y z l,a=.Call (.Name n i) (y::(z:: [])) [] l->f n y z=A3->P):P:=by obtain⟨w,v,x,p,q,h⟩:=DT h;obtain⟨r,e,g,h⟩:=Cr h;obtain⟨b,A,s,h⟩:=BU h;obtain⟨o,d,j,h⟩:=BU h;obtain⟨t,h⟩:=BO h;obtain⟨m,h⟩:=BO h;exact k r e b o p (by rw[q,g,s,j,t,m]) h
def v36(a:Ao)(f:A8->Bool):Bool:=Nx a λb d=>f b
theorem Y5{a f}{P:Prop}(h:v36 a f=A3)(k:∀x b,a=.Expr x b->f x=A3->P):P:=by obtain⟨g,e,d,h⟩:=Xf h;exact k g e (by rw[d]) h
def v37(a:Ao)(f:A8->Bool):Bool:=Ny a λb e=>JM b λd=>f d
theorem Y6{a f}{P:Prop}(h:v37 a f=A3)(k:∀x d,a=.Return (A0 x) d->f x=A3->P):P:=by obtain⟨j,g,e,h⟩:=Xg h;obtain⟨i,b,h⟩:=Nf h;exact k i g (by rw[e,b]) h
def v39(d:Ao)(f:A8->A8->Bool):Bool:=Ep d λg e h=>BS g λa b=>BM b (f a e)
theorem Y7{b f}{P:Prop}(h:v39 b f=A3)(k:∀a x i,b=.Assign (a:: []) x i->f a x=A3->P):P:=by obtain⟨o,l,m,j,h⟩:=GE h;obtain⟨e,n,d,h⟩:=BU h;obtain⟨g,h⟩:=BO h;exact k e l m (by rw[j,d,g]) h
def v41(x:Ao)(f:AI->Pos->A8->A8->A8->List A8->Int->A8->A8->List A8->Int->AX->Bool):Bool:=Ep x λy r C=>BS y λw A=>CZ w λs q=>BM A (JS r λB v b t=>BS v λg d=>CY g λp m h a=>BS d λj l=>CY j λi n e o=>BM l (f s q B p m h a i n e o b))
theorem Y8{A f}{P:Prop}(h:v41 A f=A3)(k:∀y B w x g i a j b e C d J L,A=.Assign ((.Name y B):: []) (.SetComp w (⟨x,g,i,a⟩::(⟨j,b,e,C⟩:: [])) d J) L->f y B w x g i a j b e C d=A3->P):P:=by obtain⟨y1,y2,S,R,h⟩:=GE h;obtain⟨y4,y5,H,h⟩:=BU h;obtain⟨G,D,U,h⟩:=Cr h;obtain⟨K,h⟩:=BO h;obtain⟨Y,y9,m,o,Z,h⟩:=Nz h;obtain⟨I,E,M,h⟩:=BU h;obtain⟨v,r,p,l,T,h⟩:=Cp h;obtain⟨N,O,e7,h⟩:=BU h;obtain⟨q,s,n,t,X,h⟩:=Cp h;obtain⟨Q,h⟩:=BO h;exact k G D Y v r p l q s n t m o S (by rw[R,H,U,K,Z,M,T,e7,X,Q]) h
def v42(r:Ao)(f:AI->Pos->A8->A8->A8->A8->List A8->Int->AX->Bool):Bool:=Ep r λs m w=>BS s λq t=>CZ q λn l=>BM t (Nw m λv p b e o=>BS b λd j=>CY d λi g a h=>BM j (f n l v p i g a h e))
theorem Y9{p f}{P:Prop}(h:v42 p f=A3)(k:∀y r s q o d e a b B D,p=.Assign ((.Name y r):: []) (.DictComp s q (⟨o,d,e,a⟩:: []) b B) D->f y r s q o d e a b=A3->P):P:=by obtain⟨S,Q,I,H,h⟩:=GE h;obtain⟨R,T,A,h⟩:=BU h;obtain⟨x,t,K,h⟩:=Cr h;obtain⟨C,h⟩:=BO h;obtain⟨L,G,v,i,j,M,h⟩:=Xe h;obtain⟨w,N,E,h⟩:=BU h;obtain⟨n,l,g,m,J,h⟩:=Cp h;obtain⟨O,h⟩:=BO h;exact k x t L G n l g m i j I (by rw[H,A,K,C,M,E,J,O]) h
def v48(d:Ao)(f:A8->A8->A8->Bool):Bool:=Ep d λi g l=>BS i λa b=>GC a λh e j=>BM b (f h e g)
theorem YA{e f}{P:Prop}(h:v48 e f=A3)(k:∀d b m a o,e=.Assign ((.Subscript d b m):: []) a o->f d b a=A3->P):P:=by obtain⟨v,i,q,p,h⟩:=GE h;obtain⟨t,w,l,h⟩:=BU h;obtain⟨j,g,s,r,h⟩:=JP h;obtain⟨n,h⟩:=BO h;exact k j g s i q (by rw[p,l,r,n]) h
def v49(b:Ao)(f:AI->Operator->A8->Bool):Bool:=N_ b λe d g h=>CZ e λa i=>f a d g
theorem YB{a f}{P:Prop}(h:v49 a f=A3)(k:∀x j d b m,a=.AugAssign (.Name x j) d b m->f x d b=A3->P):P:=by obtain⟨q,o,p,g,n,h⟩:=Xh h;obtain⟨i,l,e,h⟩:=Cr h;exact k i l o p g (by rw[n,e]) h
def v50(a:Ao)(f:A8->List Ao->List Ao->Bool):Bool:=O0 a λd b e g=>f d b e
theorem YC{d f}{P:Prop}(h:v50 d f=A3)(k:∀x a b g,d=.If x a b g->f x a b=A3->P):P:=by obtain⟨m,j,l,e,i,h⟩:=Xj h;exact k m j l e (by rw[i]) h
def v51(a:Ao)(f:A8->List Ao->Bool):Bool:=OA a λd b e g=>BM e (f d b)
theorem YD{b f}{P:Prop}(h:v51 b f=A3)(k:∀x a g,b=.While x a [] g->f x a=A3->P):P:=by obtain⟨l,j,m,e,i,h⟩:=Xk h;obtain⟨d,h⟩:=BO h;exact k l j e (by rw[i,d]) h
def v52(b:Ao)(f:A8->A8->List Ao->Bool):Bool:=OB b λe d g a h=>BM a (f e d g)
theorem YE{e f}{P:Prop}(h:v52 e f=A3)(k:∀d a b j,e=.For d a b [] j->f d a b=A3->P):P:=by obtain⟨o,m,n,p,i,l,h⟩:=Xl h;obtain⟨g,h⟩:=BO h;exact k o m n i (by rw[l,g]) h
def v53(a:Ao)(f:Bool):Bool:=OC a λb=>f
theorem YF{a f}{P:Prop}(h:v53 a f=A3)(k:∀b,a=.Break b->f=A3->P):P:=by obtain⟨e,d,h⟩:=Xm h;exact k e (by rw[d]) h
def v56(a:List Ao)(f:Bool):Bool:=BM a (f)
theorem YG{a f}{P:Prop}(h:v56 a f=A3)(k:a=[]->f=A3->P):P:=by obtain⟨b,h⟩:=BO h;exact k (by rw[b]) h
def v57(b:List Ao)(f:Ao->List Ao->Bool):Bool:=BS b λd a=>f d a
theorem YH{b f}{P:Prop}(h:v57 b f=A3)(k:∀x a,b=(x::a)->f x a=A3->P):P:=by obtain⟨g,e,d,h⟩:=BU h;exact k g e (by rw[d]) h
mutual
def mE(N B:List AI)(sc:AX):Ce->A8->Bool
 | .var i,e=>v1 e λx=>Em N i x&&vis sc x
 | .int n,e=>v2 e λm=>decide (n=m)
 | .bl b,e=>v3 e λc=>decide (b=c)
 | .non,e=>v4 e (A3)
 | .str x,e=>v5 e λy=>decide (x=y)
 | .ty n,e=>v1 e λx=>decide (x=AI.ofString n)&&glb sc x&&Na.contains n&&decide (x∈B)
 | .bin op a b,e=>v6 e λea op' eb=>decide (op=op')&&mE N B sc a ea&&mE N B sc b eb
 | .neg a,e=>v7 e λea=>mE N B sc a ea
 | .not a,e=>v8 e λea=>mE N B sc a ea
 | .and a b,e=>JK e λx y=>mE N B sc a x&&mE N B sc b y
 | .or a b,e=>vOr e λx y=>mE N B sc a x&&mE N B sc b y
 | .cmp op a b,e=>v9 e λea op' eb=>decide (op=op')&&mE N B sc a ea&&mE N B sc b eb&&Ba eb
 | .chn op1 op2 a b c,e=>v10 e λea o1 o2 eb ec=>decide (op1=o1)&&decide (op2=o2)&&mE N B sc a ea&&mE N B sc b eb&&mE N B sc c ec&&Ba ec
 | .ife q a b,e=>v11 e λeq ea eb=>mQ N B sc q eq&&mE N B sc a ea&&mE N B sc b eb
 | .tup es,e=>v12 e λxs=>mA N B sc es xs
 | .lst es,e=>v13 e λxs=>mA N B sc es xs
 | .idx a b,e=>v14 e λea eb=>mE N B sc a ea&&mE N B sc b eb&&Di eb
 | .cut a lo hi,e=>v15 e λea l h=>mE N B sc a ea&&mO N B sc lo l&&mO N B sc hi h
 | .call f es,e=>v16 e λx e r=>decide (x=f)&&glb sc x&&mA N B sc es (e::r)&&!(x==("__debug__":AI))&&!(hat B)&&!(tld B&&decide (EK x∈B))
 | .blt f es,e=>v16 e λx e r=>decide (x=El f)&&glb sc x&&mA N B sc es (e::r)&&decide (x∈B)&&(!(hat B)||decide (f=.isinstance))
 | .met m o es,e=>v17 e λeo nm apos args pos=>decide (nm=NX m)&&mE N B sc o eo&&G9 eo&&(apos.endLine==pos.line)&&mA N B sc es args&&decide (args.length<28)
 | .dnew,e=>v18 e (A3)
 | .dnt,e=>v18 e (A3)
 | .dix a b,e=>v14 e λea eb=>mE N B sc a ea&&mE N B sc b eb&&Di eb
 | .din neg a b,e=>v9 e λea op' eb=>decide (op'=if neg then .NotIn else .In)&&mE N B sc a ea&&mE N B sc b eb&&Ba eb
 | .dgt a b,e=>v20 e λeo nm apos y pos=>decide (nm="get")&&mE N B sc a eo&&G9 eo&&(apos.endLine==pos.line)&&mE N B sc b y&&Bs y
 | .cal f a,e=>v23 e λx y=>decide (x=XR f)&&glb sc x&&decide (x∈B)&&mE N B sc a y&&Bs y&&!(hat B)
 | .upd a b,e=>v20 e λeo nm apos y pos=>decide (nm="update")&&mE N B sc a eo&&G9 eo&&(apos.endLine==pos.line)&&mE N B sc b y&&Bs y&&!(hat B)
 | .gtx nm a,e=>v14 e λea eb=>v1 ea λy=>decide (y=nm)&&glb sc y&&!(y==("__debug__":AI))&&mE N B sc a eb&&Di eb
 | .stl a,e=>v22 e λn1 n2 y=>decide (n1="sorted")&&decide (n2="set")&&glb sc n1&&decide (n1∈B)&&glb sc n2&&decide (n2∈B)&&mE N B sc a y&&Bs y&&!(hat B)
 | .ssa elt own t it q,e=>v70 e λn1 ee tg iter ifs a scope=>decide (n1="sorted")&&glb sc n1&&decide (n1∈B)&&!(hat B)&&CK N sc scope own&&mE N ("~"::B) scope elt ee&&Bp own t&&decide (a=0)&&mI N B sc it iter&&Bt it tg&&Ba iter&&mT N ("~"::B) scope t tg&&mQo N ("~"::B) scope q ifs
 | .comp elt own t it q .nil,e=>v26 e λee tg iter ifs a scope=>!(hat B)&&CK N sc scope own&&mE N ("~"::B) scope elt ee&&Bp own t&&decide (a=0)&&mI N B sc it iter&&Bt it tg&&Ba iter&&mT N ("~"::B) scope t tg&&mQo N ("~"::B) scope q ifs
 | .comp elt own t it q (.cons ws t2 it2 q2 .nil),e=>v27 e λee tg iter ifs a tg2 iter2 ifs2 a2 scope=>!(hat B)&&CK N sc scope own&&mE N ("~"::B) scope elt ee&&Bp own t&&decide (a=0)&&mI N B sc it iter&&Bt it tg&&Ba iter&&mT N ("~"::B) scope t tg&&mQo N ("~"::B) scope q ifs&&
    decide (a2=0)&&mI N ("~"::B) scope it2 iter2&&Bt it2 tg2&&Ba iter2&&mT N ("~"::B) scope t2 tg2&&mQo N ("~"::B) scope q2 ifs2&&Bp ws t2&&ws.all (λj=>decide (j∈own))
 | .comp elt own t it q (.cons ws t2 it2 q2 (.cons ws3 t3 it3 q3 .nil)),e=>v28 e λee tg iter ifs a tg2 iter2 ifs2 a2 tg3 iter3 ifs3 a3 scope=>!(hat B)&&CK N sc scope own&&mE N ("~"::B) scope elt ee&&Bp own t&&decide (a=0)&&mI N B sc it iter&&Bt it tg&&Ba iter&&mT N ("~"::B) scope t tg&&mQo N ("~"::B) scope q ifs&&
    decide (a2=0)&&mI N ("~"::B) scope it2 iter2&&Bt it2 tg2&&Ba iter2&&mT N ("~"::B) scope t2 tg2&&mQo N ("~"::B) scope q2 ifs2&&Bp ws t2&&ws.all (λj=>decide (j∈own))&&
    decide (a3=0)&&mI N ("~"::B) scope it3 iter3&&Bt it3 tg3&&Ba iter3&&mT N ("~"::B) scope t3 tg3&&mQo N ("~"::B) scope q3 ifs3&&Bp ws3 t3&&ws3.all (λj=>decide (j∈ws))
 | .comp _ _ _ _ _ (.cons _ _ _ _ (.cons _ _ _ _ (.cons _ _ _ _ _))),_=>A7
def mA(N B:List AI)(sc:AX):Ces->List A8->Bool
 | .nil,es=>v29 es (A3)
 | .cons e r,es=>v30 es λx xs=>mE N B sc e x&&Bs x&&mA N B sc r xs
def mQ(N B:List AI)(sc:AX):Cq->A8->Bool
 | .val e,x=>mE N B sc e x&&NZ x
 | .not q,x=>v8 x λy=>mQ N B sc q y
 | .and a b,e=>JK e λx y=>mQ N B sc a x&&mQ N B sc b y
 | .or a b,e=>vOr e λx y=>mQ N B sc a x&&mQ N B sc b y
 | .cmp op a b,e=>v9 e λea op' eb=>decide (op=op')&&mE N B sc a ea&&mE N B sc b eb&&Ba eb
 | .chn op1 op2 a b c,e=>v10 e λea o1 o2 eb ec=>decide (op1=o1)&&decide (op2=o2)&&mE N B sc a ea&&mE N B sc b eb&&mE N B sc c ec&&Ba ec
 | .din neg a b,e=>v9 e λea op' eb=>decide (op'=if neg then .NotIn else .In)&&mE N B sc a ea&&mE N B sc b eb&&Ba eb
 | .cmw k a b,e=>v9 e λea op' eb=>decide (op'=NY k)&&mE N B sc a ea&&mE N B sc b eb&&Ba eb
def mQo(N B:List AI)(sc:AX):Cqo->List A8->Bool
 | .none,es=>v29 es (A3)
 | .some q,es=>v31 es λe=>mQ N B sc q e
def mO(N B:List AI)(sc:AX):Co->Option A8->Bool
 | .none,x=>v32 x (A3)
 | .some e,x=>v33 x λy=>mE N B sc e y
def mI(N B:List AI)(sc:AX):Ci->A8->Bool
 | .val e,x=>mE N B sc e x
 | .range1 a,x=>v23 x λn y=>decide (n="range")&&glb sc n&&decide (n∈B)&&mE N B sc a y&&Bs y
 | .range2 a b,x=>v34 x λn y z=>decide (n="range")&&glb sc n&&decide (n∈B)&&mE N B sc a y&&Bs y&&mE N B sc b z&&Bs z
 | .enum a,x=>v23 x λn y=>decide (n="enumerate")&&glb sc n&&decide (n∈B)&&mE N B sc a y&&Bs y
 | .revs a,x=>v23 x λn y=>decide (n="reversed")&&glb sc n&&decide (n∈B)&&mE N B sc a y&&Bs y
 | .dk e,x=>mE N B sc e x
def mT(N B:List AI)(sc:AX):Ct->A8->Bool
 | .name i,e=>v1 e λx=>Em N i x&&locb sc x
 | .tup ts,e=>v12 e λes=>mTs N B sc ts es&&!(hat B)
 | .sub o i,e=>v14 e λeo ei=>mE N B sc o eo&&mE N B sc i ei&&Di ei
def mTs(N B:List AI)(sc:AX):Cts->List A8->Bool
 | .nil,es=>v29 es (A3)
 | .cons t r,es=>v30 es λx xs=>mT N B sc t x&&Bs x&&mTs N B sc r xs
end
def Dj:Ce->Bool
 |_=>A7
mutual
def mS(N B:List AI)(sc:AX):Cs->Ao->Bool
 | .expr e,s=>v36 s λx=>mE N B sc e x&&(match e with| .comp ..=>A7|_=>A3)&&!Dj e
 | .ret e,s=>v37 s λx=>mE N B sc e x
 | .asg t e,s=>v39 s λtg x=>mE N B sc e x&&!Dj e&&mT N B sc t tg&&Bs tg&&(match tg,x with
   | .Tuple ..,.Tuple vs _ _=>vs.all (foldedForSure 8)
   | .Tuple ..,.ListComp ..=>A7
   |_,_=>A3)
 | .setc2 i elt own t it q ws t2 it2 q2,s=>v41 s λy py ee tg iter ifs a tg2 iter2 ifs2 a2 scope=>!(hat B)&&mT N B sc (.name i) (.Name y py)&&CK N sc scope own&&mE N ("~"::B) scope elt ee&&Bp own t&&decide (a=0)&&mI N B sc it iter&&Bt it tg&&Ba iter&&mT N ("~"::B) scope t tg&&mQo N ("~"::B) scope q ifs&&
    decide (a2=0)&&mI N ("~"::B) scope it2 iter2&&Bt it2 tg2&&Ba iter2&&mT N ("~"::B) scope t2 tg2&&mQo N ("~"::B) scope q2 ifs2&&Bp ws t2&&ws.all (λj=>decide (j∈own))
 | .dctc _ i k v own t it q,s=>v42 s λy py ke ve tg iter ifs a scope=>!(hat B)&&mT N B sc (.name i) (.Name y py)&&CK N sc scope own&&mE N ("~"::B) scope k ke&&mE N ("~"::B) scope v ve&&Bp own t&&decide (a=0)&&mI N B sc it iter&&Bt it tg&&Ba iter&&mT N ("~"::B) scope t tg&&mQo N ("~"::B) scope q ifs
 | .dput o i e,s=>v48 s λeo ei ee=>mE N B sc o eo&&mE N B sc i ei&&Di ei&&mE N B sc e ee&&(match ee with
   | .ListComp ..=>A7
   | .SetComp ..=>A7
   | .DictComp ..=>A7
   |_=>A3)
 | .aug i sub e,s=>v49 s λx op ee=>Em N i x&&locb sc x&&mE N B sc e ee&&decide (op=if sub then .Sub else .Add)
 | .ite q a b,s=>v50 s λx ss rs=>mQ N B sc q x&&mSs N B sc a ss&&mSs N B sc b rs
 | .whl q b,s=>v51 s λx ss=>mQ N B sc q x&&mSs N B sc b ss
 | .for_ t it b,s=>v52 s λtg iter ss=>mI N B sc it iter&&Bt it tg&&Ba iter&&mT N B sc t tg&&mSs N B sc b ss&&!(hat B)
 | .brk,s=>v53 s (A3)
def mSs(N B:List AI)(sc:AX):Css->List Ao->Bool
 | .nil,ss=>v56 ss (A3)
 | .cons s r,ss=>v57 ss λx xs=>mS N B sc s x&&mSs N B sc r xs
end
def JT(CX:CXT)(X:Cx)(f:L2.St->XK):Prop:=∀(d:List (A4×AT))(a:L2.St)(H:Hp)(s:A5)(e:A2)(b:A5),Inv X d a H s->CX X.stack H s (f a) e b->X.xe e b
theorem OJ{X:Cx}{a:L2.St->XK}:JT CX0 X a:=λ_ _ _ _ _ _ _ h=>h.elim
structure Rok(C:Rc)(B:List AI)(X:Cx)(sc:AX):Prop where
 hN:X.N=C.N
 nd:C.N.Nodup
 hK:X.K=C.K
 own:PassesOwn (AD X.prog X.w) X.A X.env X.xe
 calm:hat B=A7->X.calm=A3
 hu:X.A.units+64<Am
 gd:X.A.guards=A0 []
 loc:∀x,sc.names.lookup x=A0 .local->X.env.scope.names.lookup x=A0 .local
 cel:∀x,sc.names.lookup x=A0 .cell->X.env.scope.names.lookup x=A0 .cell/\X.fn x=A3
 fre:∀x,sc.names.lookup x=A0 .free->X.env.scope.names.lookup x=A0 .cell\/X.env.scope.names.lookup x=A0 .free
 glo:∀x,sc.names.lookup x=A0 .globalImplicit->X.env.kindOf x=A0 .globalImplicit
 fn:∀x sp,C.fs x=A0 sp->hat B=A7->(tld B=A3->EK x∉B)->∃f fd ps k CX,FnOk X.prog X.w X.K X.mg X.base CX k f fd ps sp/\Room k X.A/\X.mg x=A0 (.ref f)/\W.keepIn X.K (.ref f)=A3/\CW X.K fd ps []/\(CX=CX0\/CX=CX1 X.prog X.w X.mg/\EK x∈B)/\JT CX X C.xk
 blt:∀x∈B,X.mg x=A6
 mrk:X.mg "~"=A6/\X.mg "^"=A6/\X.mg "%"=A6
 cls:∀c Ca,C.cl c=A0 Ca->X.mg c=A0 (.ref Ca)/\W.nsIn X.K AQ c=A0 (A0 (.ref Ca))
 fx:tld B=A7->FnCx X
 nohat:tld B=A7->hat B=A7
 xr:tld B=A7->pct B=A7->∀nm Ca p_ σ H s e t dx,C.cl nm=A0 Ca->Inv X p_ σ H s->H e=A6->X.s₀.heap.get? e=A6->(∀p∈X.pn++p_,p.1≠e)->s.heap.get? e=A0 (exN Ca dx t)->C.xk σ (.str nm 0) dx H->X.xe (.ref e) s
 ini:tld B=A7->pct B=A7->∀nm f Ca,C.cl nm=A0 Ca->C.ini nm=A0 f->X9 X Ca f
 gt:∀nm D,C.gt nm=A0 D->NR X nm D
theorem Rok.hu1{C:Rc}{B:List AI}{X:Cx}{sc:AX}(R:Rok C B X sc):X.A.units+1<Am:=by have:=R.hu;omega
section
variable{C:Rc}{B:List AI}{X:Cx}{sc:AX}
set_option tactic.hygienic true in
theorem Rok.vis(R:Rok C B X sc){x:AI}(h:R3.vis sc x=A3):Vis X.env.scope x:=by
 unfold R3.vis at h;split at h;.rename_i e;exact .inl (R.loc x e)
 .rename_i e;exact .inr (.inl (R.cel x e).1)
 .rename_i e;rcases R.fre x e with q|q;.exact .inr (.inl q)
  .exact .inr (.inr q)
 .cases h
set_option tactic.hygienic true in
theorem Rok.locb(R:Rok C B X sc){x:AI}(h:R3.locb sc x=A3):Loc X.env.scope x/\(X.fn x=A3\/X.env.scope.names.lookup x=A0 .local):=by
 unfold R3.locb at h;split at h;.rename_i e;exact⟨.inl (R.loc x e),.inr (R.loc x e)⟩
 .rename_i e;exact⟨.inr (R.cel x e).1,.inl (R.cel x e).2⟩
 .cases h
theorem Rok.glb(R:Rok C B X sc){x:AI}(h:R3.glb sc x=A3):Gl X x:=R.glo x (of_decide_eq_true h)
theorem EL{N:List AI}{i:Nat}{x:AI}(h:Em N i x=A3):N[i]?=A0 x/\(x==("__debug__":AI))=A7/\(x==("__classdict__":AI))=A7:=by unfold Em at h;simp only[ai,decide_eq_true_eq,bp]at h;exact⟨h.1.1,h.1.2,h.2⟩
theorem Bk{e:A8}{es:List A8}{env:Env}(h:Bs e=A3):AY (e::es) env=(A7,Ac e env)::AY es env:=by cases e<;>first|rfl|cases h
theorem GJ{N B:List AI}{sc:AX}{env:Env}{pos:Pos}:∀{es:Ces}{a:List A8},mA N B sc es a=A3->(backTo pos (AY a env)).any (·.1)=A7
 | .nil,a,h=>by refine Es h λb g=>?_;clear h;subst b;revert g;intro h;rfl
 | .cons e r,a,h=>by refine GI h λx a b g=>?_;clear h;subst b;revert g;intro h;simp only[ai]at h;rw[Bk h.1.2];have d:=GJ (env:=env) (pos:=pos) (es:=r) h.2;exact d
theorem CT{e:A8}{env:Env}(h:Ba e=A3)(x:A2):foldedSetIterable e env x=pure x:=by cases e<;>first|rfl|cases h
theorem DU{op:CmpOp}{e:A8}(h:Ba e=A3):behindInMarks op e=A7:=by cases e<;>first|rfl|cases h
theorem OL{d b:CmpOp}{a e:A8}(h:Ba e=A3):lastMarks [d,b] [a,e]=A7:=by show behindInMarks b e=A7;exact DU h
theorem JU{e:A8}(h:Di e=A3):LA e:=by intro o i;cases e<;>first|rfl|cases h
theorem GK{e:A8}{f:AI}{env:Env}{w:Sem A2}(h:G9 e=A3):attributeBase e f env w=w:=by
 cases e with
 |Call g b d pos=>
  cases b with
  |nil=>cases h
  |cons a r=>cases g<;>rfl
 |_=>rfl
theorem YI{e:A8}{env:Env}(h:NZ e=A3)(w:Sem A2):isTrue e env w=(do let v<-w;standAt e.pos;holding [v] (truthy v)):=by
 cases e with
 |UnaryOp b a p=>cases b<;>first|rfl|cases h
 |_=>first|rfl|cases h
theorem OpR.imp{f:A2->A2->Sem A2}{r a:R2}(h:OpR X f r)(i:∀x y H Q,a x y H Q->r x y H Q):OpR X f a:=λe s b H x y v u Q I g d q=>h e s b H x y v u Q I g d (i _ _ _ _ q)
theorem BI.imp{f:A2}{r b:List V->Hp->VK->Prop}(h:BI X f r)(i:∀a H Q,b a H Q->r a H Q):BI X f b:=λg s d H a j Q I e q=>h g s d H a j Q I e (i _ _ _ q)
theorem ixM:IxR X (D3 X.K):=by
 intro b a f s h H x y v u Q I g i q e;refine TC b a f s h H x y v u Q I g i ?_ e;unfold D3 at q;split at q;.obtain⟨z,c,d,q⟩:=q;exact .inr (.inr ⟨_,_,c,rfl,rfl,z,d,q⟩)
 .rcases q with q|q;.exact .inl q
  .exact .inr (.inl q)
theorem YJ{CX:CXT}{k:Nat}{f:A4}{l:Ar}{ps:List AI}{sp:Sp}{a:List V}{i:List A2}{E:XK}{j:List (A4×AT)}{σ:L2.St}{H:Hp}{s:A5}{Q:VK}{b:List A2}{vs:List V}(F:FnOk X.prog X.w X.K X.mg X.base CX k f l ps sp)(n:Room k X.A)(m:CW X.K l ps i)(p:B5 a i)
  (q:∀e g,CX X.stack H s E e g->X.xe e g)(I:Inv X j σ H s)(r:B5 vs b)(h:sp (vs++a) H Q E):AA (AD X.prog X.w) X.A (call (.ref f) b) (EP X j σ Q) X.xe s:=by
 have r2:=r.append p;have t:(b++i).length=ps.length:=r2.length▸F.len _ _ _ _ h;have o:=F.run X.A X.stack s H ⟨b,[]⟩ (b++i) (vs++a) Q E n I.env0 (m s b I.kIn t) r2 h;refine wpAny_call (Ai o λr g d=>?_);match r,d with
 | .error e,d=>exact q e g d
 | .ok (.ret u),d=>exact I.after d
theorem YK{CX:CXT}{k:Nat}{f:A4}{n:Ar}{ps:List AI}{sp:Sp}{a:List V}{m:List A2}{l:L2.St->XK}{x:AI}{p pos:Pos}{e:A8}{es:List A8}{t:TA}(F:FnOk X.prog X.w X.K X.mg X.base CX k f n ps sp)(E:Room k X.A)(P:Gl X x)(M:X.mg x=A0 (.ref f))(y:W.keepIn X.K (.ref f)=A3)(D:CW X.K n ps m)(G:B5 a m)(J:JT CX X l)
  (o:PA X (e::es) t)(i:(x==("__debug__":AI))=A7)(O:AY (e::es) X.env=(A7,Ac e X.env)::AY es X.env)(d:(backTo pos (AY es X.env)).any (·.1)=A7):
  PE X (.Call (.Name x p) (e::es) [] pos) (λb H Q=>Fe sp a (l b) t b H Q):=by intro j s b H Q I h;refine cR (Kj I P M ?_ i);exact W.callWith_K (h₀:=X.base) I.ok.mod.kin y (thn (o pos j s b H _ I h) λR v⟨S,L,g,r,q⟩=>⟨g.kIn,YJ F E D G (λe N c=>J j b L v e N g c) g r q⟩) O d
theorem YL{a:Int}(h:a.natAbs<2^250*2^250*2^250):(AK.Int.intBits a:Int)<=750:=by
 rw[<-Nat.pow_add,<-Nat.pow_add]at h;unfold AK.Int.intBits;by_cases b:a.natAbs=0;.rw[if_pos (by simpa using b)];decide
 .rw[if_neg (by simpa using b)];have:=(Nat.log2_lt b).mpr h;omega
theorem YM{X:Cx}:OpR X (Ap .LShift) (rI NU λi j=>.int (i*2^j.toNat)):=opI λ_ _ _ _ _ _ _ a q=>lshift_int a.1 (by have:=YL a.2.2;have:=a.2.1;omega) q
theorem YN(op:Operator):OpR X (Ap op) (Br X.K op):=by
 cases op with
 |Add=>
  refine OpR.imp ((SC.or Sh).or (TX.or (T6.or VF))) λx y H Q q=>?_;unfold Br at q;dsimp only at q;split at q;.exact .inl (.inl ⟨_,_,rfl,rfl,q⟩)
  .exact .inl (.inr ⟨_,_,rfl,rfl,q.1,q.2⟩)
  .exact .inr q
 |Sub=>exact SE
 |Mult=>
  refine OpR.imp (Uj.or (UU.or TY)) λx y H Q q=>?_;unfold Br at q;dsimp only at q;split at q
  .refine .inl ⟨_,_,rfl,rfl,?_,q.2⟩;rcases q.1 with h|h|h;.exact Fd.ok (.inl h)
   .exact Fd.ok (.inr h)
   .exact h
  .exact .inr (.inl ⟨_,_,rfl,rfl,q.1,q.2.1,q.2.2.1,q.2.2.2⟩)
  .exact .inr (.inr q)
 |Mod=>exact SH
 |FloorDiv=>
  refine OpR.imp (SF.or Um) λx y H Q q=>?_;obtain⟨i,j,d,b,⟨e,a⟩,q⟩:=q;rcases a with a|a;.exact .inl ⟨i,j,d,b,⟨e,a⟩,q⟩
  .exact .inr ⟨i,j,d,b,⟨e,a⟩,q⟩
 |Pow=>exact SJ
 |LShift=>exact YM
 |RShift=>exact SK
 |MatMult=>exact λ_ _ _ _ _ _ _ _ _ _ _ _ h=>h.elim
 |Div=>exact λ_ _ _ _ _ _ _ _ _ _ _ _ h=>h.elim
 |BitOr=>exact λ_ _ _ _ _ _ _ _ _ _ _ _ h=>h.elim
 |BitXor=>exact λ_ _ _ _ _ _ _ _ _ _ _ _ h=>h.elim
 |BitAnd=>exact V3
theorem EM(a:X.A.units+64<Am)(op:CmpOp):OpR X (AU op) (B9 X.K op):=by
 cases op with
 |Eq=>
  refine OpR.imp (SN.or ((Uf ⋯).or (VD a))) λx y H Q q=>?_;unfold B9 at q;dsimp only at q;split at q;.exact .inr q
  .exact .inl q
 |NotEq=>
  refine OpR.imp (SQ.or ((Ug ⋯).or (VE a))) λx y H Q q=>?_;unfold B9 at q;dsimp only at q;split at q;.exact .inr q
  .exact .inl q
 |Lt=>exact SS
 |LtE=>exact SU
 |Gt=>
  refine OpR.imp (SV.or VC) λx y H Q q=>?_;unfold B9 at q;dsimp only at q;split at q;.exact .inr q
  .exact .inl q
 |GtE=>exact SW
 |Is=>
  refine OpR.imp (SX.or Uk) λx y H Q q=>?_;unfold B9 at q;dsimp only at q;split at q;.exact .inr q
  .exact .inl q
 |IsNot=>
  refine OpR.imp (SY.or Ul) λx y H Q q=>?_;unfold B9 at q;dsimp only at q;split at q;.exact .inr q
  .exact .inl q
 |In=>
  refine OpR.imp (V4.or TJ) λx y H Q q=>?_;unfold B9 at q;dsimp only at q;split at q;.exact .inl q
  .exact .inr q
 |NotIn=>
  refine OpR.imp (V5.or TK) λx y H Q q=>?_;unfold B9 at q;dsimp only at q;split at q;.exact .inl q
  .exact .inr q
theorem YO(a:X.A.units+64<Am)(k:Zf):OpR X (AU (NY k)) (rZf k):=by
 cases k with
 |eqD0=>exact XC a
theorem YQ:SlR X (rSl X.K):=by
 intro g s d H x v j a e b m Q I i h f l q;refine(TH.or (T5.or (Vr.or UX))) g s d H x v j a e b m Q I i h f l ?_;unfold rSl at q;split at q;.exact .inr (.inr (.inr ⟨_,rfl,q.1,q.2⟩))
 .rcases q with q|q|q;.exact .inl q
  .exact .inr (.inl q)
  .exact .inr (.inr (.inl q))
inductive BltIs:Bf->Prop where
 |fn(f:Bf)(id:String)(hv:Aq (El f)=A0 (.builtin id))(h:∀X:Cx,(X.calm=A3\/f=.isinstance)->BI X (.builtin id) (BZ X.K f)):BltIs f
 |ty(f:Bf)(T:String)(hv:Aq (El f)=A0 (.type T))(h:∀X:Cx,(X.calm=A3\/f=.isinstance)->BI X (.type T) (BZ X.K f)):BltIs f
theorem YR(f:Bf):BltIs f:=by
 cases f with
 |len=>exact .fn _ "len" ⋯ λX _=>Sm
 |abs=>exact .fn _ "abs" ⋯ λX _=>Si
 |int=>
  refine .ty _ "int" ⋯ λX _=>BI.imp US λb H Q q=>?_;unfold BZ at q;dsimp only at q;split at q;.exact .inl (.inl ⟨_,rfl,q⟩)
  .exact .inl (.inr ⟨_,rfl,q⟩)
  .obtain⟨n,e,d,q⟩:=q;exact .inr ⟨_,n,rfl,e,d,q⟩
  .exact q.elim
 |set=>exact .ty _ "set" ⋯ λX a=>have c:X.calm=A3:=a.resolve_right (λz=>by cases z);VX c
 |sortV=>exact .fn _ "sorted" ⋯ λX a=>have c:X.calm=A3:=a.resolve_right (λz=>by cases z);X4 c
 |listD=>exact .ty _ "list" ⋯ λX a=>have c:X.calm=A3:=a.resolve_right (λz=>by cases z);Wc c
 |lenD=>exact .fn _ "len" ⋯ λX _=>WZ
 |isinstance=>exact .fn _ "isinstance" ⋯ λX _=>BI.imp Ua λ_ _ _ q=>q.resolve_right id
 |any=>exact .fn _ "any" ⋯ λX a=>have c:X.calm=A3:=a.resolve_right (λz=>by cases z);Uc c
 |max=>
  refine .fn _ "max" ⋯ λX a=>have c:X.calm=A3:=a.resolve_right (λz=>by cases z);BI.imp ((Sj c).or (Ud c)) λb H Q q=>?_;unfold BZ at q;dsimp only at q;split at q;.exact .inl ⟨_,_,rfl,q⟩
  .exact .inr q
 |min=>
  refine .fn _ "min" ⋯ λX a=>have c:X.calm=A3:=a.resolve_right (λz=>by cases z);BI.imp ((Sk c).or (Ue c)) λb H Q q=>?_;unfold BZ at q;dsimp only at q;split at q;.exact .inl ⟨_,_,rfl,q⟩
  .exact .inr q
 |list=>exact .ty _ "list" ⋯ λX a=>have c:X.calm=A3:=a.resolve_right (λz=>by cases z);TN.or (Ui c)
 |range=>exact .ty _ "range" ⋯ λX _=>Uh
 |tuple=>exact .ty _ "tuple" ⋯ λX _=>TQ
structure MetIs(m:Mf)(id:String):Prop where
 pa:PlainAttrs (DS m)
 slot:Slot (DS m) (NX m) id
 ty:typeOf (.builtin id)=pure (.type "method_descriptor")
 h:∀X:Cx,MtR X id (DR X.K m)
theorem YS(m:Mf):∃id,MetIs m id:=by
 cases m with
 |append=>exact⟨_,F.plainAttrs_list,F.slot_list_append,F.type_list_append,λ_=>TW⟩
 |join=>exact⟨_,F.plainAttrs_str,F.slot_str_join,F.type_str_join,λ_=>UV⟩
end
theorem DV{N:List AI}{sc a:AX}{own:List Nat}(h:CK N sc a own=A3):a.kind=.function/\(∀x∈a.names,x.2=.local->a.names.lookup x.1=A0 .local)/\(∀n,(n,AW.cell)∈a.names->a.names.lookup n=A0 .cell)/\
  (∀n,(n,AW.free)∈a.names->sc.names.lookup n=A0 .cell\/sc.names.lookup n=A0 .free)/\∀(i:Nat)(x:AI),N[i]?=A0 x->(a.names.lookup x=A0 .local\/a.names.lookup x=A0 .cell)->i∈own:=by
 unfold CK at h;simp only[ai,decide_eq_true_eq,de,aX]at h;obtain⟨⟨m,d⟩,j⟩:=h;refine⟨m,λx f e=>?_,λn b=>?_,λn b=>?_,λi x e f=>?_⟩;.exact(d x f).1.1.resolve_left λq=>q e
 .exact(d _ b).1.2.resolve_left λq=>q rfl
 .rcases(d _ b).2 with(q|q)|q;.exact absurd rfl q
  .exact .inl q
  .exact .inr q
 .have:=j i (aI.mpr (aW.mp e).1);rw[e]at this;simp only[aX,ai,decide_eq_true_eq]at this;rcases this with⟨l,g⟩|q
  .rcases f with z|z;.exact absurd z l
   .exact absurd z g
  .exact q
theorem Rok.compSc{C:Rc}{B:List AI}{X:Cx}{sc a:AX}{own:List Nat}(R:Rok C B X sc)(h:CK C.N sc a own=A3):CompSc X a:=by
 obtain⟨e,b,g,f,i⟩:=DV h;refine⟨e,b,g,λn d=>?_⟩;rcases f n d with q|q;.exact .inl (R.cel n q).1
 .exact R.fre n q
theorem Et{B:List AI}:tld ("~"::B)=A3:=decide_eq_true (ay)
theorem Rok.comp{C:Rc}{B:List AI}{X:Cx}{sc a:AX}{own:List Nat}(R:Rok C B X sc)(j:hat B=A7)(h:CK C.N sc a own=A3)(p:A5)(s:Hp)(n:List A4):Rok C ("~"::B) (X.comp a p s n) a:=by
 refine⟨R.hN,R.nd,R.hK,PassesOwn.never,λ_=>R.calm j,R.hu,R.gd,λx e=>lookup_relabel_local e,λx e=>⟨?_,?_⟩,λx e=>?_,λx e=>?_,λx t e _ v=>?_,λx g=>?_,R.mrk,R.cls,(λz=>by rw[Et]at z;cases z),(λz=>by rw[Et]at z;cases z),(λz=>by rw[Et]at z;cases z),(λz=>by rw[Et]at z;cases z),R.gt⟩
 .obtain⟨l,b,d⟩:=IW (env:=X.env) e;rcases d with rfl|⟨q,_⟩;.exact b
  .cases q
 .exact W.cellsFrom_some _ _ _ (.inl e)
 .obtain⟨l,b,d⟩:=IW (env:=X.env) e;rcases d with rfl|⟨_,rfl⟩;.exact .inr b
  .exact .inl b
 .obtain⟨l,b,d⟩:=IW (env:=X.env) e;rcases d with rfl|⟨q,_⟩;.exact b
  .cases q
 .have i:EK x∉B:=λz=>v Et (ax _ z);obtain⟨f,D,E,k,G,w,r,A,m,y,o,_⟩:=R.fn x t e j λ_=>i;rcases o with rfl|⟨_,z⟩;.exact⟨f,D,E,k,CX0,w,r,A,m,y,.inl rfl,OJ⟩
  .exact absurd z i
 .rcases ap.mp g with rfl|g;.exact R.mrk.1
  .exact R.blt x g
mutual
theorem OM(C:Rc)(own:List Nat):∀(t:Ct),Bp own t=A3->∀(x:V)(σ:L2.St)(H:Hp)(Q Q':L2.St->Hp->Prop),tG C t x σ H Q->(∀σ2 H2,Q σ2 H2->Ext own σ σ2->Q' σ2 H2)->tG C t x σ H Q'
 | .name i,h,x,σ,H,Q,Q',q,m=>by obtain⟨q1,q2⟩:=UI (of_decide_eq_true (show decide (i∈own)=A3 from h)) x σ H Q q;exact m _ _ q1 q2
 | .tup ts,h,x,σ,H,Q,Q',q,m=>by replace h:En own ts=A3:=h;obtain⟨a,xs,e,hs,hl,q⟩:=q;exact⟨a,xs,e,hs,hl,ON C own ts h xs σ H Q Q' q m⟩
 | .sub _ _,h,_,_,_,_,_,_,_=>B3 h
theorem ON(C:Rc)(own:List Nat):∀(ts:Cts),En own ts=A3->∀(xs:List V)(σ:L2.St)(H:Hp)(Q Q':L2.St->Hp->Prop),tGs C ts xs σ H Q->(∀σ2 H2,Q σ2 H2->Ext own σ σ2->Q' σ2 H2)->tGs C ts xs σ H Q'
 | .nil,h,xs,σ,H,Q,Q',q,m=>by replace q:xs=[]/\Q σ H:=q;exact And.intro q.1 (m _ _ q.2 Ext.refl)
 | .cons t r,h,xs,σ,H,Q,Q',q,m=>by replace h:=Bz (show(Bp own t&&En own r)=A3 from h);replace q:∃v vr,xs=v::vr/\tG C t v σ H λσ' H'=>tGs C r vr σ' H' Q:=q;obtain⟨v,vr,e,q⟩:=q;show∃v vr,xs=v::vr/\tG C t v σ H λσ' H'=>tGs C r vr σ' H' Q';exact⟨v,vr,e,OM C own t h.1 v σ H _ _ q λσ2 H2 q2 x2=>ON C own r h.2 vr σ2 H2 _ _ q2 λσ3 H3 q3 x3=>m _ _ q3 (x2.trans x3)⟩
end
theorem Cb{C:Rc}{own:List Nat}{t:Ct}(h:Bp own t=A3):EA own (tG C t):=λx a H Q q=>OM C own t h x a H Q _ q λ_ _ q x=>⟨q,x⟩
theorem JV:∀{f:Cts}{a:List A8}{N B:List AI}{b:AX}{env:Env},mTs N B b f a=A3->(Al a env).length=G8 f/\(Al a env).findIdx? (·.1)=A6
 | .nil,a,N,B,b,env,h=>by refine Es h λd g=>?_;clear h;subst d;revert g;intro h;exact⟨rfl,rfl⟩
 | .cons t r,a,N,B,b,env,h=>by
  refine GI h λx i d g=>?_;clear h;subst d;revert g;intro h;simp only[ai]at h;obtain⟨m,l⟩:=JV (env:=env) h.2;have e:Al (x::i) env=(A7,assign x env)::Al i env:=by have j:=h.1.2;cases x<;>first|rfl|cases j
  rw[e];refine⟨by rw[bv,m];rfl,?_⟩;rw[List.findIdx?_cons,l];rfl
theorem YT{x:A8}{xs:List A8}{env:Env}(hs:Bs x=A3):(Al (x::xs) env).map (·.2)=assign x env::(Al xs env).map (·.2):=by cases x<;>first|rfl|cases hs
theorem YU{o i:A8}{pos:Pos}{env:Env}(h:Di i=A3)(v:A2):assign (.Subscript o i pos) env v=(do
   let a<-holding [v] (Ac o env)
   let b<-holding [v,a] (Ac i env)
   standAt pos
   holding [v,a,b] (setItem a b v)
   release [v,a,b] []):=by cases i<;>first|rfl|cases h
def GL(C:Rc)(X:Cx)(e:A8):Ce->Prop
 | .comp h own t l q r=>∃i d g j a pos,CompIn X e a i d g j (tG C t) (tQo C q) (tR C r (Ch (tE C h))) own/\PI X i d (tI C l)/\
   Ac e X.env=Ak e a X.env pos (newList []) A7 (Ac d X.env)/\(∀u,evalThenUse e X.env u=(do let _<-Ak e a X.env pos (newList []) A7 (Ac d X.env) (A0 u)))/\
   ∀y m f,∃b,swapsWith e (A0 (.Name y m)) f X.env=pure b
 |_=>True
theorem YV(P w it D env i h d f g a e b pos):(AD P w).den (.compLoop (.ListComp i [⟨h,d,f,0⟩,⟨g,a,e,0⟩] b pos) 0 it (.ref D) env)=(CH (.ListComp i [⟨h,d,f,0⟩,⟨g,a,e,0⟩] b pos) 0 h d f (C9 (.ListComp i [⟨h,d,f,0⟩,⟨g,a,e,0⟩] b pos) 0 a (.ref D) env) it (.ref D) env).onRaise (λx=>do noteFrame x env;Au x):=by show(compTurn _ _ _ _ _).onRaise _=_;congr 1;unfold CH C9;simp only[bind_assoc,pure_bind];rfl
def OO(f b:A8)(D:A4)(env:Env):Sem Unit:=do
 let a<-Ac f env
 let e<-holding [a] (Ac b env)
 match A2.ref D with
 | .ref d=>do
  standAt {f.pos with endLine:=b.pos.endLine,endCol:=b.pos.endCol}
  holding [a,e] (dictSet d a e)
 |_=>unsupported "internal:dictcomp"
theorem YW{N B:List AI}{sc:AX}{j:Ce}{own:List Nat}{t:Ct}{it:Ci}{q:Cqo}{e:A8}(h:mE N B sc (.comp j own t it q .nil) e=A3):∃n m d f b pos,e=.ListComp n [⟨m,d,f,0⟩] b pos/\
  hat B=A7/\CK N sc b own=A3/\mE N ("~"::B) b j n=A3/\Bp own t=A3/\mI N B sc it d=A3/\Bt it m=A3/\Ba d=A3/\mT N ("~"::B) b t m=A3/\mQo N ("~"::B) b q f=A3:=by refine Xz h λn m d f a b A v g=>?_;clear h;subst v;revert g;intro h;simp only[ai,decide_eq_true_eq,bp]at h;obtain⟨⟨⟨⟨⟨⟨⟨⟨⟨s,o⟩,l⟩,i⟩,rfl⟩,w⟩,r⟩,y⟩,p⟩,x⟩:=h;exact⟨_,_,_,_,_,_,rfl,s,o,l,i,w,r,y,p,x⟩
theorem YX{N B:List AI}{sc:AX}{p:Ce}{own:List Nat}{t:Ct}{it:Ci}{q:Cqo}{v:List Nat}{x:Ct}{m:Ci}{A:Cqo}{e:A8}(h:mE N B sc (.comp p own t it q (.cons v x m A .nil)) e=A3):
  ∃w s f n l d i b pos,e=.ListComp w [⟨s,f,n,0⟩,⟨l,d,i,0⟩] b pos/\
  hat B=A7/\CK N sc b own=A3/\mE N ("~"::B) b p w=A3/\Bp own t=A3/\mI N B sc it f=A3/\Bt it s=A3/\Ba f=A3/\mT N ("~"::B) b t s=A3/\mQo N ("~"::B) b q n=A3/\
  mI N ("~"::B) b m d=A3/\Bt m l=A3/\Ba d=A3/\mT N ("~"::B) b x l=A3/\mQo N ("~"::B) b A i=A3/\Bp v x=A3/\∀j∈v,j∈own:=by refine X_ h λw s f n a l d i T b S J g=>?_;clear h;subst J;revert g;intro h;simp only[ai,decide_eq_true_eq,de,bp]at h;obtain⟨⟨⟨⟨⟨⟨⟨⟨⟨⟨⟨⟨⟨⟨⟨⟨⟨I,y⟩,r⟩,o⟩,rfl⟩,K⟩,G⟩,M⟩,D⟩,L⟩,rfl⟩,Q⟩,C⟩,O⟩,P⟩,E⟩,H⟩,R⟩:=h;exact⟨_,_,_,_,_,_,_,_,_,rfl,I,y,r,o,K,G,M,D,L,Q,C,O,P,E,H,R⟩
theorem YY(P w it D env m l e h i a g j b f d pos):(AD P w).den (.compLoop (.ListComp m [⟨l,e,h,0⟩,⟨i,a,g,0⟩,⟨j,b,f,0⟩] d pos) 0 it (.ref D) env)=(CH (.ListComp m [⟨l,e,h,0⟩,⟨i,a,g,0⟩,⟨j,b,f,0⟩] d pos) 0 l e h (C9 (.ListComp m [⟨l,e,h,0⟩,⟨i,a,g,0⟩,⟨j,b,f,0⟩] d pos) 0 a (.ref D) env) it (.ref D) env).onRaise (λx=>do noteFrame x env;Au x):=by show(compTurn _ _ _ _ _).onRaise _=_;congr 1;unfold CH C9;simp only[bind_assoc,pure_bind];rfl
theorem YZ(P w it D env m l g i h a e j b f d pos):(AD P w).den (.compLoop (.ListComp m [⟨l,g,i,0⟩,⟨h,a,e,0⟩,⟨j,b,f,0⟩] d pos) 1 it (.ref D) env)=(CH (.ListComp m [⟨l,g,i,0⟩,⟨h,a,e,0⟩,⟨j,b,f,0⟩] d pos) 1 h a e (C9 (.ListComp m [⟨l,g,i,0⟩,⟨h,a,e,0⟩,⟨j,b,f,0⟩] d pos) 1 b (.ref D) env) it (.ref D) env).onRaise (λx=>do noteFrame x env;Au x):=by show(compTurn _ _ _ _ _).onRaise _=_;congr 1;unfold CH C9;simp only[bind_assoc,pure_bind];rfl
theorem Ya{N B:List AI}{sc:AX}{x:Ce}{own:List Nat}{t:Ct}{it:Ci}{q:Cqo}{A:List Nat}{E:Ct}{p:Ci}{J:Cqo}{v:List Nat}{H:Ct}{s:Ci}{I:Cqo}{e:A8}(h:mE N B sc (.comp x own t it q (.cons A E p J (.cons v H s I .nil))) e=A3):
  ∃D C i r o d l n f m b pos,e=.ListComp D [⟨C,i,r,0⟩,⟨o,d,l,0⟩,⟨n,f,m,0⟩] b pos/\
  hat B=A7/\CK N sc b own=A3/\mE N ("~"::B) b x D=A3/\Bp own t=A3/\mI N B sc it i=A3/\Bt it C=A3/\Ba i=A3/\mT N ("~"::B) b t C=A3/\mQo N ("~"::B) b q r=A3/\
  (mI N ("~"::B) b p d=A3/\Bt p o=A3/\Ba d=A3/\mT N ("~"::B) b E o=A3/\mQo N ("~"::B) b J l=A3/\Bp A E=A3/\∀j∈A,j∈own)/\
  mI N ("~"::B) b s f=A3/\Bt s n=A3/\Ba f=A3/\mT N ("~"::B) b H n=A3/\mQo N ("~"::B) b I m=A3/\Bp v H=A3/\∀j∈v,j∈A:=by refine Y0 h λD C i r a o d l a2 n f m a3 b w1 Z g=>?_;clear h;subst Z;revert g;intro h;simp only[ai,decide_eq_true_eq,de,bp]at h;obtain⟨⟨⟨⟨⟨⟨⟨⟨⟨⟨⟨⟨⟨⟨⟨⟨⟨⟨⟨⟨⟨⟨⟨⟨⟨T,G⟩,y⟩,w⟩,rfl⟩,h1⟩,P⟩,h3⟩,L⟩,h5⟩,rfl⟩,g1⟩,K⟩,g3⟩,g4⟩,M⟩,R⟩,U⟩,rfl⟩,Y⟩,k2⟩,S⟩,O⟩,Q⟩,X⟩,k7⟩:=h;exact⟨_,_,_,_,_,_,_,_,_,_,_,_,rfl,T,G,y,w,h1,P,h3,L,h5,⟨g1,K,g3,g4,M,R,U⟩,Y,k2,S,O,Q,X,k7⟩
theorem Yb{N B:List AI}{sc:AX}{i:Ce}{own:List Nat}{t:Ct}{it:Ci}{q:Cqo}{m:List Nat}{o:Ct}{a:Ci}{p:Cqo}{f:List Nat}{s:Ct}{b:Ci}{j:Cqo}{g:List Nat}{r:Ct}{d:Ci}{n:Cqo}{l:Cc}{e:A8}(h:mE N B sc (.comp i own t it q (.cons m o a p (.cons f s b j (.cons g r d n l)))) e=A3):False:=by exact B3 h
set_option maxHeartbeats 4000000
theorem Yc(P w it D env i h d f g a e b pos):(AD P w).den (.compLoop (.SetComp i [⟨h,d,f,0⟩,⟨g,a,e,0⟩] b pos) 0 it (.ref D) env)=(CH (.SetComp i [⟨h,d,f,0⟩,⟨g,a,e,0⟩] b pos) 0 h d f (C9 (.SetComp i [⟨h,d,f,0⟩,⟨g,a,e,0⟩] b pos) 0 a (.ref D) env) it (.ref D) env).onRaise (λx=>do noteFrame x env;Au x):=by show(compTurn _ _ _ _ _).onRaise _=_;congr 1;unfold CH C9;simp only[bind_assoc,pure_bind];rfl
mutual
theorem sE0{C:Rc}:∀(c:Ce){B:List AI}{X:Cx}{sc:AX}{e:A8},Rok C B X sc->mE C.N B sc c e=A3->PE X e (tE C c)/\GL C X e c
 | .var i,B,X,sc,e,R,h=>by refine⟨?_,trivial⟩;refine GF h λx w1 e0 g=>?_;clear h;subst e0;revert g;intro h;simp only[ai]at h;obtain⟨h1,h2,h3⟩:=EL h.1;rw[show tE C (.var i)=(He i)from rfl];exact RT (by rw[R.hN];exact h1) (R.vis h.2) h2 h3
 | .int n,B,X,sc,e,R,h=>by refine⟨?_,trivial⟩;refine Xn h λm w1 w2 e0 g=>?_;clear h;subst e0;revert g;intro h;cases of_decide_eq_true h;rw[show tE C (.int n)=(tC (.int n))from rfl];exact RU
 | .bl n,B,X,sc,e,R,h=>by refine⟨?_,trivial⟩;refine Xo h λc w1 w2 e0 g=>?_;clear h;subst e0;revert g;intro h;cases of_decide_eq_true h;rw[show tE C (.bl n)=(tC (.bl n))from rfl];exact RV
 | .non,B,X,sc,e,R,h=>by refine⟨?_,trivial⟩;refine Xp h λw1 w2 e0 g=>?_;clear h;subst e0;revert g;intro h;rw[show tE C .non=(tC .non)from rfl];exact RW
 | .str n,B,X,sc,e,R,h=>by refine⟨?_,trivial⟩;refine Xq h λy w1 w2 e0 g=>?_;clear h;subst e0;revert g;intro h;cases of_decide_eq_true h;rw[show tE C (.str n)=(tC (.str n))from rfl];exact RX
 | .ty n,B,X,sc,e,R,h=>by
  refine⟨?_,trivial⟩;refine GF h λx w1 e0 g=>?_;clear h;subst e0;revert g;intro h;simp only[ai,decide_eq_true_eq]at h;obtain⟨⟨⟨rfl,h2⟩,h3⟩,h4⟩:=h;rw[show tE C (.ty n)=(tC (.ty n))from rfl];have hb:Aq (AI.ofString n)=A0 (.type n)/\AI.ofString n≠"__name__"/\(AI.ofString n==("__debug__":AI))=A7:=by simp only[Na,bj,ap,av,or_false]at h3;rcases h3 with rfl|rfl|rfl|rfl|rfl|rfl|rfl<;>decide+kernel
  exact RY (v:=.ty n) (R.glb h2) (R.blt _ h4) hb.1 rfl hb.2.1 hb.2.2
 | .bin op a b,B,X,sc,e,R,h=>by refine⟨?_,trivial⟩;refine Xr h λea op' eb w1 e0 g=>?_;clear h;subst e0;revert g;intro h;simp only[ai,decide_eq_true_eq]at h;obtain⟨⟨rfl,h1⟩,h2⟩:=h;rw[show tE C (.bin op a b)=(tOp (Br C.K op) (tE C a) (tE C b))from rfl];rw[<-R.hK];exact S7 (YN _) ((sE0 a R h1).1) ((sE0 b R h2).1)
 | .neg a,B,X,sc,e,R,h=>by refine⟨?_,trivial⟩;refine Xs h λea w1 e0 g=>?_;clear h;subst e0;revert g;intro h;rw[show tE C (.neg a)=(tUn (rU λi=>.int (-i)) (tE C a))from rfl];exact S8 SM ((sE0 a R h).1)
 | .not a,B,X,sc,e,R,h=>by refine⟨?_,trivial⟩;refine OD h λea w1 e0 g=>?_;clear h;subst e0;revert g;intro h;rw[show tE C (.not a)=(Hg (tE C a))from rfl];exact Re ((sE0 a R h).1)
 | .and a b,B,X,sc,e,R,h=>by
  refine⟨?_,trivial⟩;replace h:=Nb h;rcases h with⟨x,y,pos,rfl,h⟩|⟨x,y,z,r,pos,rfl,h⟩;.simp only[ai]at h;rw[show tE C (.and a b)=(FZ (tE C a) (tE C b))from rfl];exact Kq ((sE0 a R h.1).1) (Kp ((sE0 b R h.2).1))
  .simp only[ai]at h;rw[show tE C (.and a b)=(FZ (tE C a) (tE C b))from rfl];exact Kq ((sE0 a R h.1).1) ((sE0 b R h.2).1)
 | .or a b,B,X,sc,e,R,h=>by
  refine⟨?_,trivial⟩;replace h:=Nc h;rcases h with⟨x,y,pos,rfl,h⟩|⟨x,y,z,r,pos,rfl,h⟩;.simp only[ai]at h;rw[show tE C (.or a b)=(Fa (tE C a) (tE C b))from rfl];exact Kr ((sE0 a R h.1).1) (Kp ((sE0 b R h.2).1))
  .simp only[ai]at h;rw[show tE C (.or a b)=(Fa (tE C a) (tE C b))from rfl];exact Kr ((sE0 a R h.1).1) ((sE0 b R h.2).1)
 | .cmp op a b,B,X,sc,e,R,h=>by refine⟨?_,trivial⟩;refine Er h λea op' eb w1 e0 g=>?_;clear h;subst e0;revert g;intro h;simp only[ai,decide_eq_true_eq]at h;obtain⟨⟨⟨rfl,h1⟩,h2⟩,h3⟩:=h;rw[show tE C (.cmp op a b)=(tOp (B9 C.K op) (tE C a) (tE C b))from rfl];rw[<-R.hK];exact SZ (EM R.hu _) ((sE0 a R h1).1) ((sE0 b R h2).1) (DU h3)
 | .chn op1 op2 a b c,B,X,sc,e,R,h=>by refine⟨?_,trivial⟩;refine OE h λea o1 o2 eb ec w1 e0 g=>?_;clear h;subst e0;revert g;intro h;simp only[ai,decide_eq_true_eq]at h;obtain⟨⟨⟨⟨⟨rfl,rfl⟩,h1⟩,h2⟩,h3⟩,h4⟩:=h;rw[show tE C (.chn op1 op2 a b c)=(DI (B9 C.K op1) (B9 C.K op2) (tE C a) (tE C b) (tE C c))from rfl];rw[<-R.hK];exact Sa (EM R.hu _) (EM R.hu _) ((sE0 a R h1).1) ((sE0 b R h2).1) ((sE0 c R h3).1) (OL h4)
 | .ife q a b,B,X,sc,e,R,h=>by refine⟨?_,trivial⟩;refine Xt h λeq ea eb w1 e0 g=>?_;clear h;subst e0;revert g;intro h;simp only[ai]at h;rw[show tE C (.ife q a b)=(tIf (tQ C q) (tE C a) (tE C b))from rfl];exact Rf (sQ q R h.1.1).1 ((sE0 a R h.1.2).1) ((sE0 b R h.2).1)
 | .tup es,B,X,sc,e,R,h=>by refine⟨?_,trivial⟩;refine OF h λxs w1 w2 e0 g=>?_;clear h;subst e0;revert g;intro h;rw[show tE C (.tup es)=(IA (tA C es))from rfl];exact Ss (sA es R h)
 | .lst es,B,X,sc,e,R,h=>by refine⟨?_,trivial⟩;refine Xu h λxs w1 e0 g=>?_;clear h;subst e0;revert g;intro h;rw[show tE C (.lst es)=(IB (tA C es))from rfl];exact Su (sA es R h)
 | .idx a b,B,X,sc,e,R,h=>by refine⟨?_,trivial⟩;refine GG h λea eb w1 e0 g=>?_;clear h;subst e0;revert g;intro h;simp only[ai]at h;rw[show tE C (.idx a b)=(tOp (D3 C.K) (tE C a) (tE C b))from rfl];rw[<-R.hK];exact T7 ixM ((sE0 a R h.1.1).1) ((sE0 b R h.1.2).1) (JU h.2)
 | .cut a lo hi,B,X,sc,e,R,h=>by refine⟨?_,trivial⟩;refine Xv h λea l h_ w1 w2 e0 g=>?_;clear h;subst e0;revert g;intro h;simp only[ai]at h;rw[show tE C (.cut a lo hi)=(tSl (rSl C.K) (tE C a) (tO C lo) (tO C hi))from rfl];rw[<-R.hK];exact T4 YQ ((sE0 a R h.1.1).1) (sO lo R h.1.2) (sO hi R h.2)
 | .call f es,B,X,sc,e,R,h=>by
  refine⟨?_,trivial⟩;refine OG h λx w1 e r pos e0 g=>?_;clear h;subst e0;revert g;intro h;simp only[ai,decide_eq_true_eq,bp]at h;obtain⟨⟨⟨⟨⟨rfl,h1⟩,h2⟩,h3⟩,hh⟩,h6⟩:=h;rw[show tE C (.call x es)=(λσ H Q=>match C.fs x with|A0 sp=>Fe sp [] (C.xk σ) (tA C es) σ H Q|A6=>False)from rfl];have ht:tld B=A3->EK x∉B:=λt m=>by rw[t,decide_eq_true m]at h6;cases h6
  cases hf:C.fs x with
  |none=>exact λ_ _ _ _ _ _ q=>q.elim
  |some sp=>
   obtain⟨f,fd,ps,k,CX,F,hr,hm,hk,hb,_,hx⟩:=R.fn x sp hf hh ht;have hs:Bs e=A3:=by
    cases es with
    |nil=>exact B3 h2
    |cons c r=>exact(Bz (Bz h2).1).2
   have hp:(backTo pos (AY r X.env)).any (·.1)=A7:=by have q:=GJ (env:=X.env) (pos:=pos) h2;rw[Bk hs]at q;exact q
   exact YK F hr (R.glb h1) hm hk hb .nil hx (sA es R h2) h3 (Bk hs) hp
 | .blt f es,B,X,sc,e,R,h=>by
  refine⟨?_,trivial⟩;refine OG h λx w1 e r pos e0 g=>?_;clear h;subst e0;revert g;intro h;simp only[ai,decide_eq_true_eq,aX,bp]at h;obtain⟨⟨⟨⟨rfl,h1⟩,h2⟩,h4⟩,h5⟩:=h;have hcc:X.calm=A3\/f=.isinstance:=h5.imp R.calm id;rw[show tE C (.blt f es)=(tCB (BZ C.K f) (tA C es))from rfl];have hs:Bs e=A3:=by
   cases es with
   |nil=>exact B3 h2
   |cons c r=>exact(Bz (Bz h2).1).2
  have hp:(backTo pos (AY r X.env)).any (·.1)=A7:=by have q:=GJ (env:=X.env) (pos:=pos) h2;rw[Bk hs]at q;exact q
  rw[<-R.hK];have hn:El f≠"__name__"/\(El f==("__debug__":AI))=A7:=by cases f<;>decide+kernel
  cases YR f with
  |fn id hv hc=>exact Sz (hc X hcc) (R.glb h1) (R.blt _ h4) hv (sA es R h2) hn.1 hn.2 (Bk hs) hp
  |ty T hv hc=>exact L7 (hc X hcc) (R.glb h1) (R.blt _ h4) hv (sA es R h2) hn.1 hn.2 (Bk hs) hp
 | .dnew,B,X,sc,e,R,h=>by refine⟨?_,trivial⟩;refine OH h λw1 e0 g=>?_;clear h;subst e0;revert g;intro h;rw[show tE C .dnew=(Im)from rfl];exact Uy
 | .dnt,B,X,sc,e,R,h=>by refine⟨?_,trivial⟩;refine OH h λw1 e0 g=>?_;clear h;subst e0;revert g;intro h;rw[show tE C .dnt=(Io)from rfl];exact Uz
 | .dix a b,B,X,sc,e,R,h=>by refine⟨?_,trivial⟩;refine GG h λea eb w1 e0 g=>?_;clear h;subst e0;revert g;intro h;simp only[ai]at h;rw[show tE C (.dix a b)=(Il (tE C a) (tE C b))from rfl];exact Uv R.hu1 (sE0 a R h.1.1).1 (sE0 b R h.1.2).1 (JU h.2)
 | .din neg a b,B,X,sc,e,R,h=>by
  refine⟨?_,trivial⟩;refine Er h λea op' eb w1 e0 g=>?_;clear h;subst e0;revert g;intro h;simp only[ai,decide_eq_true_eq]at h;obtain⟨⟨⟨rfl,h1⟩,h2⟩,h3⟩:=h;rw[show tE C (.din neg a b)=(G7 neg (tE C a) (tE C b))from rfl];cases neg with
  |true=>exact Kl (MX R.hu1 (sE0 a R h1).1 (sE0 b R h2).1) (DU h3)
  |false=>exact Kl (MW R.hu1 (sE0 a R h1).1 (sE0 b R h2).1) (DU h3)
 | .dgt a b,B,X,sc,e,R,h=>by
  refine⟨?_,trivial⟩;refine OI h λeo nm apos y pos e0 g=>?_;clear h;subst e0;revert g;intro h;simp only[ai,decide_eq_true_eq]at h;obtain⟨⟨⟨⟨⟨rfl,h1⟩,h2⟩,h3⟩,h4⟩,h5⟩:=h;rw[show tE C (.dgt a b)=(Iy (tE C a) (tE C b))from rfl];have e2:=Bk (env:=X.env) (es:=[]) h5;refine Vo R.hu1 (sE0 a R h1).1 (sE0 b R h4).1 ⟨GK h2,?_,h3,?_⟩;.rw[e2];rfl
  .rw[e2];rfl
 | .met m o es,B,X,sc,e,R,h=>by
  refine⟨?_,trivial⟩;refine Xw h λeo nm apos args pos e0 g=>?_;clear h;subst e0;revert g;intro h;simp only[ai,decide_eq_true_eq]at h;obtain⟨⟨⟨⟨⟨rfl,h1⟩,h2⟩,h3⟩,h4⟩,h5⟩:=h;rw[show tE C (.met m o es)=(tBM C.K (DS m) (DR C.K m) (tE C o) (tA C es))from rfl];rw[<-R.hK];obtain⟨id,M⟩:=YS m;cases args with
  |nil=>
   cases es with
   |cons c r=>exact B3 h4
   |nil=>exact TU M.pa M.slot M.ty (M.h X) ((sE0 o R h1).1) (GK h2) h3
  |cons a r=>
   have hs:Bs a=A3:=by
    cases es with
    |nil=>exact B3 h4
    |cons c r=>exact(Bz (Bz h4).1).2
   have hq:=GJ (env:=X.env) (pos:=pos) h4;have hp:(backTo pos (AY r X.env)).any (·.1)=A7:=by rw[Bk hs]at hq;exact hq
   refine TV M.pa M.slot M.ty (M.h X) ((sE0 o R h1).1) (sA es R h4) (GK h2) ?_ h3 (Bk hs) hp;have e1:(backTo pos (AY (a::r) X.env)).all (λx=>!x.1)=A3:=by rw[de];intro x hx;rw[List.any_eq_false]at hq;simpa using hq x hx
   rw[e1];show(A3&&A3&&decide ((a::r).length+0+0<30))=A3;simp only[Bool.true_and,decide_eq_true_eq];omega
 | .cal f a,B,X,sc,e,R,h=>by
  refine⟨?_,trivial⟩;refine GH h λx w1 y w2 e0 g=>?_;clear h;subst e0;revert g;intro h;simp only[ai,decide_eq_true_eq,bp]at h;obtain⟨⟨⟨⟨⟨rfl,h1⟩,h2⟩,h3⟩,h4⟩,h5⟩:=h;rw[show tE C (.cal f a)=(tCB (rYf f) (Bw (tE C a) C4))from rfl];have e2:=Bk (env:=X.env) (es:=[]) h4;cases f with
  |dct=>exact L7 (WR (R.calm h5) R.hu) (R.glb h1) (R.blt _ h2) ⋯ (Da (sE0 a R h3).1 E6 e2) (by decide) (by decide) e2
 | .gtx nm a,B,X,sc,e,R,h=>by
  refine⟨?_,trivial⟩;refine GG h λea eb pos e0 g=>?_;clear h;subst e0;refine GF g λy w1 e1 g1=>?_;clear g;subst e1;revert g1;intro h;simp only[ai,decide_eq_true_eq,bp]at h;obtain⟨⟨⟨⟨rfl,h1⟩,h2⟩,h3⟩,h4⟩:=h;rw[show tE C (.gtx y a)=(match C.gt y with|A0 D=>G5 D (tE C a)|A6=>λ_ _ _=>False)from rfl];cases e:C.gt y with
  |none=>exact λ_ _ _ _ _ _ z=>z.elim
  |some D=>exact XI (R.glb h1) h2 (R.gt y D e) (sE0 a R h3).1 (JU h4)
 | .upd a b,B,X,sc,e,R,h=>by
  refine⟨?_,trivial⟩;refine OI h λeo nm apos y pos e0 g=>?_;clear h;subst e0;revert g;intro h;simp only[ai,decide_eq_true_eq,bp]at h;obtain⟨⟨⟨⟨⟨⟨rfl,h1⟩,h2⟩,h3⟩,h4⟩,h5⟩,h6⟩:=h;rw[show tE C (.upd a b)=(JI (tE C a) (tE C b))from rfl];have e2:=Bk (env:=X.env) (es:=[]) h5;refine XH (R.calm h6) R.hu (sE0 a R h1).1 (sE0 b R h4).1 ⟨GK h2,?_,h3,?_⟩;.rw[e2];rfl
  .rw[e2];rfl
 | .stl a,B,X,sc,e,R,h=>by refine⟨?_,trivial⟩;refine Xx h λn1 w1 n2 w2 y w3 w4 e0 g=>?_;clear h;subst e0;revert g;intro h;simp only[ai,decide_eq_true_eq,bp]at h;obtain⟨⟨⟨⟨⟨⟨⟨⟨rfl,rfl⟩,h1⟩,h2⟩,h3⟩,h4⟩,h5⟩,h6⟩,h7⟩:=h;rw[show tE C (.stl a)=(JH C.K (tE C a))from rfl];rw[<-R.hK];exact X3 R.hu (R.calm h7) (R.glb h1) (R.blt _ h2) (R.glb h3) (R.blt _ h4) (sE0 a R h5).1 (Bk (es:=[]) h6)
 | .ssa elt own t it q,B,X,sc,e,R,h=>by
  refine⟨?_,trivial⟩;refine Xy h λn1 w1 ee tg iter ifs a scope w2 w3 e0 g=>?_;clear h;subst e0;revert g;intro h;simp only[ai,decide_eq_true_eq,bp]at h;obtain⟨⟨⟨⟨⟨⟨⟨⟨⟨⟨⟨⟨rfl,g1⟩,g2⟩,hh⟩,hsc⟩,helt⟩,hown⟩,rfl⟩,h1⟩,h2⟩,h3⟩,h4⟩,h5⟩:=h;rw[show tE C (.ssa elt own t it q)=(JG own (tI C it) (tG C t) (tQo C q) (D0 (tE C elt)))from rfl];refine Wz (nx:=λD env=>do let v<-Ac ee env;standAt ee.pos;let _<-call (.builtin "set.add") [.ref D,v]) (R.glb g1) (R.blt _ g2) ⟨R.compSc hsc,?_,⟨[],rfl⟩,CT h3,R.calm hh,λ_ _ _=>⟨rfl,rfl⟩,λ_ _ _ _=>⟨rfl,rfl⟩,λ_ _ _ _ _=>rfl,λ_ _ _ _ _=>rfl,Cb hown,?_⟩ (sI it R h1 h2) rfl rfl;.rw[R.hN];exact(DV hsc).2.2.2.2
  .intro s0 H0 ex D;have R':=R.comp hh hsc s0 H0 ex;exact⟨sG t R' h4,sQo q R' h5,[],by simp,Vq rfl (sE0 elt R' helt).1⟩
 | .comp elt own t it q .nil,B,X,sc,e,R,h=>by
  have D:GL C X e (.comp elt own t it q .nil):=by
   obtain⟨ee,tg,iter,ifs,scope,pos,rfl,hh,hsc,helt,hown,h1,h2,h3,h4,h5⟩:=YW h;refine⟨tg,iter,ifs,λD env=>do let _<-call (.builtin "list.append") [.ref D,<-Ac ee env],scope,_,⟨R.compSc hsc,?_,⟨[],rfl⟩,CT h3,R.calm hh,λ_ _ _=>⟨rfl,rfl⟩,λ_ _ _ _=>⟨rfl,rfl⟩,λ_ _ _ _ _=>rfl,λ_ _ _ _ _=>rfl,Cb hown,?_⟩,sI it R h1 h2,rfl,λ_=>rfl,λ_ _ _=>⟨_,rfl⟩⟩;.rw[R.hN];exact(DV hsc).2.2.2.2
   .intro s0 H0 ex D;have R':=R.comp hh hsc s0 H0 ex;refine⟨sG t R' h4,sQo q R' h5,[],by simp,?_⟩;exact Ia rfl (sE0 elt R' helt).1
  refine⟨?_,D⟩;obtain⟨tg,iter,ifs,nx,scope,pos,D,hi,he,_⟩:=D;rw[show tE C (.comp elt own t it q .nil)=(De own (tI C it) (tG C t) (tQo C q) (tR C .nil (Ch (tE C elt))))from rfl];exact Ic D hi he
 | .comp elt own t it q (.cons ws t2 it2 q2 .nil),B,X,sc,e,R,h=>by
  have D:GL C X e (.comp elt own t it q (.cons ws t2 it2 q2 .nil)):=by
   obtain⟨ee,tg,iter,ifs,tg2,iter2,ifs2,scope,pos,rfl,hh,hsc,helt,hown,h1,h2,h3,h4,h5,g1,g2,g3,g4,g5,g6,g7⟩:=YX h;refine⟨tg,iter,ifs,λD env=>C9 (.ListComp ee [⟨tg,iter,ifs,0⟩,⟨tg2,iter2,ifs2,0⟩] scope pos) 0 iter2 (.ref D) env,scope,_,⟨R.compSc hsc,?_,⟨_,rfl⟩,CT h3,R.calm hh,λ_ _ _=>⟨rfl,rfl⟩,λ_ _ _ _=>⟨rfl,rfl⟩,λ_ _ _ _ _=>YV _ _ _ _ _ _ _ _ _ _ _ _ _ _,λ_ _ _ _ _=>rfl,Cb hown,?_⟩,sI it R h1 h2,rfl,λ_=>rfl,λ_ _ _=>⟨_,rfl⟩⟩;.rw[R.hN];exact(DV hsc).2.2.2.2
   .intro s0 H0 ex D;have R':=R.comp hh hsc s0 H0 ex;refine⟨sG t R' h4,sQo q R' h5,ws,g7,?_⟩;exact Fg (nx:=do let _<-call (.builtin "list.append") [.ref D,<-Ac ee (X.comp scope s0 H0 ex).env]) rfl (R.calm hh) (λ_=>rfl) (λ_=>rfl) (λ_=>rfl) (λ_=>rfl) (λ_=>rfl) (λ_=>rfl) ⟨_,rfl,rfl⟩ (CT g3) (sI it2 R' g1 g2) (sG t2 R' g4) (Cb g6) (sQo q2 R' g5) (Ia rfl (sE0 elt R' helt).1) (by simp) Eg
  refine⟨?_,D⟩;obtain⟨tg,iter,ifs,nx,scope,pos,D,hi,he,_⟩:=D;rw[show tE C (.comp elt own t it q (.cons ws t2 it2 q2 .nil))=(De own (tI C it) (tG C t) (tQo C q) (tR C (.cons ws t2 it2 q2 .nil) (Ch (tE C elt))))from rfl];exact Ic D hi he
 | .comp elt own t it q (.cons ws t2 it2 q2 (.cons ws3 t3 it3 q3 .nil)),B,X,sc,e,R,h=>by
  have D:GL C X e (.comp elt own t it q (.cons ws t2 it2 q2 (.cons ws3 t3 it3 q3 .nil))):=by
   obtain⟨ee,tg,iter,ifs,tg2,iter2,ifs2,tg3,iter3,ifs3,scope,pos,rfl,hh,hsc,helt,hown,h1,h2,h3,h4,h5,⟨g1,g2,g3,g4,g5,g6,g7⟩,k1,k2,k3,k4,k5,k6,k7⟩:=Ya h;refine⟨tg,iter,ifs,λD env=>C9 (.ListComp ee [⟨tg,iter,ifs,0⟩,⟨tg2,iter2,ifs2,0⟩,⟨tg3,iter3,ifs3,0⟩] scope pos) 0 iter2 (.ref D) env,scope,_,⟨R.compSc hsc,?_,⟨_,rfl⟩,CT h3,R.calm hh,λ_ _ _=>⟨rfl,rfl⟩,λ_ _ _ _=>⟨rfl,rfl⟩,λ_ _ _ _ _=>YY _ _ _ _ _ _ _ _ _ _ _ _ _ _ _ _ _,λ_ _ _ _ _=>rfl,Cb hown,?_⟩,sI it R h1 h2,rfl,λ_=>rfl,λ_ _ _=>⟨_,rfl⟩⟩;.rw[R.hN];exact(DV hsc).2.2.2.2
   .intro s0 H0 ex D;have R':=R.comp hh hsc s0 H0 ex;refine⟨sG t R' h4,sQo q R' h5,ws,g7,?_⟩;exact Fg (d:=0) (nx:=C9 (.ListComp ee [⟨tg,iter,ifs,0⟩,⟨tg2,iter2,ifs2,0⟩,⟨tg3,iter3,ifs3,0⟩] scope pos) 1 iter3 (.ref D) (X.comp scope s0 H0 ex).env) rfl (R.calm hh) (λ_=>rfl) (λ_=>rfl) (λ_=>rfl) (λ_=>rfl) (λ_=>YZ _ _ _ _ _ _ _ _ _ _ _ _ _ _ _ _ _) (λ_=>rfl) ⟨_,rfl,rfl⟩ (CT g3) (sI it2 R' g1 g2) (sG t2 R' g4) (Cb g6) (sQo q2 R' g5)
     (Fg (d:=1) (nx:=do let _<-call (.builtin "list.append") [.ref D,<-Ac ee (X.comp scope s0 H0 ex).env]) rfl (R.calm hh) (λ_=>rfl) (λ_=>rfl) (λ_=>rfl) (λ_=>rfl) (λ_=>rfl) (λ_=>rfl) ⟨_,rfl,rfl⟩ (CT k3) (sI it3 R' k1 k2) (sG t3 R' k4) (Cb k6) (sQo q3 R' k5) (Ia rfl (sE0 elt R' helt).1) (by simp) Eg) k7 Eg
  refine⟨?_,D⟩;obtain⟨tg,iter,ifs,nx,scope,pos,D,hi,he,_⟩:=D;rw[show tE C (.comp elt own t it q (.cons ws t2 it2 q2 (.cons ws3 t3 it3 q3 .nil)))=(De own (tI C it) (tG C t) (tQo C q) (tR C (.cons ws t2 it2 q2 (.cons ws3 t3 it3 q3 .nil)) (Ch (tE C elt))))from rfl];exact Ic D hi he
 | .comp elt own t it q (.cons ws t2 it2 q2 (.cons _ _ _ _ (.cons _ _ _ _ _))),B,X,sc,e,R,h=>(Yb h).elim
termination_by structural c=>c
theorem sA{C:Rc}:∀(es:Ces){B:List AI}{X:Cx}{sc:AX}{xs:List A8},Rok C B X sc->mA C.N B sc es xs=A3->PA X xs (tA C es)
 | .nil,B,X,sc,xs,R,h=>by refine Es h λe0 g=>?_;clear h;subst e0;revert g;intro h;rw[show tA C .nil=(C4)from rfl];exact E6
 | .cons e r,B,X,sc,xs,R,h=>by refine GI h λx xs e0 g=>?_;clear h;subst e0;revert g;intro h;simp only[ai]at h;rw[show tA C (.cons e r)=(Bw (tE C e) (tA C r))from rfl];exact Da ((sE0 e R h.1.1).1) (sA r R h.2) (Bk h.1.2)
termination_by structural c=>c
theorem sQ{C:Rc}:∀(q:Cq){B:List AI}{X:Cx}{sc:AX}{e:A8},Rok C B X sc->mQ C.N B sc q e=A3->PT X e (tQ C q)/\((∃op vs pos,e=.BoolOp op vs pos)->PW X e (tQ C q))
 | .val c,B,X,sc,e,R,h=>by
  replace h:=Bz h;refine⟨?_,λ⟨op,vs,pos,z⟩=>?_⟩;.rw[show tQ C (.val c)=(λσ H Q=>tE C c σ H λx H'=>∃k,Eb C.K x H' k/\Q k H')from rfl];rw[<-R.hK];exact Sf (sE0 c R h.1).1 (YI h.2)
  .subst z;exact B3 h.2
 | .din neg a b,B,X,sc,e,R,h=>by
  refine Er h λea op' eb w1 e0 g=>?_;clear h;subst e0;revert g;intro h;simp only[ai,decide_eq_true_eq]at h;obtain⟨⟨⟨rfl,h1⟩,h2⟩,h3⟩:=h;rw[show tQ C (.din neg a b)=(CO (G7 neg (tE C a) (tE C b)))from rfl];cases neg with
  |true=>exact⟨Km (MX R.hu1 (sE0 a R h1).1 (sE0 b R h2).1) (DU h3),λ⟨op,vs,pos,z⟩=>by cases z⟩
  |false=>exact⟨Km (MW R.hu1 (sE0 a R h1).1 (sE0 b R h2).1) (DU h3),λ⟨op,vs,pos,z⟩=>by cases z⟩
 | .cmw k a b,B,X,sc,e,R,h=>by refine Er h λea op' eb w1 e0 g=>?_;clear h;subst e0;revert g;intro h;simp only[ai,decide_eq_true_eq]at h;obtain⟨⟨⟨rfl,h1⟩,h2⟩,h3⟩:=h;rw[show tQ C (.cmw k a b)=(CO (tOp (rZf k) (tE C a) (tE C b)))from rfl];exact⟨Ky (YO R.hu _) (sE0 a R h1).1 (sE0 b R h2).1 (DU h3),λ⟨op,vs,pos,z⟩=>by cases z⟩
 | .not q,B,X,sc,e,R,h=>by refine OD h λy w1 e0 g=>?_;clear h;subst e0;revert g;intro h;rw[show tQ C (.not q)=(Hf (tQ C q))from rfl];exact⟨Rb (sQ q R h).1,λ⟨op,vs,pos,z⟩=>by cases z⟩
 | .and a b,B,X,sc,e,R,h=>by
  replace h:=Nb h;rcases h with⟨x,y,pos,rfl,h⟩|⟨x,y,z,r,pos,rfl,h⟩;.simp only[ai]at h;rw[show tQ C (.and a b)=(Ea (tQ C a) (tQ C b))from rfl];have w:PW X (.BoolOp .And [x,y] pos) (Ea (tQ C a) (tQ C b)):=Kn (sQ a R h.1).1 (RZ (sQ b R h.2).1);exact⟨w.pt,λ_=>w⟩
  .simp only[ai]at h;rw[show tQ C (.and a b)=(Ea (tQ C a) (tQ C b))from rfl];have w:=Kn (sQ a R h.1).1 ((sQ b R h.2).2 ⟨_,_,_,rfl⟩);exact⟨w.pt,λ_=>w⟩
 | .or a b,B,X,sc,e,R,h=>by
  replace h:=Nc h;rcases h with⟨x,y,pos,rfl,h⟩|⟨x,y,z,r,pos,rfl,h⟩;.simp only[ai]at h;rw[show tQ C (.or a b)=(tOr (tQ C a) (tQ C b))from rfl];have w:PW X (.BoolOp .Or [x,y] pos) (tOr (tQ C a) (tQ C b)):=Ko (sQ a R h.1).1 (Ra (sQ b R h.2).1);exact⟨w.pt,λ_=>w⟩
  .simp only[ai]at h;rw[show tQ C (.or a b)=(tOr (tQ C a) (tQ C b))from rfl];have w:=Ko (sQ a R h.1).1 ((sQ b R h.2).2 ⟨_,_,_,rfl⟩);exact⟨w.pt,λ_=>w⟩
 | .cmp op a b,B,X,sc,e,R,h=>by refine Er h λea op' eb w1 e0 g=>?_;clear h;subst e0;revert g;intro h;simp only[ai,decide_eq_true_eq]at h;obtain⟨⟨⟨rfl,h1⟩,h2⟩,h3⟩:=h;rw[show tQ C (.cmp op a b)=(CO (tOp (B9 C.K op) (tE C a) (tE C b)))from rfl];rw[<-R.hK];exact⟨Ky (EM R.hu _) (sE0 a R h1).1 (sE0 b R h2).1 (DU h3),λ⟨op,vs,pos,z⟩=>by cases z⟩
 | .chn op1 op2 a b c,B,X,sc,e,R,h=>by refine OE h λea o1 o2 eb ec w1 e0 g=>?_;clear h;subst e0;revert g;intro h;simp only[ai,decide_eq_true_eq]at h;obtain⟨⟨⟨⟨⟨rfl,rfl⟩,h1⟩,h2⟩,h3⟩,h4⟩:=h;rw[show tQ C (.chn op1 op2 a b c)=(CO (DI (B9 C.K op1) (B9 C.K op2) (tE C a) (tE C b) (tE C c)))from rfl];rw[<-R.hK];exact⟨Sb (EM R.hu _) (EM R.hu _) (sE0 a R h1).1 (sE0 b R h2).1 (sE0 c R h3).1 (OL h4),λ⟨op,vs,pos,z⟩=>by cases z⟩
termination_by structural c=>c
theorem sQo{C:Rc}:∀(q:Cqo){B:List AI}{X:Cx}{sc:AX}{es:List A8},Rok C B X sc->mQo C.N B sc q es=A3->PTs X es (tQo C q)
 | .none,B,X,sc,es,R,h=>by refine Es h λe0 g=>?_;clear h;subst e0;revert g;intro h;rw[show tQo C .none=(λ_ H Q=>Q A3 H)from rfl];exact UG
 | .some q,B,X,sc,es,R,h=>by refine Y1 h λe e0 g=>?_;clear h;subst e0;revert g;intro h;rw[show tQo C (.some q)=(tQ C q)from rfl];exact UH (sQ q R h).1
termination_by structural c=>c
theorem sO{C:Rc}:∀(o:Co){B:List AI}{X:Cx}{sc:AX}{e:Option A8},Rok C B X sc->mO C.N B sc o e=A3->PO X e (tO C o)
 | .none,B,X,sc,e,R,h=>by refine Y2 h λe0 g=>?_;clear h;subst e0;revert g;intro h;rw[show tO C .none=(ID)from rfl];exact T0
 | .some c,B,X,sc,e,R,h=>by refine Y3 h λy e0 g=>?_;clear h;subst e0;revert g;intro h;rw[show tO C (.some c)=(IE (tE C c))from rfl];exact T3 (sE0 c R h).1
termination_by structural c=>c
theorem sI{C:Rc}:∀(i:Ci){B:List AI}{X:Cx}{sc:AX}{x tg:A8},Rok C B X sc->mI C.N B sc i x=A3->Bt i tg=A3->PI X tg x (tI C i)
 | .val c,B,X,sc,x,tg,R,h,_=>by rw[show tI C (.val c)=(Ie C.K (tE C c))from rfl];rw[<-R.hK];exact UL (sE0 c R h).1
 | .range1 a,B,X,sc,x,tg,R,h,_=>by refine GH h λn w1 y w2 e0 g=>?_;clear h;subst e0;revert g;intro h;simp only[ai,decide_eq_true_eq]at h;obtain⟨⟨⟨⟨rfl,h1⟩,h2⟩,h3⟩,h4⟩:=h;rw[show tI C (.range1 a)=(Hu (Bw (tE C a) C4))from rfl];exact S1 (R.glb h1) (R.blt _ h2) (Da (sE0 a R h3).1 E6 (Bk h4)) (Bk h4)
 | .range2 a b,B,X,sc,x,tg,R,h,_=>by refine Y4 h λn w1 y z w2 e0 g=>?_;clear h;subst e0;revert g;intro h;simp only[ai,decide_eq_true_eq]at h;obtain⟨⟨⟨⟨⟨⟨rfl,h1⟩,h2⟩,h3⟩,h4⟩,h5⟩,h6⟩:=h;rw[show tI C (.range2 a b)=(Hv (Bw (tE C a) (Bw (tE C b) C4)))from rfl];have e2:AY [_] X.env=[(A7,Ac _ X.env)]:=Bk (es:=[]) h6;exact S2 (R.glb h1) (R.blt _ h2) (Da (sE0 a R h3).1 (Da (sE0 b R h5).1 E6 (Bk h6)) (Bk h4)) (by rw[Bk h4,e2]) e2
 | .enum a,B,X,sc,x,tg,R,h,hz=>by
  refine GH h λn w1 y w2 e0 g=>?_;clear h;subst e0;revert g;intro h;simp only[ai,decide_eq_true_eq]at h;obtain⟨⟨⟨⟨rfl,h1⟩,h2⟩,h3⟩,h4⟩:=h;rw[show tI C (.enum a)=(Ig C.K (tE C a))from rfl];rw[<-R.hK];cases tg with
  |Tuple es k p=>exact UP (R.glb h1) (R.blt _ h2) (Da (sE0 a R h3).1 E6 (Bk h4)) (Bk h4)
  |_=>cases hz
 | .revs a,B,X,sc,x,tg,R,h,_=>by refine GH h λn w1 y w2 e0 g=>?_;clear h;subst e0;revert g;intro h;simp only[ai,decide_eq_true_eq]at h;obtain⟨⟨⟨⟨rfl,h1⟩,h2⟩,h3⟩,h4⟩:=h;rw[show tI C (.revs a)=(JJ (tE C a))from rfl];exact XQ (R.glb h1) (R.blt _ h2) (Da (sE0 a R h3).1 E6 (Bk h4)) (Bk h4)
 | .dk c,B,X,sc,x,tg,R,h,_=>by rw[show tI C (.dk c)=(JC (tE C c))from rfl];exact WV (sE0 c R h).1
termination_by structural c=>c
theorem sG{C:Rc}:∀(t:Ct){B:List AI}{X:Cx}{sc:AX}{e:A8},Rok C B X sc->mT C.N B sc t e=A3->PG X e (tG C t)
 | .name i,B,X,sc,e,R,h=>by refine GF h λx w1 e0 g=>?_;clear h;subst e0;revert g;intro h;simp only[ai]at h;obtain⟨h1,h2,h3⟩:=EL h.1;obtain⟨h4,h5⟩:=R.locb h.2;rw[show tG C (.name i)=(C8 i)from rfl];exact Ro (by rw[R.hN];exact R.nd) (by rw[R.hN];exact h1) h4 h5
 | .tup ts,B,X,sc,e,R,h=>by refine OF h λes w1 w2 e0 g=>?_;clear h;subst e0;revert g;intro h;rw[show tG C (.tup ts)=(JD C.K (G8 ts) (tGs C ts))from rfl];rw[<-R.hK];simp only[ai,bp]at h;exact WW (R.calm h.2) (sGs ts R h.1) (JV h.1).1 (JV h.1).2
 | .sub o i,B,X,sc,e,R,h=>by refine GG h λeo ei w1 e0 g=>?_;clear h;subst e0;revert g;intro h;simp only[ai]at h;rw[show tG C (.sub o i)=(Hr (tE C o) (tE C i) Cz)from rfl];exact Rv (sE0 o R h.1.1).1 (sE0 i R h.1.2).1 TF (YU h.2)
termination_by structural c=>c
theorem sGs{C:Rc}:∀(ts:Cts){B:List AI}{X:Cx}{sc:AX}{es:List A8},Rok C B X sc->mTs C.N B sc ts es=A3->PGs X es (tGs C ts)
 | .nil,B,X,sc,es,R,h=>by refine Es h λe0 g=>?_;clear h;subst e0;revert g;intro h;rw[show tGs C .nil=(Ho)from rfl];exact Rp
 | .cons t r,B,X,sc,es,R,h=>by refine GI h λx xs e0 g=>?_;clear h;subst e0;revert g;intro h;simp only[ai]at h;rw[show tGs C (.cons t r)=(Hq (tG C t) (tGs C r))from rfl];exact Rr (sG t R h.1.1) (sGs r R h.2) (YT h.1.2)
termination_by structural c=>c
end
theorem sE{C:Rc}{B:List AI}(c:Ce){X:Cx}{sc:AX}{e:A8}(R:Rok C B X sc)(h:mE C.N B sc c e=A3):PE X e (tE C c):=(sE0 c R h).1
end R3
set_option maxHeartbeats 4000000
namespace R3
open PySem PySem.Spec PyProof.Rows L2
def Eu:A8->Bool
 | .ListComp ..=>A7
 | .SetComp ..=>A7
 | .DictComp ..=>A7
 |_=>A3
theorem Yd{x a:A8}{l:Nat}{env:Env}(h:Eu x=A3):swapsWithSole [a] x l env=pure A7:=by cases x<;>first|rfl|cases h
theorem Ye{x:A8}{l:Nat}{env:Env}(h:Eu x=A3):swapsWith x A6 l env=pure A7:=by cases x<;>first|rfl|cases h
set_option tactic.hygienic true in
theorem OP{N B:List AI}{sc:AX}{c:Ce}{x:A8}(h:mE N B sc c x=A3)(hd:Dj c=A7)(hx:Eu x=A7):∃elt own t it q r,c=.comp elt own t it q r/\∃ee gens scope pos,x=.ListComp ee gens scope pos:=by
 cases x<;>first|(cases hx;done)|skip
 .cases c<;>first|(exact B3 h)|(cases hd;done)|exact⟨_,_,_,_,_,_,rfl,_,_,_,_,rfl⟩
 .cases c<;>first|(exact B3 h)|(cases hd;done)|(rename_i r;cases r<;>first|(exact B3 h)|(cases hd;done)|(rename_i r;cases r<;>first|(exact B3 h)|(cases hd;done)|(rename_i r;cases r<;>exact B3 h)))
 .cases c<;>first|(exact B3 h)|(cases hd;done)|(rename_i r;cases r<;>first|(exact B3 h)|(cases hd;done)|(rename_i r;cases r<;>first|(exact B3 h)|(cases hd;done)|(rename_i r;cases r<;>exact B3 h)))
theorem JW{a:A8}{env:Env}(h:Bs a=A3):(Al [a] env).map (·.2)=[assign a env]:=by cases a<;>first|rfl|cases h
def Yg:A8->A8->Bool
 | .Tuple ..,.Tuple ..=>A7
 | .List ..,.Tuple ..=>A7
 |_,_=>A3
theorem OQ{a x:A8}{env:Env}(h:Yg a x=A3):swappedStores [a] x env=pure A6:=by cases a<;>first|rfl|(cases x<;>first|rfl|cases h)
theorem Yh{b:A8}{vs:List A8}{k:Nat}{pos:Pos}{env:Env}(h:vs.all (foldedForSure 8)=A3):swappedStores [b] (.Tuple vs k pos) env=pure A6:=by
 have a:∀d:List A8,swappedStores [.Tuple d 0 pos] (.Tuple vs k pos) env=pure A6:=by
  intro d;unfold swappedStores;dsimp only;split;.rfl
  .split;.rfl
   .split;.rfl
    .rfl
 cases b<;>first|rfl|exact a _
theorem Yi{N B:List AI}{sc:AX}{t:Ct}{a:List A8}{p:Pos}(h:mT N B sc t (.List a p)=A3):False:=by cases t<;>exact B3 h
set_option maxHeartbeats 4000000
mutual
theorem sS:∀(c:Cs){C:Rc}{B:List AI}{X:Cx}{sc:AX}{s:Ao},Rok C B X sc->X.env.scope.kind=.function->mS C.N B sc c s=A3->PS X s (tS C c)
 | .expr e,C,B,X,sc,s,R,hk,h=>by
  refine Y5 h λx w1 e0 g=>?_;clear h;subst e0;revert g;intro h;obtain⟨hc,hd⟩:=Bz h;clear h;obtain⟨hc,hm⟩:=Bz hc
  replace hd:Dj e=A7:=by cases z:Dj e with
   |false=>rfl
   |true=>rw[z]at hd;exact B3 hd
  rw[show tS C (.expr e)=(Hk (tE C e))from rfl];refine Rk (sE e R hc) (Ye ?_);cases hx:Eu x with
  |true=>rfl
  |false=>obtain⟨elt,own,t,it,q,r,rfl,_⟩:=OP hc hd hx;exact B3 hm
 | .ret e,C,B,X,sc,s,R,hk,h=>by refine Y6 h λx w1 e0 g=>?_;clear h;subst e0;revert g;intro h;rw[show tS C (.ret e)=(Hl (tE C e))from rfl];exact Rl (sE e R h)
 | .asg t e,C,B,X,sc,s,R,hk,h=>by
  refine Y7 h λtg x pos e0 g=>?_;clear h;subst e0;revert g;intro h;obtain⟨h,h4⟩:=Bz h;obtain⟨h,h3⟩:=Bz h;obtain⟨h,h2⟩:=Bz h;obtain⟨h1,h0⟩:=Bz h
  replace h0:Dj e=A7:=by cases z:Dj e with
   |false=>rfl
   |true=>rw[z]at h0;exact B3 h0
  rw[show tS C (.asg t e)=(CM (tE C e) (tG C t))from rfl];have hw:swappedStores [tg] x X.env=pure A6:=by
   cases tg with
   |Tuple a b c=>cases x<;>first|exact OQ rfl|exact Yh h4|exact B3 h4
   |List a b=>exact(Yi h2).elim
   |_=>exact OQ rfl
  cases hx:Eu x with
  |true=>exact Fb (sE e R h1) (sG t R h2) (Yd hx) hw (JW h3)
  |false=>
   obtain⟨elt,own,t',it,q,r,rfl,ee,gens,scope,p2,rfl⟩:=OP h1 h0 hx;have D:=(sE0 _ R h1).2;obtain⟨tg',iter,ifs,nx,scope',pos',D,hi,he,hu,hsw⟩:=D;cases t with
   |name i=>
    cases tg with
    |Name y py=>
     obtain⟨b,hb⟩:=hsw y py pos.line;cases b with
     |true=>replace h2:=Bz h2;obtain⟨g1,g2,g3⟩:=EL h2.1;obtain⟨g4,g5⟩:=R.locb h2.2;exact UJ D hi (by rw[R.hN];exact R.nd) (by rw[R.hN];exact g1) g4 g5 (hu _) hb
     |false=>exact Fb (sE _ R h1) (sG _ R h2) hb hw (JW h3)
    |_=>exact B3 h2
   |tup ts=>
    cases tg with
    |Tuple a b c=>exact B3 h4
    |_=>exact B3 h2
   |sub o i=>
    cases tg with
    |Subscript a b c=>exact Fb (sE _ R h1) (sG _ R h2) rfl hw (JW h3)
    |_=>exact B3 h2
 | .setc2 i elt own t it q ws t2 it2 q2,C,B,X,sc,s,R,hk,h=>by
  refine Y8 h λy py ee tg iter ifs a tg2 iter2 ifs2 a2 scope p2 pos e0 g=>?_;clear h;subst e0;revert g;intro h;simp only[ai,decide_eq_true_eq,bp,de]at h;obtain⟨⟨⟨⟨⟨⟨⟨⟨⟨⟨⟨⟨⟨⟨⟨⟨⟨⟨hh,hnm⟩,hsc⟩,helt⟩,hown⟩,rfl⟩,h1⟩,h2⟩,h3⟩,h4⟩,h5⟩,rfl⟩,f1⟩,f2⟩,f3⟩,f4⟩,f5⟩,f6⟩,f7⟩:=h;have hnm':=hnm;replace hnm:=Bz hnm;obtain⟨g1,g2,g3⟩:=EL hnm.1;obtain⟨g4,g5⟩:=R.locb hnm.2;rw[show tS C (.setc2 i elt own t it q ws t2 it2 q2)=(CM (MY own (tI C it) (tG C t) (tQo C q) (Dd (tI C it2) (C5 ws (tG C t2) (tQo C q2) (D0 (tE C elt))))) (C8 i))from rfl];refine Iz (nx:=λD env=>C9 (.SetComp ee [⟨tg,iter,ifs,0⟩,⟨tg2,iter2,ifs2,0⟩] scope p2) 0 iter2 (.ref D) env) VZ (λ_=>rfl) Va Iu Vp ⟨R.compSc hsc,?_,⟨_,rfl⟩,CT h3,R.calm hh,λ_ _ _=>⟨rfl,rfl⟩,λ_ _ _ _=>⟨rfl,rfl⟩,λ_ _ _ _ _=>Yc _ _ _ _ _ _ _ _ _ _ _ _ _ _,λ_ _ _ _ _=>rfl,Cb hown,?_⟩ (sI it R h1 h2) (by rw[R.hN];exact R.nd) (by rw[R.hN];exact g1) g4 g5 (sG (.name i) R hnm') rfl rfl ⟨_,rfl⟩;.rw[R.hN];exact(DV hsc).2.2.2.2
  .intro s0 H0 ex D;have R':=R.comp hh hsc s0 H0 ex;refine⟨sG t R' h4,sQo q R' h5,ws,f7,?_⟩;exact Fg (nx:=do let v<-Ac ee (X.comp scope s0 H0 ex).env;standAt ee.pos;let _<-call (.builtin "set.add") [.ref D,v]) rfl (R.calm hh) (λ_=>rfl) (λ_=>rfl) (λ_=>rfl) (λ_=>rfl) (λ_=>rfl) (λ_=>rfl) ⟨_,rfl,rfl⟩ (CT f3) (sI it2 R' f1 f2) (sG t2 R' f4) (Cb f6) (sQo q2 R' f5) (VY rfl (sE elt R' helt)) (by simp) Iu
 | .dctc tup i k v own t it q,C,B,X,sc,s,R,hk,h=>by
  refine Y9 h λy py ke ve tg iter ifs a scope p2 pos e0 g=>?_;clear h;subst e0;revert g;intro h;simp only[ai,decide_eq_true_eq,bp]at h;obtain⟨⟨⟨⟨⟨⟨⟨⟨⟨⟨⟨hh,hnm⟩,hsc⟩,hke⟩,hve⟩,hown⟩,rfl⟩,h1⟩,h2⟩,h3⟩,h4⟩,h5⟩:=h;have hnm':=hnm;replace hnm:=Bz hnm;obtain⟨g1,g2,g3⟩:=EL hnm.1;obtain⟨g4,g5⟩:=R.locb hnm.2;rw[show tS C (.dctc tup i k v own t it q)=(if tup then CM (Ma own (tI C it) (tG C t) (tQo C q) (tE C k) (tE C v)) (C8 i)else CM (MZ own (tI C it) (tG C t) (tQo C q) (tE C k) (tE C v)) (C8 i))from rfl];cases tup with
  |false=>
   refine Iz (Is:=Ei X.prog X.w) (nx:=λD env=>OO ke ve D env) MS (λ_=>rfl) Vd MR Ve ⟨R.compSc hsc,?_,⟨[],rfl⟩,CT h3,R.calm hh,λ_ _ _=>⟨rfl,rfl⟩,λ_ _ _ _=>⟨rfl,rfl⟩,λ_ _ _ _ _=>rfl,λ_ _ _ _ _=>rfl,Cb hown,?_⟩ (sI it R h1 h2) (by rw[R.hN];exact R.nd) (by rw[R.hN];exact g1) g4 g5 (sG (.name i) R hnm') rfl rfl ⟨_,rfl⟩;.rw[R.hN];exact(DV hsc).2.2.2.2
   .intro s0 H0 ex D;have R':=R.comp hh hsc s0 H0 ex;exact⟨sG t R' h4,sQo q R' h5,[],by simp,Vf rfl (sE k R' hke) (sE v R' hve)⟩
  |true=>
   refine Iz (Is:=Ej X.prog X.w) (nx:=λD env=>OO ke ve D env) MS (λ_=>rfl) Vg MT Vh ⟨R.compSc hsc,?_,⟨[],rfl⟩,CT h3,R.calm hh,λ_ _ _=>⟨rfl,rfl⟩,λ_ _ _ _=>⟨rfl,rfl⟩,λ_ _ _ _ _=>rfl,λ_ _ _ _ _=>rfl,Cb hown,?_⟩ (sI it R h1 h2) (by rw[R.hN];exact R.nd) (by rw[R.hN];exact g1) g4 g5 (sG (.name i) R hnm') rfl rfl ⟨_,rfl⟩;.rw[R.hN];exact(DV hsc).2.2.2.2
   .intro s0 H0 ex D;have R':=R.comp hh hsc s0 H0 ex;exact⟨sG t R' h4,sQo q R' h5,[],by simp,Vi R'.hu1 rfl (sE k R' hke) (sE v R' hve)⟩
 | .dput o i e,C,B,X,sc,s,R,hk,h=>by refine YA h λeo ei w1 ee w2 e0 g=>?_;clear h;subst e0;revert g;intro h;simp only[ai]at h;obtain⟨⟨⟨⟨h1,h2⟩,h3⟩,h4⟩,h5⟩:=h;rw[show tS C (.dput o i e)=(Iw (tE C o) (tE C i) (tE C e))from rfl];refine Vn R.hu1 (sE o R h1) (sE i R h2) (sE e R h4) ?_;cases ee<;>first|rfl|cases h5
 | .aug i sub e,C,B,X,sc,s,R,hk,h=>by
  refine YB h λx w1 op ee w2 e0 g=>?_;clear h;subst e0;revert g;intro h;simp only[ai,decide_eq_true_eq]at h;obtain⟨⟨⟨h1,h2⟩,h3⟩,rfl⟩:=h;obtain⟨g1,g2,g3⟩:=EL h1;obtain⟨g4,g5⟩:=R.locb h2;rw[show tS C (.aug i sub e)=(Hs i (tE C e) (ipI λi j=>if sub then i-j else i+j))from rfl];cases sub with
  |true=>exact Kt (by rw[R.hN];exact R.nd) (by rw[R.hN];exact g1) g4 (sE e R h3) Rx g5
  |false=>exact Kt (by rw[R.hN];exact R.nd) (by rw[R.hN];exact g1) g4 (sE e R h3) Rw g5
 | .ite q a b,C,B,X,sc,s,R,hk,h=>by refine YC h λx ss rs w1 e0 g=>?_;clear h;subst e0;revert g;intro h;simp only[ai]at h;rw[show tS C (.ite q a b)=(Hm (tQ C q) (tSs C a) (tSs C b))from rfl];exact Rn (sQ q R h.1.1).1 (sSs a R hk h.1.2) (sSs b R hk h.2)
 | .whl q b,C,B,X,sc,s,R,hk,h=>by refine YD h λx ss w1 e0 g=>?_;clear h;subst e0;revert g;intro h;simp only[ai]at h;rw[show tS C (.whl q b)=(Ht (tQ C q) (tSs C b))from rfl];exact Ry R.own (sQ q R h.1).1 (sSs b R hk h.2)
 | .for_ t it b,C,B,X,sc,s,R,hk,h=>by refine YE h λtg iter ss w1 e0 g=>?_;clear h;subst e0;revert g;intro h;simp only[ai,bp]at h;obtain⟨⟨⟨⟨⟨h1,h2⟩,h3⟩,h4⟩,h5⟩,hh⟩:=h;rw[show tS C (.for_ t it b)=(Hw (tI C it) (tG C t) (tSs C b))from rfl];exact S3 R.own (R.calm hh) (sI it R h1 h2) (sG t R h4) (sSs b R hk h5) (CT h3)
 | .brk,C,B,X,sc,s,R,hk,h=>by refine YF h λw1 e0 g=>?_;clear h;subst e0;revert g;intro h;rw[show tS C .brk=(Hj)from rfl];exact Rj
theorem sSs:∀(c:Css){C:Rc}{B:List AI}{X:Cx}{sc:AX}{ss:List Ao},Rok C B X sc->X.env.scope.kind=.function->mSs C.N B sc c ss=A3->PSs X ss (tSs C c)
 | .nil,C,B,X,sc,ss,R,hk,h=>by refine YG h λe0 g=>?_;clear h;subst e0;revert g;intro h;rw[show tSs C .nil=(Hh)from rfl];exact Rh
 | .cons c r,C,B,X,sc,ss,R,hk,h=>by refine YH h λx xs e0 g=>?_;clear h;subst e0;revert g;intro h;simp only[ai]at h;rw[show tSs C (.cons c r)=(Hi (tS C c) (tSs C r))from rfl];exact Ri (sS c R hk h.1) (sSs r R hk h.2)
end
section
variable{P:AC}{w:AL}{K:W.Frag}{mg:AI->Option A2}{base:AM}
structure Ask(P:AC)(w:AL)(K:W.Frag)(mg:AI->Option A2)(base:AM)(k:Nat)(C:Rc):Prop where
 fs:∀y sp',C.fs y=A0 sp'->∃f' fd' ps',(FnOk P w K mg base CX0 k f' fd' ps' sp'\/FnOk P w K mg base (CX1 P w mg) k f' fd' ps' sp'/\EK y∈C.B)/\mg y=A0 (.ref f')/\W.keepIn K (.ref f')=A3/\CW K fd' ps' []
 B:∀y∈C.B,mg y=A6
 mrk:mg "~"=A6/\mg "^"=A6/\mg "%"=A6
 cl:∀c Ca,C.cl c=A0 Ca->mg c=A0 (.ref Ca)/\W.nsIn K AQ c=A0 (A0 (.ref Ca))
 nt:tld C.B=A7
 nh:hat C.B=A7
theorem Yj{x b:AI}{st:Ao}{f:A4}{X:Ar}{ps:List AI}{k:Nat}{sp:Sp}(F:Fun K x b st f X)(C:Rc)(S:FnScope C.N ps (B4 st))(hK:C.K=K)(a:Css)(hm:mSs C.N C.B (B4 st) a (BL st)=A3)
  (len:∀j H Q E,sp j H Q E->j.length=ps.length)(ask:Ask P w K mg base k C)(n:C.xk=λ_=>E0)
  (g:∀j H Q E,sp j H Q E->tSs C a {nx:=λ_ Z=>Q .non Z,rt:=Q} (BJ C.N j) H)(o:C.ini=λ_=>A6:=by rfl)(L:∀l D,C.gt l=A0 D->∃d,mg l=A0 (.ref d)/\∀h:AM,K.In h->PyProof.Rows.StrTab P w h d (D.map λp=>(Ag p.1,Ag p.2)):=by intro _ _ z;cases z):FnOk P w K mg base CX0 (k+1) f X ps sp:=by
 obtain⟨oc,od,kV,a1,pm,an,M,ct,a0,rfl,lk,r⟩:=F.ex;refine Sy lk r S len λA i s H j Q E G h=>⟨_,(show PSs (E7 CX0 P w K mg base C.N b (B4 st) f M A i s H E).nox (BL st) (tSs C a)from sSs a (sc:=B4 st) (B:=C.B) ?_ S.kind hm).nox,g j H Q E h⟩;refine⟨rfl,S.nd,hK.symm,PassesOwn.never,λ_=>rfl,G.units,G.gd,λ_ e=>e,λ_ e=>⟨e,rfl⟩,λ_ e=>.inr e,λ_ e=>e,λy J e _ _=>?_,ask.B,ask.mrk,ask.cl,λ_=>⟨rfl,λ_=>rfl,rfl,rfl,V7 r⟩,λ_=>ask.nh,λ_ _ l Y p_ σ H s e t dx _ _ _ _ _ _ z=>?_,(λ_ _ l f Y _ z=>by rw[o]at z;cases z),L⟩
 .obtain⟨f',v,m,q,R,U,O⟩:=ask.fs y J e;rcases q with q|⟨q,hb⟩;.exact⟨f',v,m,k,CX0,q,G,R,U,O,.inl rfl,OJ⟩
  .refine⟨f',v,m,k,_,q,G,R,U,O,.inr ⟨rfl,hb⟩,?_⟩;rintro p_ σ H s e s' I⟨ea,T,Y,l,dx,Z,_,_,_,_,_,_,_,_,_,_,_,z⟩;rw[n]at z;exact z.elim
 .rw[n]at z;exact z.elim
end
def GM(a:A4)(k:Nat)(h:AM):Prop:=∃(x y z:Int)(d b e:Tok)(n:Nat),h.get? a=A0 {cls:=.type "list",data:=.seq #[.int x d,.int y b,.int z e] n}/\0<=x/\0<=y/\y<2^62/\0<=z/\z<=k
def Bh(a:A4)(k:Nat):HO:=.ext (GM a k)
def B_(x y z:Int):HO:=.lst [.int x,.int y,.int z]
theorem Yk{a:A4}{n k:Nat}(e:Bh a n=Bh a k):n<=k:=by
 have j:GM a n=GM a k:=HO.ext.inj e;let o:AT:={cls:=.type "list",data:=.seq #[.int 0 0,.int 0 0,.int n 0] 0};let b:AM:={(default:AM)with objs:=Array.replicate a default};have i:b.objs.size=a:=Array.size_replicate;have g:(b.push o).get? a=A0 o:=by have:=au b (o:=o) rfl;rw[i]at this;exact this
 have q:GM a n (b.push o):=⟨0,0,n,0,0,0,0,g,⋯,⋯,by decide,⋯,⋯⟩;rw[j]at q;obtain⟨x,y,z,h,l,s,m,d,_,_,_,_,v⟩:=q;rw[g]at d;have p:=Option.some.inj d;have r:(#[.int 0 0,.int 0 0,.int n 0]:Array A2)=#[.int x h,.int y l,.int z s]:=by have:o.data=_:=congrArg AT.data p;injection this
 have f:=congrArg Array.toList r;simp only[List.cons.injEq,A2.int.injEq]at f;have t:(n:Int)=z:=f.2.2.1.1;omega
theorem Yl{P:AC}{w:AL}{H:Hp}{h:AM}{b:A4}{x y z:Int}{k:Nat}(a:HOk P w H h)(e:H b=A0 (B_ x y z))(D:0<=x)(E:0<=y)(l:y<2^62)(I:0<=z)(B:z<=k):HOk P w (upd H b (Bh b k)) h:=by
 intro c o f;by_cases p:c=b
 .subst p;rw[A_]at f;cases f;obtain⟨_,C,n,v,g⟩:=(show B7 P w H h c (.lst _)from a c _ e);cases v with
  |cons r1 r=>
   cases r with
   |cons r2 r=>
    cases r with
    |cons J r=>cases r;obtain⟨i,rfl⟩:=r1;obtain⟨j,rfl⟩:=r2;obtain⟨m,rfl⟩:=J;refine⟨⟨x,y,z,i,j,m,n,g,D,E,l,I,B⟩,⟨_,g⟩,λL K q A=>?_⟩;obtain⟨x,y,z,i,j,m,n,g,r⟩:=q;exact⟨x,y,z,i,j,m,n,A _ g,r⟩
 .rw[Ay p]at f;have s:∀d u,H d=A0 u->(∀t,u≠.lst t)->d≠b:=λd u q G z=>by subst z;rw[e]at q;cases q;exact G _ rfl
  exact(a c o f).stay (λ_ _ _ q=>q) (λd q=>by rw[Ay (s d _ q λ_ z=>by cases z)];exact q) λd t q=>by rw[Ay (s d _ q λ_ z=>by cases z)];exact q
theorem Ym{P:AC}{w:AL}{H:Hp}{h:AM}{b:A4}{k:Nat}(a:HOk P w H h)(e:H b=A0 (Bh b k)):∃x y z:Int,0<=x/\0<=y/\y<2^62/\0<=z/\z<=k/\HOk P w (upd H b (B_ x y z)) h:=by
 obtain⟨⟨x,y,z,m,r,C,n,g,s,t,i,B,p⟩,_,_⟩:=(show B7 P w H h b (.ext _)from a b _ e);refine⟨x,y,z,s,t,i,B,p,λc o f=>?_⟩;by_cases j:c=b;.subst j;rw[A_]at f;cases f;exact⟨by show 3<=A9;decide,[.int x m,.int y r,.int z C],n,.cons ⟨_,rfl⟩ (.cons ⟨_,rfl⟩ (.cons ⟨_,rfl⟩ .nil)),g⟩
 .rw[Ay j]at f;have l:∀d u,H d=A0 u->(∀A,u≠.ext A)->d≠b:=λd u q v z=>by subst z;rw[e]at q;cases q;exact v _ rfl
  exact(a c o f).stay (λ_ _ _ q=>q) (λd q=>by rw[Ay (l d _ q λ_ z=>by cases z)];exact q) λd D q=>by rw[Ay (l d _ q λ_ z=>by cases z)];exact q
theorem Yn{i g:List A4}{H H':Hp}{h h':AM}{b:A4}{xs:List V}{o:HO}(u:Un i g H H' h h')(e:H' b=A0 (.lst xs)):Un i g H (upd H' b o) h h' where
 keep:=u.keep
 slot:=u.slot
 free:=λc d q n j=>by have z:=u.free c d q n j;rw[Ay (λa=>by subst a;rw[e]at z;cases z)];exact z
 there:=u.there
 tups:=λc f q=>by have z:=u.tups c f q;rw[Ay (λa=>by subst a;rw[e]at z;cases z)];exact z
 frzs:=λc d f q=>by have z:=u.frzs c d f q;rw[Ay (λa=>by subst a;rw[e]at z;cases z)];exact z
 tbls:=λc l q=>by obtain⟨m,z⟩:=u.tbls c l q;exact⟨m,by rw[Ay (λa=>by subst a;rw[e]at z;cases z)];exact z⟩
theorem Yo{j i:List A4}{H H':Hp}{h h':AM}{b:A4}{p:AM->Prop}{o:HO}(u:Un j i (upd H b o) H' h h')(e:H b=A0 (.ext p)):Un j i H H' h h':=by
 have f:∀c,H c=A6->c≠b:=λc n z=>by subst z;rw[e]at n;cases n
 have a:∀c v,H c=A0 v->(∀l,v≠.ext l)->c≠b:=λc v q nv z=>by subst z;rw[e]at q;cases q;exact nv _ rfl
 exact⟨λc d q n=>u.keep c d q (by rw[Ay (f c n)];exact n),λc d q n=>u.slot c d q (by rw[Ay (f c n)];exact n),λc d q n=>u.free c d q (by rw[Ay (f c n)];exact n),u.there,
  λc g q=>u.tups c g (by rw[Ay (a c _ q λ_ z=>by cases z)];exact q),λc d g q=>u.frzs c d g (by rw[Ay (a c _ q λ_ z=>by cases z)];exact q),λc m q=>u.tbls c m (by rw[Ay (a c _ q λ_ z=>by cases z)];exact q)⟩
section
variable{P:AC}{w:AL}{K:W.Frag}{mg:AI->Option A2}{base:AM}{k:Nat}{f:A4}{fd:Ar}{ps:List AI}{sp sp':Sp}
def OR(Q:VK)(v:V)(H:Hp):Prop:=∃b x y z m,H b=A0 (B_ x y z)/\0<=x/\0<=y/\y<2^62/\0<=z/\z<=((m:Nat):Int)/\Q v (upd H b (Bh b m))
theorem OS(F:FnOk P w K mg base CX0 k f fd ps sp)(h:∀d H Q E,sp' d H Q E->sp d H (OR Q) E):FnOk P w K mg base CX0 k f fd ps sp':=by
 refine⟨λd H Q E q=>F.len d H _ E (h _ _ _ _ q),λA a s H g B d Q E I L G R C=>?_⟩;refine Ai (F.run A a s H g B d _ E I L G R (h _ _ _ _ C)) λr T j=>?_;cases r with
 |error e=>exact j
 |ok p=>
  cases p with
  |next=>exact j
  |brk=>exact j
  |cont=>exact j
  |ret u=>obtain⟨v,U,D,i,S,n,t,b,x,y,z,m,o,J,N,l,O,M,q⟩:=j;exact⟨v,_,D,i,Yn S o,Yl n o J N l O M,t,q⟩
theorem Yp(F:FnOk P w K mg base CX0 k f fd ps sp)(h:∀g H Q E,sp' g H Q E->∃b n,H b=A0 (Bh b n)/\∀x y z,0<=x->0<=y->y<2^62->0<=z->z<=((n:Nat):Int)->sp g (upd H b (B_ x y z)) Q E)(len:∀g H Q E,sp' g H Q E->g.length=ps.length):FnOk P w K mg base CX0 k f fd ps sp':=by
 refine⟨len,λA d s H i I g Q E O a N X J=>?_⟩;obtain⟨b,n,p,l⟩:=h _ _ _ _ J;obtain⟨x,y,z,R,S,m,T,D,hok⟩:=Ym a.hok p;have B:∀c,H c=A6->c≠b:=λc n z=>by subst z;rw[p]at n;cases n
 have L:Env0 P w K mg base A d s (upd H b (B_ x y z)):=⟨a.frames,a.mod,λc o e=>⟨(a.bs c o e).1,by rw[Ay (B c (a.bs c o e).2)];exact(a.bs c o e).2⟩,a.bsz,a.funs,λc t=>by rw[Ay (B c (a.frf c t))];exact a.frf c t,hok,a.bare⟩;refine Ai (F.run A d s _ i I g Q E O L N X (l x y z R S m T D)) λr Z j=>?_;cases r with
 |error e=>exact j
 |ok C=>
  cases C with
  |next=>exact j
  |brk=>exact j
  |cont=>exact j
  |ret u=>obtain⟨v,U,M,bare,Y,hok,G,q⟩:=j;exact⟨v,U,M,bare,Yo Y p,hok,G,q⟩
end
structure Go(c:Nat)(H H':Hp):Prop where
 box:∀a n,H a=A0 (Bh a n)->∃m,m<=n+c/\H' a=A0 (Bh a m)
 oth:∀a o,H a=A0 o->(∀φ,o≠.ext φ)->H' a=A0 o
 free:∀a,H' a=A6->H a=A6
theorem Go.of_same{c:Nat}{H H':Hp}(h:Ax H H'):Go c H H':=⟨λa n e=>⟨n,⋯,h a _ e⟩,λa o e _=>h a o e,λa e=>h.free e⟩
theorem Go.refl{c:Nat}{H:Hp}:Go c H H:=.of_same (Ax.refl H)
theorem Go.trans{c d:Nat}{H g f:Hp}(a:Go c H g)(b:Go d g f):Go (c+d) H f:=⟨λp n e=>by obtain⟨m,r,i⟩:=a.box p n e;obtain⟨l,q,j⟩:=b.box p m i;exact⟨l,⋯,j⟩,λp o e h=>b.oth p o (a.oth p o e h) h,λp e=>a.free p (b.free p e)⟩
theorem Go.mono{c d:Nat}{H b:Hp}(a:Go c H b)(h:c<=d):Go d H b:=⟨λp n e=>by obtain⟨m,g,f⟩:=a.box p n e;exact⟨m,⋯,f⟩,a.oth,a.free⟩
theorem Go.lst{c:Nat}{H b:Hp}(a:Go c H b){p:A4}{xs:List V}(e:H p=A0 (.lst xs)):b p=A0 (.lst xs):=a.oth p _ e λ_ z=>by cases z
theorem Go.tup{c:Nat}{H b:Hp}(a:Go c H b){p:A4}{xs:List V}(e:H p=A0 (.tup xs)):b p=A0 (.tup xs):=a.oth p _ e λ_ z=>by cases z
theorem Go.seq{c:Nat}{K:W.Frag}{H b:Hp}(g:Go c H b){a:A4}{xs:List V}(h:SqL K H a xs):SqL K b a xs:=by
 rcases h with(h|⟨o,h⟩)|h;.exact .inl (.inl (g.lst h))
 .exact .inl (.inr ⟨o,g.oth _ _ h λ_ z=>by cases z⟩)
 .exact .inr h
theorem Go.new{c:Nat}{H:Hp}{p:A4}(h:H p=A6)(o:HO):Go c H (upd H p o):=.of_same λb u q=>by rw[Ay (Bm q h)];exact q
theorem Go.draw{H:Hp}{b:A4}{n m:Nat}(e:H b=A0 (Bh b n))(h:m<=n+1)(o:HO):Go 1 H (upd (upd H b o) b (Bh b m)):=by
 rw[Hc];refine⟨λp k q=>?_,λp u q d=>?_,λp q=>?_⟩
 .by_cases a:p=b;.subst a;rw[e]at q;have:=Yk (Option.some.inj q);exact⟨m,⋯,A_⟩
  .exact⟨k,⋯,by rw[Ay a];exact q⟩
 .rw[Ay];.exact q
  .intro z;subst z;rw[e]at q;cases q;exact d _ rfl
 .by_cases a:p=b;.subst a;rw[A_]at q;cases q
  .rw[Ay a]at q;exact q
section
variable{C:Rc}{σ:L2.St}{H:Hp}{Q:VK}{D:Ends}{Qb:Bool->Hp->Prop}
def kV(o:Option (Option V))(H:Hp)(Q:VK):Prop:=∃v,o=A0 (A0 v)/\Q v H
theorem Yq{v:V}:kV (A0 (A0 v)) H Q=Q v H:=propext ⟨λ⟨u,e,q⟩=>by cases e;exact q,λq=>⟨v,rfl,q⟩⟩
theorem Yr{i:Nat}:tE C (.var i) σ H Q=kV σ[i]? H Q:=rfl
theorem Ys{n:Int}:tE C (.int n) σ H Q=Q (.int n) H:=rfl
theorem Yt{b:Bool}:tE C (.bl b) σ H Q=Q (.bl b) H:=rfl
theorem Yu:tE C .non σ H Q=Q .non H:=rfl
theorem Yv{x:AI}:tE C (.str x) σ H Q=Q (.str x) H:=rfl
theorem Yw{x:String}:tE C (.ty x) σ H Q=Q (.ty x) H:=rfl
def kB1(C:Rc)(σ:L2.St)(op:Operator)(b:Ce)(Q:VK):VK:=λx H=>tE C b σ H λy a=>Br C.K op x y a Q
def kB2(C:Rc)(op:Operator)(x:V)(Q:VK):VK:=λy H=>Br C.K op x y H Q
theorem Yx{op:Operator}{a b:Ce}:tE C (.bin op a b) σ H Q=tE C a σ H (kB1 C σ op b Q):=rfl
theorem Yy{op:Operator}{b:Ce}{x:V}:kB1 C σ op b Q x H=tE C b σ H (kB2 C op x Q):=rfl
theorem Yz{op:Operator}{x y:V}:kB2 C op x Q y H=Br C.K op x y H Q:=rfl
def kC1(C:Rc)(σ:L2.St)(op:CmpOp)(b:Ce)(Q:VK):VK:=λx H=>tE C b σ H λy a=>B9 C.K op x y a Q
def kC2(C:Rc)(op:CmpOp)(x:V)(Q:VK):VK:=λy H=>B9 C.K op x y H Q
theorem Y_{op:CmpOp}{a b:Ce}:tE C (.cmp op a b) σ H Q=tE C a σ H (kC1 C σ op b Q):=rfl
theorem Z0{op:CmpOp}{b:Ce}{x:V}:kC1 C σ op b Q x H=tE C b σ H (kC2 C op x Q):=rfl
theorem Z1{op:CmpOp}{x y:V}:kC2 C op x Q y H=B9 C.K op x y H Q:=rfl
def kI1(C:Rc)(σ:L2.St)(b:Ce)(Q:VK):VK:=λx H=>tE C b σ H λy a=>D3 C.K x y a Q
def kI2(C:Rc)(x:V)(Q:VK):VK:=λy H=>D3 C.K x y H Q
theorem Z2{a b:Ce}:tE C (.idx a b) σ H Q=tE C a σ H (kI1 C σ b Q):=rfl
theorem Z3{b:Ce}{x:V}:kI1 C σ b Q x H=tE C b σ H (kI2 C x Q):=rfl
theorem Z4{x y:V}:kI2 C x Q y H=D3 C.K x y H Q:=rfl
def OT(Q:VK):VK:=λx H=>rU (λi=>.int (-i)) x H Q
theorem Z5{a:Ce}:tE C (.neg a) σ H Q=tE C a σ H (OT Q):=rfl
theorem Z6{i:Int}:OT Q (.int i) H=Q (.int (-i)) H:=propext ⟨λ⟨u,e,q⟩=>by cases e;exact q,λq=>⟨i,rfl,q⟩⟩
def kT(Qb:Bool->Hp->Prop):VK:=λx H=>∃k,x=.bl k/\Qb k H
theorem Z7{k:Bool}:kT Qb (.bl k) H=Qb k H:=propext ⟨λ⟨u,e,q⟩=>by cases e;exact q,λq=>⟨k,rfl,q⟩⟩
theorem Z8{op:CmpOp}{a b:Ce}:tQ C (.cmp op a b) σ H Qb=tE C a σ H (kC1 C σ op b (kT Qb)):=rfl
def OU(Qb:Bool->Hp->Prop):Bool->Hp->Prop:=λc H=>Qb (!c) H
theorem Z9{q:Cq}:tQ C (.not q) σ H Qb=tQ C q σ H (OU Qb):=rfl
theorem ZA{c:Bool}:OU Qb c H=Qb (!c) H:=rfl
def JX(C:Rc)(σ:L2.St)(b:Cq)(Qb:Bool->Hp->Prop):Bool->Hp->Prop:=λc H=>if c=A3 then tQ C b σ H Qb else Qb A7 H
def JY(C:Rc)(σ:L2.St)(b:Cq)(Qb:Bool->Hp->Prop):Bool->Hp->Prop:=λc H=>if c=A3 then Qb A3 H else tQ C b σ H Qb
theorem ZB{a b:Cq}:tQ C (.and a b) σ H Qb=tQ C a σ H (JX C σ b Qb):=rfl
theorem ZC{a b:Cq}:tQ C (.or a b) σ H Qb=tQ C a σ H (JY C σ b Qb):=rfl
theorem ZD{b:Cq}:JX C σ b Qb A3 H=tQ C b σ H Qb:=rfl
theorem ZE{b:Cq}:JX C σ b Qb A7 H=Qb A7 H:=rfl
theorem ZF{b:Cq}:JY C σ b Qb A3 H=Qb A3 H:=rfl
theorem ZG{b:Cq}:JY C σ b Qb A7 H=tQ C b σ H Qb:=rfl
variable{K:W.Frag}{i j:Int}{x y:AI}
theorem ZH:Br K .Add (.int i) (.int j) H Q=Q (.int (i+j)) H:=rfl
theorem OV:Br K .Add (.str x) (.str y) H Q=(x.length+y.length<=A9/\Q (.str (x++y)) H):=rfl
theorem ZI:Br K .Sub (.int i) (.int j) H Q=Q (.int (i-j)) H:=propext ⟨λ⟨_,_,e,a,q⟩=>by cases e;cases a;exact q,λq=>⟨_,_,rfl,rfl,q⟩⟩
theorem ZJ:Br K .Mult (.int i) (.int j) H Q=(NW i j/\Q (.int (i*j)) H):=rfl
theorem ZK:Br K .Mult (.str x) (.int j) H Q=(-1000000<=j/\j<=1000000/\x.length*j.toNat<=1000000/\Q (.str (Txt.mul x j)) H):=rfl
theorem ZL:Br K .Mod (.int i) (.int j) H Q=(0<j/\Q (.int (i%j)) H):=propext ⟨λ⟨_,_,e,a,c,q⟩=>by cases e;cases a;exact⟨c,q⟩,λq=>⟨_,_,rfl,rfl,q.1,q.2⟩⟩
theorem ZM:Br K .FloorDiv (.int i) (.int j) H Q=(NV i j/\Q (.int (i/j)) H):=propext ⟨λ⟨_,_,e,a,c,q⟩=>by cases e;cases a;exact⟨c,q⟩,λq=>⟨_,_,rfl,rfl,q.1,q.2⟩⟩
theorem ZN:Br K .Pow (.int i) (.int j) H Q=(H_ i j/\Q (.int (i^j.toNat)) H):=propext ⟨λ⟨_,_,e,a,c,q⟩=>by cases e;cases a;exact⟨c,q⟩,λq=>⟨_,_,rfl,rfl,q.1,q.2⟩⟩
theorem ZO:B9 K .Lt (.int i) (.int j) H Q=Q (.bl (decide (i<j))) H:=propext ⟨λ⟨_,_,e,a,q⟩=>by cases e;cases a;exact q,λq=>⟨_,_,rfl,rfl,q⟩⟩
theorem ZP:B9 K .Gt (.int i) (.int j) H Q=Q (.bl (decide (j<i))) H:=propext ⟨λ⟨_,_,e,a,q⟩=>by cases e;cases a;exact q,λq=>⟨_,_,rfl,rfl,q⟩⟩
theorem ZQ:B9 K .GtE (.int i) (.int j) H Q=Q (.bl (decide (j<=i))) H:=propext ⟨λ⟨_,_,e,a,q⟩=>by cases e;cases a;exact q,λq=>⟨_,_,rfl,rfl,q⟩⟩
theorem ZR:B9 K .Eq (.int i) (.int j) H Q=Q (.bl (decide (i=j))) H:=by
 have e:decide (V.int i=V.int j)=decide (i=j):=by simp
 exact propext ⟨λq=>e▸q.2,λq=>⟨rfl,e.symm▸q⟩⟩
theorem ZS:B9 K .Eq (.str x) (.str y) H Q=Q (.bl (decide (x=y))) H:=by
 have e:decide (V.str x=V.str y)=decide (x=y):=by simp
 exact propext ⟨λq=>e▸q.2,λq=>⟨rfl,e.symm▸q⟩⟩
theorem ZT{a:A4}:D3 K (.ref a) (.int i) H Q=(CF K (.ref a) (.int i) H Q\/CG K (.ref a) (.int i) H Q):=rfl
def DW(C:Rc)(r:Css)(D:Ends):Ends:={D with nx:=tSs C r D}
theorem ZU:tSs C .nil D σ H=D.nx σ H:=rfl
theorem OW{s:Cs}{r:Css}:tSs C (.cons s r) D σ H=tS C s (DW C r D) σ H:=rfl
theorem GN{r:Css}:(DW C r D).nx σ H=tSs C r D σ H:=rfl
theorem ZV{r:Css}:(DW C r D).rt=D.rt:=rfl
theorem ZW{r:Css}:(DW C r D).bk=D.bk:=rfl
theorem ZX{r:Css}:(DW C r D).ct=D.ct:=rfl
theorem ZY{e:Ce}:tS C (.ret e) D σ H=tE C e σ H D.rt:=rfl
def OX(D:Ends)(σ:L2.St):VK:=λ_ H=>D.nx σ H
theorem ZZ{e:Ce}:tS C (.expr e) D σ H=tE C e σ H (OX D σ):=rfl
theorem Za{v:V}:OX D σ v H=D.nx σ H:=rfl
def OY(i:Nat)(D:Ends)(σ:L2.St):VK:=λx H=>D.nx (σ.set i (A0 x)) H
theorem Zb{i:Nat}{e:Ce}:tS C (.asg (.name i) e) D σ H=tE C e σ H (OY i D σ):=rfl
theorem Zc{i:Nat}{v:V}:OY i D σ v H=D.nx (σ.set i (A0 v)) H:=rfl
def OZ(C:Rc)(o i:Ce)(D:Ends)(σ:L2.St):VK:=λv H=>tE C o σ H λp b=>tE C i σ b λk a=>Cz p k v a λd=>D.nx σ d
def Oa(C:Rc)(i:Ce)(v:V)(D:Ends)(σ:L2.St):VK:=λp b=>tE C i σ b λk a=>Cz p k v a λd=>D.nx σ d
def Ob(p v:V)(D:Ends)(σ:L2.St):VK:=λk a=>Cz p k v a λb=>D.nx σ b
theorem Zd{o i e:Ce}:tS C (.asg (.sub o i) e) D σ H=tE C e σ H (OZ C o i D σ):=rfl
theorem Ze{o i:Ce}{v:V}:OZ C o i D σ v H=tE C o σ H (Oa C i v D σ):=rfl
theorem Zg{i:Ce}{v p:V}:Oa C i v D σ p H=tE C i σ H (Ob p v D σ):=rfl
theorem Zh{v p k:V}:Ob p v D σ k H=Cz p k v H (D.nx σ):=rfl
def kIf(C:Rc)(a b:Css)(D:Ends)(σ:L2.St):Bool->Hp->Prop:=λc H=>if c=A3 then tSs C a D σ H else tSs C b D σ H
theorem Zi{q:Cq}{a b:Css}:tS C (.ite q a b) D σ H=tQ C q σ H (kIf C a b D σ):=rfl
theorem Zj{a b:Css}:kIf C a b D σ A3 H=tSs C a D σ H:=rfl
theorem Zk{a b:Css}:kIf C a b D σ A7 H=tSs C b D σ H:=rfl
theorem Bu{p:Prop} [Decidable p]{F:Bool->Hp->Prop}(h1:p->F A3 H)(a:¬p->F A7 H):F (decide p) H:=by
 by_cases h:p;.rw[decide_eq_true h];exact h1 h
 .rw[decide_eq_false h];exact a h
end
section
variable{C:Rc}{σ:L2.St}{H:Hp}{Q:VK}{D:Ends}{Qb:Bool->Hp->Prop}{Qs:List V->Hp->Prop}
def kA1(C:Rc)(σ:L2.St)(r:Ces)(Qs:List V->Hp->Prop):VK:=λx H=>tA C r σ H λb a=>Qs (x::b) a
def kA2(x:V)(Qs:List V->Hp->Prop):List V->Hp->Prop:=λa H=>Qs (x::a) H
theorem Zl:tA C .nil σ H Qs=Qs [] H:=rfl
theorem Zm{e:Ce}{r:Ces}:tA C (.cons e r) σ H Qs=tE C e σ H (kA1 C σ r Qs):=rfl
theorem Zn{r:Ces}{x:V}:kA1 C σ r Qs x H=tA C r σ H (kA2 x Qs):=rfl
theorem Zo{x:V}{xs:List V}:kA2 x Qs xs H=Qs (x::xs) H:=rfl
def GO(Q:VK):List V->Hp->Prop:=λa H=>a.length<=A9/\∀p,H p=A6->Q (.ref p) (upd H p (.tup a))
def Oc(Q:VK):List V->Hp->Prop:=λa H=>a.length<=A9/\∀p,H p=A6->Q (.ref p) (upd H p (.lst a))
theorem Zp{es:Ces}:tE C (.tup es) σ H Q=tA C es σ H (GO Q):=rfl
theorem Zq{es:Ces}:tE C (.lst es) σ H Q=tA C es σ H (Oc Q):=rfl
theorem Zr{xs:List V}:GO Q xs H=(xs.length<=A9/\∀p,H p=A6->Q (.ref p) (upd H p (.tup xs))):=rfl
theorem Zs{xs:List V}:Oc Q xs H=(xs.length<=A9/\∀p,H p=A6->Q (.ref p) (upd H p (.lst xs))):=rfl
def JZ(o:Option Sp)(E:XK)(Q:VK):List V->Hp->Prop:=λb H=>match o with
 |A0 a=>a (b++[]) H Q E
 |A6=>False
theorem Zt{f:AI}{es:Ces}{sp:Sp}(h:C.fs f=A0 sp):tE C (.call f es) σ H Q=tA C es σ H (JZ (A0 sp) (C.xk σ) Q):=by show(match C.fs f with|A0 sp=>Fe sp [] (C.xk σ) (tA C es) σ H Q|A6=>False)=_;rw[h];rfl
theorem Zu{sp:Sp}{E:XK}{vs:List V}:JZ (A0 sp) E Q vs H=sp vs H Q E:=by show sp (vs++[]) H Q E=_;rw[cZ]
def Od(C:Rc)(f:Bf)(Q:VK):List V->Hp->Prop:=λa H=>BZ C.K f a H Q
theorem Zv{f:Bf}{es:Ces}:tE C (.blt f es) σ H Q=tA C es σ H (Od C f Q):=rfl
theorem Zw{f:Bf}{vs:List V}:Od C f Q vs H=BZ C.K f vs H Q:=rfl
def Oe(C:Rc)(σ:L2.St)(m:Mf)(es:Ces)(Q:VK):VK:=λx H=>tyV C.K (DS m) x H/\tA C es σ H λb a=>DR C.K m x b a Q
def Of(C:Rc)(m:Mf)(x:V)(Q:VK):List V->Hp->Prop:=λa H=>DR C.K m x a H Q
theorem Zx{m:Mf}{o:Ce}{es:Ces}:tE C (.met m o es) σ H Q=tE C o σ H (Oe C σ m es Q):=rfl
theorem Zy{m:Mf}{es:Ces}{x:V}:Oe C σ m es Q x H=(tyV C.K (DS m) x H/\tA C es σ H (Of C m x Q)):=rfl
theorem Zz{m:Mf}{x:V}{xs:List V}:Of C m x Q xs H=DR C.K m x xs H Q:=rfl
def GP(C:Rc)(σ:L2.St)(a b:Ce)(Q:VK):Bool->Hp->Prop:=λc H=>if c=A3 then tE C a σ H Q else tE C b σ H Q
theorem Z_{q:Cq}{a b:Ce}:tE C (.ife q a b) σ H Q=tQ C q σ H (GP C σ a b Q):=rfl
theorem ab{a b:Ce}:GP C σ a b Q A3 H=tE C a σ H Q:=rfl
theorem a_{a b:Ce}:GP C σ a b Q A7 H=tE C b σ H Q:=rfl
def bS(Q:VK):VK:=λx H=>∃c,x=.bl c/\Q (.bl (!c)) H
theorem be{a:Ce}:tE C (.not a) σ H Q=tE C a σ H (bS Q):=rfl
def bm(C:Rc)(σ:L2.St)(b:Ce)(Q:VK):VK:=λx H=>∃c,x=.bl c/\if c=A3 then tE C b σ H Q else Q (.bl A7) H
def bz(C:Rc)(σ:L2.St)(b:Ce)(Q:VK):VK:=λx H=>∃c,x=.bl c/\if c=A3 then Q (.bl A3) H else tE C b σ H Q
theorem b_{a b:Ce}:tE C (.and a b) σ H Q=tE C a σ H (bm C σ b Q):=rfl
theorem cp{a b:Ce}:tE C (.or a b) σ H Q=tE C a σ H (bz C σ b Q):=rfl
def Ja(C:Rc)(Qb:Bool->Hp->Prop):VK:=λx H=>∃k,Eb C.K x H k/\Qb k H
theorem c_{e:Ce}:tQ C (.val e) σ H Qb=tE C e σ H (Ja C Qb):=rfl
theorem dG{b:Bool}:Ja C Qb (.bl b) H=Qb b H:=propext ⟨λ⟨u,e,q⟩=>by have e:u=b:=e;subst e;exact q,λq=>⟨b,rfl,q⟩⟩
def Og(C:Rc)(σ:L2.St)(b hi:Co)(Q:VK):VK:=λx H=>tO C b σ H λl a=>tO C hi σ a λu d=>rSl C.K x l u d Q
def Oh(C:Rc)(σ:L2.St)(hi:Co)(x:V)(Q:VK):Option Int->Hp->Prop:=λl H=>tO C hi σ H λu a=>rSl C.K x l u a Q
def Oi(C:Rc)(x:V)(l:Option Int)(Q:VK):Option Int->Hp->Prop:=λu H=>rSl C.K x l u H Q
theorem dH{a:Ce}{b hi:Co}:tE C (.cut a b hi) σ H Q=tE C a σ H (Og C σ b hi Q):=rfl
theorem dI{a hi:Co}{x:V}:Og C σ a hi Q x H=tO C a σ H (Oh C σ hi x Q):=rfl
theorem dJ{hi:Co}{x:V}{l:Option Int}:Oh C σ hi x Q l H=tO C hi σ H (Oi C x l Q):=rfl
theorem dL{x:V}{l u:Option Int}:Oi C x l Q u H=rSl C.K x l u H Q:=rfl
variable{Qo:Option Int->Hp->Prop}
def Oj(Qo:Option Int->Hp->Prop):VK:=λx H=>∃i,x=.int i/\Qo (A0 i) H
theorem dM:tO C .none σ H Qo=Qo A6 H:=rfl
theorem dN{e:Ce}:tO C (.some e) σ H Qo=tE C e σ H (Oj Qo):=rfl
theorem dO{i:Int}:Oj Qo (.int i) H=Qo (A0 i) H:=propext ⟨λ⟨u,e,q⟩=>by cases e;exact q,λq=>⟨i,rfl,q⟩⟩
theorem dP{K:W.Frag}{a:A4}{l u:Option Int}:rSl K (.ref a) l u H Q=(IH K (.ref a) l u H Q\/IF K (.ref a) l u H Q\/I_ K (.ref a) l u H Q):=rfl
def Ol(i:Nat)(sub:Bool)(x:V)(D:Ends)(σ:L2.St):VK:=λy H=>∃a b,x=.int a/\y=.int b/\D.nx (σ.set i (A0 (.int (if sub then a-b else a+b)))) H
theorem dQ{i:Nat}{sub:Bool}{e:Ce}{a:Int}(h:σ[i]?=A0 (A0 (.int a))):tS C (.aug i sub e) D σ H=tE C e σ H (Ol i sub (.int a) D σ):=by show(∃x,σ[i]?=A0 (A0 x)/\tE C e σ H λy d=>(ipI λi j=>if sub then i-j else i+j) x y d λz b=>D.nx (σ.set i (A0 z)) b)=_;rw[h];exact propext ⟨λ⟨x,e,q⟩=>by cases e;exact q,λq=>⟨_,rfl,q⟩⟩
theorem dR{i:Nat}{sub:Bool}{a b:Int}:Ol i sub (.int a) D σ (.int b) H=D.nx (σ.set i (A0 (.int (if sub then a-b else a+b)))) H:=propext ⟨λ⟨_,_,e,d,q⟩=>by cases e;cases d;exact q,λq=>⟨_,_,rfl,rfl,q⟩⟩
end
def cb(b:Bool):Nat:=if b then 49 else 48
def tx(l:List Bool):AI:=⟨(l.map cb).toArray⟩
theorem Om{a b:Bool}(h:cb a=cb b):a=b:=by cases a<;>cases b<;>first|rfl|cases h
theorem On{a b:List Bool}(h:tx a=tx b):a=b:=by
 have e:(a.map cb).toArray=(b.map cb).toArray:=congrArg AI.cps h;have d:a.map cb=b.map cb:=by simpa using e
 exact List.map_inj_right (f:=cb) (λx y=>Om)|>.mp d
theorem Dk{a:List Bool}:(tx a).length=a.length:=by show(a.map cb).toArray.size=_;simp
theorem dS{a:List Bool}:(tx a).cps.toList=a.map cb:=rfl
theorem Ev{a:List Bool}:(tx a).cps.size=a.length:=by show(a.map cb).toArray.size=_;simp
theorem Jb{a:List Bool}{i:Nat}:(tx a).cps[i]?=a[i]?.map cb:=by show(a.map cb).toArray[i]?=_;simp
theorem GQ{a b:List Bool}:tx a++tx b=tx (a++b):=by show(⟨(a.map cb).toArray++(b.map cb).toArray⟩:AI)=⟨((a++b).map cb).toArray⟩;simp
theorem dU:(PySem.Str.ofString "01")=tx [A7,A3]:=⋯
theorem dW:(PySem.Str.ofString "")=tx []:=⋯
theorem Oo{c:Bool}:PySem.intText? (tx [c])=A0 (if c then 1 else 0):=by cases c<;>decide+kernel
theorem Bb{N:List AI}{vs:List V}{n:Nat}(h:N.length=n):L2.BJ N vs=vs.map A0++bU (n-vs.length) A6:=by subst h;rfl
section
variable{C:Rc}{σ:L2.St}{H:Hp}{Q:VK}{D:Ends}{Qb:Bool->Hp->Prop}
theorem dX{i:Nat}{v:V}{R:L2.St->Hp->Prop}:tG C (.name i) v σ H R=R (σ.set i (A0 v)) H:=rfl
theorem Dl{i j:Nat}{a:A4}{x y:V}{R:L2.St->Hp->Prop}(h:SqT C.K H a [x,y])(q:R ((σ.set i (A0 x)).set j (A0 y)) H):tG C (.tup (.cons (.name i) (.cons (.name j) .nil))) (.ref a) σ H R:=
 ⟨a,[x,y],rfl,.inl h,rfl,_,_,rfl,_,_,rfl,rfl,q⟩
theorem dY{i j k:Nat}{a:A4}{x y z:V}{R:L2.St->Hp->Prop}(h:SqT C.K H a [x,y,z])(q:R (((σ.set i (A0 x)).set j (A0 y)).set k (A0 z)) H):tG C (.tup (.cons (.name i) (.cons (.name j) (.cons (.name k) .nil)))) (.ref a) σ H R:=
 ⟨a,[x,y,z],rfl,.inl h,rfl,_,_,rfl,_,_,rfl,_,_,rfl,rfl,q⟩
def D5(C:Rc)(t:Ct)(b:Css)(D:Ends)(σ:L2.St)(J:It)(h:Hp):Prop:=∃W:Nat->Nat->L2.St->Hp->Prop,(∃m,W 0 m σ h)/\∀i m σ H,W i m σ H->
 (J.stop i H/\D.nx σ H)\/(J.go i H/\∃N:L2.St->Hp->Prop,(∀d a,N d a->∃f,f<m/\W (i+1) f d a)/\∀x a,J.yld i H x a->tG C t x σ a λe g=>tSs C b {D with nx:=N,ct:=N,bk:=D.nx} e g)
theorem dZ{t:Ct}{it:Ci}{b:Css}:tS C (.for_ t it b) D σ H=tI C it σ H (D5 C t b D σ):=rfl
def kIv(C:Rc)(R:It->Hp->Prop):VK:=λx b=>
 (∃a,x=.ref a/\(∃d,SqL C.K b a d)/\R (Itl C.K a) b)\/(∃a,x=.ref a/\(∃d,SqT C.K b a d)/\R (Itt C.K a) b)\/∃z,x=.str z/\R (Its z) b
theorem ds{e:Ce}{R:It->Hp->Prop}:tI C (.val e) σ H R=tE C e σ H (kIv C R):=rfl
def kR1(R:It->Hp->Prop):VK:=λx a=>∃j:Int,x=.int j/\-(2^62)<=j/\j<2^62/\R (Itr 0 j.toNat) a
theorem dt{e:Ce}{R:It->Hp->Prop}:tI C (.range1 e) σ H R=tE C e σ H λx a=>∃j:Int,[x]=[.int j]/\-(2^62)<=j/\j<2^62/\R (Itr 0 j.toNat) a:=rfl
theorem d_{e:Ce}{R:It->Hp->Prop}:tI C (.range1 e) σ H R=tE C e σ H (kR1 R):=by rw[dt];congr 1;funext x a;unfold kR1;simp only[List.cons.injEq,and_true]
def GR(R:It->Hp->Prop)(x:V):VK:=λy a=>∃i j:Int,x=.int i/\y=.int j/\(-(2^62)<=i/\i<2^62/\-(2^62)<=j/\j<2^62)/\R (Itr i (j-i).toNat) a
def Jc(C:Rc)(σ:L2.St)(e:Ce)(R:It->Hp->Prop):VK:=λx a=>tE C e σ a (GR R x)
theorem eC{a b:Ce}{R:It->Hp->Prop}:tI C (.range2 a b) σ H R=tE C a σ H (Jc C σ b R):=by show(tE C a σ H λx e=>tE C b σ e λy d=>∃i j:Int,[x,y]=[.int i,.int j]/\(-(2^62)<=i/\i<2^62/\-(2^62)<=j/\j<2^62)/\R (Itr i (j-i).toNat) d)=_;congr 1;funext x e;unfold Jc;congr 1;funext y d;unfold GR;simp only[List.cons.injEq,and_true,and_assoc]
theorem eD{e:Ce}{R:It->Hp->Prop}{x:V}:Jc C σ e R x H=tE C e σ H (GR R x):=rfl
def kEn(C:Rc)(R:It->Hp->Prop):VK:=λx b=>(∃a,x=.ref a/\(∃d,SqL C.K b a d)/\R (Ite C.K a) b)\/(∃z,x=.str z/\R (Df z) b)\/False
theorem eE{a:Ce}{R:It->Hp->Prop}:tI C (.enum a) σ H R=tE C a σ H (kEn C R):=by show(tE C a σ H λx b=>∃y,[x]=[y]/\((∃a,y=.ref a/\(∃d,SqL C.K b a d)/\R (Ite C.K a) b)\/(∃z,y=.str z/\R (Df z) b)\/False))=_;congr 1;funext x b;unfold kEn;exact propext ⟨λ⟨y,e,q⟩=>by cases e;exact q,λq=>⟨x,rfl,q⟩⟩
theorem Op{R:It->Hp->Prop}{a:A4}{xs:List V}(h:SqL C.K H a xs)(q:R (Ite C.K a) H):kEn C R (.ref a) H:=.inl ⟨a,rfl,⟨xs,h⟩,q⟩
theorem Jd{R:It->Hp->Prop}{z:AI}(q:R (Df z) H):kEn C R (.str z) H:=.inr (.inl ⟨z,rfl,q⟩)
theorem Ew{R:It->Hp->Prop}{z:AI}(q:R (Its z) H):kIv C R (.str z) H:=.inr (.inr ⟨z,rfl,q⟩)
theorem CB{R:It->Hp->Prop}{a:A4}{xs:List V}(h:SqL C.K H a xs)(q:R (Itl C.K a) H):kIv C R (.ref a) H:=.inl ⟨a,rfl,⟨xs,h⟩,q⟩
theorem Ex{R:It->Hp->Prop}{a:A4}{xs:List V}(h:SqT C.K H a xs)(q:R (Itt C.K a) H):kIv C R (.ref a) H:=.inr (.inl ⟨a,rfl,⟨xs,h⟩,q⟩)
theorem Ey{R:It->Hp->Prop}{j:Int}(h0:-(2^62)<=j)(h1:j<2^62)(q:R (Itr 0 j.toNat) H):kR1 R (.int j) H:=⟨j,rfl,h0,h1,q⟩
theorem Oq{R:It->Hp->Prop}{i j:Int}(h0:-(2^62)<=i)(h1:i<2^62)(a:-(2^62)<=j)(b:j<2^62)(q:R (Itr i (j-i).toNat) H):GR R (.int i) (.int j) H:=⟨i,j,rfl,rfl,⟨h0,h1,a,b⟩,q⟩
theorem Os{a:A4}{xs:List V}{t:Ct}{b:Css}(d:Nat->L2.St->Hp->Prop)(h0:d 0 σ H)(f:∀i σ H,i<=xs.length->d i σ H->SqT C.K H a xs)
  (hs:∀i x σ H,xs[i]?=A0 x->d i σ H->tG C t x σ H (tSs C b {D with nx:=d (i+1),ct:=d (i+1),bk:=D.nx}))(e:∀σ H,d xs.length σ H->D.nx σ H):D5 C t b D σ (Itt C.K a) H:=S4 d h0 f hs e
theorem Ez{d:Int}{n:Nat}{t:Ct}{b:Css}(a:Nat->L2.St->Hp->Prop)(h0:a 0 σ H)
  (hs:∀i σ H,i<n->a i σ H->tG C t (.int (d+i)) σ H (tSs C b {D with nx:=a (i+1),ct:=a (i+1),bk:=D.nx}))(e:∀σ H,a n σ H->D.nx σ H):D5 C t b D σ (Itr d n) H:=S5 a h0 hs e
theorem eF{z:AI}{t:Ct}{b:Css}(a:Nat->L2.St->Hp->Prop)(h0:a 0 σ H)
  (hs:∀i c σ H,z.cps[i]?=A0 c->a i σ H->tG C t (.str ⟨#[c]⟩) σ H (tSs C b {D with nx:=a (i+1),ct:=a (i+1),bk:=D.nx}))(h:∀σ H,a z.cps.size σ H->D.nx σ H):D5 C t b D σ (Its z) H:=by
 refine⟨λi m σ H=>m=z.cps.size-i/\i<=z.cps.size/\a i σ H,⟨z.cps.size,by simp,aJ _,h0⟩,?_⟩;rintro i m σ H⟨rfl,n,p⟩;by_cases d:i<z.cps.size;.refine .inr ⟨d,a (i+1),λg l j=>⟨z.cps.size-(i+1),⋯,rfl,d,j⟩,λx l y=>?_⟩;obtain⟨e,c,f,rfl⟩:=y;subst e;exact hs i c σ _ f p
 .have e:i=z.cps.size:=by omega
  subst e;exact .inl ⟨ah _,h σ H p⟩
theorem eG{l:List Bool}{t:Ct}{b:Css}(d:Nat->L2.St->Hp->Prop)(h0:d 0 σ H)
  (hs:∀i c σ H p,l[i]?=A0 c->H p=A6->d i σ H->tG C t (.ref p) σ (upd H p (.tup [.int i,.str (tx [c])])) (tSs C b {D with nx:=d (i+1),ct:=d (i+1),bk:=D.nx}))(n:∀σ H,d l.length σ H->D.nx σ H):D5 C t b D σ (Df (tx l)) H:=by
 refine⟨λi m σ H=>m=l.length-i/\i<=l.length/\d i σ H,⟨l.length,by simp,aJ _,h0⟩,?_⟩;rintro i m σ H⟨rfl,r,p⟩;by_cases a:i<l.length;.refine .inr ⟨(show i<(tx l).cps.size by rw[Ev];exact a),d (i+1),λj q o=>⟨l.length-(i+1),⋯,rfl,a,o⟩,λx q y=>?_⟩;obtain⟨h,v,rfl,g,⟨c,f,rfl⟩,rfl⟩:=y;rw[Jb,ae a]at f;cases f;exact hs i l[i] σ _ h (ae a) g p
 .have e:i=l.length:=by omega
  subst e;exact .inl ⟨(show(tx l).cps.size=l.length from Ev),n σ H p⟩
theorem Ot{l:List Bool}{t:Ct}{b:Css}(a:Nat->L2.St->Hp->Prop)(h0:a 0 σ H)
  (hs:∀i c σ H,l[i]?=A0 c->a i σ H->tG C t (.str (tx [c])) σ H (tSs C b {D with nx:=a (i+1),ct:=a (i+1),bk:=D.nx}))(g:∀σ H,a l.length σ H->D.nx σ H):D5 C t b D σ (Its (tx l)) H:=by
 refine eF a h0 (λi c σ H e p=>?_) λσ H p=>g σ H (by rw[Ev]at p;exact p);rw[Jb]at e;cases f:l[i]? with
 |none=>rw[f]at e;cases e
 |some d=>rw[f]at e;cases e;exact hs i d σ H f p
def GS(C:Rc)(b:Css)(D:Ends)(N:L2.St->Hp->Prop)(σ:L2.St):Bool->Hp->Prop:=λc e=>if c=A3 then∃d:L2.St->Hp->Prop,(∀a f,d a f->N a f)/\tSs C b {D with nx:=d,ct:=d,bk:=D.nx} σ e else D.nx σ e
theorem Ou{q:Cq}{b:Css}(a:Nat->L2.St->Hp->Prop)(m:Nat)(h0:a m σ H)(hs:∀m σ H,a m σ H->tQ C q σ H (GS C b D (λd f=>∃e,e<m/\a e d f) σ)):tS C (.whl q b) D σ H:=⟨a,⟨m,h0⟩,hs⟩
theorem Ov{b:Css}{N:L2.St->Hp->Prop}(h:tSs C b {D with nx:=N,ct:=N,bk:=D.nx} σ H):GS C b D N σ A3 H:=⟨N,λ_ _ q=>q,h⟩
theorem Ow{b:Css}{N:L2.St->Hp->Prop}(h:D.nx σ H):GS C b D N σ A7 H:=by unfold GS;rw[if_neg (by decide)];exact h
def Dm(xs:List V)(P:List V->Hp->Prop):VK:=λv H=>xs.length<A9/\P (xs++[v]) H
def kCT(C:Rc)(a:Ce)(xs:List V)(P:List V->Hp->Prop)(σ:L2.St):Bool->Hp->Prop:=λok H=>if ok=A3 then tE C a σ H (Dm xs P)else P xs H
def kCG(C:Rc)(a:Ce)(q:Cqo)(xs:List V)(P:List V->Hp->Prop):L2.St->Hp->Prop:=λσ H=>tQo C q σ H (kCT C a xs P σ)
theorem eH{a:Ce}{xs:List V}{P:List V->Hp->Prop}:kCG C a .none xs P σ H=tE C a σ H (Dm xs P):=rfl
theorem eI{a:Ce}{q:Cq}{xs:List V}{P:List V->Hp->Prop}:kCG C a (.some q) xs P σ H=tQ C q σ H (kCT C a xs P σ):=rfl
theorem eJ{a:Ce}{xs:List V}{P:List V->Hp->Prop}:kCT C a xs P σ A3 H=tE C a σ H (Dm xs P):=rfl
theorem eK{a:Ce}{xs:List V}{P:List V->Hp->Prop}:kCT C a xs P σ A7 H=P xs H:=rfl
theorem eL{xs:List V}{P:List V->Hp->Prop}{v:V}:Dm xs P v H=(xs.length<A9/\P (xs++[v]) H):=rfl
def D6(Q:VK)(xs:List V)(a:Hp):Prop:=∀p,a p=A6->Q (.ref p) (upd a p (.lst xs))
def Dn(C:Rc)(a:Ce)(own:List Nat)(t:Ct)(q:Cqo)(σ:L2.St)(Q:VK)(J:It)(b:Hp):Prop:=C5 own (tG C t) (tQo C q) (Ch (tE C a)) J σ [] b (D6 Q)
theorem eN{a:Ce}{own:List Nat}{t:Ct}{it:Ci}{q:Cqo}:tE C (.comp a own t it q .nil) σ H Q=tI C it σ H (Dn C a own t q σ Q):=rfl
theorem E_{g:Ce}{own:List Nat}{t:Ct}{q:Cqo}{J:It}{n:Nat}(b:Nat->List V->Hp->Prop)(h0:b 0 [] H)(l:∀i a H,i<n->b i a H->J.go i H)(d:∀a H,b n a H->J.stop n H)
  (hs:∀i a H x h(R:List V->Hp->Prop),i<n->b i a H->J.yld i H x h->(∀o j,b (i+1) o j->R o j)->tG C t x (clr own σ) h (kCG C g q a R))(v:∀a H,b n a H->D6 Q a H):Dn C g own t q σ Q J H:=by
 refine⟨λi m a H=>m=n-i/\i<=n/\b i a H,⟨n,by simp,aJ _,h0⟩,?_⟩;rintro i m a H⟨rfl,w,p⟩;by_cases f:i<n;.refine .inr ⟨l i a H f p,λx h y=>?_⟩;exact hs i a H x h (λc s=>∃r,r<n-i/\(r=n-(i+1)/\i+1<=n/\b (i+1) c s)) f p y λo j p2=>⟨n-(i+1),⋯,rfl,f,p2⟩
 .have e:i=n:=by omega
  subst e;exact .inl ⟨d a H p,v a H p⟩
theorem Cd{f:Ce}{own:List Nat}{t:Ct}{q:Cqo}{a:A4}{vs:List V}(d:Nat->List V->Hp->Prop)(h0:d 0 [] H)(g:∀i b H,d i b H->SqL C.K H a vs)
  (hs:∀i b H x(R:List V->Hp->Prop),vs[i]?=A0 x->d i b H->(∀m h,d (i+1) m h->R m h)->tG C t x (clr own σ) H (kCG C f q b R))(o:∀b H,d vs.length b H->D6 Q b H):Dn C f own t q σ Q (Itl C.K a) H:=
 E_ (n:=vs.length) d h0 (λi b H j p=>⟨vs,vs[i],g i b H p,by simp[j]⟩) (λb H p=>⟨vs,g _ b H p,ah _⟩) (λi b H x l R j p y k=>by obtain⟨e,y⟩:=y;subst e;exact hs i b l x R (y vs (g i b l p)) p k) o
theorem eO{f:Ce}{own:List Nat}{t:Ct}{q:Cqo}{a:A4}{vs:List V}(d:Nat->List V->Hp->Prop)(h0:d 0 [] H)(g:∀i b H,d i b H->SqT C.K H a vs)
  (hs:∀i b H x(R:List V->Hp->Prop),vs[i]?=A0 x->d i b H->(∀m h,d (i+1) m h->R m h)->tG C t x (clr own σ) H (kCG C f q b R))(o:∀b H,d vs.length b H->D6 Q b H):Dn C f own t q σ Q (Itt C.K a) H:=
 E_ (n:=vs.length) d h0 (λi b H j p=>⟨vs,vs[i],g i b H p,by simp[j]⟩) (λb H p=>⟨vs,g _ b H p,ah _⟩) (λi b H x l R j p y k=>by obtain⟨e,y⟩:=y;subst e;exact hs i b l x R (y vs (g i b l p)) p k) o
theorem eQ{b:Ce}{own:List Nat}{t:Ct}{q:Cqo}{h:Int}{n:Nat}(d:Nat->List V->Hp->Prop)(h0:d 0 [] H)
  (hs:∀i a H(R:List V->Hp->Prop),i<n->d i a H->(∀j g,d (i+1) j g->R j g)->tG C t (.int (h+i)) (clr own σ) H (kCG C b q a R))(l:∀a H,d n a H->D6 Q a H):Dn C b own t q σ Q (Itr h n) H:=
 E_ (n:=n) d h0 (λi a H f p=>f) (λa H p=>ah _) (λi a H x m R f p y k=>by obtain⟨e,rfl⟩:=y;subst e;exact hs i a m R f p k) l
theorem Je{b:Ce}{own:List Nat}{t:Ct}{q:Cqo}{l:List Bool}(d:Nat->List V->Hp->Prop)(h0:d 0 [] H)
  (hs:∀i a H c(R:List V->Hp->Prop),l[i]?=A0 c->d i a H->(∀j h,d (i+1) j h->R j h)->tG C t (.str (tx [c])) (clr own σ) H (kCG C b q a R))(m:∀a H,d l.length a H->D6 Q a H):Dn C b own t q σ Q (Its (tx l)) H:=
 E_ (n:=l.length) d h0 (λi a H f p=>by show i<(tx l).cps.size;rw[Ev];exact f) (λa H p=>by show(tx l).cps.size<=l.length;rw[Ev];exact ah _) (λi a H x o R f p y k=>by obtain⟨e,c,g,rfl⟩:=y;subst e;rw[Jb,ae f]at g;cases g;exact hs i a o l[i] R (ae f) p k) m
end
section
variable{C:Rc}{K:W.Frag}{σ:L2.St}{H:Hp}{Q:VK}{D:Ends}{Qb:Bool->Hp->Prop}
theorem B6{f:AI}{es:Ces}{sp:Sp}(h:C.fs f=A0 sp)(q:tA C es σ H (JZ (A0 sp) (C.xk σ) Q)):tE C (.call f es) σ H Q:=by rw[Zt h];exact q
theorem Ox{x:AI}:BZ K .len [.str x] H Q=(x.length<=A9/\Q (.int x.length) H):=propext ⟨λ⟨u,n,e,h,q⟩=>by cases e;obtain⟨b,a⟩:=h;subst a;exact⟨b,q⟩,λq=>⟨_,_,rfl,⟨q.1,rfl⟩,q.2⟩⟩
theorem eR{l:List Bool}:BZ K .len [.str (tx l)] H Q=(l.length<=A9/\Q (.int l.length) H):=by rw[Ox,Dk]
theorem EN{a:A4}{xs:List V}(h:SqL K H a xs)(q:Q (.int xs.length) H):BZ K .len [.ref a] H Q:=⟨_,_,rfl,.inl ⟨xs,h,rfl⟩,q⟩
theorem Jf{a:A4}{xs:List V}(h:SqT K H a xs)(q:Q (.int xs.length) H):BZ K .len [.ref a] H Q:=⟨_,_,rfl,.inr ⟨xs,h,rfl⟩,q⟩
theorem eS{i:Int}:BZ K .abs [.int i] H Q=Q (.int (if i<0 then -i else i)) H:=propext ⟨λ⟨u,e,q⟩=>by cases e;exact q,λq=>⟨_,rfl,q⟩⟩
theorem eT{i:Int}:BZ K .int [.int i] H Q=Q (.int i) H:=rfl
theorem eU{k:Bool}:BZ K .int [.bl k] H Q=Q (.int (if k then 1 else 0)) H:=rfl
theorem eV{c:Bool}:BZ K .int [.str (tx [c])] H Q=Q (.int (if c then 1 else 0)) H:=propext ⟨λ⟨n,e,_,q⟩=>by rw[Oo]at e;cases e;exact q,λq=>⟨_,Oo,by rw[Dk,bx];decide,q⟩⟩
theorem eW{i j:Int}:BZ K .max [.int i,.int j] H Q=Q (.int (if j>i then j else i)) H:=rfl
theorem eX{i j:Int}:BZ K .min [.int i,.int j] H Q=Q (.int (if j<i then j else i)) H:=rfl
theorem Oy{a:A4}{b:List Bool}(h:SqL K H a (b.map V.bl))(q:Q (.bl (b.any id)) H):BZ K .any [.ref a] H Q:=⟨a,b,rfl,h,q⟩
theorem Oz{x:V}{T c:String}(h:Fh H x=A0 T)(hT:T∈Dg)(a:c∈["bool","int","str","list","tuple","dict"])(q:Q (.bl (isT T c)) H):BZ K .isinstance [x,.ty c] H Q:=.inl (.inl ⟨x,T,c,rfl,h,hT,a,q⟩)
theorem BV{a:A4}{xs:List V}{i:Int}{v:V}(h:SqL K H a xs)(e:atI xs i=A0 v)(q:Q v H):CF K (.ref a) (.int i) H Q\/CG K (.ref a) (.int i) H Q:=.inl ⟨a,xs,i,v,rfl,rfl,h,e,q⟩
theorem CL{a:A4}{xs:List V}{i:Int}{v:V}(h:SqT K H a xs)(e:atI xs i=A0 v)(q:Q v H):CF K (.ref a) (.int i) H Q\/CG K (.ref a) (.int i) H Q:=.inr ⟨a,xs,i,v,rfl,rfl,h,e,q⟩
theorem eY{a b:Type}{f:a->b}{xs:List a}{i:Int}:atI (xs.map f) i=(atI xs i).map f:=by
 unfold atI;rw[ac];cases ixN xs.length i with
 |none=>rfl
 |some j=>simp
theorem Jg{l:List Bool}{i:Int}{c:Bool}(a:l.length<=A9)(e:atI l i=A0 c)(q:Q (.str (tx [c])) H):D3 K (.str (tx l)) (.int i) H Q:=by refine⟨by rw[Dk];exact a,cb c,?_,q⟩;rw[dS,eY,e];rfl
theorem eZ{a:A4}{u v:V}{k:Bool}(h:SqL K H a [u,v])(q:Q (if k then v else u) H):CF K (.ref a) (.int (if k then 1 else 0)) H Q\/CG K (.ref a) (.int (if k then 1 else 0)) H Q:=by refine BV h ?_ q;cases k<;>rfl
theorem O_{a:A4}{u v:V}{k:Bool}(h:SqT K H a [u,v])(q:Q (if k then v else u) H):CF K (.ref a) (.int (if k then 1 else 0)) H Q\/CG K (.ref a) (.int (if k then 1 else 0)) H Q:=by refine CL h ?_ q;cases k<;>rfl
theorem el{x y:List Bool}:Br K .Add (.str (tx x)) (.str (tx y)) H Q=(x.length+y.length<=A9/\Q (.str (tx (x++y))) H):=by rw[OV,Dk,Dk,GQ]
theorem er{x y:V}(h:E4 x y=A3):B9 K .Eq x y H Q=Q (.bl (decide (x=y))) H:=by
 have e:B9 K .Eq x y H Q=rEq x y H Q:=by
  unfold B9;dsimp only;split;.cases h
  .rfl
 rw[e];exact propext ⟨λ⟨_,q⟩=>q,λq=>⟨h,q⟩⟩
theorem P0{x y:V}(h:E4 x y=A3):B9 K .NotEq x y H Q=Q (.bl (!decide (x=y))) H:=by
 have e:B9 K .NotEq x y H Q=rNe x y H Q:=by
  unfold B9;dsimp only;split;.cases h
  .rfl
 rw[e];exact propext ⟨λ⟨_,q⟩=>q,λq=>⟨h,q⟩⟩
theorem ey{a b:A4}{xs d:List V}(h:SqL K H a xs)(f:SqL K H b d)(e:xs.length=d.length->LEq xs d)(q:Q (.bl (decide (xs=d))) H):B9 K .Eq (.ref a) (.ref b) H Q:=.inl ⟨a,b,xs,d,rfl,rfl,h,f,e,q⟩
theorem ez{a b:A4}{xs d:List V}(h:SqL K H a xs)(f:SqL K H b d)(e:xs.length=d.length->LEq xs d)(q:Q (.bl (!decide (xs=d))) H):B9 K .NotEq (.ref a) (.ref b) H Q:=.inl ⟨a,b,xs,d,rfl,rfl,h,f,e,q⟩
theorem GT{j:Int}(q:∀p,H p=A6->Q (.ref p) (upd H p (.rng 0 j))):BZ K .range [.int j] H Q:=⟨0,j,.inr ⟨rfl,rfl⟩,q⟩
theorem GU{r:A4}{i j:Int}(h:H r=A0 (.rng i j))(h1:-(2^62)<=i)(a:i<2^62)(d:-(2^62)<=j)(b:j<2^62)(e:(j-i).toNat<=A9)(q:∀p,H p=A6->Q (.ref p) (upd H p (.lst (rgs i (j-i).toNat)))):BZ K .list [.ref r] H Q:=.inr ⟨r,i,j,rfl,h,⟨h1,a,d,b⟩,e,q⟩
theorem P1{a:A4}{xs:List V}(h:SqL K H a xs)(q:∀p,H p=A6->Q (.ref p) (upd H p (.tup xs))):BZ K .tuple [.ref a] H Q:=⟨a,xs,rfl,.inl ⟨h,q⟩⟩
theorem e_{x y:Bool}:B9 K .NotEq (.bl x) (.bl y) H Q=Q (.bl (x !=y)) H:=by have e:B9 K .NotEq (.bl x) (.bl y) H Q=Q (.bl (!decide (V.bl x=V.bl y))) H:=propext ⟨λ⟨_,q⟩=>q,λq=>⟨rfl,q⟩⟩;rw[e];cases x<;>cases y<;>rfl
theorem fA{x y:Int}:B9 K .NotEq (.int x) (.int y) H Q=Q (.bl (!decide (x=y))) H:=by have e:B9 K .NotEq (.int x) (.int y) H Q=Q (.bl (!decide (V.int x=V.int y))) H:=propext ⟨λ⟨_,q⟩=>q,λq=>⟨rfl,q⟩⟩;rw[e];congr 3;simp only[V.int.injEq]
theorem fB{x:V}:B9 K .Is x .non H Q=Q (.bl (decide (x=.non))) H:=propext ⟨λ⟨_,q⟩=>q,λq=>⟨rfl,q⟩⟩
theorem fC{x:V}:B9 K .IsNot x .non H Q=Q (.bl (!decide (x=.non))) H:=propext ⟨λ⟨_,q⟩=>q,λq=>⟨rfl,q⟩⟩
def kG(C:Rc)(t:Ct)(D:Ends)(σ:L2.St):VK:=λv H=>tG C t v σ H D.nx
theorem D7{t:Ct}{e:Ce}:tS C (.asg t e) D σ H=tE C e σ H (kG C t D σ):=rfl
theorem fE{i j:Nat}{a:A4}{x y:V}(h:SqT C.K H a [x,y])(q:D.nx ((σ.set i (A0 x)).set j (A0 y)) H):kG C (.tup (.cons (.name i) (.cons (.name j) .nil))) D σ (.ref a) H:=Dl h q
theorem P2{i j k:Nat}{a:A4}{x y z:V}(h:SqT C.K H a [x,y,z])(q:D.nx (((σ.set i (A0 x)).set j (A0 y)).set k (A0 z)) H):kG C (.tup (.cons (.name i) (.cons (.name j) (.cons (.name k) .nil)))) D σ (.ref a) H:=dY h q
theorem Jh{a:A4}{xs:List V}{y:V}(h:H a=A0 (.lst xs))(b:xs.length<A9)(q:Q .non (upd H a (.lst (xs++[y])))):DR K .append (.ref a) [y] H Q:=⟨a,xs,y,rfl,rfl,h,b,q⟩
theorem tyL{a:A4}{xs:List V}{m:Mf}(h:H a=A0 (.lst xs))(b:DS m="list"):tyV K (DS m) (.ref a) H:=.inl ⟨b,xs,SqL.of h⟩
theorem BB{H:Hp}{p:A4}(h:H p=A6)(o:HO):Ax H (upd H p o):=λb u q=>by rw[Ay (Bm q h)];exact q
theorem snw{H:Hp}{p:A4}(h:H p=A6)(o:HO):Ax H (upd H p o)/\upd H p o p=A0 o:=⟨BB h o,A_⟩
theorem BH{a:Type}{l:List a}{i:Nat}{c:a}(b:l[i]?=A0 c):i<l.length:=by grind
theorem Ji:tE C .dnt σ H Q=(∀p,H p=A6->Q (.ref p) (upd H p (.dT []))):=rfl
theorem fF:tE C .dnew σ H Q=(∀p,H p=A6->Q (.ref p) (upd H p (.dK []))):=rfl
def P3(x:V)(Q:VK):VK:=λy H=>∃a v,x=.ref a/\Bn H a y (A0 v)/\Q v H
def P4(C:Rc)(σ:L2.St)(b:Ce)(Q:VK):VK:=λx H=>tE C b σ H (P3 x Q)
theorem fG{a b:Ce}:tE C (.dix a b) σ H Q=tE C a σ H (P4 C σ b Q):=rfl
theorem fH{b:Ce}{x:V}:P4 C σ b Q x H=tE C b σ H (P3 x Q):=rfl
end
open PySem.Builtin PySem.Builtin.Str
theorem fJ:∀{a:List (List Bool)},Txt.join (tx []) (a.map tx)=tx a.flatten:=by
 intro a;unfold Txt.join;rw[StrLaws.glued_eq_join];induction a with
 |nil=>rfl
 |cons l r b=>
  cases r with
  |nil=>simp[AI.join]
  |cons y r=>rw[aK,aK];show tx l++tx []++AI.join (tx []) (List.map tx (y::r))=_;rw[b,GQ,GQ];simp
section
variable{K:W.Frag}{H:Hp}{Q:VK}
theorem P5{a:A4}{ls:List (List Bool)}(h:SqL K H a (ls.map λl=>V.str (tx l)))(b:ls.flatten.length<=16000000)(q:Q (.str (tx ls.flatten)) H):DR K .join (.str (tx [])) [.ref a] H Q:=by
 refine⟨tx [],a,ls.map tx,rfl,rfl,.inl (by rw[aU];exact h),?_,by rw[fJ];exact q⟩;have e:((ls.map tx).map (·.length)).sum=ls.flatten.length:=by rw[aU,List.length_flatten];congr 1;apply cO;intro l _;exact Dk
 rw[e,Dk,cN,Nat.mul_zero];omega
end
section
variable{C:Rc}{K:W.Frag}{σ:L2.St}{H:Hp}{Q:VK}{D:Ends}{Qb:Bool->Hp->Prop}{i j:Int}
theorem fL{x y:AI}:B9 K .NotIn (.str x) (.str y) H Q=Q (.bl (!inT y x)) H:=propext ⟨λ⟨_,_,e,a,q⟩=>by cases e;cases a;exact q,λq=>⟨_,_,rfl,rfl,q⟩⟩
theorem GV{a:A4}{xs:List V}(h:SqL C.K H a xs)(q:Qb (!xs.isEmpty) H):Ja C Qb (.ref a) H:=⟨_,.inl ⟨xs,h,rfl⟩,q⟩
theorem fM{i:Nat}{e:Ce}{r:Css}(h:∀K:VK,(∀v a,tSs C r D (σ.set i (A0 v)) a->K v a)->tE C e σ H K):tSs C (.cons (.asg (.name i) e) r) D σ H:=h _ λ_ _ q=>q
theorem Cu{s:Cs}{r:Css}(h:∀N:L2.St->Hp->Prop,(∀a b,tSs C r D a b->N a b)->tS C s {D with nx:=N} σ H):tSs C (.cons s r) D σ H:=h _ λ_ _ q=>q
def P6(R:It->Hp->Prop):VK:=λx a=>∃z,[x]=[.str z]/\z.cps.size<=A9/\R (EJ z) a
theorem fN{a:Ce}{R:It->Hp->Prop}:tI C (.revs a) σ H R=tE C a σ H (P6 R):=rfl
theorem P7{R:It->Hp->Prop}{z:AI}(a:z.cps.size<=A9)(q:R (EJ z) H):P6 R (.str z) H:=⟨z,rfl,a,q⟩
def kDk(R:It->Hp->Prop):VK:=λx a=>DkV x a R\/DtV x a R\/DnV x a R\/DvV x a R
theorem fO{e:Ce}{R:It->Hp->Prop}:tI C (.dk e) σ H R=tE C e σ H (kDk R):=rfl
theorem GW{R:It->Hp->Prop}{d:A4}{b:List (List Key×V)}(h:Rd H d (.dT b))(q:∀o(e:List A4),e.length=b.length->(∀(i:Nat)a f,e[i]?=A0 a->b[i]?=A0 f->H a=A0 (.tup (f.1.map L2.kV)))->R (EH d o (e.map V.ref)) (upd H d (.frz o (.dT b)))):kDk R (.ref d) H:=.inr (.inl ⟨d,b,rfl,h,λo e l g _=>q o e l g⟩)
theorem P8{d:A4}{o:AT}{ks:List V}{t:Ct}{b:Css}(a:Nat->L2.St->Hp->Prop)(h0:a 0 σ H)(g:∀i σ H,a i σ H->Fz H d o)
  (hs:∀i x σ H,ks[i]?=A0 x->a i σ H->tG C t x σ H (tSs C b {D with nx:=a (i+1),ct:=a (i+1),bk:=D.nx}))(l:∀σ H,a ks.length σ H->D.nx σ H):D5 C t b D σ (EH d o ks) H:=by
 refine⟨λi m σ H=>m=ks.length-i/\i<=ks.length/\a i σ H,⟨ks.length,by simp,aJ _,h0⟩,?_⟩;rintro i m σ H⟨rfl,r,p⟩;by_cases f:i<ks.length;.refine .inr ⟨⟨f,g i σ H p⟩,a (i+1),λh q n=>⟨ks.length-(i+1),⋯,rfl,f,n⟩,λx q y=>?_⟩;obtain⟨e,y⟩:=y;subst e;exact hs i x σ _ y p
 .have e:i=ks.length:=by omega
  exact .inl ⟨⟨⋯,g i σ H p⟩,l σ H (e▸p)⟩
theorem P9{f:Ce}{own:List Nat}{t:Ct}{q:Cqo}{d:A4}{o:AT}{ks:List V}(b:Nat->List V->Hp->Prop)(h0:b 0 [] H)(l:∀i a H,b i a H->Fz H d o)
  (hs:∀i a H x(R:List V->Hp->Prop),ks[i]?=A0 x->b i a H->(∀m g,b (i+1) m g->R m g)->tG C t x (clr own σ) H (kCG C f q a R))(r:∀a H,b ks.length a H->D6 Q a H):Dn C f own t q σ Q (EH d o ks) H:=
 E_ (n:=ks.length) b h0 (λi a H h p=>⟨h,l i a H p⟩) (λa H p=>⟨ah _,l _ a H p⟩) (λi a H x s R h p y k=>by obtain⟨e,y⟩:=y;subst e;exact hs i a s x R y p k) r
def fP(C:Rc)(a:Ce)(own:List Nat)(t:Ct)(q:Cqo)(g:List Nat)(d:Ct)(b:Ci)(e:Cqo)(σ:L2.St)(Q:VK)(J:It)(f:Hp):Prop:=C5 own (tG C t) (tQo C q) (Dd (tI C b) (C5 g (tG C d) (tQo C e) (Ch (tE C a)))) J σ [] f (D6 Q)
theorem fQ{a:Ce}{own:List Nat}{t:Ct}{it:Ci}{q:Cqo}{f:List Nat}{d:Ct}{b:Ci}{e:Cqo}:tE C (.comp a own t it q (.cons f d b e .nil)) σ H Q=tI C it σ H (fP C a own t q f d b e σ Q):=rfl
end
def B1(l:List (AI×Sp))(y:AI):Option Sp:=l.lookup y
theorem BP{x:AI}{s:Sp}{l:List (AI×Sp)}:B1 ((x,s)::l) x=A0 s:=by unfold B1;simp
theorem BC{x y:AI}{s:Sp}{l:List (AI×Sp)}(h:(y==x)=A7):B1 ((x,s)::l) y=B1 l y:=by unfold B1;rw[List.lookup_cons,h]
theorem PB{y:AI}{s:Sp}:∀{l:List (AI×Sp)},B1 l y=A0 s->(y,s)∈l
 | [],h=>by cases h
 |(x,t)::l,h=>by
  unfold B1 at h;rw[List.lookup_cons]at h;cases e:y==x with
  |true=>rw[e]at h;cases h;rw[eq_of_beq e];exact ay ..
  |false=>rw[e]at h;exact ax _ (PB h)
theorem Bc{P:AC}{w:AL}{K:W.Frag}{mg:AI->Option A2}{base:AM}{k:Nat}{l:List (AI×Sp)}(h:∀p∈l,∃f b a,FnOk P w K mg base CX0 k f b a p.2/\mg p.1=A0 (.ref f)/\W.keepIn K (.ref f)=A3/\CW K b a []):
  ∀y d,B1 l y=A0 d->∃f b a,FnOk P w K mg base CX0 k f b a d/\mg y=A0 (.ref f)/\W.keepIn K (.ref f)=A3/\CW K b a []:=λy d e=>h (y,d) (PB e)
theorem Bd{P:AC}{w:AL}{K:W.Frag}{mg:AI->Option A2}{base:AM}{x l:AI}{st:Ao}{f:A4}{G:Ar}{ps:List AI}{k:Nat}{sp:Sp}(F:Fun K x l st f G)(C:Rc)(S:FnScope C.N ps (B4 st))(M:C.K=K)(a:Css)(R:mSs C.N C.B (B4 st) a (BL st)=A3)
  (len:∀o H Q E,sp o H Q E->o.length=ps.length)
  (t:∀y b,C.fs y=A0 b->∃n i g,FnOk P w K mg base CX0 k n i g b/\mg y=A0 (.ref n)/\W.keepIn K (.ref n)=A3/\CW K i g [])(I:∀y∈C.B,mg y=A6)(q:mg "~"=A6/\mg "^"=A6/\mg "%"=A6)(J:tld C.B=A7)(L:hat C.B=A7)(r:C.xk=λ_=>E0)(v:C.cl=λ_=>A6)
  (j:∀o H Q E,sp o H Q E->tSs C a {nx:=λ_ U=>Q .non U,rt:=Q} (BJ C.N o) H)(m:C.ini=λ_=>A6:=by rfl)(s:∀A D,C.gt A=A0 D->∃d,mg A=A0 (.ref d)/\∀h:AM,K.In h->PyProof.Rows.StrTab P w h d (D.map λp=>(Ag p.1,Ag p.2)):=by intro _ _ z;cases z):FnOk P w K mg base CX0 (k+1) f G ps sp:=
 Yj F C S M a R len ⟨λy b e=>by obtain⟨n,i,g,T,O⟩:=t y b e;exact⟨n,i,g,.inl T,O⟩,I,q,(λc X e=>by rw[v]at e;cases e),J,L⟩ r j m s
theorem mC{b:Type}{P:b->Prop}{a:b}{l:List b}(h:P a/\∀x∈l,P x):∀x∈a::l,P x:=List.forall_mem_cons.mpr h
theorem mN{a:Type}{P:a->Prop}:∀x∈([]:List a),P x:=λy b=>absurd b av
theorem fR{b:Type}{P:List b->Prop}(h:∀a,P [a]):∀d:List b,d.length=1->P d
 | [a],_=>h a
theorem fT{d:Type}{P:List d->Prop}(h:∀b a,P [b,a]):∀e:List d,e.length=2->P e
 | [b,a],_=>h b a
theorem fU{e:Type}{P:List e->Prop}(h:∀b a d,P [b,a,d]):∀f:List e,f.length=3->P f
 | [b,a,d],_=>h b a d
theorem fV{f:Type}{P:List f->Prop}(h:∀d b e a,P [d,b,e,a]):∀g:List f,g.length=4->P g
 | [d,b,e,a],_=>h d b e a
def D8(c:AI)(D:List (AI×AI)):AI->Option (List (AI×AI)):=λn=>if n=c then A0 D else A6
theorem PD{c:AI}{D:List (AI×AI)}:D8 c D c=A0 D:=if_pos rfl
set_option tactic.hygienic true in
theorem PF{P:AC}{w:AL}{K:W.Frag}{mg:AI->Option A2}{C:Rc}{c:AI}{D:List (AI×AI)}{d:A4}(hi:C.gt=D8 c D)(m:mg c=A0 (.ref d))
  (t1:PyProof.Rows.KTD.tabLook PyProof.Rows.KTD.flatLooks (λb=>K.lookup b) d (D.map λp=>(p.1,Ag p.2))=A3)(n:(D.map (·.1)).Nodup)
  (t2:PyProof.Rows.KTD.hashesOf (λb=>K.lookup b) d=D.map λp=>hashStr w p.1):
  ∀nm D,C.gt nm=A0 D->∃d,mg nm=A0 (.ref d)/\∀h:AM,K.In h->PyProof.Rows.StrTab P w h d (D.map λp=>(Ag p.1,Ag p.2)):=λnm D' h=>by
 rw[hi]at h;unfold D8 at h;split at h;.rename_i z;subst z;cases h;refine⟨d,m,λh x=>?_⟩;have:=W.kt_tab_in P w x t1 (by rw[aU];exact n) (by rw[t2,aU];rfl);rw[aU]at this;exact this
 .cases h
def BY{e d:Type}(R:e->d->Prop):List e->List d->Prop
 | [],[]=>True
 |a::g,b::f=>R a b/\BY R g f
 |_,_=>False
section
variable{α β:Type}{R S:α->β->Prop}
theorem BY.mono(h:∀a b,R a b->S a b):∀{e:List α}{d:List β},BY R e d->BY S e d
 | [],[],_=>trivial
 |_::_,_::_,q=>⟨h _ _ q.1,BY.mono h q.2⟩
 | [],_::_,q=>q.elim
 |_::_,[],q=>q.elim
theorem BY.len:∀{a:List α}{b:List β},BY R a b->a.length=b.length
 | [],[],_=>rfl
 |_::_,_::_,q=>by simp[BY.len q.2]
 | [],_::_,q=>q.elim
 |_::_,[],q=>q.elim
theorem BY.app:∀{d a:List α}{b e:List β},BY R d b->BY R a e->BY R (d++a) (b++e)
 | [],_,[],_,_,q=>q
 |_::_,_,_::_,_,p,q=>⟨p.1,BY.app p.2 q⟩
 | [],_,_::_,_,p,_=>p.elim
 |_::_,_,[],_,p,_=>p.elim
theorem BY.snoc{a:α}{b:β}{e:List α}{d:List β}(h:BY R e d)(r:R a b):BY R (e++[a]) (d++[b]):=h.app ⟨r,trivial⟩
theorem BY.getL:∀{f:List α}{d:List β}{i:Nat}{a:α},BY R f d->f[i]?=A0 a->∃b,d[i]?=A0 b/\R a b
 | [],[],_,_,_,e=>by cases e
 |_::_,b::_,0,_,q,e=>by cases e;exact⟨b,rfl,q.1⟩
 |_::f,_::d,i+1,a,q,e=>by obtain⟨b,h,g⟩:=BY.getL (i:=i) (a:=a) q.2 (by simpa using e);exact⟨b,by simpa using h,g⟩
 | [],_::_,_,_,q,_=>q.elim
 |_::_,[],_,_,q,_=>q.elim
end
def GX{a:Type}(Aw:TL a)(b:a)(P:a->Hp->Prop)(σ:L2.St):Bool->Hp->Prop:=λok H=>if ok=A3 then Aw σ b H P else P b H
def Do{a:Type}(e:TT)(Aw:TL a)(b:a)(P:a->Hp->Prop):L2.St->Hp->Prop:=λd H=>e d H (GX Aw b P d)
def kCl{b:Type}(own:List Nat)(g:TG)(d:TT)(Aw:TL b)(σ:L2.St)(a:b)(N:b->Hp->Prop)(J:It)(H:Hp):Prop:=C5 own g d Aw J σ a H N
section
variable{C:Rc}{σ:L2.St}{H:Hp}{Q:VK}{D:Ends}{α:Type}
theorem fW{Aw:TL α}{b:α}{P:α->Hp->Prop}:Do (tQo C .none) Aw b P σ H=Aw σ b H P:=rfl
theorem fX{q:Cq}{Aw:TL α}{b:α}{P:α->Hp->Prop}:Do (tQo C (.some q)) Aw b P σ H=tQ C q σ H (GX Aw b P σ):=rfl
theorem fY{Aw:TL α}{b:α}{P:α->Hp->Prop}:GX Aw b P σ A3 H=Aw σ b H P:=rfl
theorem fZ{Aw:TL α}{b:α}{P:α->Hp->Prop}:GX Aw b P σ A7 H=P b H:=rfl
theorem GY{own:List Nat}{g:TG}{q:TT}{Aw:TL α}{J:It}{a:α}{N:α->Hp->Prop}{n:Nat}(d:Nat->α->Hp->Prop)(h0:d 0 a H)(o:∀i b H,i<n->d i b H->J.go i H)(f:∀b H,d n b H->J.stop n H)
  (hs:∀i b H x j(R:α->Hp->Prop),i<n->d i b H->J.yld i H x j->(∀c l,d (i+1) c l->R c l)->g x (clr own σ) j (Do q Aw b R))(t:∀b H,d n b H->N b H):kCl own g q Aw σ a N J H:=by
 refine⟨λi m b H=>m=n-i/\i<=n/\d i b H,⟨n,by simp,aJ _,h0⟩,?_⟩;rintro i m b H⟨rfl,v,p⟩;by_cases h:i<n;.refine .inr ⟨o i b H h p,λx j y=>?_⟩;exact hs i b H x j (λc s=>∃r,r<n-i/\(r=n-(i+1)/\i+1<=n/\d (i+1) c s)) h p y λw l p2=>⟨n-(i+1),⋯,rfl,h,p2⟩
 .have e:i=n:=by omega
  subst e;exact .inl ⟨f b H p,t b H p⟩
theorem Jj{own:List Nat}{g:TG}{j:TT}{Aw:TL α}{l:α}{N:α->Hp->Prop}{a:A4}{vs:List V}(f:Nat->α->Hp->Prop)(h0:f 0 l H)(h:∀i b H,f i b H->SqL C.K H a vs)
  (hs:∀i b H x(R:α->Hp->Prop),vs[i]?=A0 x->f i b H->(∀c m,f (i+1) c m->R c m)->g x (clr own σ) H (Do j Aw b R))(r:∀b H,f vs.length b H->N b H):kCl own g j Aw σ l N (Itl C.K a) H:=
 GY (n:=vs.length) f h0 (λi d H o p=>⟨vs,vs[i],h i d H p,by simp[o]⟩) (λd H p=>⟨vs,h _ d H p,ah _⟩) (λi d H x q R o p y k=>by obtain⟨e,y⟩:=y;subst e;exact hs i d q x R (y vs (h i d q p)) p k) r
theorem PH{own:List Nat}{g:TG}{j:TT}{Aw:TL α}{l:α}{N:α->Hp->Prop}{a:A4}{vs:List V}(f:Nat->α->Hp->Prop)(h0:f 0 l H)(h:∀i b H,f i b H->SqT C.K H a vs)
  (hs:∀i b H x(R:α->Hp->Prop),vs[i]?=A0 x->f i b H->(∀c m,f (i+1) c m->R c m)->g x (clr own σ) H (Do j Aw b R))(r:∀b H,f vs.length b H->N b H):kCl own g j Aw σ l N (Itt C.K a) H:=
 GY (n:=vs.length) f h0 (λi d H o p=>⟨vs,vs[i],h i d H p,by simp[o]⟩) (λd H p=>⟨vs,h _ d H p,ah _⟩) (λi d H x q R o p y k=>by obtain⟨e,y⟩:=y;subst e;exact hs i d q x R (y vs (h i d q p)) p k) r
theorem PJ{own:List Nat}{g:TG}{h:TT}{Aw:TL α}{j:α}{N:α->Hp->Prop}{a:A4}{vs:List V}(e:Nat->α->Hp->Prop)(h0:e 0 j H)(f:∀i b H,e i b H->SqL C.K H a vs)
  (hs:∀i b H x p(R:α->Hp->Prop),vs[i]?=A0 x->H p=A6->e i b H->(∀c l,e (i+1) c l->R c l)->g (.ref p) (clr own σ) (upd H p (.tup [.int i,x])) (Do h Aw b R))(r:∀b H,e vs.length b H->N b H):kCl own g h Aw σ j N (Ite C.K a) H:=
 GY (n:=vs.length) e h0 (λi d H m p=>⟨vs,vs[i],f i d H p,by simp[m]⟩) (λd H p=>⟨vs,f _ d H p,rfl⟩) (λi d H x s R m p y k=>by obtain⟨q,v,rfl,o,y,rfl⟩:=y;exact hs i d H v q R (y vs (f i d H p)) o p k) r
theorem fc{own:List Nat}{g:TG}{h:TT}{Aw:TL α}{j:α}{N:α->Hp->Prop}{m:Int}{n:Nat}(a:Nat->α->Hp->Prop)(h0:a 0 j H)
  (hs:∀i b H(R:α->Hp->Prop),i<n->a i b H->(∀c l,a (i+1) c l->R c l)->g (.int (m+i)) (clr own σ) H (Do h Aw b R))(o:∀b H,a n b H->N b H):kCl own g h Aw σ j N (Itr m n) H:=
 GY (n:=n) a h0 (λi f H d p=>d) (λf H p=>ah _) (λi f H x q R d p y k=>by obtain⟨e,rfl⟩:=y;subst e;exact hs i f q R d p k) o
theorem fe{a:Ce}{own:List Nat}{t:Ct}{it:Ci}{q:Cqo}{f:List Nat}{d:Ct}{b:Ci}{e:Cqo}{r:Cc}:tE C (.comp a own t it q (.cons f d b e r)) σ H Q=tI C it σ H (kCl own (tG C t) (tQo C q) (tR C (.cons f d b e r) (Ch (tE C a))) σ [] (D6 Q)):=rfl
theorem ff{a:List Nat}{t:Ct}{it:Ci}{q:Cqo}{r:Cc}{d:TL (List V)}{b:List V}{P:List V->Hp->Prop}:tR C (.cons a t it q r) d σ b H P=tI C it σ H (kCl a (tG C t) (tQo C q) (tR C r d) σ b P):=rfl
theorem fh{a:TL (List V)}{b:List V}{P:List V->Hp->Prop}:tR C .nil a σ b H P=a σ b H P:=rfl
theorem fi{a:Ce}{b:List V}{P:List V->Hp->Prop}:Ch (tE C a) σ b H P=tE C a σ H (Dm b P):=rfl
def fj(b:(Option Int->Bool)×Nat)(P:(Option Int->Bool)×Nat->Hp->Prop):VK:=λv H=>∃k,v=kO k/\b.2<4000/\P (λj=>b.1 j||decide (j=k),b.2+1) H
theorem fk{a:Ce}{b:(Option Int->Bool)×Nat}{P:(Option Int->Bool)×Nat->Hp->Prop}:D0 (tE C a) σ b H P=tE C a σ H (fj b P):=rfl
theorem fm{it:Ci}{own:List Nat}{g:TG}{a:TT}{Aw:TL α}{b:α}{P:α->Hp->Prop}:Dd (tI C it) (C5 own g a Aw) σ b H P=tI C it σ H (kCl own g a Aw σ b P):=rfl
def fo(i:Nat)(D:Ends)(σ:L2.St):(Option Int->Bool)×Nat->Hp->Prop:=λa b=>True/\∀p,b p=A6->D.nx (σ.set i (A0 (.ref p))) (upd b p (Bi p a.1 a.2))
theorem fq{i:Nat}{a:Ce}{own:List Nat}{t:Ct}{it:Ci}{q:Cqo}{f:List Nat}{d:Ct}{b:Ci}{e:Cqo}:tS C (.setc2 i a own t it q f d b e) D σ H=tI C it σ H (kCl own (tG C t) (tQo C q) (Dd (tI C b) (C5 f (tG C d) (tQo C e) (D0 (tE C a)))) σ (λ_=>A7,0) (fo i D σ)):=rfl
theorem PK{K:W.Frag}{a:A4}{ns:List Int}(h:SqL K H a (ns.map V.int))(b:ns.length<=3999)(q:∀p,H p=A6->Q (.ref p) (upd H p (Bi p (inL ns) ns.length))):BZ K .set [.ref a] H Q:=⟨a,ns,rfl,h,b,q⟩
def ft(i:Nat)(D:Ends)(σ:L2.St):List (Key×V)->Hp->Prop:=λa b=>True/\∀p,b p=A6->D.nx (σ.set i (A0 (.ref p))) (upd b p (.dK a))
def fu(i:Nat)(D:Ends)(σ:L2.St):KTL->Hp->Prop:=λa b=>okT a b/\∀p,b p=A6->D.nx (σ.set i (A0 (.ref p))) (upd b p (.dT (plT a)))
theorem fv{i:Nat}{k v:Ce}{own:List Nat}{t:Ct}{it:Ci}{q:Cqo}:tS C (.dctc A7 i k v own t it q) D σ H=tI C it σ H (kCl own (tG C t) (tQo C q) (Fp (tE C k) (tE C v)) σ [] (ft i D σ)):=rfl
theorem fw{i:Nat}{k v:Ce}{own:List Nat}{t:Ct}{it:Ci}{q:Cqo}:tS C (.dctc A3 i k v own t it q) D σ H=tI C it σ H (kCl own (tG C t) (tQo C q) (Fq (tE C k) (tE C v)) σ [] (fu i D σ)):=rfl
def PM(a:List (Key×V))(P:List (Key×V)->Hp->Prop)(y:V):VK:=λv b=>∃k,y=L2.kV k/\a.length<A9/\P (BX a k v) b
def PN(C:Rc)(σ:L2.St)(v:Ce)(a:List (Key×V))(P:List (Key×V)->Hp->Prop):VK:=λy b=>tE C v σ b (PM a P y)
theorem fy{k v:Ce}{a:List (Key×V)}{P:List (Key×V)->Hp->Prop}:Fp (tE C k) (tE C v) σ a H P=tE C k σ H (PN C σ v a P):=rfl
theorem fz{v:Ce}{a:List (Key×V)}{P:List (Key×V)->Hp->Prop}{y:V}:PN C σ v a P y H=tE C v σ H (PM a P y):=rfl
def PP(a:KTL)(P:KTL->Hp->Prop)(y:V):VK:=λv d=>∃(k:List Key)(b:A4),y=.ref b/\d b=A0 (.tup (k.map L2.kV))/\okT a d/\(∀x∈a,x.1≠k)/\a.length<A9/\P (a++[(k,b,v)]) d
def PQ(C:Rc)(σ:L2.St)(v:Ce)(a:KTL)(P:KTL->Hp->Prop):VK:=λy b=>tE C v σ b (PP a P y)
theorem f_{k v:Ce}{a:KTL}{P:KTL->Hp->Prop}:Fq (tE C k) (tE C v) σ a H P=tE C k σ H (PQ C σ v a P):=rfl
theorem gA{v:Ce}{a:KTL}{P:KTL->Hp->Prop}{y:V}:PQ C σ v a P y H=tE C v σ H (PP a P y):=rfl
def PR(Q:VK):(Option Int->Bool)×Nat->Hp->Prop:=λa b=>JF Q a b/\∀p,b p=A6->True
theorem gB{a:Ce}{own:List Nat}{t:Ct}{it:Ci}{q:Cqo}:tE C (.ssa a own t it q) σ H Q=tI C it σ H (kCl own (tG C t) (tQo C q) (D0 (tE C a)) σ (λ_=>A7,0) (PR Q)):=rfl
theorem gC{a:(Option Int->Bool)×Nat}(h1:a.1 A6=A7)(q:∀(l:A4)(b:List Int),H l=A6->b.Nodup->(∀i:Int,i∈b↔a.1 (A0 i)=A3)->Q (.ref l) (upd H l (.lst (b.map V.int)))):PR Q a H:=⟨⟨h1,q⟩,λ_ _=>trivial⟩
def PU(C:Rc)(Q:VK):VK:=λx b=>∃(a:A4)(L:List (List Int×A4)),x=.ref a/\SqL C.K b a (L.map λq=>V.ref q.2)/\Trk b L/\L.length<=3999/\(∃n,∀q∈L,q.1.length=n+1)/\∀(l:A4)(d:List (List Int×A4)),b l=A6->(∀q∈d,q∈L)->(∀k,k∈d.map (·.1)↔k∈L.map (·.1))->d.length<=L.length->Q (.ref l) (upd b l (.lst (d.map λq=>V.ref q.2)))
theorem gD{a:Ce}:tE C (.stl a) σ H Q=tE C a σ H (PU C Q):=rfl
theorem gE{a:A4}{L:List (List Int×A4)}(h:SqL C.K H a (L.map λq=>V.ref q.2))(e:Trk H L)(b:L.length<=3999)(d:∃n,∀q∈L,q.1.length=n+1)(q:∀(l:A4)(qs:List (List Int×A4)),H l=A6->(∀q∈qs,q∈L)->(∀k,k∈qs.map (·.1)↔k∈L.map (·.1))->qs.length<=L.length->Q (.ref l) (upd H l (.lst (qs.map λq=>V.ref q.2)))):PU C Q (.ref a) H:=⟨a,L,rfl,h,e,b,d,q⟩
def Dp(neg:Bool)(y:V)(Q:VK):VK:=λx b=>(∃a o,x=.ref a/\Bn b a y o/\Q (.bl (if neg then !o.isSome else o.isSome)) b)\/Fo neg y x b Q\/Fs neg y x b Q
def Jk(C:Rc)(σ:L2.St)(neg:Bool)(b:Ce)(Q:VK):VK:=λy a=>tE C b σ a (Dp neg y Q)
theorem gF{neg:Bool}{a b:Ce}:tE C (.din neg a b) σ H Q=tE C a σ H (Jk C σ neg b Q):=rfl
theorem gG{neg:Bool}{a b:Ce}{d:Bool->Hp->Prop}:tQ C (.din neg a b) σ H d=tE C a σ H (Jk C σ neg b (kT d)):=rfl
theorem gH{neg:Bool}{b:Ce}{y:V}:Jk C σ neg b Q y H=tE C b σ H (Dp neg y Q):=rfl
theorem GZ{neg:Bool}{k:Option Int}{y:V}{p:A4}{S:Option Int->Bool}{n:Nat}(a:y=kO k)(h:H p=A0 (Bi p S n))(q:Q (.bl (if neg then !(S k)else S k)) H):Dp neg y Q (.ref p) H:=.inr (.inl ⟨k,p,S,n,a,rfl,h,q⟩)
theorem PV{neg:Bool}{D:A4}(h:NoR H D)(q:Q (.bl neg) H):Dp neg .non Q (.ref D) H:=.inr (.inr (.inr ⟨rfl,D,rfl,h,q⟩))
theorem Jl{neg:Bool}{y:V}{p:A4}{o:Option V}(h:Bn H p y o)(q:Q (.bl (if neg then !o.isSome else o.isSome)) H):Dp neg y Q (.ref p) H:=.inl ⟨p,o,rfl,h,q⟩
def Dq(a:A4)(Q:VK):VK:=λy b=>(∃o,Bn b a y o/\Q (o.getD .non) b)\/(y=.non/\NoN b a/\Q .non b)
def PX(C:Rc)(σ:L2.St)(b:Ce)(Q:VK):VK:=λx d=>∃a,x=.ref a/\IsD d a/\tE C b σ d (Dq a Q)
theorem gI{a b:Ce}:tE C (.dgt a b) σ H Q=tE C a σ H (PX C σ b Q):=rfl
theorem Ga{b:Ce}{p:A4}(h:IsD H p)(q:tE C b σ H (Dq p Q)):PX C σ b Q (.ref p) H:=⟨p,rfl,h,q⟩
theorem PY{p:A4}{y:V}{o:Option V}(h:Bn H p y o)(q:Q (o.getD .non) H):Dq p Q y H:=.inl ⟨o,h,q⟩
theorem PZ{p:A4}(h:NoN H p)(q:Q .non H):Dq p Q .non H:=.inr ⟨rfl,h,q⟩
end
section
variable{C:Rc}{σ:L2.St}{H:Hp}{Q:VK}{Qb:Bool->Hp->Prop}
def kW1(C:Rc)(σ:L2.St)(k:Zf)(b:Ce)(Q:VK):VK:=λx H=>tE C b σ H λy a=>rZf k x y a Q
def kW2(k:Zf)(x:V)(Q:VK):VK:=λy H=>rZf k x y H Q
theorem gJ{k:Zf}{a b:Ce}:tQ C (.cmw k a b) σ H Qb=tE C a σ H (kW1 C σ k b (kT Qb)):=rfl
theorem gK{k:Zf}{b:Ce}{x:V}:kW1 C σ k b Q x H=tE C b σ H (kW2 k x Q):=rfl
theorem gL{K:W.Frag}{a:A4}{b:List (List Key×V)}(h:Rd H a (.dT b))(q:∀l(d:List A4),H l=A6->KsA H d b->Q (.ref l) (upd H l (.lst (d.map V.ref)))):BZ K .listD [.ref a] H Q:=.inr ⟨a,b,rfl,h,q⟩
theorem gM{K:W.Frag}{a:A4}{b:List (List Key×V)}{n:Nat}(h:Rd H a (.dT b))(f:∀d∈b,∃e:List Int,d.1=e.map Key.inl/\e.length=n+1)(q:∀l(qs:List (List Int×A4)),H l=A6->(qs.map Prod.fst).Perm (b.map λd=>unK d.1)->(∀q∈qs,H q.2=A0 (.tup (q.1.map V.int)))->Q (.ref l) (upd H l (.lst (qs.map λq=>V.ref q.2)))):BZ K .sortV [.ref a] H Q:=⟨a,b,n,rfl,h,f,q⟩
theorem Jm{K:W.Frag}{a:A4}{b:List (List Key×V)}(h:Rd H a (.dT b))(q:Q (.int b.length) H):BZ K .lenD [.ref a] H Q:=.inr ⟨a,b,rfl,h,q⟩
section
variable{D:Ends}
def Jn(x v:V)(D:Ends)(σ:L2.St):VK:=λy d=>(∃a b,x=.ref a/\ED d a y v b/\D.nx σ b)\/False
theorem Pa{a b:A4}{d:List (List Key×V)}{ks:List Key}{v:V}(h:H a=A0 (.dT d))(e:H b=A0 (.tup (ks.map L2.kV)))(f:d.length<A9)(k:D.nx σ (upd H a (.dT (BX d ks v)))):Jn (.ref a) v D σ (.ref b) H:=.inl ⟨a,_,rfl,ED.t h e f,k⟩
def Jo(C:Rc)(i:Ce)(v:V)(D:Ends)(σ:L2.St):VK:=λx a=>tE C i σ a (Jn x v D σ)
def Pb(C:Rc)(o i:Ce)(D:Ends)(σ:L2.St):VK:=λv a=>tE C o σ a (Jo C i v D σ)
theorem gN{o i e:Ce}:tS C (.dput o i e) D σ H=tE C e σ H (Pb C o i D σ):=rfl
theorem gO{o i:Ce}{v:V}:Pb C o i D σ v H=tE C o σ H (Jo C i v D σ):=rfl
theorem gP{i:Ce}{v x:V}:Jo C i v D σ x H=tE C i σ H (Jn x v D σ):=rfl
end
def gQ(f:Yf)(Q:VK):VK:=λx H=>rYf f [x] H Q
theorem Pc{f:Yf}{a:Ce}:tE C (.cal f a) σ H Q=tE C a σ H (gQ f Q):=rfl
theorem gR{a b:A4}{d:List (List Key×V)}(h:Rd H a (.dT d))(e:H b=A0 (.dK []))(q:Q (.bl (decide (d=[]))) H):kW2 .eqD0 (.ref a) Q (.ref b) H:=⟨a,b,d,rfl,rfl,h,e,q⟩
def Pe(D:List (AI×AI))(Q:VK):VK:=λy a=>∃k v,y=.str k/\D.lookup k=A0 v/\Q (.str v) a
theorem Pf{b:AI}{a:Ce}{D:List (AI×AI)}(h:C.gt b=A0 D)(q:tE C a σ H (Pe D Q)):tE C (.gtx b a) σ H Q:=by show(match C.gt b with|A0 D=>G5 D (tE C a)|A6=>λ_ _ _=>False) σ H Q;rw[h];exact q
theorem Pg{D:List (AI×AI)}{k v:AI}(h:D.lookup k=A0 v)(q:Q (.str v) H):Pe D Q (.str k) H:=⟨k,v,rfl,h,q⟩
def Jp(a:A4)(Q:VK):VK:=λy d=>∃p b L,y=.ref p/\G4 d a p b L/\Q .non (upd d a (.dT (putA b L)))
def Ph(C:Rc)(σ:L2.St)(b:Ce)(Q:VK):VK:=λx d=>∃a,x=.ref a/\IsD d a/\tE C b σ d (Jp a Q)
theorem gS{a b:Ce}:tE C (.upd a b) σ H Q=tE C a σ H (Ph C σ b Q):=rfl
theorem gT{a:A4}{b:Ce}(h:IsD H a)(q:tE C b σ H (Jp a Q)):Ph C σ b Q (.ref a) H:=⟨a,rfl,h,q⟩
theorem gU{a p:A4}{b:List (List Key×V)}{L:PL}(g:G4 H a p b L)(q:Q .non (upd H a (.dT (putA b L)))):Jp a Q (.ref p) H:=⟨p,b,L,rfl,g,q⟩
end
end R3
end
section
open PySem PySem.Spec PyProof.Rows L2 R3
local macro_rules | `(tactic| symm) => `(tactic| try walk_at "sy")
set_option hygiene false in
local macro_rules| `(tactic|walk_at"sy")=> `(tactic|simp only [fO,Ji,gJ,gK,gN,gO,gP,gD,gS,fN,fe,ff,fh,fi,gF,gG,gH,gI,fq,fv,fw,gB,fk,fm,fy,fz,f_,gA,fW,fX,fY,fZ,Yr,Ys,Yt,Yu,Yv,Yw,Yx,Yy,Yz,Y_,Z0,Z1,Z2,Z3,Z4,Z5,Z6,Z7,Z8,Z9,ZA,ZB,ZC,ZD,ZE,ZF,ZG,fL,fQ,ZH,el,ZI,ZJ,ZK,ZL,ZM,ZN,ZO,ZP,ZQ,ZR,ZS,e_,fA,fF,fG,fH,fB,fC,ZT,ZU,OW,GN,ZV,ZW,ZX,ZY,ZZ,Za,Zb,Zc,Zd,Ze,Zg,Zh,Zi,Zj,Zk,Yq,Zn,Zo,Zl,Zm,Zp,Zq,Zr,Zs,Zu,Zv,Zw,Zx,Zy,Zz,Z_,ab,a_,be,b_,cp,c_,dG,dH,dI,dJ,dL,dM,dN,dO,dP,dR,eR,eS,eT,eU,eV,eW,eX,dU,dW,dZ,ds,d_,eC,eD,eE,dX,eN,eH,eI,eJ,eK,eL,clr,List.foldl_cons,List.foldl_nil,L2.BJ,aK,List.map_nil,bv,cN,List.cons_append,List.nil_append,bU,Nat.reduceSub,Nat.reduceAdd,List.set_cons_zero,List.set_cons_succ,List.getElem?_cons_zero,List.getElem?_cons_succ,reduceCtorEq,decide_true,decide_false,eq_self,Bool.not_true,Bool.not_false,bne_self_eq_false,BEq.rfl])
noncomputable section
namespace LW
open PySem PySem.Spec PyProof.Rows L2 R3
def Gb:Css:=(.cons (.ite (.cmp .Lt (.var 1) (.blt .len (.cons (.var 0) .nil))) (.cons (.ret (.idx (.var 0) (.var 1)))
  .nil) .nil)
  (.cons (.ret (.int 0))
  .nil))
def Gc:Css:=(.cons (.asg (.name 2) (.call "_law_cell_at" (.cons (.var 0) (.cons (.var 1) .nil))))
  (.cons (.ret (.lst (.cons (.bin .Mult (.blt .abs (.cons (.var 2) .nil)) (.blt .int (.cons (.cmp .GtE (.blt .abs (.cons (.var 2) .nil)) (.bin .Pow (.int 10) (.int 18))) .nil))) (.cons (.bin .Add (.bin .Add (.bin .Mod (.var 2) (.int 2305843009213693951)) (.bin .Mult (.int 39373) (.var 1))) (.int 17)) (.cons (.int 0) .nil)))))
  .nil))
def Gd:Css:=(.cons (.ite (.cmp .Gt (.idx (.var 0) (.int 0)) (.int 0)) (.cons (.asg (.name 2) (.bin .Mod (.idx (.var 0) (.int 0)) (.var 1)))
  (.cons (.asg (.sub (.var 0) (.int 0)) (.bin .FloorDiv (.idx (.var 0) (.int 0)) (.var 1)))
  (.cons (.ret (.var 2))
  .nil))) .nil)
  (.cons (.asg (.sub (.var 0) (.int 2)) (.bin .Add (.idx (.var 0) (.int 2)) (.int 1)))
  (.cons (.asg (.name 3) (.bin .Mod (.bin .Mult (.bin .Add (.idx (.var 0) (.int 1)) (.bin .Mult (.int 48271) (.idx (.var 0) (.int 2)))) (.bin .Add (.int 39373) (.idx (.var 0) (.int 2)))) (.int 2147483647)))
  (.cons (.asg (.name 4) (.bin .Mod (.bin .Mult (.bin .Add (.var 3) (.idx (.var 0) (.int 2))) (.bin .Add (.bin .Mod (.var 3) (.int 40009)) (.int 7))) (.int 2147483629)))
  (.cons (.ret (.bin .Mod (.bin .FloorDiv (.bin .Mod (.bin .Add (.bin .Mult (.var 4) (.int 48271)) (.var 3)) (.int 2147483587)) (.int 64)) (.var 1)))
  .nil)))))
def EO(K:W.Frag):Sp:=λd H Q _=>∃(a:A4)(b:List Int)(k:Int),d=[.ref a,.int k]/\SqL K H a (b.map V.int)/\0<=k/\∀c:Int,Q (.int c) H
theorem gV{ns:List Int}{k:Int}(h0:0<=k)(h1:k<ns.length):∃c:Int,atI (ns.map V.int) k=A0 (.int c):=by
 obtain⟨j,rfl⟩:=aZ h0;have a:j<ns.length:=by omega
 exact⟨ns[j],Db (by rw[aj,ae a];rfl)⟩
theorem gW{C:Rc}(e:C.N.length=2):∀b H Q E,EO C.K b H Q E->tSs C Gb {nx:=λ_ f=>Q .non f,rt:=Q} (L2.BJ C.N b) H:=by
 intro b H Q E h;obtain⟨a,j,k,rfl,d,g,q⟩:=h;rw[Bb e];unfold Gb;symm;refine EN d ?_;rw[ac];symm;refine Bu (λc=>?_) λ_=>?_;.obtain⟨v,i⟩:=gV g c;symm;exact BV d i (q v)
 .symm;exact q 0
def Jq(K:W.Frag):Sp:=λd H Q _=>∃(a:A4)(b:List Int)(k:Int),d=[.ref a,.int k]/\SqL K H a (b.map V.int)/\0<=k/\k<=1000/\∀(p:A4)(x y:Int),H p=A6->0<=x->0<=y->y<2^62->Q (.ref p) (upd H p (B_ x y 0))
theorem gX{C:Rc}(l:C.N.length=3)(f:C.fs "_law_cell_at"=A0 (EO C.K)):∀b H Q E,Jq C.K b H Q E->tSs C Gc {nx:=λ_ o=>Q .non o,rt:=Q} (L2.BJ C.N b) H:=by
 intro b H Q E h;obtain⟨a,j,k,rfl,e,d,m,q⟩:=h;rw[Bb l];unfold Gc;symm;refine B6 f ?_;symm;refine⟨a,j,k,rfl,e,d,λc=>?_⟩;symm;have n:0<=c%2305843009213693951:=Int.emod_nonneg _ (by decide);have i:c%2305843009213693951<2305843009213693951:=di _ (by decide);refine⟨⟨by decide,by decide,by decide⟩,?_,by decide,.inl ⟨by decide,by decide⟩,by decide,λp g=>q p _ _ g ?_ ?_ ?_⟩;.refine .inr (.inl ⟨?_,?_⟩)<;>split<;>split<;>decide
 .split<;>split<;>omega
 .omega
 .omega
section
variable{K:W.Frag}{H:Hp}{b:A4}{x y z:Int}{Q:VK}
theorem ix0(h:H b=A0 (B_ x y z))(q:Q (.int x) H):CF K (.ref b) (.int 0) H Q\/CG K (.ref b) (.int 0) H Q:=.inl ⟨b,_,0,_,rfl,rfl,SqL.of h,rfl,q⟩
theorem ix1(h:H b=A0 (B_ x y z))(q:Q (.int y) H):CF K (.ref b) (.int 1) H Q\/CG K (.ref b) (.int 1) H Q:=.inl ⟨b,_,1,_,rfl,rfl,SqL.of h,rfl,q⟩
theorem ix2(h:H b=A0 (B_ x y z))(q:Q (.int z) H):CF K (.ref b) (.int 2) H Q\/CG K (.ref b) (.int 2) H Q:=.inl ⟨b,_,2,_,rfl,rfl,SqL.of h,rfl,q⟩
theorem st0{u:Int}{Q:Hp->Prop}(h:H b=A0 (B_ x y z))(q:Q (upd H b (B_ u y z))):Cz (.ref b) (.int 0) (.int u) H Q:=⟨b,_,0,0,rfl,rfl,h,rfl,q⟩
theorem st2{u:Int}{Q:Hp->Prop}(h:H b=A0 (B_ x y z))(q:Q (upd H b (B_ x y u))):Cz (.ref b) (.int 2) (.int u) H Q:=⟨b,_,2,2,rfl,rfl,h,rfl,q⟩
end
def Ge:Sp:=λe H Q _=>∃(b:A4)(x y z m:Int),e=[.ref b,.int m]/\H b=A0 (B_ x y z)/\0<=x/\0<=y/\y<2^62/\0<=z/\z<=2^40/\0<m/\m<4611686018427387904/\
 ∀(r d a:Int),0<=r->r<m->0<=d->0<=a->a<=z+1->Q (.int r) (upd H b (B_ d y a))
theorem gY{C:Rc}(n:C.N.length=5):∀g H Q E,Ge g H Q E->tSs C Gd {nx:=λ_ t=>Q .non t,rt:=Q} (L2.BJ C.N g) H:=by
 intro g H Q E h;obtain⟨b,x,y,z,m,rfl,e,i,v,o,s,p,f,r,q⟩:=h;rw[Bb n];unfold Gd;walk_at"sy";refine ix0 e ?_;walk_at"sy";refine Bu (λc=>?_) λ_=>?_;.walk_at"sy";refine ix0 e ?_;walk_at"sy";refine⟨f,?_⟩;refine ix0 e ?_;walk_at"sy";refine⟨⟨f,.inr (al ((Nat.log2_lt ⋯).mpr (show m.natAbs<2^62 by omega)) (by decide))⟩,st0 e ?_⟩;walk_at"sy";exact q _ _ _ (Int.emod_nonneg _ ⋯) (di _ f) (Int.ediv_nonneg i ⋯) s ⋯
 .walk_at"sy";refine ix2 e ?_;walk_at"sy";refine st2 e ?_;have a:upd H b (B_ x y (z+1)) b=A0 (B_ x y (z+1)):=A_;walk_at"sy";refine ix1 a ?_;walk_at"sy";refine ix2 a ?_;walk_at"sy";refine⟨.inl ⟨by decide,by decide⟩,?_⟩;refine ix2 a ?_;walk_at"sy";refine⟨.inr (.inl ⟨⋯,⋯⟩),by decide,?_⟩;refine ix2 a ?_;walk_at"sy";generalize(y+48271*(z+1))*(39373+(z+1))%2147483647=d;have l:0<=d%40009:=Int.emod_nonneg _ (by decide);have j:d%40009<40009:=di _ (by decide);refine⟨by decide,.inr (.inl ⟨⋯,⋯⟩),by decide,.inr (.inl ⟨by decide,by decide⟩),by decide,⟨by decide,by decide⟩,f,?_⟩;exact q _ _ _ (Int.emod_nonneg _ ⋯) (di _ f) i ⋯ ⋯
def C0:Sp:=λd H Q _=>∃(b:A4)(n:Nat)(m:Int),d=[.ref b,.int m]/\H b=A0 (Bh b n)/\n<=2^40/\0<m/\m<4611686018427387904/\∀(r:Int)(a:Hp),0<=r->r<m->Go 1 H a->Q (.int r) a
theorem gZ{P:AC}{w:AL}{K:W.Frag}{mg:AI->Option A2}{base:AM}{k:Nat}{f:A4}{j:Ar}{ps:List AI}(o:ps.length=2)(F:FnOk P w K mg base CX0 k f j ps Ge):FnOk P w K mg base CX0 k f j ps C0:=by
 refine Yp (OS (sp':=λe H Q E=>Ge e H (OR Q) E) F λ_ _ _ _ h=>h) (λe H Q E h=>?_) λe H Q E h=>?_;.obtain⟨b,n,m,rfl,g,I,v,d,q⟩:=h;refine⟨b,n,g,λx y z t i a G C=>⟨b,x,y,z,m,rfl,A_,t,i,a,G,⋯,v,d,λr D s A p B l J=>?_⟩⟩;refine⟨b,D,y,s,n+1,A_,B,i,a,l,⋯,?_⟩;refine q r _ A p ?_;rw[Hc];exact Go.draw g (ah _) _
 .obtain⟨b,n,m,rfl,_⟩:=h;rw[o];rfl
def F0(K:W.Frag):Sp:=λd H Q _=>∃(a:A4)(b:List Int)(k:Int),d=[.ref a,.int k]/\SqL K H a (b.map V.int)/\0<=k/\k<=1000/\∀(p:A4),H p=A6->Q (.ref p) (upd H p (Bh p 0))
theorem ga{P:AC}{w:AL}{K:W.Frag}{mg:AI->Option A2}{base:AM}{k:Nat}{f:A4}{d:Ar}{ps:List AI}(F:FnOk P w K mg base CX0 k f d ps (Jq K)):FnOk P w K mg base CX0 k f d ps (F0 K):=by refine OS F λo H Q E h=>?_;obtain⟨a,j,k,rfl,e,i,m,q⟩:=h;refine⟨a,j,k,rfl,e,i,m,λp x y g l n b=>⟨p,x,y,0,0,A_,l,n,b,⋯,⋯,?_⟩⟩;rw[Hc];exact q p g
theorem _root_.R3.Go.boxed{c n:Nat}{H H':Hp}{b:A4}(g:Go c H H')(h:H b=A0 (Bh b n))(d:n+c<=2^40):∃m,H' b=A0 (Bh b m)/\m<=n+c/\m<=2^40:=by obtain⟨m,a,e⟩:=g.box b n h;exact⟨m,e,a,⋯⟩
abbrev Rm:=Option Nat×Option Nat
def oV:Option Nat->V
 |A6=>.non
 |A0 n=>.int n
def Tp(H H':Hp):Prop:=∀a b,H a=A0 (.tup b)->H' a=A0 (.tup b)
theorem Tp.trans{H e d:Hp}(a:Tp H e)(b:Tp e d):Tp H d:=λc x h=>b c x (a c x h)
theorem BG{H H':Hp}(s:Ax H H'):Tp H H':=λa b h=>s _ _ h
theorem _root_.R3.Go.upd{c:Nat}{H H':Hp}{l:A4}{o:HO}(g:Go c H H')(h:H l=A6):Go c H (L2.upd H' l o):=by
 refine⟨λa n e=>?_,λa u e f=>?_,λa e=>?_⟩;.obtain⟨m,i,d⟩:=g.box a n e;exact⟨m,i,by rw[Ay (Bm e h)];exact d⟩
 .rw[Ay (Bm e h)];exact g.oth a u e f
 .by_cases b:a=l;.subst b;exact h
  .rw[Ay b]at e;exact g.free a e
theorem CU{Q:VK}{m:Int}{d H:Hp}{b:A4}{i c:Nat}(o:d b=A0 (Bh b i))(g:Go c d H)(l:i+c<=2^40)(t:0<m)(h:m<4611686018427387904)(q:∀r a,0<=r->r<m->Go 1 H a->Go (c+1) d a->Q (.int r) a):C0 [.ref b,.int m] H Q E0:=by obtain⟨n,f,_,e⟩:=g.boxed o l;exact⟨b,n,m,rfl,f,e,t,h,λr a p s j=>q r a p s j (g.trans j)⟩
def FA(H:Hp)(v:V)(r:Rm):Prop:=∃p,v=.ref p/\H p=A0 (.tup [oV r.1,oV r.2])
theorem FA.mono{H H':Hp}{v:V}{r:Rm}(t:Tp H H')(h:FA H v r):FA H' v r:=by obtain⟨p,e,h⟩:=h;exact⟨p,e,t _ _ h⟩
def Bv(H:Hp):List V->List Rm->Prop
 | [],[]=>True
 |v::b,r::a=>FA H v r/\Bv H b a
 |_,_=>False
theorem Bv.mono{H H':Hp}(t:Tp H H'):∀{a:List V}{M:List Rm},Bv H a M->Bv H' a M
 | [],[],_=>trivial
 |v::a,r::b,h=>⟨h.1.mono t,Bv.mono t h.2⟩
 | [],_::_,h=>h.elim
 |_::_,[],h=>h.elim
theorem Bv.len{H:Hp}:∀{a:List V}{M:List Rm},Bv H a M->a.length=M.length
 | [],[],_=>rfl
 |v::a,r::b,h=>by simp[Bv.len h.2]
 | [],_::_,h=>h.elim
 |_::_,[],h=>h.elim
theorem Bv.snoc{H:Hp}{v:V}{r:Rm}(b:FA H v r):∀{a:List V}{M:List Rm},Bv H a M->Bv H (a++[v]) (M++[r])
 | [],[],_=>⟨b,trivial⟩
 |v::a,r::d,h=>⟨h.1,Bv.snoc b h.2⟩
 | [],_::_,h=>h.elim
 |_::_,[],h=>h.elim
theorem Bv.get{H:Hp}:∀{a:List V}{M:List Rm}{i:Nat}{r:Rm},Bv H a M->M[i]?=A0 r->∃p,a[i]?=A0 (.ref p)/\H p=A0 (.tup [oV r.1,oV r.2])
 | [],[],i,r,_,e=>by cases e
 |v::a,r::d,0,f,h,e=>by cases e;obtain⟨p,rfl,b⟩:=h.1;exact⟨p,rfl,b⟩
 |v::a,r::d,i+1,f,h,e=>Bv.get (i:=i) h.2 (by simpa using e)
 | [],_::_,_,_,h,_=>h.elim
 |_::_,[],_,_,h,_=>h.elim
def IsM(H:Hp)(a:A4)(M:List Rm):Prop:=∃b,H a=A0 (.tup b)/\Bv H b M
theorem IsM.mono{H H':Hp}{a:A4}{M:List Rm}(t:Tp H H')(h:IsM H a M):IsM H' a M:=by obtain⟨e,d,b⟩:=h;exact⟨e,t _ _ d,b.mono t⟩
def OkR(N:Nat)(r:Rm):Prop:=(∀n,r.1=A0 n->n<N)/\∀n,r.2=A0 n->n<N
def OkM(M:List Rm):Prop:=∀r∈M,OkR M.length r
def nV(n:Nat):V:=.int n
def Gf:Css:=(.cons (.ret (.met .join (.str "") (.cons (.comp (.idx (.str "01") (.call "_law_take" (.cons (.var 0) (.cons (.int 2) .nil)))) [2] (.name 2) (.range1 (.var 1)) .none .nil) .nil)))
  .nil)
def stp(M:List Rm)(r:Nat)(c:Bool):Option Nat:=match M[r]? with
 |A0 a=>if c then a.2 else a.1
 |A6=>A6
def wk(M:List Rm)(o:Option Nat)(row:List Bool):Option Nat:=row.foldl (λo c=>o.bind λr=>stp M r c) o
theorem Jr{M:List Rm}{row:List Bool}:wk M A6 row=A6:=by
 induction row with
 |nil=>rfl
 |cons c row a=>exact a
theorem Gg{M:List Rm}{o:Option Nat}{a b:List Bool}:wk M o (a++b)=wk M (wk M o a) b:=by unfold wk;rw[List.foldl_append]
theorem Pk{M:List Rm}{o:Option Nat}{row:List Bool}{i:Nat}{c:Bool}(h:row[i]?=A0 c):wk M o (row.take (i+1))=(wk M o (row.take i)).bind λr=>stp M r c:=by rw[aO,h];show wk M o (row.take i++[c])=_;rw[Gg];rfl
theorem gb{M:List Rm}(a:OkM M){r:Nat}{c:Bool}{n:Nat}(h:stp M r c=A0 n):n<M.length:=by
 unfold stp at h;cases e:M[r]? with
 |none=>rw[e]at h;cases h
 |some b=>
  rw[e]at h;have:=a b (ao e);cases c;.exact this.1 n h
  .exact this.2 n h
theorem Pl{M:List Rm}(a:OkM M):∀{row:List Bool}{o:Option Nat}{n:Nat},(∀m,o=A0 m->m<M.length)->wk M o row=A0 n->n<M.length
 | [],o,n,b,h=>b n h
 |c::row,o,n,b,h=>Pl a (row:=row) (o:=o.bind λr=>stp M r c) (λm d=>by
   cases o with
   |none=>cases d
   |some r=>exact gb a d) h
def FB:Sp:=λd H Q _=>∃(b:A4)(n N:Nat),d=[.ref b,.int N]/\H b=A0 (Bh b n)/\n<=2^39/\N<=500/\∀(r:List Bool)(a:Hp),r.length=N->Go N H a->Q (.str (tx r)) a
theorem gc{C:Rc}(w:C.N.length=3)(hT:C.fs "_law_take"=A0 C0):∀f H Q E,FB f H Q E->tSs C Gf {nx:=λ_ m=>Q .non m,rt:=Q} (L2.BJ C.N f) H:=by
 intro f H Q E h;obtain⟨b,n,N,rfl,v,I,B,q⟩:=h;rw[Bb w];unfold Gf;walk_at"sy";refine⟨rfl,?_⟩;refine Ey ⋯ ⋯ (eQ (λi j m=>(∃r:List Bool,j=(r.map λc=>[c]).map (λl=>V.str (tx l))/\r.length=i)/\Go i H m) ⟨⟨[],rfl,rfl⟩,Go.refl⟩ ?_ ?_)
 .rintro i j x R K⟨⟨r,rfl,a⟩,d⟩hR;walk_at"sy";refine B6 hT ?_;walk_at"sy";refine CU v d ⋯ ⋯ ⋯ λr2 J G A D t=>?_;walk_at"sy";obtain⟨e,g⟩:∃e,atI [A7,A3] r2=A0 e:=by
   have:r2=0\/r2=1:=by omega
   rcases this with rfl|rfl;.exact⟨A7,rfl⟩
   .exact⟨A3,rfl⟩
  refine Jg (by decide) g ?_;walk_at"sy";exact⟨by simp only[ac];exact BK ⋯,hR _ _ ⟨⟨r++[e],by simp,by simp[a]⟩,t⟩⟩
 .rintro j x⟨⟨r,rfl,a⟩,d⟩p s;rw[bg]at a d;walk_at"sy";have o:(r.map λc=>[c]).flatten=r:=by
   clear a s;induction r with
   |nil=>rfl
   |cons c r y=>rw[aK,List.flatten_cons,y];rfl
  refine P5 (ls:=r.map λc=>[c]) (SqL.of A_) (by rw[o];omega) ?_;rw[o];exact q r _ a (d.upd (d.free _ s))
theorem Pm{H H':Hp}{a:A4}{o:HO}(s:Ax H H')(h:H a=A6):Ax H (upd H' a o):=λb u q=>by rw[Ay (Bm q h)];exact s b u q
theorem Gh{a:Type}{vs:List a}{i:Nat}{v:a}(b:vs.length=i+1)(h:vs[i]?=A0 v):atI vs (-1)=A0 v:=by unfold atI ixN;rw[if_neg ⋯,if_pos ⋯];show vs[((-1:Int)+(vs.length:Int)).toNat]?=A0 v;rw[show((-1:Int)+(vs.length:Int)).toNat=i by omega];exact h
def ow(f:Nat->Nat):Option Nat->Nat
 |A6=>0
 |A0 m=>f m
end LW
namespace TM
open PySem PySem.Spec PyProof.Rows L2 R3 LW
def Gi:Css:=(.cons (.asg (.name 2) (.blt .set (.cons (.var 1) .nil)))
  (.cons (.setc2 3 (.var 5) [4,5] (.name 4) (.val (.var 1)) .none [5] (.name 5) (.val (.idx (.var 0) (.var 4))) .none)
  (.cons (.ret (.comp (.var 4) [4] (.name 4) (.val (.var 1)) (.some (.and (.din A7 (.var 4) (.var 3)) (.or (.din A7 (.idx (.idx (.var 0) (.var 4)) (.int 0)) (.var 2)) (.din A7 (.idx (.idx (.var 0) (.var 4)) (.int 1)) (.var 2))))) .nil))
  .nil)))
def Gj:Css:=(.cons (.dctc A7 2 (.var 4) (.var 3) [3,4] (.tup (.cons (.name 3) (.cons (.name 4) .nil))) (.enum (.var 1)) .none)
  (.cons (.ret (.blt .tuple (.cons (.comp (.tup (.cons (.dgt (.var 2) (.idx (.idx (.var 0) (.var 4)) (.int 0))) (.cons (.dgt (.var 2) (.idx (.idx (.var 0) (.var 4)) (.int 1))) .nil))) [4] (.name 4) (.val (.var 1)) .none .nil) .nil)))
  .nil))
def Gk:Css:=(.cons (.asg (.name 1) (.blt .list (.cons (.blt .range (.cons (.blt .len (.cons (.var 0) .nil)) .nil)) .nil)))
  (.cons (.asg (.name 2) (.call "lasting" (.cons (.var 0) (.cons (.var 1) .nil))))
  (.cons (.whl (.cmp .Lt (.blt .len (.cons (.var 2) .nil)) (.blt .len (.cons (.var 1) .nil))) (.cons (.asg (.name 1) (.var 2))
  (.cons (.asg (.name 2) (.call "lasting" (.cons (.var 0) (.cons (.var 1) .nil))))
  .nil)))
  (.cons (.ret (.tup (.cons (.call "part_of" (.cons (.var 0) (.cons (.var 1) .nil))) (.cons (.var 1) .nil))))
  .nil))))
def oI(o:Option Nat):Option Int:=o.map Int.ofNat
theorem FC{o:Option Nat}:oV o=kO (oI o):=by cases o<;>rfl
theorem Pn{a b:Option Nat}(h:oI a=oI b):a=b:=by cases a<;>cases b<;>simp[oI]at h⊢;omega
def fs1(M:List Rm)(r:Nat):Option Nat:=(M[r]?.getD (A6,A6)).1
def fs2(M:List Rm)(r:Nat):Option Nat:=(M[r]?.getD (A6,A6)).2
theorem Dr{C:Rc}{H:Hp}{a:A4}{M:List Rm}{r:Nat}{Q:VK}(g:IsM H a M)(d:r<M.length)(q:∀p,H p=A0 (.tup [oV (fs1 M r),oV (fs2 M r)])->Q (.ref p) H):CF C.K (.ref a) (.int r) H Q\/CG C.K (.ref a) (.int r) H Q:=by obtain⟨i,h,f⟩:=g;obtain⟨p,e,b⟩:=f.get (ae d);refine CL (SqT.of h) (v:=.ref p) (Db e) (q p ?_);unfold fs1 fs2;rw[ae d];exact b
theorem gf{M:List Rm}(a:OkM M){r n:Nat}:(fs1 M r=A0 n->n<M.length)/\(fs2 M r=A0 n->n<M.length):=by
 unfold fs1 fs2;cases e:M[r]? with
 |none=>exact⟨λh=>(nomatch h),λh=>(nomatch h)⟩
 |some m=>have:=a m (ao e);exact⟨this.1 n,this.2 n⟩
def ldS(M:List Rm)(rs:List Nat):Option Int->Bool:=λk=>rs.any λr=>decide (k=oI (fs1 M r))||decide (k=oI (fs2 M r))
theorem gg{M:List Rm}{rs:List Nat}{r:Nat}:ldS M (rs++[r])=λk=>(ldS M rs k||decide (k=oI (fs1 M r)))||decide (k=oI (fs2 M r)):=by funext k;unfold ldS;rw[List.any_append];simp[Bool.or_assoc]
def inR(rs:List Nat)(o:Option Nat):Bool:=match o with
 |A0 n=>rs.contains n
 |A6=>A7
theorem Js{rs:List Nat}{o:Option Nat}:inL (rs.map Int.ofNat) (oI o)=inR rs o:=by
 cases o with
 |none=>rfl
 |some n=>
  show(rs.map Int.ofNat).contains (Int.ofNat n)=rs.contains n;induction rs with
  |nil=>rfl
  |cons a rs b=>
   rw[aK,List.contains_cons,List.contains_cons,b];congr 1;by_cases h:n=a;.subst h;simp
   .rw[beq_eq_false_iff_ne.mpr h,beq_eq_false_iff_ne.mpr (λz=>h (Int.ofNat.inj z))]
def CC(M:List Rm)(rs:List Nat)(r:Nat):Bool:=ldS M rs (A0 (r:Int))&&(inR rs (fs1 M r)||inR rs (fs2 M r))
def lst(M:List Rm)(rs:List Nat):List Nat:=rs.filter (CC M rs)
theorem Po{rs:List Nat}:(rs.map Int.ofNat).map V.int=rs.map nV:=by rw[aU];rfl
def FD:Sp:=λe H Q _=>∃(a l:A4)(M:List Rm)(b:List Nat),e=[.ref a,.ref l]/\IsM H a M/\H l=A0 (.lst (b.map nV))/\(∀r∈b,r<M.length)/\b.length<=500/\∀(p:A4)(d:Hp),H p=A6->Ax H d->d p=A0 (.lst ((lst M b).map nV))->Q (.ref p) d
theorem gh{C:Rc}(hN:C.N.length=6):∀vs H Q E,FD vs H Q E->tSs C Gi {nx:=λ_ d=>Q .non d,rt:=Q} (L2.BJ C.N vs) H:=by
 intro vs H Q E h;obtain⟨a,l,M,rs,rfl,hM,hl,U,a2,q⟩:=h;rw[Bb hN];unfold Gi;symm;refine PK (ns:=rs.map Int.ofNat) (SqL.of (by rw[Po];exact hl)) (by rw[ac];omega) λp hp=>?_;have J:=BB hp (Bi p (inL (rs.map Int.ofNat)) (rs.map Int.ofNat).length);have Z:upd H p (Bi p (inL (rs.map Int.ofNat)) (rs.map Int.ofNat).length) p=A0 (Bi p (inL (rs.map Int.ofNat)) (rs.map Int.ofNat).length):=A_;generalize upd H p (Bi p (inL (rs.map Int.ofNat)) (rs.map Int.ofNat).length)=H1 at J Z⊢;have B:=J _ _ hl;have Y:=hM.mono (BG J);symm;refine CB (SqL.of B) (Jj (vs:=rs.map nV) (λi b d=>b.1=ldS M (rs.take i)/\b.2=2*i/\d=H1) ⟨rfl,rfl,rfl⟩ (λi b d O=>SqL.of (by rw[O.2.2];exact B)) ?_ ?_)
 .rintro i⟨S,n⟩d x R f⟨m,t,hH⟩hR;subst hH;rw[aj]at f;cases s:rs[i]? with
  |none=>rw[s]at f;cases f
  |some r=>
  rw[s]at f;cases f;have hi:=BH s;have w:=U r (ao s);dsimp only at m t;subst m t;simp only[nV];symm;refine Dr Y w λpr g=>?_;symm;refine Ex (SqT.of g) (PH (vs:=[oV (fs1 M r),oV (fs2 M r)]) (λj b a0=>b.1=(λk=>(if j=0 then ldS M (rs.take i) k else if j=1 then(ldS M (rs.take i) k||decide (k=oI (fs1 M r)))else(ldS M (rs.take i) k||decide (k=oI (fs1 M r)))||decide (k=oI (fs2 M r))))/\b.2=2*i+j/\a0=d) ⟨rfl,rfl,rfl⟩ (λj b d O=>SqT.of (by rw[O.2.2];exact g)) ?_ ?_)
  .rintro j⟨S,n⟩d x R2 f⟨m,t,rfl⟩L;dsimp only at m t;subst m t;have hj:j=0\/j=1:=by have:=BH f;simp only[bv,cN]at this;omega
   rcases hj with rfl|rfl;.simp only[List.getElem?_cons_zero,Option.some.injEq]at f;subst f;symm;refine⟨oI (fs1 M r),FC,⋯,L _ _ ⟨?_,rfl,rfl⟩⟩;funext k;simp
   .simp only[List.getElem?_cons_succ,List.getElem?_cons_zero,Option.some.injEq]at f;subst f;symm;refine⟨oI (fs2 M r),FC,⋯,L _ _ ⟨?_,rfl,rfl⟩⟩;funext k;simp
  .rintro⟨S,n⟩d⟨m,t,rfl⟩;dsimp only at m t;subst m t;refine hR _ _ ⟨?_,by simp;omega,rfl⟩;rw[show rs.take (i+1)=rs.take i++[r]by rw[aO,s];rfl,gg];rfl
 .rintro⟨S,n⟩d⟨m,t,rfl⟩;dsimp only at m t;rw[ac,aQ]at m;subst m;refine⟨trivial,λp2 a1=>?_⟩;dsimp only;have G:=BB a1 (Bi p2 (ldS M rs) n);have y:upd d p2 (Bi p2 (ldS M rs) n) p2=A0 (Bi p2 (ldS M rs) n):=A_;generalize upd d p2 (Bi p2 (ldS M rs) n)=H2 at G y⊢;have I:=G _ _ B;have A:=G _ _ Z;have T:=Y.mono (BG G);symm;refine CB (SqL.of I) (Cd (vs:=rs.map nV) (λi xs d=>xs=((rs.take i).filter (CC M rs)).map nV/\d=H2) ⟨rfl,rfl⟩ (λi xs d O=>SqL.of (by rw[O.2];exact I)) ?_ ?_)
  .rintro i xs d x R f⟨rfl,rfl⟩hR;rw[aj]at f;cases s:rs[i]? with
   |none=>rw[s]at f;cases f
   |some r=>
   rw[s]at f;cases f;have hi:=BH s;have w:=U r (ao s);have et:(rs.take (i+1)).filter (CC M rs)=(rs.take i).filter (CC M rs)++[r].filter (CC M rs):=by rw[aO,s,cU];rfl
   have a3:((rs.take i).filter (CC M rs)).length<=500:=aN (bn ..) (by rw[aM];omega);have e:CC M rs r=A3->R (((rs.take i).filter (CC M rs)).map nV++[nV r]) d:=λh=>hR _ _ ⟨by rw[et,bM,if_pos h,aC];rfl,rfl⟩;have D:CC M rs r=A7->R (((rs.take i).filter (CC M rs)).map nV) d:=λh=>hR _ _ ⟨by rw[et,bM,if_neg (by rw[h];decide)];simp,rfl⟩;have e1:=Js (rs:=rs) (o:=fs1 M r);have e2:=Js (rs:=rs) (o:=fs2 M r);unfold CC at e D;simp only[nV]at e⊢;symm;refine GZ (k:=A0 (r:Int)) rfl y ?_;simp only[ba,if_false];cases P:ldS M rs (A0 (r:Int))with
   |false=>rw[P]at D;symm;exact D rfl
   |true=>
    rw[P]at e D;symm;refine Dr T w λpr g=>?_;symm;refine CL (SqT.of g) (v:=oV (fs1 M r)) rfl ?_;symm;refine GZ FC A ?_;simp only[ba,if_false];rw[e1];cases h1:inR rs (fs1 M r)with
    |true=>rw[h1]at e;symm;exact⟨by rw[ac];exact BK ⋯,e rfl⟩
    |false=>
     rw[h1]at e D;symm;refine Dr T w λpr g=>?_;symm;refine CL (SqT.of g) (v:=oV (fs2 M r)) rfl ?_;symm;refine GZ FC A ?_;simp only[ba,if_false];rw[e2];cases h2:inR rs (fs2 M r)with
     |true=>rw[h2]at e;symm;exact⟨by rw[ac];exact BK ⋯,e rfl⟩
     |false=>rw[h2]at D;symm;exact D rfl
  .rintro xs d⟨rfl,rfl⟩p3 X;rw[ac,aQ];have K:upd d p3 (.lst ((rs.filter (CC M rs)).map nV)) p3=A0 (.lst ((lst M rs).map nV)):=A_;exact q p3 _ ((J.trans G).free X) (J.trans (G.trans (BB X _))) K
theorem gi{i:Nat}(h:i<=1000):hashInt (i:Int)=i:=by
 unfold hashInt rawHash;have e:(((i:Int).natAbs:Nat):Int)%((2^61-1:Nat):Int)=i:=by rw[Int.natAbs_natCast];exact Int.emod_eq_of_lt ⋯ (Int.ofNat_lt.mpr (show i<2^61-1 by omega))
 dsimp only;rw[e];have b:¬((i:Int)<0):=by omega
 have a:((i:Int)== -1)=A7:=by rw[beq_eq_false_iff_ne];omega
 simp only[b,if_false,a,ba]
def TbK(n m:Nat)(a:List (Key×V)):Prop:=∀b∈a,∃r j:Nat,b=(.inl (r:Int),.int j)/\r<n/\j<m
theorem TbK.non{H:Hp}{p:A4}{n m:Nat}{a:List (Key×V)}(h:TbK n m a)(g:n<=1000)(d:H p=A0 (.dK a)):NoN H p:=.inl ⟨a,d,λe b=>by obtain⟨r,j,rfl,f,_⟩:=h e b;exact⟨r,rfl,by rw[gi ⋯];show(r:Int)≠0xFCA86420;omega⟩⟩
theorem gj{M:List Rm}{rs:List Nat}:(lst M rs).length<=rs.length:=bn ..
theorem Pp{M:List Rm}{rs:List Nat}{r:Nat}(h:r∈lst M rs):r∈rs:=(aH.mp h).1
theorem Gm{n:Nat}:rgs 0 n=(aG n).map nV:=by unfold rgs;apply cO;intro k _;show V.int (0+(k:Int))=V.int k;rw[Int.zero_add]
end TM
namespace BD
open PySem PySem.Spec PyProof.Rows L2 R3 LW TM
def Gn:Css:=(.cons (.asg (.tup (.cons (.name 1) (.cons (.name 2) (.cons (.name 3) (.cons (.name 4) (.cons (.name 5) .nil)))))) (.var 0))
  (.cons (.asg (.name 6) (.ife (.cmp .Is (.var 5) .non) (.lst (.cons (.int 0) .nil)) (.blt .list (.cons (.blt .range (.cons (.bin .Add (.var 5) (.int 1)) .nil)) .nil))))
  (.cons (.ret (.comp (.tup (.cons (.var 7) (.cons (.var 9) (.cons (.var 10) .nil)))) [7,8,9,10] (.tup (.cons (.name 7) (.cons (.name 8) .nil))) (.val (.tup (.cons (.tup (.cons (.int 0) (.cons (.var 2) .nil))) (.cons (.tup (.cons (.int 1) (.cons (.var 4) .nil))) .nil)))) .none (.cons [9,10] (.name 9) (.range2 (.int 1) (.bin .Add (.var 8) (.int 1))) .none (.cons [10] (.name 10) (.val (.var 6)) .none .nil))))
  .nil)))
def Gp:Css:=(.cons (.asg (.tup (.cons (.name 3) (.cons (.name 4) (.cons (.name 5) (.cons (.name 6) (.cons (.name 7) .nil)))))) (.var 0))
  (.cons (.asg (.tup (.cons (.name 8) (.cons (.name 9) (.cons (.name 10) .nil)))) (.var 1))
  (.cons (.ite (.cmp .IsNot (.var 7) .non) (.cons (.aug 10 A7 (.ife (.cmp .Eq (.var 2) (.int 1)) (.int 1) (.neg (.int 1))))
  .nil) .nil)
  (.cons (.ite (.cmp .Eq (.var 2) (.var 8)) (.cons (.ret (.tup (.cons (.var 2) (.cons (.bin .Add (.var 9) (.int 1)) (.cons (.var 10) .nil)))))
  .nil) .nil)
  (.cons (.ite (.cmp .Lt (.var 9) (.ife (.cmp .Eq (.var 8) (.int 1)) (.var 5) (.var 3))) (.cons (.ret .non)
  .nil) .nil)
  (.cons (.ret (.tup (.cons (.var 2) (.cons (.int 1) (.cons (.var 10) .nil)))))
  .nil))))))
def Gr:Css:=(.cons (.dctc A3 2 (.var 4) (.var 3) [3,4] (.tup (.cons (.name 3) (.cons (.name 4) .nil))) (.enum (.var 1)) .none)
  (.cons (.ret (.blt .tuple (.cons (.comp (.tup (.cons (.dgt (.var 2) (.call "room_behind" (.cons (.var 0) (.cons (.var 4) (.cons (.int 0) .nil))))) (.cons (.dgt (.var 2) (.call "room_behind" (.cons (.var 0) (.cons (.var 4) (.cons (.int 1) .nil))))) .nil))) [4] (.name 4) (.val (.var 1)) .none .nil) .nil)))
  .nil))
def Gs:Css:=(.cons (.asg (.tup (.cons (.name 1) (.cons (.name 2) .nil))) (.call "trimmed" (.cons (.call "machine_in_bounds" (.cons (.var 0) (.cons (.call "rooms_in_bounds" (.cons (.var 0) .nil)) .nil))) .nil)))
  (.cons (.ret (.var 1))
  .nil))
structure IsB(H:Hp)(p:A4)(l0 h0 l1 h1:Nat)(sp:Option Nat):Prop where
 at':H p=A0 (.tup [nV l0,nV h0,nV l1,nV h1,oV sp])
 b0:h0<=8
 b1:h1<=8
 bs:∀s,sp=A0 s->s<=16
theorem IsB.mono{H H':Hp}{p:A4}{l0 h0 l1 h1:Nat}{sp:Option Nat}(h:IsB H p l0 h0 l1 h1 sp)(t:Tp H H'):IsB H' p l0 h0 l1 h1 sp:=⟨t _ _ h.at',h.b0,h.b1,h.bs⟩
theorem Pq{C:Rc}{H:Hp}{σ:L2.St}{i j k m n:Nat}{a:A4}{x y z u v:V}{R:L2.St->Hp->Prop}(h:SqT C.K H a [x,y,z,u,v])(q:R (((((σ.set i (A0 x)).set j (A0 y)).set k (A0 z)).set m (A0 u)).set n (A0 v)) H):tG C (.tup (.cons (.name i) (.cons (.name j) (.cons (.name k) (.cons (.name m) (.cons (.name n) .nil)))))) (.ref a) σ H R:=
 ⟨a,[x,y,z,u,v],rfl,.inl h,rfl,_,_,rfl,_,_,rfl,_,_,rfl,_,_,rfl,_,_,rfl,rfl,q⟩
abbrev K3:=Nat×Nat×Nat
def CV(H:Hp)(v:V)(k:K3):Prop:=∃p,v=.ref p/\H p=A0 (.tup [nV k.1,nV k.2.1,nV k.2.2])
theorem CV.mono{H H':Hp}(s:Ax H H'){v:V}{k:K3}(h:CV H v k):CV H' v k:=by obtain⟨p,e,a⟩:=h;exact⟨p,e,s _ _ a⟩
def r1(a:List Nat)(b pl:Nat):List K3:=a.map λl=>(b,pl,l)
def r2(a:List Nat)(b:Nat)(h:Nat):List K3:=(aG h).flatMap λj=>r1 a b (j+1)
def rk(a:List Nat)(h0 h1:Nat):List K3:=r2 a 0 h0++r2 a 1 h1
def lvs:Option Nat->List Nat
 |A6=>[0]
 |A0 s=>aG (s+1)
theorem Gu{a:List Nat}{b h:Nat}:r2 a b (h+1)=r2 a b h++r1 a b (h+1):=by unfold r2;rw[List.range_succ,List.flatMap_append];simp
theorem EQ{a:List Nat}{b:Nat}:∀{h},(r2 a b h).length=h*a.length
 |0=>by rw[Nat.zero_mul];rfl
 |h+1=>by rw[Gu,aB,EQ,Nat.add_mul,Nat.one_mul];unfold r1;rw[ac]
theorem D9{d:List Nat}{b h:Nat}{k:K3}:k∈r2 d b h->k.1=b/\1<=k.2.1/\k.2.1<=h/\k.2.2∈d:=by unfold r2 r1;intro a;obtain⟨j,f,a⟩:=List.mem_flatMap.mp a;obtain⟨l,e,rfl⟩:=ar.mp a;have:=aI.mp f;exact⟨rfl,by show 1<=j+1;omega,by show j+1<=h;omega,e⟩
theorem Pr{a b:Type}{f:a->b}(d:∀x y,f x=f y->x=y):∀{l:List a},l.Nodup->(l.map f).Nodup
 :=by intro x;induction x<;>grind
theorem Jt{d:List Nat}(a:d.Nodup){b:Nat}:∀{h},(r2 d b h).Nodup
 |0=>dg
 |h+1=>by rw[Gu,List.nodup_append];refine⟨Jt a,Pr (λx y e=>by injection e with _ e;injection e) a,λx g y f e=>?_⟩;subst e;have i:=(D9 g).2.2.1;unfold r1 at f;obtain⟨l,_,rfl⟩:=ar.mp f;have:h+1<=h:=i;omega
theorem ER{f:List Nat}(d:f.Nodup){h0 h1:Nat}:(rk f h0 h1).Nodup:=by unfold rk;rw[List.nodup_append];refine⟨Jt d,Jt d,λx g y h e=>?_⟩;subst e;have a:=(D9 g).1;have b:=(D9 h).1;omega
theorem ES{sp:Option Nat}:(lvs sp).Nodup:=by
 cases sp with
 |none=>exact cc.mpr ⟨av,dg⟩
 |some s=>exact dc
theorem Ju{sp:Option Nat}(h:∀s,sp=A0 s->s<=16):(lvs sp).length<=17/\∀l∈lvs sp,l<=16:=by
 cases sp with
 |none=>exact⟨by decide,λl a=>by have:l=0:=(by simpa[lvs]using a);omega⟩
 |some s=>have:=h s rfl;refine⟨by show(aG (s+1)).length<=17;rw[bf];omega,λl a=>?_⟩;have:=aI.mp (show l∈aG (s+1)from a);omega
theorem DA{sp:Option Nat}{h0 h1:Nat}(hs:∀s,sp=A0 s->s<=16)(a0:h0<=8)(f:h1<=8):(rk (lvs sp) h0 h1).length<=272/\∀k∈rk (lvs sp) h0 h1,k.1<2/\k.2.1<9/\k.2.2<17:=by
 obtain⟨h,d⟩:=Ju hs;constructor;.unfold rk;rw[aB,EQ,EQ];have j:h0*(lvs sp).length<=8*17:=Nat.mul_le_mul a0 h;have i:h1*(lvs sp).length<=8*17:=Nat.mul_le_mul f h;omega
 .intro k a;unfold rk at a;rcases aL.mp a with a|a;.obtain⟨e,_,g,b⟩:=D9 a;have:=d _ b;omega
  .obtain⟨e,_,g,b⟩:=D9 a;have:=d _ b;omega
def FE:Sp:=λi H Q _=>∃(bd:A4)(h b g f:Nat)(e:Option Nat),i=[.ref bd]/\IsB H bd h b g f e/\∀(p:A4)(d:List V)(a:Hp),Ax H a->a p=A0 (.lst d)->BY (CV a) d (rk (lvs e) b f)->Q (.ref p) a
theorem Ps{H H':Hp}(s:Ax H H'){xs:List V}{ks:List K3}(h:BY (CV H) xs ks):BY (CV H') xs ks:=h.mono λ_ _ z=>z.mono s
theorem gk{C:Rc}(hN:C.N.length=11):∀vs H Q E,FE vs H Q E->tSs C Gn {nx:=λ_ S=>Q .non S,rt:=Q} (L2.BJ C.N vs) H:=by
 intro vs H Q E h;obtain⟨bd,l0,h0,l1,h1,a,rfl,v,q⟩:=h;rw[Bb hN];unfold Gn;symm;rw[D7];symm;refine Pq (C:=C) (SqT.of v.at') ?_;simp only[GN,List.set_cons_zero,List.set_cons_succ];obtain⟨b4,b5⟩:=Ju v.bs;refine fM λK hK=>?_;have Aw:∀(D:A4)(G:Hp),Ax H G->G D=A0 (.lst ((lvs a).map nV))->K (.ref D) G:=by
  intro D G s1 e;refine hK _ _ ?_;symm;refine⟨by show 2<=A9;decide,λp a9=>?_⟩;have t0:=BB a9 (.tup [.int 0,nV h0]);have e0:upd G p (.tup [.int 0,nV h0]) p=A0 (.tup [.int 0,nV h0]):=A_;generalize upd G p (.tup [.int 0,nV h0])=H2 at t0 e0⊢;symm;refine⟨by show 2<=A9;decide,λo a1=>?_⟩;have t1:=BB a1 (.tup [.int 1,nV h1]);have e1:upd H2 o (.tup [.int 1,nV h1]) o=A0 (.tup [.int 1,nV h1]):=A_;generalize upd H2 o (.tup [.int 1,nV h1])=H3 at t1 e1⊢;symm;refine⟨by show 2<=A9;decide,λq2 a0=>?_⟩;have t2:=BB a0 (.tup [.ref p,.ref o]);have e2:upd H3 q2 (.tup [.ref p,.ref o]) q2=A0 (.tup [.ref p,.ref o]):=A_;generalize upd H3 q2 (.tup [.ref p,.ref o])=U at t2 e2⊢;have s4:Ax G U:=t0.trans (t1.trans t2);have a3:=t2 _ _ (t1 _ _ e0);have b2:=t2 _ _ e1;have t:=s4 _ _ e;have J:=(DA v.bs v.b0 v.b1 (h0:=h0) (h1:=h1)).1;refine Ex (SqT.of e2) (PH (vs:=[.ref p,.ref o]) (λi M S=>Ax U S/\BY (CV S) M (if i=0 then[]else if i=1 then r2 (lvs a) 0 h0 else rk (lvs a) h0 h1)) ⟨Ax.refl _,trivial⟩ (λi M S pv=>SqT.of (pv.1 _ _ e2)) ?_ ?_)
  .rintro i M H5 x R l⟨T,Z⟩hR;have hi2:i=0\/i=1:=by have:=BH l;simp only[bv,cN]at this;omega
   obtain⟨qq,b,g,rfl,a6,b6,d,A,L,hb⟩:∃(qq:A4)(b g:Nat),x=.ref qq/\H5 qq=A0 (.tup [.int b,nV g])/\g<=8/\∃d,BY (CV H5) M d/\(∀r f,Ax U f->BY (CV f) r (d++r2 (lvs a) b g)->R r f)/\(d++r2 (lvs a) b g).length<=272:=by
    rcases hi2 with rfl|rfl;.cases l;refine⟨p,0,h0,rfl,T _ _ a3,v.b0,[],Z,λr f y w=>hR _ _ ⟨y,w⟩,?_⟩;rw[List.nil_append];unfold rk at J;rw[aB]at J;omega
    .cases l;exact⟨o,1,h1,rfl,T _ _ b2,v.b1,r2 (lvs a) 0 h0,Z,λr f y w=>hR _ _ ⟨y,w⟩,J⟩
   refine Dl (C:=C) (SqT.of a6) ?_;simp only[nV];symm;rw[aB,EQ]at hb;have b7:=A.len;refine Oq ⋯ ⋯ ⋯ ⋯ (fc (n:=((g:Int)+1-1).toNat) (λj r f=>Ax U f/\BY (CV f) r (d++r2 (lvs a) b j)) ⟨T,by simpa[r2]using A⟩ ?_ ?_)
   .rintro j r f R2 hj⟨y,w⟩a5;have a7:j<g:=by omega
    have b8:j*(lvs a).length+(lvs a).length<=g*(lvs a).length:=by have:=Nat.mul_le_mul_right (lvs a).length a7;rw[Nat.succ_mul]at this;exact this
    symm;refine CB (SqL.of (y _ _ t)) (Jj (vs:=(lvs a).map nV) (λm zs B=>Ax U B/\BY (CV B) zs (d++r2 (lvs a) b j++r1 ((lvs a).take m) b (j+1))) ⟨y,by simpa[r1]using w⟩ (λm zs B pv=>SqL.of (pv.1 _ _ t)) ?_ ?_)
    .rintro m zs B x R3 l⟨s7,P⟩a8;rw[aj]at l;cases Y:(lvs a)[m]? with
     |none=>rw[Y]at l;cases l
     |some O=>
     rw[Y]at l;cases l;have hm:=BH Y;have I:=P.len;rw[aB,aB,EQ]at I;unfold r1 at I;rw[ac,aM]at I;simp only[nV];symm;refine⟨by show 3<=A9;decide,λX b3=>?_⟩;have t8:=BB b3 (.tup [.int b,.int (1+j),.int O]);have e8:upd B X (.tup [.int b,.int (1+j),.int O]) X=A0 (.tup [nV b,nV (j+1),nV O]):=by rw[A_];show A0 (HO.tup [.int b,.int (1+(j:Int)),.int O])=A0 (HO.tup [.int b,.int ((j+1:Nat):Int),.int O]);rw[show(1:Int)+j=((j+1:Nat):Int)by omega]
     generalize upd B X (.tup [.int b,.int (1+j),.int O])=H8 at t8 e8⊢;refine⟨BK ⋯,a8 _ _ ⟨s7.trans t8,?_⟩⟩;rw[show r1 ((lvs a).take (m+1)) b (j+1)=r1 ((lvs a).take m) b (j+1)++[(b,j+1,O)]by unfold r1;rw[aO,Y,aC];rfl,<-bc];exact(Ps t8 P).snoc ⟨X,rfl,e8⟩
    .rintro zs B⟨s7,P⟩;rw[ac,aQ,bc,<-Gu]at P;exact a5 _ _ ⟨s7,P⟩
   .rintro r f⟨y,w⟩;rw[show((g:Int)+1-1).toNat=g by omega]at w;exact L r f y w
  .rintro M H5⟨T,Z⟩p9 a4;have s9:=BB a4 (.lst M);exact q p9 M _ (s1.trans (s4.trans (T.trans s9))) A_ (Ps s9 Z)
 symm;cases a with
 |none=>simp only[oV];symm;refine⟨by decide,λD e=>?_⟩;exact Aw D _ (BB e _) A_
 |some s=>have hs:=v.bs s rfl;simp only[oV];symm;refine GT λpr a2=>?_;symm;refine GU A_ ⋯ ⋯ ⋯ ⋯ (bO (BK ⋯)) λD e=>?_;rw[show((s:Int)+1-0).toNat=s+1 by omega,Gm];exact Aw D _ ((BB a2 _).trans (BB e _)) A_
theorem Pt:∀b:Fin 2,∀p:Fin 9,∀l:Fin 17,reduceHash (AK.Tuple.tupleHashOf [hashInt (b.val:Int),hashInt (p.val:Int),hashInt (l.val:Int)])≠NH:=⋯
def kI(k:K3):List Int:=[(k.1:Int),(k.2.1:Int),(k.2.2:Int)]
def kK(k:K3):List Key:=(kI k).map Key.inl
theorem ET{a b:K3}(h:kK a=kK b):a=b:=by obtain⟨d,j,e⟩:=a;obtain⟨f,g,i⟩:=b;unfold kK kI at h;simp only[aK,List.map_nil,List.cons.injEq,Key.inl.injEq,and_true]at h;obtain⟨m,l,n⟩:=h;rw[show d=f by omega,show j=g by omega,show e=i by omega]
theorem Jv{k:K3}:(kK k).map L2.kV=[nV k.1,nV k.2.1,nV k.2.2]:=rfl
theorem Pu{ks:List K3}{i:Nat}{k:K3}(h:ks.Nodup)(b:ks[i]?=A0 k):k∉ks.take i:=by
 intro f;have d:=BH b;have e:ks=ks.take i++k::ks.drop (i+1):=by have a:=bG i ks;rw[cx d]at a;rw[ae d]at b;rw[Option.some.inj b]at a;exact a.symm
 rw[e,List.nodup_append]at h;exact h.2.2 k f k ay rfl
theorem Pv{ks:List K3}{i:Nat}{k:K3}(a:ks[i]?=A0 k):ks.take (i+1)=ks.take i++[k]:=by rw[aO,a];rfl
def TbT(ks:List K3)(m:Nat)(a:KTL):Prop:=∀x∈a,∃(k:K3)(j:Nat),k∈ks/\x.1=kK k/\x.2.2=.int j/\j<m
theorem TbT.non{H:Hp}{p:A4}{ks:List K3}{m:Nat}{a:KTL}(h:TbT ks m a)(f:∀k∈ks,k.1<2/\k.2.1<9/\k.2.2<17)(g:H p=A0 (.dT (plT a))):NoN H p:=.inr ⟨plT a,g,λq d=>by obtain⟨x,l,rfl⟩:=ar.mp d;obtain⟨k,j,b,e,_⟩:=h x l;obtain⟨n,i,o⟩:=f k b;exact⟨kI k,e,Pt ⟨k.1,n⟩ ⟨k.2.1,i⟩ ⟨k.2.2,o⟩⟩⟩
end BD
namespace BE
open PySem PySem.Spec PyProof.Rows L2 R3 LW TM BD
def lvl(sp:Option Nat)(a c:Nat):Int:=match sp with
 |A6=>a
 |A0 _=>(a:Int)+if c=1 then 1 else -1
def bh(l0 l1:Nat)(sp:Option Nat)(k:K3)(c:Nat):Option (List Int):=
 if c=k.1 then A0 [(c:Int),(k.2.1:Int)+1,lvl sp k.2.2 c]else if k.2.1<(if k.1=1 then l1 else l0)then A6 else A0 [(c:Int),1,lvl sp k.2.2 c]
def FF:Sp:=λi H Q _=>∃(bd f:A4)(e g b h:Nat)(d:Option Nat)(k:K3)(c:Nat),i=[.ref bd,.ref f,.int c]/\IsB H bd e g b h d/\H f=A0 (.tup [nV k.1,nV k.2.1,nV k.2.2])/\(bh e b d k c=A6->∀a,Ax H a->Q .non a)/\∀z,bh e b d k c=A0 z->∀(p:A4)(a:Hp),Ax H a->a p=A0 (.tup (z.map V.int))->Q (.ref p) a
theorem gl{C:Rc}(D:C.N.length=11):∀r H Q E,FF r H Q E->tSs C Gp {nx:=λ_ J=>Q .non J,rt:=Q} (L2.BJ C.N r) H:=by
 intro r H Q E h;obtain⟨bd,I,w,B,x,G,o,⟨b,n,m⟩,c,rfl,A,q,y,t⟩:=h;rw[Bb D];unfold Gp;symm;rw[D7];symm;refine Pq (C:=C) (SqT.of A.at') ?_;symm;rw[D7];symm;refine P2 (SqT.of q) ?_;simp only[nV,GN,List.set_cons_zero,List.set_cons_succ];refine Cu λN v=>?_;have Aw:∀d:Int,lvl o m c=d->N [A0 (.ref bd),A0 (.ref I),A0 (.int c),A0 (.int w),A0 (.int B),A0 (.int x),A0 (.int G),A0 (oV o),A0 (.int b),A0 (.int n),A0 (.int d)] H:=by
  intro d l;refine v _ _ ?_;have e:bh w x o (b,n,m) c=if c=b then A0 [(c:Int),(n:Int)+1,d]else if n<(if b=1 then x else w)then A6 else A0 [(c:Int),1,d]:=by unfold bh;rw[<-l]
  symm;refine Bu (λf=>?_) λf=>?_
  .have f:c=b:=by omega
   symm;refine⟨by show 3<=A9;decide,λp j=>?_⟩;exact t _ (by rw[e,if_pos f]) p _ (BB j _) A_
  have f:¬c=b:=by omega
  symm;refine Bu (λi=>?_) λi=>?_
  .have i:b=1:=by omega
   symm;refine Bu (λg=>?_) λg=>?_;.symm;exact y (by rw[e,if_neg f,if_pos i,if_pos ⋯]) _ (Ax.refl _)
   .symm;refine⟨by show 3<=A9;decide,λp j=>?_⟩;exact t _ (by rw[e,if_neg f,if_pos i,if_neg ⋯]) p _ (BB j _) A_
  .have i:¬b=1:=by omega
   symm;refine Bu (λg=>?_) λg=>?_;.symm;exact y (by rw[e,if_neg f,if_neg i,if_pos ⋯]) _ (Ax.refl _)
   .symm;refine⟨by show 3<=A9;decide,λp j=>?_⟩;exact t _ (by rw[e,if_neg f,if_neg i,if_neg ⋯]) p _ (BB j _) A_
 cases o with
 |none=>simp only[oV];symm;exact Aw _ rfl
 |some s=>
  simp only[oV];symm;rw[dQ (a:=(m:Int)) rfl];symm;refine Bu (λf=>?_) λf=>?_;.symm;exact Aw _ (by show(m:Int)+(if c=1 then 1 else -1)=_;(rw[if_pos ⋯]<;>rfl))
  .symm;exact Aw _ (by show(m:Int)+(if c=1 then 1 else -1)=_;(rw[if_neg ⋯]<;>rfl))
def ixK(ks:List K3)(z:Option (List Int)):Option Nat:=match z with
 |A6=>A6
 |A0 z=>ks.findIdx? λk=>decide (BD.kI k=z)
def plN(ks:List K3)(m:Nat):List (List Key×V):=(aG m).map λi:Nat=>(kK (ks[i]?.getD (0,0,0)),V.int i)
theorem gm{ks:List K3}{m:Nat}{k:K3}(h:ks[m]?=A0 k):plN ks (m+1)=plN ks m++[(kK k,V.int m)]:=by unfold plN;rw[List.range_succ,aC];simp[h]
theorem Pw{ks:List K3}{z:List Int}(h:∀k∈ks,BD.kI k≠z):ixK ks (A0 z)=A6:=by show ks.findIdx? _=A6;rw[List.findIdx?_eq_none_iff];intro k a;exact decide_eq_false (h k a)
theorem Px{ks:List K3}{z:List Int}{i:Nat}{k:K3}(m:ks.Nodup)(a:ks[i]?=A0 k)(g:BD.kI k=z):ixK ks (A0 z)=A0 i:=by
 show ks.findIdx? _=A0 i;have f:=BH a;rw[List.findIdx?_eq_some_iff_getElem];refine⟨f,?_,λj o=>?_⟩;.rw[ae f]at a;rw[Option.some.inj a];exact decide_eq_true g
 .have d:j<ks.length:=by omega
  intro b;have b:=of_decide_eq_true b;have e:kK ks[j]=kK k:=by unfold kK;rw[b,g]
  have h:=ET e;have n:ks[j]?=A0 k:=by rw[ae d,h]
  have:=Pu m a;exact this (ao (l:=ks.take i) (i:=j) (by rw[List.getElem?_take,if_pos o];exact n))
theorem Py:∀{a b:List Int},(a.map Key.inl:List Key)=b.map Key.inl->a=b
 | [],[],_=>rfl
 | [],_::_,h=>by cases h
 |_::_,[],h=>by cases h
 |x::a,y::b,h=>by rw[aK,aK]at h;injection h with d e;injection d with d;rw[d,Py e]
theorem gn{ks:List K3}(g:ks.Nodup)(z:List Int):(Bl (plN ks ks.length) (z.map Key.inl)).getD .non=oV (ixK ks (A0 z)):=by
 have h:Bl (plN ks ks.length) (z.map Key.inl)=((aG ks.length).find? λi=>decide (kK (ks[i]?.getD (0,0,0))=z.map Key.inl)).map λi:Nat=>V.int (i:Int):=by unfold Bl plN;rw[List.find?_map,Option.map_map];rfl
 rw[h];cases e:(aG ks.length).find? λi=>decide (kK (ks[i]?.getD (0,0,0))=z.map Key.inl)with
 |none=>
  rw[List.find?_eq_none]at e;rw[Pw λk m j=>?_];.rfl
  .obtain⟨i,a⟩:=dC m;refine e i (aI.mpr (BH a)) (decide_eq_true ?_);rw[a];show(BD.kI k).map Key.inl=_;rw[j]
 |some i=>have f:=List.find?_some e;have b:=of_decide_eq_true f;have l:=aI.mp (List.mem_of_find?_eq_some e);have d:ks[i]?=A0 ks[i]:=ae l;rw[d]at b;rw[Px g d (Py b)];rfl
def mx(l0 l1:Nat)(sp:Option Nat)(ks:List K3)(k:K3):Rm:=(ixK ks (bh l0 l1 sp k 0),ixK ks (bh l0 l1 sp k 1))
def FG:Sp:=λi H Q _=>∃(bd l:A4)(h b f d:Nat)(a:Option Nat)(g:List V),i=[.ref bd,.ref l]/\IsB H bd h b f d a/\H l=A0 (.lst g)/\BY (CV H) g (rk (lvs a) b d)/\∀(p:A4)(e:Hp),Ax H e->IsM e p ((rk (lvs a) b d).map (mx h f a (rk (lvs a) b d)))->Q (.ref p) e
theorem gp{C:Rc}(hN:C.N.length=5)(hR:C.fs "room_behind"=A0 FF):∀vs H Q E,FG vs H Q E->tSs C Gr {nx:=λ_ L=>Q .non L,rt:=Q} (L2.BJ C.N vs) H:=by
 intro vs H Q E h;obtain⟨bd,l,v,h0,o,h1,sp,xs,rfl,hB,hl,hA,q⟩:=h;rw[Bb hN];unfold Gr;obtain⟨a5,a2⟩:=DA hB.bs hB.b0 hB.b1 (h0:=h0) (h1:=h1);have Z:=ER (ES (sp:=sp)) (h0:=h0) (h1:=h1);generalize a9:rk (lvs sp) h0 h1=d at hA q a5 a2 Z;have U:=hA.len;symm;refine Op (SqL.of hl) (PJ (vs:=xs) (λi b L=>i<=d.length/\plT b=plN d i/\TbT (d.take i) d.length b/\okT b L/\b.length=i/\Ax H L) ⟨aJ _,rfl,λx h=>absurd h av,λx h=>absurd h av,rfl,Ax.refl _⟩ (λi b L pv=>SqL.of (pv.2.2.2.2.2 _ _ hl)) ?_ ?_)
 .rintro i b H1 x p R hx hp⟨_,K,hb,a0,a6,s1⟩n;obtain⟨k,X,D,rfl,I⟩:=hA.getL hx;have hi:=BH X;refine Dl (SqT.of A_) ?_;have t2:=BB hp (.tup [.int i,.ref D]);have w:=s1.trans t2;generalize upd H1 p (.tup [.int i,.ref D])=H2 at t2 w⊢;have a3:okT b H2:=λy m=>t2 _ _ (a0 y m);symm;refine⟨kK k,D,rfl,by rw[Jv];exact w _ _ I,a3,λy m e=>?_,BK ⋯,n _ _ ⟨hi,?_,λy m=>?_,λy m=>?_,by simp[a6],w⟩⟩;.obtain⟨k',j,T,e',_⟩:=hb y m;have ek:k'=k:=ET (e'.symm.trans e);subst ek;exact Pu Z X T
  .rw[gm X,<-K];unfold plT;rw[aC];rfl
  .rw[Pv X];rcases aL.mp m with m|m;.obtain⟨k',j,T,e'⟩:=hb y m;exact⟨k',j,bq _ T,e'⟩
   .have:y=(kK k,D,V.int i):=by simpa using m
    subst this;exact⟨k,i,am _ (aF.mpr rfl),rfl,rfl,hi⟩
  .rcases aL.mp m with m|m;.exact a3 y m
   .have:y=(kK k,D,V.int i):=by simpa using m
    subst this;show H2 D=A0 (.tup ((kK k).map L2.kV));rw[Jv];exact w _ _ I
 .rintro a H1⟨_,K,hb,a0,b2,s1⟩;rw[U,aQ]at hb;rw[U]at K;refine⟨a0,λp hp=>?_⟩;have w:=s1.trans (BB hp (.dT (plT a)));have G:upd H1 p (.dT (plT a)) p=A0 (.dT (plT a)):=A_;generalize upd H1 p (.dT (plT a))=H2 at w G⊢;have P:∀{r:Hp}{Q':VK},Ax H2 r->Q' (oV (ixK d A6)) r->Dq p Q' .non r:=λB q'=>PZ (hb.non a2 (B _ _ G)) q';have M:∀{r:Hp}{Q':VK}{pz:A4}{z:List Int},Ax H2 r->r pz=A0 (.tup (z.map V.int))->Q' (oV (ixK d (A0 z))) r->Dq p Q' (.ref pz) r:=by intro r Q' pz z B hz q';refine PY (Bn.t (k:=z.map Key.inl) (B _ _ G) (by rw[hz,aU];rfl)) ?_;rw[K,gn Z];exact q'
  symm;refine CB (SqL.of (w _ _ hl)) (Cd (vs:=xs) (λi A L=>i<=d.length/\Bv L A ((d.take i).map (mx v o sp d))/\Ax H2 L) ⟨aJ _,trivial,Ax.refl _⟩ (λi A L pv=>SqL.of (pv.2.2 _ _ (w _ _ hl))) ?_ ?_)
  .rintro i A r x R hx⟨_,n,B⟩a8;obtain⟨k,X,D,rfl,I⟩:=hA.getL hx;have hi:=BH X;have a1:=w.trans B;symm;refine Ga (.inr ⟨plT a,.inl (B _ _ G)⟩) ?_;refine B6 hR ?_;symm;have O:∀(S:Hp),Ax r S->kA1 C (List.set (clr [4] [A0 (.ref bd),A0 (.ref l),A0 (.ref p),A6,A6]) 4 (A0 (.ref D))) (.cons (.dgt (.var 2) (.call "room_behind" (.cons (.var 0) (.cons (.var 4) (.cons (.int 1) .nil))))) .nil) (GO (Dm A R)) (oV (ixK d (bh v o sp k 0))) S:=by
    intro S f;have s4:=B.trans f;symm;refine Ga (.inr ⟨plT a,.inl (s4 _ _ G)⟩) ?_;refine B6 hR ?_;symm;have s:∀(J:Hp),Ax S J->kA1 C (List.set (clr [4] [A0 (.ref bd),A0 (.ref l),A0 (.ref p),A6,A6]) 4 (A0 (.ref D))) .nil (kA2 (oV (ixK d (bh v o sp k 0))) (GO (Dm A R))) (oV (ixK d (bh v o sp k 1))) J:=by intro J g;symm;refine⟨by show 2<=A9;decide,λp6 Y=>?_⟩;have s6:=BB Y (.tup [oV (ixK d (bh v o sp k 0)),oV (ixK d (bh v o sp k 1))]);have h6:upd J p6 (.tup [oV (ixK d (bh v o sp k 0)),oV (ixK d (bh v o sp k 1))]) p6=A0 (.tup [oV (ixK d (bh v o sp k 0)),oV (ixK d (bh v o sp k 1))]):=A_;generalize upd J p6 (.tup [oV (ixK d (bh v o sp k 0)),oV (ixK d (bh v o sp k 1))])=H6 at s6 h6⊢;have a7:=n.len;rw[ac,aM]at a7;refine⟨BK ⋯,a8 _ _ ⟨hi,?_,(s4.trans g).trans s6⟩⟩;rw[Pv X,aC];exact(n.mono (BG (f.trans (g.trans s6)))).snoc ⟨p6,rfl,h6⟩
    refine⟨bd,D,v,h0,o,h1,sp,k,1,rfl,hB.mono (BG (w.trans s4)),(w.trans s4) _ _ I,λe J g=>P (s4.trans g) (by rw[<-e];exact s J g),λz e pz J g hz=>M (s4.trans g) hz (by rw[<-e];exact s J g)⟩
   refine⟨bd,D,v,h0,o,h1,sp,k,0,rfl,hB.mono (BG a1),a1 _ _ I,λe S f=>P (B.trans f) (by rw[<-e];exact O S f),λz e pz S f hz=>M (B.trans f) hz (by rw[<-e];exact O S f)⟩
  .rintro A r⟨_,n,B⟩p5 a4;rw[U,aQ]at n;symm;have h5:upd r p5 (.lst A) p5=A0 (.lst A):=A_;have s5:=BB a4 (.lst A);generalize upd r p5 (.lst A)=J at h5 s5⊢;refine P1 (SqL.of h5) λp6 Y=>?_;have s6:=BB Y (.tup A);exact q p6 _ (w.trans (B.trans (s5.trans s6))) ⟨A,A_,n.mono (BG (s5.trans s6))⟩
def Sus(M:List Rm)(S:List Nat):Prop:=∀r∈S,r<M.length/\(∃a∈S,fs1 M a=A0 r\/fs2 M a=A0 r)/\∃a∈S,fs1 M r=A0 a\/fs2 M r=A0 a
theorem Pz{M:List Rm}{S rs:List Nat}(h:Sus M S)(hs:∀r∈S,r∈rs):∀r∈S,r∈lst M rs:=by
 intro r d;obtain⟨_,⟨r1,b,f⟩,⟨r2,a,g⟩⟩:=h r d;refine aH.mpr ⟨hs r d,?_⟩;unfold CC;rw[ai];constructor
 .unfold ldS;rw[br];refine⟨r1,hs r1 b,?_⟩;rw[aX];rcases f with e|e;.left;rw[e];exact decide_eq_true rfl
  .right;rw[e];exact decide_eq_true rfl
 .rw[aX];rcases g with e|e;.left;rw[e];exact bj.mpr (hs r2 a)
  .right;rw[e];exact bj.mpr (hs r2 a)
end BE
namespace TE
open PySem PySem.Spec PyProof.Rows L2 R3 LW TM BD BE
def ixR(rs:List Nat):Option Nat->Option Nat
 |A6=>A6
 |A0 n=>if n∈rs then A0 (rs.idxOf n)else A6
theorem P_{rs:List Nat}{n:Nat}:ixR rs (A0 n)=if n∈rs then A0 (rs.idxOf n)else A6:=rfl
theorem gq{rs:List Nat}(h:rs.Nodup){i j:Nat}{hi:i<rs.length}{hj:j<rs.length}(e:rs[i]=rs[j]):i=j:=by
 rcases dv i j with z|z|z;.exact absurd e (cf.mp h i j hi hj z)
 .exact z
 .exact absurd e.symm (cf.mp h j i hj hi z)
def prt(M:List Rm)(rs:List Nat):List Rm:=rs.map λr=>(ixR rs (fs1 M r),ixR rs (fs2 M r))
def ziR:List Nat->Nat->List (Key×V)
 | [],_=>[]
 |r::a,k=>((Key.inl (r:Int):Key),V.int k)::ziR a (k+1)
theorem Q0{r:Nat}:∀{b:List Nat}{k:Nat},ziR (b++[r]) k=ziR b k++[((Key.inl (r:Int):Key),V.int (k+b.length:Nat))]
 | [],k=>by simp[ziR]
 |a::b,k=>by show _::ziR (b++[r]) (k+1)=_::(ziR b (k+1)++_);rw[Q0,bv,show k+1+b.length=k+(b.length+1)by omega]
theorem gr{a b:Nat}:((Key.inl (a:Int):Key)=Key.inl (b:Int))↔a=b:=by grind
theorem Jw{x:Nat}:∀{a:List Nat}{k:Nat},Bl (ziR a k) (Key.inl (x:Int))=if x∈a then A0 (V.int (k+a.idxOf x:Nat))else A6
 | [],k=>by simp[ziR,Bl]
 |r::a,k=>by
  by_cases h:r=x;.subst h;rw[show ziR (r::a) k=((Key.inl (r:Int):Key),V.int k)::ziR a (k+1)from rfl,EB rfl];simp
  .rw[show ziR (r::a) k=((Key.inl (r:Int):Key),V.int k)::ziR a (k+1)from rfl,EC (λz=>h (gr.mp z)),Jw];have d:¬x=r:=λz=>h z.symm;have b:(r==x)=A7:=by rw[beq_eq_false_iff_ne];exact h
   simp only[ap,d,false_or];rw[List.idxOf_cons,b];split;.simp only[cond_false];rw[show k+1+a.idxOf x=k+(a.idxOf x+1)by omega]
   .rfl
theorem Q2:∀{a:List Nat}{k:Nat},(ziR a k).length=a.length
 | [],_=>rfl
 |_::a,k=>by show(ziR a (k+1)).length+1=_;rw[Q2];rfl
theorem Q3{n:Nat}:∀{b:List Nat}{k m:Nat},(∀r∈b,r<n)->k+b.length<=m->TbK n m (ziR b k)
 | [],_,_,_,_=>λd h=>absurd h av
 |r::b,k,m,h,f=>λd a=>by
  rw[bv]at f;rcases ap.mp a with rfl|a;.exact⟨r,k,rfl,h r (by simp),⋯⟩
  .exact Q3 (k:=k+1) (λx e=>h x (by simp[e])) ⋯ d a
theorem Q4{C:Rc}{H:Hp}{Q:VK}{p:A4}{n:Nat}{rs:List Nat}{o:Option Nat}(h:∀r∈rs,r<n)(d:n<=1000)(a:H p=A0 (.dK (ziR rs 0)))(q:Q (oV (ixR rs o)) H):Dq p Q (oV o) H:=by
 cases o with
 |none=>exact PZ ((Q3 (m:=rs.length) h ⋯).non d a) q
 |some x=>
  refine PY (Bn.k (k:=.inl (x:Int)) a) ?_;rw[Jw];rw[P_]at q;by_cases b:x∈rs;.rw[if_pos b]at q⊢;rw[Nat.zero_add];exact q
  .rw[if_neg b]at q⊢;exact q
def FH:Sp:=λe H Q _=>∃(a l:A4)(M:List Rm)(b:List Nat),e=[.ref a,.ref l]/\IsM H a M/\M.length<=500/\H l=A0 (.lst (b.map nV))/\(∀r∈b,r<M.length)/\b.Nodup/\b.length<=500/\∀(p:A4)(d:Hp),Ax H d->IsM d p (prt M b)->Q (.ref p) d
theorem gw{C:Rc}(hN:C.N.length=5):∀vs H Q E,FH vs H Q E->tSs C Gj {nx:=λ_ s=>Q .non s,rt:=Q} (L2.BJ C.N vs) H:=by
 intro vs H Q E h;obtain⟨a,l,M,d,rfl,hM,a4,K,w,U,a3,q⟩:=h;rw[Bb hN];unfold Gj;symm;refine Op (SqL.of K) (PJ (vs:=d.map nV) (λi b s=>b=ziR (d.take i) 0/\i<=d.length/\Ax H s) ⟨rfl,aJ _,Ax.refl _⟩ (λi b s S=>SqL.of (S.2.2 _ _ K)) ?_ ?_)
 .rintro i b I x p R f T⟨rfl,L,P⟩hR;rw[aj]at f;cases e:d[i]? with
  |none=>rw[e]at f;cases f
  |some r=>
  rw[e]at f;cases f;have hi:=BH e;refine Dl (SqT.of A_) ?_;have o:=P.trans (BB T (.tup [.int i,nV r]));generalize upd I p (.tup [.int i,nV r])=H2 at o⊢;simp only[nV];symm;have et:d.take (i+1)=d.take i++[r]:=by rw[aO,e];rfl
  have a1:r∉d.take i:=λhm=>by
   obtain⟨j,hj,ej⟩:=cq.mp hm;rw[aM]at hj;rw[List.getElem_take]at ej;have Z:d[i]'hi=r:=by rw[ae hi]at e;exact Option.some.inj e
   have:=gq U (hi:=by omega) (hj:=hi) (ej.trans Z.symm);omega
  refine⟨.inl (r:Int),rfl,by rw[Q2,aM];exact BK ⋯,hR _ _ ⟨?_,⋯,o⟩⟩;rw[Lv _ (by rw[Jw,if_neg a1]),et,Q0,aM,Nat.min_eq_left ⋯,Nat.zero_add]
 .rintro a5 I⟨rfl,_,P⟩;rw[ac,aQ];refine⟨trivial,λp T=>?_⟩;have o:=P.trans (BB T (.dK (ziR d 0)));have G:upd I p (.dK (ziR d 0)) p=A0 (.dK (ziR d 0)):=A_;generalize upd I p (.dK (ziR d 0))=H2 at o G⊢;symm;refine CB (SqL.of (o _ _ K)) (Cd (vs:=d.map nV) (λi m s=>Bv s m ((d.take i).map λr=>(ixR d (fs1 M r),ixR d (fs2 M r)))/\i<=d.length/\Ax H2 s) ⟨trivial,aJ _,Ax.refl _⟩ (λi m s S=>SqL.of (S.2.2 _ _ (o _ _ K))) ?_ ?_)
  .rintro i m A x R f⟨g,L,y⟩hR;rw[aj]at f;cases e:d[i]? with
   |none=>rw[e]at f;cases f
   |some r=>rw[e]at f;cases f;have hi:=BH e;have B:=w r (ao e);have D:=hM.mono (BG (o.trans y));have n:=y _ _ G;simp only[nV];symm;refine Ga (.inl ⟨_,.inl n⟩) ?_;symm;refine Dr D B λpr t=>?_;symm;refine CL (SqT.of t) (v:=oV (fs1 M r)) rfl ?_;refine Q4 (C:=C) w ⋯ n ?_;symm;refine Ga (.inl ⟨_,.inl n⟩) ?_;symm;refine Dr D B λpr t=>?_;symm;refine CL (SqT.of t) (v:=oV (fs2 M r)) rfl ?_;refine Q4 (C:=C) w ⋯ n ?_;symm;refine⟨by show 2<=A9;decide,λJ a2=>?_⟩;have s4:=BB a2 (.tup [oV (ixR d (fs1 M r)),oV (ixR d (fs2 M r))]);have h4:upd A J (.tup [oV (ixR d (fs1 M r)),oV (ixR d (fs2 M r))]) J=A0 (.tup [oV (ixR d (fs1 M r)),oV (ixR d (fs2 M r))]):=A_;generalize upd A J (.tup [oV (ixR d (fs1 M r)),oV (ixR d (fs2 M r))])=H4 at s4 h4⊢;have a0:=g.len;rw[ac,aM]at a0;refine⟨BK ⋯,hR _ _ ⟨?_,⋯,y.trans s4⟩⟩;rw[aO,e,aC];exact(g.mono (BG s4)).snoc ⟨J,rfl,h4⟩
  .rintro m A⟨g,_,y⟩p5 Y;rw[ac,aQ]at g;symm;have h5:upd A p5 (.lst m) p5=A0 (.lst m):=A_;have X:=BB Y (.lst m);generalize upd A p5 (.lst m)=H5 at h5 X⊢;refine P1 (SqL.of h5) λp6 O=>?_;have s6:=BB O (.tup m);exact q p6 _ (o.trans (y.trans (X.trans s6))) ⟨m,A_,g.mono (BG (X.trans s6))⟩
structure Rs(M:List Rm)(rs:List Nat):Prop where
 rise:rs.Pairwise (· < ·)
 lt:∀r∈rs,r<M.length
 fix:lst M rs=rs
 all:∀S,Sus M S->∀r∈S,r∈rs
theorem gx{rs:List Nat}(h:rs.Pairwise (· < ·)):rs.Nodup:=h.imp λ{a b}z=>az z
theorem Jx:∀{a b:List Nat},a.Pairwise (· < ·)->b.Pairwise (· < ·)->(∀x,x∈a↔x∈b)->a=b
 | [],[],_,_,_=>rfl
 | [],y::b,_,_,h=>absurd ((h y).mpr (by simp)) av
 |x::a,[],_,_,h=>absurd ((h x).mp (by simp)) av
 |x::a,y::b,f,g,h=>by
  rw[List.pairwise_cons]at f g;have e:x=y:=by
   rcases ap.mp ((h x).mp (by simp))with e|e;.exact e
   .rcases ap.mp ((h y).mpr (by simp))with i|i;.exact i.symm
    .have:=g.1 x e;have:=f.1 y i;omega
  subst e;congr 1;refine Jx f.2 g.2 λz=>?_;have:=h z;simp only[ap]at this;constructor
  .intro d;rcases this.mp (.inr d)with e|e;.have:=f.1 z d;omega
   .exact e
  .intro d;rcases this.mpr (.inr d)with e|e;.have:=g.1 z d;omega
   .exact e
theorem gy{M:List Rm}{rs:List Nat}(m:∀r∈rs,r<M.length)(h:lst M rs=rs):Sus M rs:=by
 intro r j;have p:r∈lst M rs:=by rw[h];exact j
 have g:=(aH.mp p).2;unfold CC at g;rw[ai,aX]at g;refine⟨m r j,?_,?_⟩
 .obtain⟨d,a,e⟩:=br.mp g.1;refine⟨d,a,?_⟩;rw[aX,decide_eq_true_eq,decide_eq_true_eq]at e;rcases e with e|e;.exact .inl (Pn (b:=A0 r) (by rw[<-e];rfl))
  .exact .inr (Pn (b:=A0 r) (by rw[<-e];rfl))
 .have f:∀o,inR rs o=A3->∃d∈rs,o=A0 d:=λo l=>by
   cases o with
   |none=>cases l
   |some n=>exact⟨n,bj.mp l,rfl⟩
  rcases g.2 with e|e;.obtain⟨d,a,i⟩:=f _ e;exact⟨d,a,.inl i⟩
  .obtain⟨d,a,i⟩:=f _ e;exact⟨d,a,.inr i⟩
theorem Rs.sus{M:List Rm}{rs:List Nat}(h:Rs M rs):Sus M rs:=gy h.lt h.fix
theorem Rs.uniq{M:List Rm}{rs a:List Nat}(h:Rs M rs)(h':Rs M a):rs=a:=Jx h.rise h'.rise λx=>⟨λz=>h'.all _ h.sus x z,λz=>h.all _ h'.sus x z⟩
theorem Q5{a:Type}{p:a->Bool}:∀{l:List a},l.length<=(l.filter p).length->l.filter p=l
 :=by intro x;induction x<;>grind
def FI:Sp:=λf H Q _=>∃(a:A4)(M:List Rm),f=[.ref a]/\IsM H a M/\M.length<=500/\∀(p e l:A4)(d:List Nat)(b:Hp),Ax H b->H l=A6->b p=A0 (.tup [.ref e,.ref l])->b l=A0 (.lst (d.map nV))->IsM b e (prt M d)->Rs M d->Q (.ref p) b
theorem gz{C:Rc}(hN:C.N.length=3)(Z:C.fs "lasting"=A0 FD)(hP:C.fs "part_of"=A0 FH):∀T H Q E,FI T H Q E->tSs C Gk {nx:=λ_ s=>Q .non s,rt:=Q} (L2.BJ C.N T) H:=by
 intro T H Q E h;obtain⟨a,M,rfl,x,J,q⟩:=h;rw[Bb hN];unfold Gk;obtain⟨mv,P,O⟩:=id x;symm;refine Jf (SqT.of P) ?_;rw[O.len];symm;refine GT λY l=>?_;symm;have A:((M.length:Int)-0).toNat<=A9:=bO (BK ⋯);refine GU A_ ⋯ ⋯ ⋯ ⋯ A λp1 t=>?_;rw[show((M.length:Int)-0).toNat=M.length by omega,Gm];have v:=(BB l (.rng 0 M.length)).trans (BB t (.lst ((aG M.length).map nV)));have K:upd (upd H Y (.rng 0 M.length)) p1 (.lst ((aG M.length).map nV)) p1=A0 (.lst ((aG M.length).map nV)):=A_;have I:H p1=A6:=(BB l (.rng 0 M.length)).free t;generalize upd (upd H Y (.rng 0 M.length)) p1 (.lst ((aG M.length).map nV))=H1 at v K⊢;symm;refine B6 Z ?_;symm;refine⟨a,p1,M,aG M.length,rfl,x.mono (BG v),K,λr b=>aI.mp b,by rw[bf];omega,λp2 H2 D X h2=>?_⟩;symm;refine Ou (λm σ s=>Ax H s/\∃(i j:A4)(rs:List Nat),σ=[A0 (.ref a),A0 (.ref i),A0 (.ref j)]/\H i=A6/\H j=A6/\s i=A0 (.lst (rs.map nV))/\s j=A0 (.lst ((lst M rs).map nV))/\(∀r∈rs,r<M.length)/\rs.Pairwise (· < ·)/\rs.length<=M.length/\(∀S,Sus M S->∀r∈S,r∈rs)/\m=rs.length) _ ⟨v.trans X,p1,p2,aG M.length,rfl,I,v.free D,X _ _ K,h2,λr b=>aI.mp b,cr,by rw[bf];omega,λS w r b=>aI.mpr (w r b).1,rfl⟩ ?_;rintro m σ H3⟨n,i,j,rs,rfl,I,f2,g,e,d,f,a1,p,rfl⟩;symm;refine EN (SqL.of e) ?_;symm;refine EN (SqL.of g) ?_;rw[ac,ac];symm;have a0:=gj (M:=M) (rs:=rs);refine Bu (λU=>Ov ?_) λU=>Ow ?_;.symm;refine B6 Z ?_;symm;refine⟨a,j,M,lst M rs,rfl,x.mono (BG n),e,λr b=>d r (Pp b),⋯,λy H4 R o h4=>?_⟩;symm;exact⟨(lst M rs).length,⋯,n.trans o,j,y,lst M rs,rfl,f2,n.free R,o _ _ e,h4,λr b=>d r (Pp b),f.sublist db,⋯,λS w=>Pz w (p S w),rfl⟩
 .symm;refine B6 hP ?_;symm;refine⟨a,i,M,rs,rfl,x.mono (BG n),J,g,d,gx f,⋯,λy H4 o L=>?_⟩;symm;refine⟨by show 2<=A9;decide,λp5 G=>?_⟩;have B:=BB G (.tup [.ref y,.ref i]);exact q p5 y i rs _ (n.trans (o.trans B)) I A_ (B _ _ (o _ _ g)) (L.mono (BG B)) ⟨f,d,Q5 (by have:¬((lst M rs).length:Int)<rs.length:=U;unfold lst at this;omega),p⟩
end TE
namespace SR
open PySem PySem.Spec PyProof.Rows L2 R3 LW
theorem DB{n:Nat}(h:n<=1000):n<=A9:=bO (BK h)
end SR
namespace K04
open PySem PySem.Spec PyProof.Rows L2 R3 LW
def Gv:Css:=(.cons (.asg (.name 2) (.call "machine_of" (.cons (.var 0) .nil)))
  (.cons (.asg (.name 3) (.blt .list (.cons (.blt .range (.cons (.blt .len (.cons (.var 2) .nil)) .nil)) .nil)))
  (.cons (.for_ (.tup (.cons (.name 4) (.cons (.name 5) .nil))) (.enum (.var 1)) (.cons (.ite (.not (.val (.var 3))) (.cons (.ret (.var 4))
  .nil) .nil)
  (.cons (.asg (.name 3) (.call "rooms_behind" (.cons (.var 2) (.cons (.var 3) (.cons (.var 5) .nil)))))
  .nil)))
  (.cons (.ret (.ife (.val (.var 3)) .non (.blt .len (.cons (.var 1) .nil))))
  .nil))))
def Gw:Css:=(.cons (.ret (.cmp .Is (.call "fault_at" (.cons (.var 0) (.cons (.var 1) .nil))) .non))
  .nil)
def Gx:Css:=(.cons (.ite (.cmp .Eq (.call "_law_take" (.cons (.var 0) (.cons (.int 8) .nil))) (.int 0)) (.cons (.asg (.name 1) (.lst (.cons (.bin .Add (.int 1) (.call "_law_take" (.cons (.var 0) (.cons (.int 8) .nil)))) (.cons (.bin .Add (.int 1) (.call "_law_take" (.cons (.var 0) (.cons (.int 8) .nil)))) .nil))))
  (.cons (.asg (.name 2) (.comp (.bin .Add (.var 3) (.call "_law_take" (.cons (.var 0) (.cons (.bin .Sub (.int 9) (.var 3)) .nil)))) [3] (.name 3) (.val (.var 1)) .none .nil))
  (.cons (.ret (.tup (.cons (.idx (.var 1) (.int 0)) (.cons (.idx (.var 2) (.int 0)) (.cons (.idx (.var 1) (.int 1)) (.cons (.idx (.var 2) (.int 1)) (.cons (.idx (.lst (.cons .non (.cons .non (.cons (.bin .Add (.int 3) (.call "_law_take" (.cons (.var 0) (.cons (.int 14) .nil)))) .nil)))) (.call "_law_take" (.cons (.var 0) (.cons (.int 3) .nil)))) .nil)))))))
  .nil))) .nil)
  (.cons (.asg (.name 1) (.lst (.cons (.bin .Add (.int 1) (.call "_law_take" (.cons (.var 0) (.cons (.int 2) .nil)))) (.cons (.bin .Add (.int 1) (.call "_law_take" (.cons (.var 0) (.cons (.int 2) .nil)))) .nil))))
  (.cons (.asg (.name 2) (.comp (.bin .Add (.var 3) (.call "_law_take" (.cons (.var 0) (.cons (.int 4) .nil)))) [3] (.name 3) (.val (.var 1)) .none .nil))
  (.cons (.ret (.tup (.cons (.idx (.var 1) (.int 0)) (.cons (.idx (.var 2) (.int 0)) (.cons (.idx (.var 1) (.int 1)) (.cons (.idx (.var 2) (.int 1)) (.cons (.idx (.lst (.cons .non (.cons .non (.cons (.bin .Add (.int 1) (.call "_law_take" (.cons (.var 0) (.cons (.int 6) .nil)))) .nil)))) (.call "_law_take" (.cons (.var 0) (.cons (.int 3) .nil)))) .nil)))))))
  .nil))))
open SR TM BD BE TE
theorem Q6{C:Rc}{H:Hp}{Q:VK}{a:A4}{y r:Int}(h:H a=A0 (.lst [.non,.non,.int y]))(h0:0<=r)(h1:r<3)(b:0<=y)(q:∀o:Option Nat,(∀s,o=A0 s->(s:Int)=y)->Q (oV o) H):CF C.K (.ref a) (.int r) H Q\/CG C.K (.ref a) (.int r) H Q:=by
 obtain⟨k,rfl⟩:=aZ h0;have d:k=0\/k=1\/k=2:=by omega
 rcases d with rfl|rfl|rfl;.exact BV (SqL.of h) (v:=.non) rfl (q A6 λ_ z=>(nomatch z))
 .exact BV (SqL.of h) (v:=.non) rfl (q A6 λ_ z=>(nomatch z))
 .refine BV (SqL.of h) (v:=.int y) rfl ?_;have:=q (A0 y.toNat) λs z=>by cases z;omega
  rw[show oV (A0 y.toNat)=.int y by show V.int (y.toNat:Int)=_;rw[Int.toNat_of_nonneg b]]at this;exact this
def FJ:Sp:=λi H Q _=>∃(b:A4)(n:Nat),i=[.ref b]/\H b=A0 (Bh b n)/\n<=2^39/\∀(p:A4)(e f a g:Nat)(h:Option Nat)(d:Hp),Go 20 H d->IsB d p e f a g h->1<=e->e<=f->1<=a->a<=g->Q (.ref p) d
theorem g_{C:Rc}(hN:C.N.length=4)(hT:C.fs "_law_take"=A0 C0):∀vs H Q E,FJ vs H Q E->tSs C Gx {nx:=λ_ Y=>Q .non Y,rt:=Q} (L2.BJ C.N vs) H:=by
 intro vs H Q E h;obtain⟨b,n,rfl,M,hn,q⟩:=h;rw[Bb hN];unfold Gx;symm;refine B6 hT ?_;symm;refine⟨b,n,_,rfl,M,⋯,⋯,⋯,λr0 H0 c3 c2 g0=>?_⟩;obtain⟨n0,D,c1,_⟩:=g0.boxed M ⋯;symm;refine Bu (λhq=>?_) λhq=>?_
 .symm;refine B6 hT ?_;symm;refine⟨b,n0,_,rfl,D,⋯,⋯,⋯,λr1 H1 O b0 g1=>?_⟩;obtain⟨r1,rfl⟩:=aZ O;obtain⟨n1,t,b3,_⟩:=g1.boxed D ⋯;symm;refine B6 hT ?_;symm;refine⟨b,n1,_,rfl,t,⋯,⋯,⋯,λr2 H2 a4 a8 g2=>?_⟩;obtain⟨r2,rfl⟩:=aZ a4;obtain⟨n2,b6,b4,_⟩:=g2.boxed t ⋯;symm;refine⟨by decide,λJ X=>?_⟩;have g3:Go 3 H (upd H2 J (.lst [.int (1+r1),.int (1+r2)])):=(((g0.trans g1).trans g2).trans (Go.new (c:=0) X _)).mono ⋯;have a:upd H2 J (.lst [.int (1+r1),.int (1+r2)]) J=A0 (.lst ([1+r1,1+r2].map nV)):=by rw[A_];show A0 (HO.lst [.int (1+(r1:Int)),.int (1+(r2:Int))])=A0 (HO.lst [.int ((1+r1:Nat):Int),.int ((1+r2:Nat):Int)]);rw[show(1:Int)+r1=((1+r1:Nat):Int)by omega,show(1:Int)+r2=((1+r2:Nat):Int)by omega]
  generalize upd H2 J (.lst [.int (1+r1),.int (1+r2)])=H3 at g3 a⊢;symm;refine CB (SqL.of a) (Cd (vs:=[1+r1,1+r2].map nV) (λi L Y=>(∃l:List Nat,L=l.map nV/\l.length=i/\i<=2/\BY (λ(h G:Nat)=>G<=h/\h<=8) l ([1+r1,1+r2].take i))/\Go i H3 Y) ⟨⟨[],rfl,rfl,⋯,trivial⟩,Go.refl⟩ (λi L Y pv=>SqL.of (pv.2.lst a)) ?_ ?_)
  .rintro i L y x R r⟨⟨l,rfl,d,hi2,m⟩,o⟩hR;rw[aj]at r;cases p:[1+r1,1+r2][i]? with
   |none=>rw[p]at r;cases r
   |some G=>
   rw[p]at r;cases r;have hi:=BH p;simp only[bv,cN]at hi;have b7:G<=8:=by have:=ao p;simp only[ap,av,or_false]at this;rcases this with rfl|rfl<;>omega
   obtain⟨n4,P,a9,_⟩:=(g3.trans o).boxed M ⋯;simp only[nV];symm;refine B6 hT ?_;symm;refine⟨b,n4,_,rfl,P,⋯,⋯,⋯,λr5 H5 T c0 w=>?_⟩;obtain⟨r5,rfl⟩:=aZ T;symm;refine⟨by rw[ac];exact BK ⋯,hR _ _ ⟨⟨l++[G+r5],by rw[aC];rfl,by simp[d],⋯,by rw[aO,p];exact m.snoc ⟨⋯,⋯⟩⟩,o.trans w⟩⟩
  .rintro L y⟨⟨l,rfl,d,_,m⟩,o⟩B A;have d:l.length=2:=d;have o:Go 2 H3 y:=o;obtain⟨g,j,rfl⟩:∃g j,l=[g,j]:=by
    match l,d with
    | [g,j],_=>exact⟨g,j,rfl⟩
   obtain⟨⟨a1,a2⟩,⟨b1,b2⟩,_⟩:=m;have w:Go 5 H (upd y B (.lst ([g,j].map nV))):=((g3.trans o).trans (Go.new (c:=0) A _)).mono ⋯;have e:upd y B (.lst ([g,j].map nV)) B=A0 (.lst ([g,j].map nV)):=A_;have f:=(Go.new (c:=0) A (.lst ([g,j].map nV))).lst (o.lst a);generalize upd y B (.lst ([g,j].map nV))=H5 at w e f⊢;obtain⟨n5,a0,a7,_⟩:=w.boxed M ⋯;symm;refine BV (SqL.of f) (v:=nV (1+r1)) rfl ?_;symm;refine BV (SqL.of e) (v:=nV g) rfl ?_;symm;refine BV (SqL.of f) (v:=nV (1+r2)) rfl ?_;symm;refine BV (SqL.of e) (v:=nV j) rfl ?_;symm;refine B6 hT ?_;symm;refine⟨b,n5,_,rfl,a0,⋯,⋯,⋯,λI H6 b5 b8 g6=>?_⟩;symm;refine⟨by decide,λK S=>?_⟩;have g7:Go 6 H (upd H6 K (.lst [.non,.non,.int (3+I)])):=((w.trans g6).trans (Go.new (c:=0) S _)).mono ⋯;have h7:upd H6 K (.lst [.non,.non,.int (3+I)]) K=A0 (.lst [.non,.non,.int (3+I)]):=A_;generalize upd H6 K (.lst [.non,.non,.int (3+I)])=H7 at g7 h7⊢;obtain⟨n7,a5,b9,_⟩:=g7.boxed M ⋯;refine B6 hT ?_;symm;refine⟨b,n7,_,rfl,a5,⋯,⋯,⋯,λr8 H8 a6 a3 g8=>?_⟩;symm;refine Q6 (g8.lst h7) a6 a3 ⋯ λsp U=>?_;symm;refine⟨by show 5<=A9;decide,λp9 Z=>?_⟩;refine q p9 (1+r1) g (1+r2) j sp _ (((g7.trans g8).trans (Go.new (c:=0) Z _)).mono ⋯) ⟨A_,a2,b2,λs z=>?_⟩ ⋯ a1 ⋯ b1;have:=U s z;omega
 .symm;refine B6 hT ?_;symm;refine⟨b,n0,_,rfl,D,⋯,⋯,⋯,λr1 H1 O b0 g1=>?_⟩;obtain⟨r1,rfl⟩:=aZ O;obtain⟨n1,t,b3,_⟩:=g1.boxed D ⋯;symm;refine B6 hT ?_;symm;refine⟨b,n1,_,rfl,t,⋯,⋯,⋯,λr2 H2 a4 a8 g2=>?_⟩;obtain⟨r2,rfl⟩:=aZ a4;obtain⟨n2,b6,b4,_⟩:=g2.boxed t ⋯;symm;refine⟨by decide,λJ X=>?_⟩;have g3:Go 3 H (upd H2 J (.lst [.int (1+r1),.int (1+r2)])):=(((g0.trans g1).trans g2).trans (Go.new (c:=0) X _)).mono ⋯;have a:upd H2 J (.lst [.int (1+r1),.int (1+r2)]) J=A0 (.lst ([1+r1,1+r2].map nV)):=by rw[A_];show A0 (HO.lst [.int (1+(r1:Int)),.int (1+(r2:Int))])=A0 (HO.lst [.int ((1+r1:Nat):Int),.int ((1+r2:Nat):Int)]);rw[show(1:Int)+r1=((1+r1:Nat):Int)by omega,show(1:Int)+r2=((1+r2:Nat):Int)by omega]
  generalize upd H2 J (.lst [.int (1+r1),.int (1+r2)])=H3 at g3 a⊢;symm;refine CB (SqL.of a) (Cd (vs:=[1+r1,1+r2].map nV) (λi L Y=>(∃l:List Nat,L=l.map nV/\l.length=i/\i<=2/\BY (λ(h G:Nat)=>G<=h/\h<=8) l ([1+r1,1+r2].take i))/\Go i H3 Y) ⟨⟨[],rfl,rfl,⋯,trivial⟩,Go.refl⟩ (λi L Y pv=>SqL.of (pv.2.lst a)) ?_ ?_)
  .rintro i L y x R r⟨⟨l,rfl,d,hi2,m⟩,o⟩hR;rw[aj]at r;cases p:[1+r1,1+r2][i]? with
   |none=>rw[p]at r;cases r
   |some G=>
   rw[p]at r;cases r;have hi:=BH p;simp only[bv,cN]at hi;have b7:G<=2:=by have:=ao p;simp only[ap,av,or_false]at this;rcases this with rfl|rfl<;>omega
   obtain⟨n4,P,a9,_⟩:=(g3.trans o).boxed M ⋯;simp only[nV];symm;refine B6 hT ?_;symm;refine⟨b,n4,_,rfl,P,⋯,⋯,⋯,λr5 H5 T c0 w=>?_⟩;obtain⟨r5,rfl⟩:=aZ T;symm;refine⟨by rw[ac];exact BK ⋯,hR _ _ ⟨⟨l++[G+r5],by rw[aC];rfl,by simp[d],⋯,by rw[aO,p];exact m.snoc ⟨⋯,⋯⟩⟩,o.trans w⟩⟩
  .rintro L y⟨⟨l,rfl,d,_,m⟩,o⟩B A;have d:l.length=2:=d;have o:Go 2 H3 y:=o;obtain⟨g,j,rfl⟩:∃g j,l=[g,j]:=by
    match l,d with
    | [g,j],_=>exact⟨g,j,rfl⟩
   obtain⟨⟨a1,a2⟩,⟨b1,b2⟩,_⟩:=m;have w:Go 5 H (upd y B (.lst ([g,j].map nV))):=((g3.trans o).trans (Go.new (c:=0) A _)).mono ⋯;have e:upd y B (.lst ([g,j].map nV)) B=A0 (.lst ([g,j].map nV)):=A_;have f:=(Go.new (c:=0) A (.lst ([g,j].map nV))).lst (o.lst a);generalize upd y B (.lst ([g,j].map nV))=H5 at w e f⊢;obtain⟨n5,a0,a7,_⟩:=w.boxed M ⋯;symm;refine BV (SqL.of f) (v:=nV (1+r1)) rfl ?_;symm;refine BV (SqL.of e) (v:=nV g) rfl ?_;symm;refine BV (SqL.of f) (v:=nV (1+r2)) rfl ?_;symm;refine BV (SqL.of e) (v:=nV j) rfl ?_;symm;refine B6 hT ?_;symm;refine⟨b,n5,_,rfl,a0,⋯,⋯,⋯,λI H6 b5 b8 g6=>?_⟩;symm;refine⟨by decide,λK S=>?_⟩;have g7:Go 6 H (upd H6 K (.lst [.non,.non,.int (1+I)])):=((w.trans g6).trans (Go.new (c:=0) S _)).mono ⋯;have h7:upd H6 K (.lst [.non,.non,.int (1+I)]) K=A0 (.lst [.non,.non,.int (1+I)]):=A_;generalize upd H6 K (.lst [.non,.non,.int (1+I)])=H7 at g7 h7⊢;obtain⟨n7,a5,b9,_⟩:=g7.boxed M ⋯;refine B6 hT ?_;symm;refine⟨b,n7,_,rfl,a5,⋯,⋯,⋯,λr8 H8 a6 a3 g8=>?_⟩;symm;refine Q6 (g8.lst h7) a6 a3 ⋯ λsp U=>?_;symm;refine⟨by show 5<=A9;decide,λp9 Z=>?_⟩;refine q p9 (1+r1) g (1+r2) j sp _ (((g7.trans g8).trans (Go.new (c:=0) Z _)).mono ⋯) ⟨A_,a2,b2,λs z=>?_⟩ ⋯ a1 ⋯ b1;have:=U s z;omega
def bd(M:List Rm)(b:Bool)(p:Nat):Option Nat:=if b then fs2 M p else fs1 M p
theorem Q7{n:Nat}{l:List Nat}(h:l.Nodup)(hs:∀i∈l,i<n):l.length<=n:=by
 have:=Mc (l:=l.map Int.ofNat) (b:=(aG n).map Int.ofNat) (Pr (λx y e=>Int.ofNat.inj e) h) λi a=>by obtain⟨x,d,rfl⟩:=ar.mp a;exact List.mem_map_of_mem (aI.mpr (hs x d))
 rw[ac,ac,bf]at this;exact this
def sS(os:List (Option Nat)):Option Int->Bool:=λk=>os.any λo=>o.isSome&&decide (k=oI o)
theorem hC{os:List (Option Nat)}{o:Option Nat}:sS (os++[o])=λk=>sS os k||(o.isSome&&decide (k=oI o)):=by funext k;unfold sS;rw[List.any_append];simp
theorem hJ{os:List (Option Nat)}:sS os A6=A7:=by
 unfold sS;rw[List.any_eq_false];intro o _;cases o with
 |none=>simp
 |some n=>simp[oI]
theorem Q8{os:List (Option Nat)}{i:Int}:sS os (A0 i)=A3↔∃n:Nat,A0 n∈os/\i=n:=by
 unfold sS;rw[br];constructor
 .rintro⟨o,a,h⟩;cases o with
  |none=>simp at h
  |some n=>
   have:A0 i=oI (A0 n):=by simpa using h
   exact⟨n,a,Option.some.inj this⟩
 .rintro⟨n,b,rfl⟩;exact⟨A0 n,b,by simp[oI]⟩
theorem FK{M:List Rm}(e:OkM M){b:Bool}{p r:Nat}(h:bd M b p=A0 r):r<M.length:=by
 obtain⟨d,a⟩:=gf e (r:=p) (n:=r);cases b with
 |true=>exact a h
 |false=>exact d h
end K04
namespace K06
open PySem PySem.Spec PyProof.Rows L2 R3 LW
open TM BD BE TE
def ot(sp:Option Nat)(l:Int):Bool:=match sp with
 |A6=>A7
 |A0 m=>decide (l<0)||decide (l>m)
def lb(l0 h0 l1 h1:Nat)(sp:Option Nat)(k:K3)(c:Nat):Option K3:=
 if ot sp (lvl sp k.2.2 c)=A3 then A6
 else if c=k.1 then(if k.2.1+1<=(if c=1 then h1 else h0)then A0 (c,k.2.1+1,(lvl sp k.2.2 c).toNat)else A6)
 else if(if k.1=1 then l1 else l0)<=k.2.1 then A0 (c,1,(lvl sp k.2.2 c).toNat)else A6
def dK3(ks:List K3):List (List Key×V):=ks.map λk=>(kK k,V.bl A3)
def C7(k:K3):Prop:=k.1<2/\k.2.1<9/\k.2.2<17
theorem Q9{a b:K3}(h:BD.kI a=BD.kI b):a=b:=by
 obtain⟨g,n,i⟩:=a;obtain⟨j,l,m⟩:=b;unfold BD.kI at h;simp only[List.cons.injEq]at h;obtain⟨e,d,f,_⟩:=h;have e:(g:Int)=j:=e;have d:(n:Int)=l:=d;have f:(i:Int)=m:=f;congr 1;.omega
 .congr 1<;>omega
theorem ET{a b:K3}(h:kK a=kK b):a=b:=Q9 (List.map_inj_right (λx y z=>by injection z)|>.mp h)
theorem Gy{k:K3}:∀{b:List K3},Bl (dK3 b) (kK k)=if k∈b then A0 (.bl A3)else A6
 | []=>by simp[dK3,Bl]
 |a::b=>by
  by_cases h:a=k;.subst h;rw[show dK3 (a::b)=(kK a,V.bl A3)::dK3 b from rfl,EB rfl];simp
  .rw[show dK3 (a::b)=(kK a,V.bl A3)::dK3 b from rfl,EC (λz=>h (ET z)),Gy];have d:¬k=a:=λz=>h z.symm;simp only[ap,d,false_or]
theorem QA{k:K3}(h:C7 k):hT (BD.kI k)≠NH:=Pt ⟨k.1,h.1⟩ ⟨k.2.1,h.2.1⟩ ⟨k.2.2,h.2.2⟩
theorem hU{H:Hp}{p:A4}{ks:List K3}(hs:∀k∈ks,C7 k)(h:Rd H p (.dT (dK3 ks))):NoR H p:=⟨_,h,λd a=>by obtain⟨k,b,rfl⟩:=ar.mp a;exact⟨BD.kI k,rfl,QA (hs k b)⟩⟩
def inK(ks:List K3):Option K3->Bool
 |A6=>A7
 |A0 k=>decide (k∈ks)
theorem QB{H:Hp}{p:A4}{k:K3}(h:H p=A0 (.tup [nV k.1,nV k.2.1,nV k.2.2])):H p=A0 (.tup ((kK k).map L2.kV)):=h
theorem Gz{H H':Hp}{a:A4}{o:HO}(s:Ax H H')(h:Rd H a o):Rd H' a o:=by
 rcases h with h|⟨z,h⟩;.exact .inl (s _ _ h)
 .exact .inr ⟨z,s _ _ h⟩
theorem QC{sp:Option Nat}{l:Nat}:l∈lvs sp↔match sp with
  |A6=>l=0
  |A0 m=>l<=m:=by
 cases sp with
 |none=>simp[lvs]
 |some m=>show l∈aG (m+1)↔l<=m;rw[aI];omega
theorem FL{sp:Option Nat}{h0 h1:Nat}{k:K3}:k∈rk (lvs sp) h0 h1↔k.1<2/\1<=k.2.1/\k.2.1<=(if k.1=1 then h1 else h0)/\k.2.2∈lvs sp:=by
 have g:∀{b h:Nat}{k:K3},k.1=b->1<=k.2.1->k.2.1<=h->k.2.2∈lvs sp->k∈r2 (lvs sp) b h:=by rintro b h⟨l,i,j⟩f d a e;subst f;have d:1<=i:=d;have a:i<=h:=a;unfold r2 r1;refine List.mem_flatMap.mpr ⟨i-1,aI.mpr ⋯,ar.mpr ⟨j,e,?_⟩⟩;show(l,i-1+1,j)=(l,i,j);rw[Nat.sub_add_cancel d]
 unfold rk;rw[aL];constructor
 .rintro(h|h);.obtain⟨f,d,a,e⟩:=D9 h;rw[f];exact⟨by decide,d,a,e⟩
  .obtain⟨f,d,a,e⟩:=D9 h;rw[f];exact⟨by decide,d,a,e⟩
 .rintro⟨f,d,a,e⟩;by_cases h:k.1=1;.rw[if_pos h]at a;exact .inr (g h d a e)
  .rw[if_neg h]at a;exact .inl (g ⋯ d a e)
theorem DX{b:Type} [BEq b] [LawfulBEq b]{l:List b}(h:l.Nodup){i:Nat}{a:b}(e:l[i]?=A0 a):l.idxOf a=i:=by
 have j:=ao e;have d:=cP j;have f:=List.getElem_idxOf d;obtain⟨g,e⟩:=aW.mp e;rcases dv (l.idxOf a) i with z|z|z;.exact absurd (f.trans e.symm) (cf.mp h _ _ d g z)
 .exact z
 .exact absurd (e.trans f.symm) (cf.mp h _ _ g d z)
theorem C1{b:Type} [BEq b] [LawfulBEq b]{l:List b}{a:b}(h:a∈l):l[l.idxOf a]?=A0 a:=by have d:=cP h;rw[ae d,List.getElem_idxOf d]
section
variable{l0 h0 l1 h1:Nat}{sp:Option Nat}
theorem G_(a0:1<=h0)(J:1<=h1){k:K3}(G:k∈rk (lvs sp) h0 h1){c:Nat}(w:c<2):
  (∀f,lb l0 h0 l1 h1 sp k c=A0 f->f∈rk (lvs sp) h0 h1)/\ixK (rk (lvs sp) h0 h1) (bh l0 l1 sp k c)=(lb l0 h0 l1 h1 sp k c).map (rk (lvs sp) h0 h1).idxOf:=by
 obtain⟨b,a,d⟩:=k;have s:=ER (ES (sp:=sp)) (h0:=h0) (h1:=h1);obtain⟨A,D,K,t⟩:=FL.mp G;have A:b<2:=A;have D:1<=a:=D;have t:d∈lvs sp:=t;have e:∀z:List Int,(∀k∈rk (lvs sp) h0 h1,BD.kI k≠z)->ixK (rk (lvs sp) h0 h1) (A0 z)=A6:=λz h=>Pw h;have some_of:∀f:K3,f∈rk (lvs sp) h0 h1->ixK (rk (lvs sp) h0 h1) (A0 (BD.kI f))=A0 ((rk (lvs sp) h0 h1).idxOf f):=λf h=>Px s (C1 h) rfl;by_cases j:ot sp (lvl sp d c)=A3
 .have r:lb l0 h0 l1 h1 sp (b,a,d) c=A6:=by unfold lb;exact if_pos j
  rw[r];refine⟨λ_ z=>(by cases z),?_⟩;cases sp with
  |none=>cases j
  |some m=>
   unfold ot at j;rw[aX,decide_eq_true_eq,decide_eq_true_eq]at j;have C:∀x y:Int,ixK (rk (lvs (A0 m)) h0 h1) (A0 [x,y,lvl (A0 m) d c])=A6:=λx y=>e _ λf i z=>by have q:=QC.mp (FL.mp i).2.2.2;have q:f.2.2<=m:=q;unfold BD.kI at z;simp only[List.cons.injEq]at z;obtain⟨_,_,z,_⟩:=z;omega
   unfold bh;split;.exact C _ _
   .by_cases E:a<(if b=1 then l1 else l0);.rw[show(if(b,a,d).2.1<(if(b,a,d).1=1 then l1 else l0)then A6 else A0 [(c:Int),1,lvl (A0 m) (b,a,d).2.2 c])=A6 from if_pos E];rfl
    .rw[show(if(b,a,d).2.1<(if(b,a,d).1=1 then l1 else l0)then A6 else A0 [(c:Int),1,lvl (A0 m) (b,a,d).2.2 c])=_ from if_neg E];exact C _ _
 .have I:∃n:Nat,lvl sp d c=n/\n∈lvs sp:=by
   cases sp with
   |none=>exact⟨d,rfl,t⟩
   |some m=>unfold ot at j;rw[aX,decide_eq_true_eq,decide_eq_true_eq]at j;exact⟨(lvl (A0 m) d c).toNat,⋯,QC.mpr (show(lvl (A0 m) d c).toNat<=m by omega)⟩
  obtain⟨n,v,o⟩:=I;have r:lb l0 h0 l1 h1 sp (b,a,d) c=if c=b then(if a+1<=(if c=1 then h1 else h0)then A0 (c,a+1,n)else A6)else if(if b=1 then l1 else l0)<=a then A0 (c,1,n)else A6:=by unfold lb;rw[if_neg j];show(if c=b then(if a+1<=_ then A0 (c,a+1,(lvl sp d c).toNat)else A6)else if _ then A0 (c,1,(lvl sp d c).toNat)else A6)=_;rw[v,bg]
  have H:bh l0 l1 sp (b,a,d) c=if c=b then A0 [(c:Int),(a:Int)+1,(n:Int)]else if a<(if b=1 then l1 else l0)then A6 else A0 [(c:Int),1,(n:Int)]:=by unfold bh;dsimp only;rw[v]
  rw[r,H];by_cases g:c=b
  .rw[if_pos g,if_pos g];by_cases l:a+1<=(if c=1 then h1 else h0);.rw[if_pos l];have p:((c,a+1,n):K3)∈rk (lvs sp) h0 h1:=FL.mpr ⟨w,by show 1<=a+1;omega,l,o⟩;refine⟨λf z=>(by cases z;exact p),?_⟩;have:=some_of _ p;unfold BD.kI at this;rw[show((a:Int)+1)=((a+1:Nat):Int)by omega];exact this
   .rw[if_neg l];refine⟨λf z=>(by cases z),e _ λf i z=>?_⟩;have q:=(FL.mp i).2.2.1;unfold BD.kI at z;simp only[List.cons.injEq]at z;obtain⟨B,L,_⟩:=z;have B:f.1=c:=by omega
    rw[B]at q;omega
  .rw[if_neg g,if_neg g];by_cases l:a<(if b=1 then l1 else l0);.rw[if_pos l,if_neg ⋯];exact⟨λf z=>(by cases z),rfl⟩
   .rw[if_neg l,if_pos ⋯];have p:((c,1,n):K3)∈rk (lvs sp) h0 h1:=FL.mpr ⟨w,ah 1,(by show 1<=if c=1 then h1 else h0;split<;>omega),o⟩;refine⟨λf z=>(by cases z;exact p),?_⟩;exact some_of _ p
def nxl(l0 h0 l1 h1:Nat)(sp:Option Nat)(F:List K3):List K3:=F.filter λk=>(F.any λq=>decide (lb l0 h0 l1 h1 sp q 0=A0 k)||decide (lb l0 h0 l1 h1 sp q 1=A0 k))&&(inK F (lb l0 h0 l1 h1 sp k 0)||inK F (lb l0 h0 l1 h1 sp k 1))
def MxA(l0 h0 l1 h1:Nat)(sp:Option Nat):List Rm:=(rk (lvs sp) h0 h1).map (mx l0 l1 sp (rk (lvs sp) h0 h1))
theorem Ds{l0 l1:Nat}(a0:1<=h0)(b:1<=h1){r:Nat}{k:K3}(a:(rk (lvs sp) h0 h1)[r]?=A0 k):fs1 (MxA l0 h0 l1 h1 sp) r=(lb l0 h0 l1 h1 sp k 0).map (rk (lvs sp) h0 h1).idxOf/\fs2 (MxA l0 h0 l1 h1 sp) r=(lb l0 h0 l1 h1 sp k 1).map (rk (lvs sp) h0 h1).idxOf:=by have d:=ao a;unfold fs1 fs2 MxA;rw[aj,a];exact⟨(G_ a0 b d (by decide)).2,(G_ a0 b d (by decide)).2⟩
def Cov(l0 h0 l1 h1:Nat)(sp:Option Nat)(F:List K3):Prop:=∀S,Sus (MxA l0 h0 l1 h1 sp) S->∀r∈S,∀k,(rk (lvs sp) h0 h1)[r]?=A0 k->k∈F
theorem QD{ks:List K3}{a b:K3}(f:a∈ks)(h:ks.idxOf a=ks.idxOf b):a=b\/b∉ks:=by
 by_cases e:b∈ks;.left;have d:=C1 f;rw[h,C1 e]at d;exact(Option.some.inj d).symm
 .exact .inr e
theorem DY{l0 l1:Nat}(a0:1<=h0)(d:1<=h1){k q:K3}{c r:Nat}(i:q∈rk (lvs sp) h0 h1)(f:c<2)(b:(rk (lvs sp) h0 h1)[r]?=A0 k)(h:(lb l0 h0 l1 h1 sp q c).map (rk (lvs sp) h0 h1).idxOf=A0 r):lb l0 h0 l1 h1 sp q c=A0 k:=by
 cases e:lb l0 h0 l1 h1 sp q c with
 |none=>rw[e]at h;cases h
 |some a=>rw[e]at h;injection h with h;have h:(rk (lvs sp) h0 h1).idxOf a=r:=h;have g:=(G_ a0 d i f).1 a e;have:=C1 g;rw[h,b]at this;rw[Option.some.inj this]
theorem Cov.nx(a0:1<=h0)(f:1<=h1){F:List K3}(h:Cov l0 h0 l1 h1 sp F):Cov l0 h0 l1 h1 sp (nxl l0 h0 l1 h1 sp F):=by
 intro S l r o k g;obtain⟨_,⟨r1,i,v⟩,⟨r2,m,B⟩⟩:=l r o;have a:∀x∈S,∃q,(rk (lvs sp) h0 h1)[x]?=A0 q:=λx A=>by have:=(l x A).1;unfold MxA at this;rw[ac]at this;exact⟨_,ae this⟩
 obtain⟨n,d⟩:=a r1 i;obtain⟨y,b⟩:=a r2 m;have w:=h S l r1 i n d;have p:=h S l r2 m y b;refine aH.mpr ⟨h S l r o k g,?_⟩;rw[ai,br,aX];obtain⟨E,t⟩:=Ds (l0:=l0) (l1:=l1) a0 f d;obtain⟨C,D⟩:=Ds (l0:=l0) (l1:=l1) a0 f g;have j:=ao d;have s:=ao g;constructor
 .refine⟨n,w,?_⟩;rw[aX,decide_eq_true_eq,decide_eq_true_eq];rcases v with e|e;.rw[E]at e;exact .inl (DY a0 f j (by decide) g e)
  .rw[t]at e;exact .inr (DY a0 f j (by decide) g e)
 .rcases B with e|e;.rw[C]at e;left;rw[DY a0 f s (by decide) b e];exact decide_eq_true p
  .rw[D]at e;right;rw[DY a0 f s (by decide) b e];exact decide_eq_true p
structure Lsd(l0 h0 l1 h1:Nat)(sp:Option Nat)(F:List K3):Prop where
 sub:F.Sublist (rk (lvs sp) h0 h1)
 fix:nxl l0 h0 l1 h1 sp F=F
 all:Cov l0 h0 l1 h1 sp F
theorem hV{ks F:List K3}(a:ks.Nodup)(h:F.Sublist ks):(F.map ks.idxOf).Pairwise (· < ·):=by
 have e:ks.map ks.idxOf=aG ks.length:=by
  apply bW;intro i;rw[aj];cases e:ks[i]? with
  |none=>rw[bi (by rw[bf];exact bH.mp e)];rfl
  |some k=>rw[cv (BH e)];exact congrArg A0 (DX a e)
 have:=h.map ks.idxOf;rw[e]at this;exact List.pairwise_lt_range.sublist this
theorem Lsd.mem{F:List K3}(h:Lsd l0 h0 l1 h1 sp F){k:K3}(a:k∈F):k∈rk (lvs sp) h0 h1:=h.sub.subset a
theorem Lsd.rs(a0:1<=h0)(n:1<=h1){F:List K3}(h:Lsd l0 h0 l1 h1 sp F):Rs (MxA l0 h0 l1 h1 sp) (F.map (rk (lvs sp) h0 h1).idxOf):=by
 have f:=ER (ES (sp:=sp)) (h0:=h0) (h1:=h1);have i:∀r∈F.map (rk (lvs sp) h0 h1).idxOf,r<(MxA l0 h0 l1 h1 sp).length:=λr a=>by obtain⟨k,l,rfl⟩:=ar.mp a;unfold MxA;rw[ac];exact cP (h.mem l)
 have w:Sus (MxA l0 h0 l1 h1 sp) (F.map (rk (lvs sp) h0 h1).idxOf):=by
  intro r a;refine⟨i r a,?_⟩;obtain⟨k,l,rfl⟩:=ar.mp a;have m:k∈nxl l0 h0 l1 h1 sp F:=by rw[h.fix];exact l
  have j:=(aH.mp m).2;rw[ai,br,aX]at j;obtain⟨⟨q,d,p⟩,x⟩:=j;rw[aX,decide_eq_true_eq,decide_eq_true_eq]at p;obtain⟨B,v⟩:=Ds (l0:=l0) (l1:=l1) a0 n (C1 (h.mem d));obtain⟨y,A⟩:=Ds (l0:=l0) (l1:=l1) a0 n (C1 (h.mem l));refine⟨⟨_,ar.mpr ⟨q,d,rfl⟩,?_⟩,?_⟩
  .rcases p with e|e;.left;rw[B,e];rfl
   .right;rw[v,e];rfl
  .have g:∀o:Option K3,inK F o=A3->∃q,q∈F/\o=A0 q:=λo s=>by
    cases o with
    |none=>cases s
    |some q=>exact⟨q,of_decide_eq_true s,rfl⟩
   rcases x with e|e;.obtain⟨q,d,e⟩:=g _ e;exact⟨_,ar.mpr ⟨q,d,rfl⟩,.inl (by rw[y,e];rfl)⟩
   .obtain⟨q,d,e⟩:=g _ e;exact⟨_,ar.mpr ⟨q,d,rfl⟩,.inr (by rw[A,e];rfl)⟩
 refine⟨hV f h.sub,i,?_,λS t r a=>?_⟩;.unfold lst;rw[List.filter_eq_self];intro r a;have:=Pz w (rs:=F.map (rk (lvs sp) h0 h1).idxOf) (λ_ z=>z) r a;exact(aH.mp this).2
 .have b:=(t r a).1;unfold MxA at b;rw[ac]at b;have e:=ae b;exact ar.mpr ⟨_,h.all S t r a _ e,DX f e⟩
def ixF(F:List K3):Option K3->Option Nat
 |A6=>A6
 |A0 k=>if k∈F then A0 (F.idxOf k)else A6
def Az(l0 h0 l1 h1:Nat)(sp:Option Nat)(F:List K3):List Rm:=F.map λk=>(ixF F (lb l0 h0 l1 h1 sp k 0),ixF F (lb l0 h0 l1 h1 sp k 1))
theorem QE{ks:List K3}(d:ks.Nodup){k:K3}(a:k∈ks):∀{F:List K3},(∀q∈F,q∈ks)->(F.map ks.idxOf).idxOf (ks.idxOf k)=F.idxOf k
 | [],_=>rfl
 |q::F,h=>by
  rw[aK,List.idxOf_cons,List.idxOf_cons,QE d a λx f=>h x (ax _ f)];have g:=h q ay;by_cases e:q=k;.subst e;simp
  .have b:ks.idxOf q≠ks.idxOf k:=λz=>by
    rcases QD g z with z|z;.exact e z
    .exact z a
   rw[beq_eq_false_iff_ne.mpr e,beq_eq_false_iff_ne.mpr b]
theorem Lsd.prt(a0:1<=h0)(g:1<=h1){F:List K3}(h:Lsd l0 h0 l1 h1 sp F):prt (MxA l0 h0 l1 h1 sp) (F.map (rk (lvs sp) h0 h1).idxOf)=Az l0 h0 l1 h1 sp F:=by
 have f:=ER (ES (sp:=sp)) (h0:=h0) (h1:=h1);unfold TE.prt Az;rw[aU];apply cO;intro k i;obtain⟨n,l⟩:=Ds (l0:=l0) (l1:=l1) a0 g (C1 (h.mem i));have b:∀c,c<2->ixR (F.map (rk (lvs sp) h0 h1).idxOf) ((lb l0 h0 l1 h1 sp k c).map (rk (lvs sp) h0 h1).idxOf)=ixF F (lb l0 h0 l1 h1 sp k c):=λc m=>by
  cases e:lb l0 h0 l1 h1 sp k c with
  |none=>rfl
  |some q=>
   have j:=(G_ a0 g (h.mem i) m).1 q e;show ixR _ (A0 _)=if q∈F then A0 (F.idxOf q)else A6;rw[P_,QE f j λx d=>h.mem d];by_cases a:q∈F;.rw[if_pos a,if_pos (ar.mpr ⟨q,a,rfl⟩)]
   .rw[if_neg a,if_neg λz=>?_];obtain⟨x,d,e⟩:=ar.mp z;rcases QD (h.mem d) e with e|e;.exact a (e▸d)
    .exact e j
 show(ixR _ (fs1 _ _),ixR _ (fs2 _ _))=_;rw[n,l,b 0 (by decide),b 1 (by decide)]
end
theorem so{H H':Hp}{p:A4}{o:HO}(h:H p=A6)(s:Ax H H'):Ax H (upd H' p o):=λb u q=>by rw[Ay (Bm q h)];exact s _ _ q
theorem tpo{H:Hp}{p:A4}{o f:HO}(h:H p=A0 o)(d:∀b,o≠.tup b):Tp H (upd H p f):=λa b e=>by
 rw[Ay];.exact e
 .rintro rfl;rw[h]at e;exact d b (Option.some.inj e)
theorem Jy{sp:Option Nat}:lvs sp=aG (sp.getD 0+1):=by
 cases sp with
 |none=>rfl
 |some s=>rfl
theorem QF{F:List K3}{k:K3}(h:k∉F):BX (dK3 F) (kK k) (.bl A3)=dK3 (F++[k]):=by rw[Lv _ (by rw[Gy,if_neg h])];unfold dK3;rw[aC];rfl
theorem Jz{F:List K3}:(dK3 F).length=F.length:=by unfold dK3;rw[ac]
theorem hY{m b pl j:Nat}(hj:j<m):(r1 (aG m) b pl).take (j+1)=(r1 (aG m) b pl).take j++[(b,pl,j)]:=by rw[aO];congr 1;unfold r1;rw[aj,cv hj];rfl
theorem hZ{m b pl:Nat}:(r1 (aG m) b pl).length=m:=by unfold r1;rw[ac,bf]
theorem iA{m b pl j:Nat}{k:K3}(h:k∈(r1 (aG m) b pl).take j):k.2.1=pl/\k.2.2<j:=by
 obtain⟨i,e⟩:=dC h;rw[List.getElem?_take]at e;by_cases a:i<j
 .rw[if_pos a]at e;unfold r1 at e;rw[aj]at e;by_cases d:i<m;.rw[cv d]at e;cases e;exact⟨rfl,a⟩
  .rw[bi (by rw[bf];omega)]at e;cases e
 .rw[if_neg a]at e;cases e
def Bas(sp:Option Nat)(h0 h1:Nat)(i:Nat):List K3:=if i=0 then[]else if i=1 then r2 (lvs sp) 0 h0 else rk (lvs sp) h0 h1
theorem iB{sp:Option Nat}{h0 h1 i j m:Nat}(hi:i<2):((i,j+1,m):K3)∉Bas sp h0 h1 i++r2 (lvs sp) i j++(r1 (lvs sp) i (j+1)).take m:=by
 intro h;rw[bc,aL,aL]at h;rcases h with h|h|h
 .rcases(by omega:i=0\/i=1)with rfl|rfl;.exact absurd h av
  .have:=(D9 (show((1,j+1,m):K3)∈r2 (lvs sp) 0 h0 from h)).1;exact absurd this (by show¬1=0;decide)
 .have:=(D9 h).2.2.1;have:j+1<=j:=this;omega
 .rw[Jy]at h;have:=(iA h).2;have:m<m:=this;omega
theorem iC{sp:Option Nat}{h0 h1 i j m:Nat}(a0:h0<=8)(d:h1<=8)(e:∀s,sp=A0 s->s<=16)(hj:j<=8):(Bas sp h0 h1 i++r2 (lvs sp) i j++(r1 (lvs sp) i (j+1)).take m).length<1000:=by
 have g:=(Ju e).1;have a:∀b h,h<=8->(r2 (lvs sp) b h).length<=136:=λb h f=>by rw[EQ];exact aN (Nat.mul_le_mul f g) (by decide)
 have q:((r1 (lvs sp) i (j+1)).take m).length<=17:=by rw[aM];unfold r1;rw[ac];omega
 have l:(Bas sp h0 h1 i).length<=272:=by
  unfold Bas;split;.exact aJ _
  .split;.have:=a 0 h0 a0;omega
   .unfold rk;have o:=a 0 h0 a0;have n:=a 1 h1 d;rw[aB];omega
 have p:=a i j hj;rw[aB,aB];omega
section
variable{l0 h0 l1 h1:Nat}{sp:Option Nat}{C:Rc}
def kp(l0 h0 l1 h1:Nat)(sp:Option Nat)(F:List K3)(k:K3):Bool:=(F.any λq=>decide (lb l0 h0 l1 h1 sp q 0=A0 k)||decide (lb l0 h0 l1 h1 sp q 1=A0 k))&&(inK F (lb l0 h0 l1 h1 sp k 0)||inK F (lb l0 h0 l1 h1 sp k 1))
theorem QG{F:List K3}:nxl l0 h0 l1 h1 sp F=F.filter (kp l0 h0 l1 h1 sp F):=rfl
end
def DC:Sp:=λi H Q _=>∃(bd:A4)(g a b e:Nat)(d:Option Nat),i=[.ref bd]/\IsB H bd g a b e d/\∀(p:A4)(h:List Nat)(f:Hp),Ax H f->IsM f p (prt (MxA g a b e d) h)->Rs (MxA g a b e d) h->Q (.ref p) f
theorem iD{C:Rc}(w:C.N.length=3)(hT:C.fs "trimmed"=A0 FI)(B:C.fs "machine_in_bounds"=A0 FG)(hR:C.fs "rooms_in_bounds"=A0 FE):∀b H Q E,DC b H Q E->tSs C Gs {nx:=λ_ G=>Q .non G,rt:=Q} (L2.BJ C.N b) H:=by intro b H Q E h;obtain⟨bd,n,h0,o,h1,m,rfl,a,q⟩:=h;rw[Bb w];unfold Gs;have v:=(DA a.bs a.b0 a.b1 (h0:=h0) (h1:=h1)).1;symm;rw[D7];refine B6 hT ?_;symm;refine B6 B ?_;symm;refine B6 hR ?_;symm;refine⟨bd,n,h0,o,h1,m,rfl,a,λp D K j r d=>?_⟩;symm;refine⟨bd,p,n,h0,o,h1,m,D,rfl,a.mono (BG j),r,d,λp2 J A f=>?_⟩;symm;refine⟨p2,_,rfl,f,by rw[ac];omega,λI y l x t s _ i L e g=>?_⟩;refine fE (SqT.of i) ?_;symm;exact q y x t (j.trans (A.trans s)) e g
def rks(sp:Option Nat)(h0 h1:Nat)(rs:List Nat):List K3:=rs.map λr=>(rk (lvs sp) h0 h1)[r]?.getD (0,0,0)
section
variable{l0 h0 l1 h1:Nat}{sp:Option Nat}
theorem HA(a0:1<=h0)(a:1<=h1){F:List K3}(h:Lsd l0 h0 l1 h1 sp F){rs:List Nat}(hR:Rs (MxA l0 h0 l1 h1 sp) rs):rks sp h0 h1 rs=F/\prt (MxA l0 h0 l1 h1 sp) rs=Az l0 h0 l1 h1 sp F:=by
 have e:rs=F.map (rk (lvs sp) h0 h1).idxOf:=hR.uniq (h.rs a0 a);rw[e];refine⟨?_,h.prt a0 a⟩;unfold rks;rw[aU];have:∀k∈F,((λr=>(rk (lvs sp) h0 h1)[r]?.getD (0,0,0))∘(rk (lvs sp) h0 h1).idxOf) k=k:=λk b=>by show(rk (lvs sp) h0 h1)[(rk (lvs sp) h0 h1).idxOf k]?.getD (0,0,0)=k;rw[C1 (h.mem b)];rfl
 exact(cO this).trans (List.map_id _)
theorem J_{F:List K3}:OkM (Az l0 h0 l1 h1 sp F):=by
 intro r f;obtain⟨k,h,rfl⟩:=ar.mp f;have g:(Az l0 h0 l1 h1 sp F).length=F.length:=by unfold Az;rw[ac]
 have d:∀o:Option K3,∀x,ixF F o=A0 x->x<(Az l0 h0 l1 h1 sp F).length:=λo x a=>by
  cases o with
  |none=>cases a
  |some e=>
   have a:(if e∈F then A0 (F.idxOf e)else A6)=A0 x:=a;by_cases b:e∈F;.rw[if_pos b]at a;cases a;rw[g];exact cP b
   .rw[if_neg b]at a;cases a
 exact⟨d _,d _⟩
end
end K06
namespace K07
open PySem PySem.Spec PyProof.Rows L2 R3 LW
open TM BD BE TE K06 SR
section
variable{l0 h0 l1 h1:Nat}{sp:Option Nat}
theorem QH(a0:1<=h0)(j:1<=h1){rs:List Nat}(h:Rs (MxA l0 h0 l1 h1 sp) rs):Lsd l0 h0 l1 h1 sp (rks sp h0 h1 rs):=by
 have m:∀r∈rs,r<(rk (lvs sp) h0 h1).length:=λr d=>by have:=h.lt r d;unfold MxA at this;rwa [ac]at this
 have b:∀r∈rs,(rk (lvs sp) h0 h1)[r]?=A0 ((rk (lvs sp) h0 h1)[r]?.getD (0,0,0)):=λr d=>by rw[ae (m r d)];rfl
 have a:∀{r k},r∈rs->(rk (lvs sp) h0 h1)[r]?=A0 k->k∈rks sp h0 h1 rs:=λ{r k}d e=>ar.mpr ⟨r,d,by rw[e];rfl⟩;refine⟨?_,?_,λS y r d k p=>a (h.all S y r d) p⟩
 .have q:rs=(aG (rk (lvs sp) h0 h1).length).filter λr=>decide (r∈rs):=
   Jx h.rise (List.Pairwise.sublist db cr) λx=>by rw[aH,aI,decide_eq_true_eq];exact⟨λz=>⟨m x z,z⟩,λz=>z.2⟩
  have t:(aG (rk (lvs sp) h0 h1).length).map (λr=>(rk (lvs sp) h0 h1)[r]?.getD (0,0,0))=rk (lvs sp) h0 h1:=by
   apply bW;intro i;rw[aj];by_cases s:i<(rk (lvs sp) h0 h1).length;.rw[cv s,ae s];show A0 ((rk (lvs sp) h0 h1)[i]?.getD (0,0,0))=_;rw[ae s];rfl
   .rw[bi (by rw[bf];omega),bi ⋯];rfl
  have:=(show rs.Sublist (aG (rk (lvs sp) h0 h1).length)by rw[q];exact db).map λr=>(rk (lvs sp) h0 h1)[r]?.getD (0,0,0);rw[t]at this;exact this
 .unfold nxl;rw[List.filter_eq_self];intro k p;obtain⟨r,d,rfl⟩:=ar.mp p;obtain⟨_,⟨r1,l,q⟩,⟨r2,f,t⟩⟩:=h.sus r d;have g:=b r d;have o:=b r1 l;have n:=b r2 f;obtain⟨B,A⟩:=Ds (l0:=l0) (l1:=l1) a0 j o;obtain⟨v,w⟩:=Ds (l0:=l0) (l1:=l1) a0 j g;rw[ai,br,aX];constructor
  .refine⟨_,a l o,?_⟩;rw[aX,decide_eq_true_eq,decide_eq_true_eq];rcases q with e|e;.rw[B]at e;exact .inl (DY a0 j (ao o) (by decide) g e)
   .rw[A]at e;exact .inr (DY a0 j (ao o) (by decide) g e)
  .rcases t with e|e;.rw[v]at e;left;rw[DY a0 j (ao g) (by decide) n e];exact decide_eq_true (a f n)
   .rw[w]at e;right;rw[DY a0 j (ao g) (by decide) n e];exact decide_eq_true (a f n)
end
end K07
namespace K05
open PySem PySem.Spec PyProof.Rows L2 R3 LW
def HB:Css:=(.cons (.asg (.name 3) (.comp (.idx (.idx (.var 0) (.var 4)) (.blt .int (.cons (.var 2) .nil))) [4] (.name 4) (.val (.var 1)) .none .nil))
  (.cons (.ret (.ssa (.var 5) [5] (.name 5) (.val (.var 3)) (.some (.cmp .IsNot (.var 5) .non))))
  .nil))
open TM BD BE TE K06 SR K07
def bit(c:Bool):Nat:=if c then 1 else 0
def Dt(l0 h0 l1 h1:Nat)(sp:Option Nat)(F:List K3):K3->List Bool->K3->Prop
 |k,[],a=>a=k
 |k,c::w,a=>∃m,lb l0 h0 l1 h1 sp k (bit c)=A0 m/\m∈F/\Dt l0 h0 l1 h1 sp F m w a
def Kk(l0 h0 l1 h1:Nat)(sp:Option Nat)(F:List K3)(w:List Bool):Prop:=∃k∈F,∃a,Dt l0 h0 l1 h1 sp F k w a
open Classical in
noncomputable def fK(l0 h0 l1 h1:Nat)(sp:Option Nat)(w:List Bool):Bool:=decide (∃F,Lsd l0 h0 l1 h1 sp F/\Kk l0 h0 l1 h1 sp F w)
section
variable{l0 h0 l1 h1:Nat}{sp:Option Nat}{F:List K3}
theorem K0:∀{u v:List Bool}{k a:K3},Dt l0 h0 l1 h1 sp F k (u++v) a↔∃m,Dt l0 h0 l1 h1 sp F k u m/\Dt l0 h0 l1 h1 sp F m v a
 | [],v,k,a=>⟨λh=>⟨k,rfl,h⟩,λ⟨m,e,h⟩=>by cases e;exact h⟩
 |c::u,v,k,a=>⟨λ⟨m,e,d,h⟩=>by obtain⟨x,h1,b⟩:=K0.mp h;exact⟨x,⟨m,e,d,h1⟩,b⟩,λ⟨x,⟨m,e,d,h1⟩,b⟩=>⟨m,e,d,K0.mpr ⟨x,h1,b⟩⟩⟩
theorem QI:∀{w:List Bool}{k a:K3},k∈F->Dt l0 h0 l1 h1 sp F k w a->a∈F
 | [],_,_,h,e=>by cases e;exact h
 |_::_,_,_,_,⟨_,_,b,h⟩=>QI b h
theorem Kk.pre{w:List Bool}(h:Kk l0 h0 l1 h1 sp F w)(i:Nat):Kk l0 h0 l1 h1 sp F (w.take i):=by obtain⟨k,a,b,h⟩:=h;rw[<-bG i w,K0]at h;obtain⟨m,h1,_⟩:=h;exact⟨k,a,m,h1⟩
theorem QJ{r:Nat}{k:K3}{c:Bool}(a:F[r]?=A0 k):stp (Az l0 h0 l1 h1 sp F) r c=ixF F (lb l0 h0 l1 h1 sp k (bit c)):=by unfold stp Az;rw[aj,a];cases c<;>rfl
theorem K1{o:Option K3}{t:Nat}:ixF F o=A0 t↔∃m,o=A0 m/\m∈F/\F.idxOf m=t:=by
 cases o with
 |none=>exact⟨λz=>by(cases z),λ⟨m,z,_⟩=>by(cases z)⟩
 |some m=>
  show(if m∈F then A0 (F.idxOf m)else A6)=A0 t↔_;by_cases a:m∈F;.rw[if_pos a];exact⟨λz=>⟨m,rfl,a,Option.some.inj z⟩,λ⟨b,e,_,z⟩=>by cases e;rw[z]⟩
  .rw[if_neg a];exact⟨λz=>by(cases z),λ⟨b,e,h,_⟩=>by cases e;exact absurd h a⟩
theorem K2{M:List Rm}{r:Nat}{c:Bool}{w:List Bool}:wk M (A0 r) (c::w)=wk M (stp M r c) w:=rfl
theorem HC(g:F.Nodup):∀{w:List Bool}{r t:Nat}{k:K3},F[r]?=A0 k->(wk (Az l0 h0 l1 h1 sp F) (A0 r) w=A0 t↔∃a,F[t]?=A0 a/\Dt l0 h0 l1 h1 sp F k w a)
 | [],r,t,k,h=>⟨λz=>by cases z;exact⟨k,h,rfl⟩,λ⟨a,e,z⟩=>by cases z;have b:=DX g h;have d:=DX g e;show A0 r=A0 t;rw[<-b,<-d]⟩
 |c::w,r,t,k,h=>by
  rw[K2,QJ h];constructor
  .intro z;cases i:ixF F (lb l0 h0 l1 h1 sp k (bit c))with
   |none=>rw[i,Jr]at z;cases z
   |some r1=>rw[i]at z;obtain⟨m,e,f,rfl⟩:=K1.mp i;obtain⟨a,b,d⟩:=(HC g (C1 f)).mp z;exact⟨a,b,m,e,f,d⟩
  .rintro⟨a,b,m,e,f,d⟩;rw[K1.mpr ⟨m,e,f,rfl⟩];exact(HC g (C1 f)).mpr ⟨a,b,d⟩
theorem K4(f:F.Nodup){w:List Bool}:(∃d r,d<F.length/\wk (Az l0 h0 l1 h1 sp F) (A0 d) w=A0 r)↔Kk l0 h0 l1 h1 sp F w:=by
 constructor;.rintro⟨d,r,e,h⟩;obtain⟨a,_,g⟩:=(HC f (ae e)).mp h;exact⟨_,bQ e,a,g⟩
 .rintro⟨k,b,a,h⟩;exact⟨F.idxOf k,F.idxOf a,BH (C1 b),(HC f (C1 b)).mpr ⟨a,C1 (QI b h),h⟩⟩
theorem HD(h:Lsd l0 h0 l1 h1 sp F):F.Nodup:=(ER ES).sublist h.sub
theorem iE(a0:1<=h0)(a:1<=h1){G:List K3}(h:Lsd l0 h0 l1 h1 sp F)(g:Lsd l0 h0 l1 h1 sp G):F=G:=(HA a0 a h (g.rs a0 a)).1.symm.trans (HA a0 a g (g.rs a0 a)).1
theorem K5(a0:1<=h0)(a:1<=h1)(h:Lsd l0 h0 l1 h1 sp F){w:List Bool}:fK l0 h0 l1 h1 sp w=A3↔Kk l0 h0 l1 h1 sp F w:=by unfold fK;rw[@decide_eq_true_iff _ (Classical.propDecidable _)];exact⟨λ⟨G,g,k⟩=>by rw[iE a0 a h g];exact k,λk=>⟨F,h,k⟩⟩
theorem QK{w:List Bool}:fK l0 h0 l1 h1 sp w=A3↔∃F,Lsd l0 h0 l1 h1 sp F/\Kk l0 h0 l1 h1 sp F w:=by unfold fK;exact@decide_eq_true_iff _ (Classical.propDecidable _)
theorem iF{w:List Bool}(h:fK l0 h0 l1 h1 sp w=A3)(i:Nat):fK l0 h0 l1 h1 sp (w.take i)=A3:=by obtain⟨F,a,b⟩:=QK.mp h;exact QK.mpr ⟨F,a,b.pre i⟩
def Is5(l0 h0 l1 h1:Nat)(sp:Option Nat)(row:List Bool)(o:Option Nat):Prop:=(o=A6/\fK l0 h0 l1 h1 sp row=A3)\/∃i,o=A0 i/\i<=row.length/\fK l0 h0 l1 h1 sp (row.take i)=A7/\∀j,j<i->fK l0 h0 l1 h1 sp (row.take j)=A3
theorem Is5.non{row:List Bool}{o:Option Nat}(h:Is5 l0 h0 l1 h1 sp row o):decide (oV o=.non)=fK l0 h0 l1 h1 sp row:=by
 rcases h with⟨rfl,h⟩|⟨i,rfl,a,h,_⟩;.rw[h];rfl
 .cases e:fK l0 h0 l1 h1 sp row with
  |false=>rfl
  |true=>have:=iF e i;rw[h]at this;cases this
end
theorem iG{d:List Int}(h:d.Nodup)(h0:∀i∈d,0<=i):∃f:List Nat,f.Nodup/\d.map V.int=f.map nV/\∀r:Nat,r∈f↔(r:Int)∈d:=by
 refine⟨d.map Int.toNat,?_,?_,λr=>?_⟩;.rw[List.Nodup,cI];refine List.Pairwise.imp_of_mem (λ{a b}g j z=>?_) h;have:=h0 a g;have:=h0 b j;omega
 .rw[aU];apply cO;intro i e;show V.int i=V.int (i.toNat:Nat);rw[Int.toNat_of_nonneg (h0 i e)]
 .rw[ar];constructor;.rintro⟨i,e,rfl⟩;rw[Int.toNat_of_nonneg (h0 i e)];exact e
  .intro z;exact⟨r,z,⋯⟩
def DD:Sp:=λh H Q _=>∃(a l:A4)(M:List Rm)(e:List Nat)(b:Bool),h=[.ref a,.ref l,.str (tx [b])]/\IsM H a M/\OkM M/\H l=A0 (.lst (e.map nV))/\(∀r∈e,r<M.length)/\e.length<=500/\∀(g:A4)(d:List Nat)(f:Hp),Ax H f->f g=A0 (.lst (d.map nV))->d.Nodup->(∀r,r∈d↔∃p∈e,K04.bd M b p=A0 r)->Q (.ref g) f
theorem iH{C:Rc}(hN:C.N.length=6):∀vs H Q E,DD vs H Q E->tSs C HB {nx:=λ_ g=>Q .non g,rt:=Q} (L2.BJ C.N vs) H:=by
 intro vs H Q E h;obtain⟨a,l,M,d,b,rfl,hM,hO,hl,Z,a1,q⟩:=h;rw[Bb hN];unfold HB;symm;refine CB (SqL.of hl) (Cd (vs:=d.map nV) (λi D g=>i<=d.length/\D=((d.take i).map (K04.bd M b)).map oV/\g=H) ⟨aJ _,rfl,rfl⟩ (λi D g T=>SqL.of (by rw[T.2.2];exact hl)) ?_ ?_);.rintro i D g x K B⟨_,rfl,rfl⟩hK;rw[aj]at B;obtain⟨r,X,rfl⟩:=aP.mp B;have w:=BH X;simp only[nV];symm;refine Dr hM (Z r (ao X)) λpr J=>?_;symm;refine O_ (SqT.of J) ?_;refine⟨by rw[ac,ac,aM];exact BK ⋯,hK _ _ ⟨w,?_,rfl⟩⟩;rw[aO,X,aC,aC];show _++[if b=A3 then oV (fs2 M r)else oV (fs1 M r)]=_++[oV (K04.bd M b r)];cases b<;>rfl
 .rintro D g⟨_,rfl,rfl⟩L hL;rw[ac,aQ];have s1:=BB hL (.lst ((d.map (K04.bd M b)).map oV));have t:upd g L (.lst ((d.map (K04.bd M b)).map oV)) L=A0 (.lst ((d.map (K04.bd M b)).map oV)):=A_;generalize upd g L (.lst ((d.map (K04.bd M b)).map oV))=H1 at s1 t⊢;symm;refine CB (SqL.of t) (Jj (vs:=(d.map (K04.bd M b)).map oV) (λi a g=>i<=d.length/\a.1=K04.sS ((d.map (K04.bd M b)).take i)/\a.2<=i/\g=H1) ⟨aJ _,rfl,ah _,rfl⟩ (λi a g T=>SqL.of (by rw[T.2.2.2];exact t)) ?_ ?_)
  .rintro i⟨S,n⟩H2 x R B⟨_,v,A,rfl⟩hR;rw[aj]at B;obtain⟨o,ho,rfl⟩:=aP.mp B;have w:i<d.length:=by have:=BH ho;rwa [ac]at this
   have m:=K04.hC (os:=(d.map (K04.bd M b)).take i) (o:=o);have et:(d.map (K04.bd M b)).take (i+1)=(d.map (K04.bd M b)).take i++[o]:=by rw[aO,ho];rfl
   rw[<-et]at m;dsimp only at v A;subst v;cases o with
   |none=>simp only[oV];symm;refine hR _ _ ⟨w,?_,by show n<=i+1;omega,rfl⟩;show K04.sS _=K04.sS _;rw[m];funext k;simp
   |some y=>simp only[oV];symm;refine⟨A0 (y:Int),rfl,by show n<4000;omega,hR _ _ ⟨w,?_,by show n+1<=i+1;omega,rfl⟩⟩;show(λj=>K04.sS _ j||decide (j=A0 (y:Int)))=K04.sS _;rw[m];funext k;show _=(_||(A3&&decide (k=A0 (y:Int))));rw[Bool.true_and]
  .rintro⟨S,n⟩H2⟨_,v,A,rfl⟩;rw[ac,bK (ah _)]at v;dsimp only at v A;subst v;refine gC K04.hJ λl' us I O f=>?_;dsimp only at f;obtain⟨a0,G,P,Y⟩:=iG O (λi w=>by obtain⟨n,_,rfl⟩:=K04.Q8.mp ((f i).mp w);exact Int.natCast_nonneg n);rw[P];refine q l' a0 _ (s1.trans (BB I _)) A_ G λr=>?_;rw[Y,f,K04.Q8];constructor;.rintro⟨n,A,e⟩;obtain⟨p,U,s⟩:=ar.mp A;exact⟨p,U,by rw[s,show r=n by omega]⟩
   .rintro⟨p,U,s⟩;exact⟨r,by rw[<-s];exact List.mem_map_of_mem U,rfl⟩
theorem Du{M:List Rm}{b:Bool}{p:Nat}:K04.bd M b p=stp M p b:=by
 unfold K04.bd fs1 fs2 stp;cases e:M[p]? with
 |none=>cases b<;>rfl
 |some r=>cases b<;>rfl
def FM:Sp:=λi H Q _=>∃(p:A4)(h b e d:Nat)(f:Option Nat)(a:List Bool),i=[.ref p,.str (tx a)]/\IsB H p h b e d f/\1<=b/\1<=d/\a.length<=900/\∀(o:Option Nat)(g:Hp),Ax H g->Is5 h b e d f a o->Q (oV o) g
theorem iI{C:Rc}(hN:C.N.length=6)(hM:C.fs "machine_of"=A0 DC)(hR:C.fs "rooms_behind"=A0 DD):∀vs H Q E,FM vs H Q E->tSs C K04.Gv {nx:=λ_ G=>Q .non G,rt:=Q} (L2.BJ C.N vs) H:=by
 intro vs H Q E h;obtain⟨p,y,h0,v,h1,t,d,rfl,hB,c0,c1,a7,q⟩:=h;rw[Bb hN];unfold K04.Gv;symm;refine B6 hM ?_;symm;refine⟨p,y,h0,v,h1,t,rfl,hB,λm a4 H1 s1 B S=>?_⟩;have U:=QH c0 c1 S;rw[(HA c0 c1 U S).2]at B;generalize rks t h0 h1 a4=F at U B;have hO:OkM (Az y h0 v h1 t F):=J_;have Y:(Az y h0 v h1 t F).length=F.length:=by unfold Az;rw[ac]
 have a9:F.length<=300:=by have:=U.sub.length_le;have:=(DA hB.bs hB.b0 hB.b1 (h0:=h0) (h1:=h1)).1;omega
 have qq:∀(o:Option Nat)(G:Hp),Ax H G->Is5 y h0 v h1 t d o->Q (oV o) G:=q;have hn:=HD U;obtain⟨M,eM⟩:∃M,M=Az y h0 v h1 t F:=⟨_,rfl⟩;rw[<-eM]at B hO Y;have K:∀{w:List Bool},(∃f r,f<M.length/\wk M (A0 f) w=A0 r)↔fK y h0 v h1 t w=A3:=λ{w}=>by rw[K5 c0 c1 U,<-K4 hn,Y,eM]
 clear eM;obtain⟨mv,a2,a1⟩:=id B;symm;refine Jf (SqT.of a2) ?_;rw[a1.len];symm;refine GT λpr a3=>?_;symm;refine GU A_ ⋯ ⋯ ⋯ ⋯ (bO (BK ⋯)) λR a5=>?_;rw[show(((M.length:Nat):Int)-0).toNat=M.length by omega,Gm];have s2:=(BB a3 (.rng 0 ((M.length:Nat):Int))).trans (BB a5 (.lst ((aG M.length).map nV)));have P:upd (upd H1 pr (.rng 0 ((M.length:Nat):Int))) R (.lst ((aG M.length).map nV)) R=A0 (.lst ((aG M.length).map nV)):=A_;generalize upd (upd H1 pr (.rng 0 ((M.length:Nat):Int))) R (.lst ((aG M.length).map nV))=H2 at s2 P⊢;have Z:∀(s:List Nat)n,(∀r,r∈s↔∃f,f<M.length/\wk M (A0 f) (d.take n)=A0 r)->(s.map nV).isEmpty=!(fK y h0 v h1 t (d.take n)):=by
  intro s n B;cases s with
  |nil=>
   cases e:fK y h0 v h1 t (d.take n)with
   |false=>rfl
   |true=>obtain⟨f,r,a,b⟩:=K.mpr e;exact absurd ((B r).mpr ⟨f,a,b⟩) av
  |cons r s=>obtain⟨f,a,b⟩:=(B r).mp (by simp);rw[K.mp ⟨f,r,a,b⟩];rfl
 symm;refine Jd (eG (λi σ G=>(∃(l:A4)(s:List Nat)(x4 x5:Option V),σ=[A0 (.ref p),A0 (.str (tx d)),A0 (.ref m),A0 (.ref l),x4,x5]/\G l=A0 (.lst (s.map nV))/\s.Nodup/\(∀r∈s,r<M.length)/\∀r,r∈s↔∃f,f<M.length/\wk M (A0 f) (d.take i)=A0 r)/\Ax H1 G/\∀j,j<i->fK y h0 v h1 t (d.take j)=A3) ⟨⟨R,aG M.length,_,_,rfl,P,dc,λr hr=>aI.mp hr,λr=>?_⟩,s2,λj hj=>absurd hj (cg _)⟩ ?_ ?_);.rw[aI];exact⟨λz=>⟨r,z,rfl⟩,λ⟨f,a,b⟩=>by cases b;exact a⟩
 .rintro i c σ H3 pp hc O⟨⟨l,s,x4,x5,rfl,hl,X,D,g⟩,s3,A⟩;have hi:=BH hc;refine Dl (SqT.of A_) ?_;have s4:=s3.trans (BB O (.tup [.int i,.str (tx [c])]));have I:=BB O (.tup [.int i,.str (tx [c])]) _ _ hl;generalize upd H3 pp (.tup [.int i,.str (tx [c])])=H4 at s4 I⊢;symm;refine GV (SqL.of I) ?_;rw[Z s i g];cases T:fK y h0 v h1 t (d.take i)with
  |false=>symm;exact qq (A0 i) _ (s1.trans s4) (.inr ⟨i,rfl,⋯,T,A⟩)
  |true=>
   symm;refine B6 hR ?_;symm;have a8:s.length<=300:=by have:=K04.Q7 X D;omega
   refine⟨m,l,M,s,c,rfl,B.mono (BG s4),hO,I,D,⋯,λl' a6 H5 s5 a0 L J=>?_⟩;symm;refine⟨⟨l',a6,_,_,rfl,a0,L,λr hr=>?_,λr=>?_⟩,s4.trans s5,λj hj=>?_⟩;.obtain⟨p,_,hp⟩:=(J r).mp hr;exact K04.FK hO hp
   .rw[J];constructor;.rintro⟨x,hx,e⟩;obtain⟨f,a,b⟩:=(g x).mp hx;refine⟨f,a,?_⟩;rw[Pk hc,b];show stp M x c=A0 r;rw[<-Du];exact e
    .rintro⟨f,a,b⟩;rw[Pk hc]at b;cases z:wk M (A0 f) (d.take i)with
     |none=>rw[z]at b;cases b
     |some x=>rw[z]at b;exact⟨x,(g x).mpr ⟨f,a,z⟩,by rw[Du];exact b⟩
   .by_cases e:j=i;.rw[e];exact T
    .exact A j ⋯
 .rintro σ H3⟨⟨l,s,x4,x5,rfl,hl,X,D,g⟩,s3,A⟩;symm;refine GV (SqL.of hl) ?_;rw[Z s _ g,aQ];cases T:fK y h0 v h1 t d with
  |true=>symm;exact qq A6 _ (s1.trans s3) (.inl ⟨rfl,T⟩)
  |false=>symm;exact⟨bO (BK ⋯),qq (A0 d.length) _ (s1.trans s3) (.inr ⟨_,rfl,ah _,by rw[aQ];exact T,A⟩)⟩
def FN:Sp:=λi H Q _=>∃(p:A4)(h b e d:Nat)(f:Option Nat)(a:List Bool),i=[.ref p,.str (tx a)]/\IsB H p h b e d f/\1<=b/\1<=d/\a.length<=900/\∀g,Ax H g->Q (.bl (fK h b e d f a)) g
theorem iJ{C:Rc}(n:C.N.length=2)(m:C.fs "fault_at"=A0 FM):∀b H Q E,FN b H Q E->tSs C K04.Gw {nx:=λ_ t=>Q .non t,rt:=Q} (L2.BJ C.N b) H:=by intro b H Q E h;obtain⟨p,v,j,w,s,r,d,rfl,e,f,l,a,q⟩:=h;rw[Bb n];unfold K04.Gw;symm;refine B6 m ?_;symm;refine⟨p,v,j,w,s,r,d,rfl,e,f,l,a,λo x i g=>?_⟩;symm;rw[g.non];exact q _ i
end K05
namespace QX
open PySem PySem.Spec PyProof.Rows L2 R3
abbrev Sg:=Option Bool
def qc:Sg->Nat
 |A0 b=>cb b
 |A6=>63
def qx(l:List Sg):AI:=⟨(l.map qc).toArray⟩
theorem QL{a b:Sg}(h:qc a=qc b):a=b:=by
 rcases a with _|a<;>rcases b with _|b;.rfl
 .cases b<;>cases h
 .cases a<;>cases h
 .exact congrArg A0 (Om h)
theorem Dv{l:List Bool}:qx (l.map A0)=tx l:=by unfold qx tx;rw[aU];rfl
theorem iK{a b:List Sg}(h:qx a=qx b):a=b:=by
 have e:(a.map qc).toArray=(b.map qc).toArray:=congrArg AI.cps h;have d:a.map qc=b.map qc:=by simpa using e
 exact List.map_inj_right (f:=qc) (λx y=>QL)|>.mp d
theorem DE{a:List Sg}:(qx a).length=a.length:=by show(a.map qc).toArray.size=_;simp
theorem EU{a:List Sg}:(qx a).cps.toList=a.map qc:=rfl
theorem Dw{a:List Sg}:(qx a).cps.size=a.length:=by show(a.map qc).toArray.size=_;simp
theorem QM{a:List Sg}{i:Nat}:(qx a).cps[i]?=a[i]?.map qc:=by show(a.map qc).toArray[i]?=_;simp
theorem K6{a b:List Sg}:qx a++qx b=qx (a++b):=by show(⟨(a.map qc).toArray++(b.map qc).toArray⟩:AI)=⟨((a++b).map qc).toArray⟩;simp
theorem K7:(PySem.Str.ofString "?")=qx [A6]:=⋯
theorem iL{a:List Sg}{n:Nat}(h:n<=a.length):Txt.slice (qx a) A6 (A0 (n:Int))=qx (a.take n):=by have e:=slice_closes_to (x:=qx a) (j:=n) ⟨⋯,by rw[EU,ac];omega⟩;rw[eq_of_beq e,EU];simp[qx,List.map_take]
theorem iM{a:List Sg}{n:Nat}(h:n<=a.length):Txt.slice (qx a) (A0 (n:Int)) A6=qx (a.drop n):=by
 have e:=slice_closes_from (x:=qx a) (i:=n) ⟨⋯,by rw[EU,ac];omega⟩;rw[eq_of_beq e,EU];have b:((List.map qc a).length:Int)-(n:Int)=((a.length-n:Nat):Int):=by rw[ac];omega
 rw[b];simp only[bg,qx,List.map_drop];rw[bK (by simp)]
set_option tactic.hygienic true in
theorem iN{n:Nat}:Txt.mul (qx [A6]) n=qx (bU n A6):=by
 have key:∀(n:Nat)(acc:List Sg),(bU n (qx [A6]).cps).foldl (·++·) (qx acc).cps=(qx (acc++bU n A6)).cps:=by
  intro n;induction n with
  |zero=>intro acc;simp
  |succ n ih=>intro acc;rw[List.replicate_succ,List.foldl_cons];have e:(qx acc).cps++(qx [A6]).cps=(qx (acc++[A6])).cps:=congrArg AI.cps (K6 (a:=acc) (b:=[A6]));rw[e,ih,List.replicate_succ,bc];rfl
 unfold Txt.mul;split
 .have:n=0:=by omega
  subst this;rfl
 .split
  .rename_i h1 h2;simp only[aX,beq_iff_eq]at h2;rcases h2 with h2|h2
   .have:n=1:=by omega
    subst this;rfl
   .rw[DE]at h2;cases h2
  .have:=key n [];show(⟨_⟩:AI)=_;simp only[bg];exact congrArg AI.mk (this.trans (by rw[List.nil_append];rfl))
theorem QN{l m:List Sg}{i:Nat}(h:i+m.length<=l.length):AK.Str.subAt (qx l) (qx m) i=A3↔(l.drop i).take m.length=m:=by rw[StrLaws.subAt_eq];rw[EU,EU,beq_iff_eq,DE];rw[<-List.map_drop,<-List.map_take];exact List.map_inj_right (f:=qc) (λx y=>QL)
theorem QO{l:List Sg}:inT (qx l) (qx [A6])=decide (A6∈l):=by
 rw[cz,decide_eq_true_eq];unfold inT;rw[StrLaws.found_iff];simp only[DE];constructor
 .rintro⟨i,b,a⟩;rw[QN b]at a;have:A6∈(l.drop i).take ([A6]:List Sg).length:=by rw[a];exact ay
  exact dA (dB this)
 .intro d;obtain⟨s,t,rfl⟩:=List.append_of_mem d;refine⟨s.length,by simp,?_⟩;rw[QN (by simp)];simp
section
variable{C:Rc}{σ:L2.St}{H:Hp}{Q:VK}{D:Ends}
theorem iO{l:List Sg}{n:Nat}(a:l.length<=A9)(h:n<=l.length)(q:Q (.str (qx (l.take n))) H):rSl C.K (.str (qx l)) A6 (A0 (n:Int)) H Q:=⟨by rw[DE];exact a,by rw[iL h];exact q⟩
theorem iP{l:List Sg}{n:Nat}(a:l.length<=A9)(h:n<=l.length)(q:Q (.str (qx (l.drop n))) H):rSl C.K (.str (qx l)) (A0 (n:Int)) A6 H Q:=⟨by rw[DE];exact a,by rw[iM h];exact q⟩
theorem QP{l:List Sg}{t:Ct}{b:Css}(a:Nat->L2.St->Hp->Prop)(h0:a 0 σ H)
  (hs:∀i c σ H,i<l.length->l[l.length-1-i]?=A0 c->a i σ H->tG C t (.str (qx [c])) σ H (tSs C b {D with nx:=a (i+1),ct:=a (i+1),bk:=D.nx}))(n:∀σ H,a l.length σ H->D.nx σ H):D5 C t b D σ (EJ (qx l)) H:=by
 refine⟨λi m σ H=>m=l.length-i/\i<=l.length/\a i σ H,⟨l.length,by simp,aJ _,h0⟩,?_⟩;rintro i m σ H⟨rfl,r,p⟩;by_cases f:i<l.length
 .refine .inr ⟨(show i<(qx l).cps.size by rw[Dw];exact f),a (i+1),λj q o=>⟨l.length-(i+1),⋯,rfl,f,o⟩,λx q y=>?_⟩;obtain⟨e,c,g,rfl⟩:=y;subst e;rw[Dw,QM]at g;cases h:l[l.length-1-i]? with
  |none=>rw[h]at g;cases g
  |some d=>rw[h]at g;cases g;exact hs i d σ _ f h p
 .have e:i=l.length:=by omega
  subst e;exact .inl ⟨(show(qx l).cps.size=l.length from Dw),n σ H p⟩
theorem QQ{l:List Sg}{t:Ct}{b:Css}(d:Nat->L2.St->Hp->Prop)(h0:d 0 σ H)
  (hs:∀i c σ H p,l[i]?=A0 c->H p=A6->d i σ H->tG C t (.ref p) σ (upd H p (.tup [.int i,.str (qx [c])])) (tSs C b {D with nx:=d (i+1),ct:=d (i+1),bk:=D.nx}))(n:∀σ H,d l.length σ H->D.nx σ H):D5 C t b D σ (Df (qx l)) H:=by
 refine⟨λi m σ H=>m=l.length-i/\i<=l.length/\d i σ H,⟨l.length,by simp,aJ _,h0⟩,?_⟩;rintro i m σ H⟨rfl,r,p⟩;by_cases a:i<l.length;.refine .inr ⟨(show i<(qx l).cps.size by rw[Dw];exact a),d (i+1),λj q o=>⟨l.length-(i+1),⋯,rfl,a,o⟩,λx q y=>?_⟩;obtain⟨h,v,rfl,g,⟨c,f,rfl⟩,rfl⟩:=y;rw[QM,ae a]at f;cases f;exact hs i l[i] σ _ h (ae a) g p
 .have e:i=l.length:=by omega
  subst e;exact .inl ⟨(show(qx l).cps.size=l.length from Dw),n σ H p⟩
end
def B8:Sg->List Bool
 |A6=>[A7,A3]
 |A0 b=>[b]
def BA:List (AI×AI):=[("0","0"),("1","1"),("?","01")]
theorem QR(c:Sg):BA.lookup (qx [c])=A0 (tx (B8 c)):=by
 rcases c with _|c;.decide+kernel
 .cases c<;>decide+kernel
end QX
end
namespace K39
open PySem PySem.Spec PyProof.Rows L2 R3 LW
noncomputable section
def K8:List AI:=["machine","rooms","bit","leads","room","lead"]
def QS:List AI:=["int","sorted"]
def K9:List AI:=["machine","rooms","inside","led_to","room","lead"]
def QT:List AI:=["set"]
def KA:List AI:=["machine","numbers","anew","at","room"]
def QU:List AI:=["enumerate","tuple"]
def KB:List AI:=["machine","numbers","fewer"]
def QV:List AI:=["len","list","range"]
def KC:List AI:=["bounds","low0","high0","low1","high1","spread","levels","bit","high","place","level"]
def QW:List AI:=["list","range"]
def KD:List AI:=["bounds","room","bit","low0","high0","low1","high1","spread","last","place","level"]
def QY:List AI:=[]
def KF:List AI:=["bounds","rooms","numbers","at","room"]
def QZ:List AI:=["enumerate","tuple"]
def KG:List AI:=["bounds","less","numbers"]
def Qa:List AI:=[]
def KH:List AI:=["bounds","row","machine","rooms","at","bit"]
def Qc:List AI:=["enumerate","len","list","range"]
def KI:List AI:=["bounds","row"]
def Qd:List AI:=[]
def HE:List AI:=["machine","rooms","sign","goals","inside","room","bit"]
def KJ:List AI:=["any","int","set"]
def HF:Css:=(.cons (.asg (.name 4) (.blt .set (.cons (.var 3) .nil)))
  (.cons (.ret (.comp (.var 5) [5] (.name 5) (.val (.var 1)) (.some (.val (.blt .any (.cons (.comp (.din A7 (.idx (.idx (.var 0) (.var 5)) (.blt .int (.cons (.var 6) .nil))) (.var 4)) [6] (.name 6) (.val (.gtx "BITS_AT" (.var 2))) .none .nil) .nil)))) .nil))
  .nil))
def KL:List AI:=["machine","holes","rooms","told","sign"]
def Qe:List AI:=["len","list","range","reversed"]
def HG:Css:=(.cons (.asg (.name 2) (.blt .list (.cons (.blt .range (.cons (.blt .len (.cons (.var 0) .nil)) .nil)) .nil)))
  (.cons (.asg (.name 3) (.lst (.cons (.var 2) .nil)))
  (.cons (.for_ (.name 4) (.revs (.var 1)) (.cons (.expr (.met .append (.var 3) (.cons (.call "led_into" (.cons (.var 0) (.cons (.var 2) (.cons (.var 4) (.cons (.idx (.var 3) (.neg (.int 1))) .nil))))) .nil)))
  .nil))
  (.cons (.ret (.var 3))
  .nil))))
def HH:List AI:=["bounds","holes","machine","left","rooms","bits","at","sign","goals","bit","going"]
def KM:List AI:=["enumerate","len"]
def HI:Css:=(.cons (.asg (.name 2) (.call "machine_of" (.cons (.var 0) .nil)))
  (.cons (.asg (.name 3) (.call "fillable" (.cons (.var 2) (.cons (.var 1) .nil))))
  (.cons (.asg (.name 4) (.idx (.var 3) (.neg (.int 1))))
  (.cons (.ite (.not (.val (.var 4))) (.cons (.ret .non)
  .nil) .nil)
  (.cons (.asg (.name 5) (.lst .nil))
  (.cons (.for_ (.tup (.cons (.name 6) (.cons (.name 7) .nil))) (.enum (.var 1)) (.cons (.asg (.name 8) (.idx (.var 3) (.bin .Sub (.bin .Sub (.blt .len (.cons (.var 1) .nil)) (.var 6)) (.int 1))))
  (.cons (.for_ (.name 9) (.val (.gtx "BITS_AT" (.var 7))) (.cons (.asg (.name 10) (.call "led_into" (.cons (.var 2) (.cons (.var 4) (.cons (.var 9) (.cons (.var 8) .nil))))))
  (.cons (.ite (.val (.var 10)) (.cons (.expr (.met .append (.var 5) (.cons (.var 9) .nil)))
  (.cons (.asg (.name 4) (.call "rooms_behind" (.cons (.var 2) (.cons (.var 10) (.cons (.var 9) .nil)))))
  (.cons .brk
  .nil))) .nil)
  .nil)))
  .nil)))
  (.cons (.ret (.met .join (.str "") (.cons (.var 5) .nil)))
  .nil)))))))
def HJ:List AI:=["_law_script","_law_k"]
def KN:List AI:=["len"]
def HK:List AI:=["_law_script","_law_k","_law_cell"]
def KO:List AI:=["abs","int"]
def KP:List AI:=["_law_box_here","_law_many","_law_found","_law_once","_law_twice"]
def Qf:List AI:=[]
def KQ:List AI:=["_law_box_here","_law_many","_law_k"]
def Qg:List AI:=["range"]
def KR:List AI:=["_law_box_here","_law_lows","_law_highs","_law_low"]
def Qh:List AI:=[]
def KS:List AI:=["_law_bounds_here","_law_room","_law_bit","_law_own","_law_place","_law_level","_law_there"]
def Qi:List AI:=[]
def HL:Css:=(.cons (.asg (.tup (.cons (.name 3) (.cons (.name 4) (.cons (.name 5) .nil)))) (.var 1))
  (.cons (.asg (.name 6) (.int 0))
  (.cons (.ite (.cmp .IsNot (.idx (.var 0) (.int 4)) .non) (.cons (.asg (.name 6) (.bin .Sub (.bin .Add (.var 5) (.bin .Mult (.int 2) (.var 2))) (.int 1)))
  (.cons (.ite (.not (.chn .LtE .LtE (.int 0) (.var 6) (.idx (.var 0) (.int 4)))) (.cons (.ret .non)
  .nil) .nil)
  .nil)) .nil)
  (.cons (.ite (.cmp .Eq (.var 2) (.var 3)) (.cons (.ret (.ife (.cmp .Lt (.var 4) (.idx (.var 0) (.bin .Add (.bin .Mult (.int 2) (.var 3)) (.int 1)))) (.tup (.cons (.var 2) (.cons (.bin .Add (.var 4) (.int 1)) (.cons (.var 6) .nil)))) .non))
  .nil) .nil)
  (.cons (.ret (.ife (.cmp .GtE (.var 4) (.idx (.var 0) (.bin .Mult (.int 2) (.var 3)))) (.tup (.cons (.var 2) (.cons (.int 1) (.cons (.var 6) .nil)))) .non))
  .nil)))))
def KU:List AI:=["_law_bounds_here","_law_left","_law_bit","_law_place","_law_level","_law_room","_law_many","_law_come","_law_end","_law_some"]
def Qj:List AI:=["dict","len","range"]
def HM:Css:=(.cons (.asg (.name 1) .dnt)
  (.cons (.for_ (.name 2) (.val (.tup (.cons (.int 0) (.cons (.int 1) .nil)))) (.cons (.for_ (.name 3) (.range2 (.int 1) (.bin .Add (.idx (.var 0) (.bin .Add (.bin .Mult (.int 2) (.var 2)) (.int 1))) (.int 1))) (.cons (.for_ (.name 4) (.range1 (.ife (.cmp .Is (.idx (.var 0) (.int 4)) .non) (.int 1) (.bin .Add (.idx (.var 0) (.int 4)) (.int 1)))) (.cons (.asg (.name 5) (.tup (.cons (.var 2) (.cons (.var 3) (.cons (.var 4) .nil)))))
  (.cons (.dput (.var 1) (.var 5) (.lst (.cons (.call "_law_step" (.cons (.var 0) (.cons (.var 5) (.cons (.int 0) .nil)))) (.cons (.call "_law_step" (.cons (.var 0) (.cons (.var 5) (.cons (.int 1) .nil)))) .nil))))
  .nil)))
  .nil))
  .nil))
  (.cons (.asg (.name 6) (.neg (.int 1)))
  (.cons (.whl (.cmp .NotEq (.var 6) (.blt .lenD (.cons (.var 1) .nil))) (.cons (.asg (.name 6) (.blt .lenD (.cons (.var 1) .nil)))
  (.cons (.asg (.name 7) .dnt)
  (.cons (.for_ (.name 5) (.dk (.var 1)) (.cons (.expr (.upd (.var 7) (.comp (.tup (.cons (.var 8) (.cons (.bl A3) .nil))) [8] (.name 8) (.val (.dix (.var 1) (.var 5))) (.some (.din A7 (.var 8) (.var 1))) .nil)))
  .nil))
  (.cons (.asg (.name 9) (.comp (.var 5) [5] (.name 5) (.dk (.var 1)) (.some (.and (.din A7 (.var 5) (.var 7)) (.or (.din A7 (.idx (.dix (.var 1) (.var 5)) (.int 0)) (.var 1)) (.din A7 (.idx (.dix (.var 1) (.var 5)) (.int 1)) (.var 1))))) .nil))
  (.cons (.asg (.name 1) (.cal .dct (.comp (.tup (.cons (.var 5) (.cons (.dix (.var 1) (.var 5)) .nil))) [5] (.name 5) (.val (.var 9)) .none .nil)))
  .nil))))))
  (.cons (.ret (.var 1))
  .nil)))))
def KW:List AI:=["_law_box_here","_law_ways_here","_law_many","_law_some","_law_row","_law_room","_law_turn","_law_bits_here","_law_bit"]
def Qk:List AI:=["len","range","sorted"]
def HN:Css:=(.cons (.asg (.name 3) (.blt .sortV (.cons (.var 1) .nil)))
  (.cons (.asg (.name 4) (.str ""))
  (.cons (.ite (.cmp .Eq (.var 3) (.lst .nil)) (.cons (.ret (.var 4))
  .nil) .nil)
  (.cons (.asg (.name 5) (.idx (.var 3) (.call "_law_take" (.cons (.var 0) (.cons (.blt .len (.cons (.var 3) .nil)) .nil)))))
  (.cons (.for_ (.name 6) (.range1 (.var 2)) (.cons (.asg (.name 7) (.comp (.var 8) [8] (.name 8) (.val (.tup (.cons (.int 0) (.cons (.int 1) .nil)))) (.some (.din A7 (.idx (.dix (.var 1) (.var 5)) (.var 8)) (.var 1))) .nil))
  (.cons (.asg (.name 8) (.idx (.var 7) (.call "_law_take" (.cons (.var 0) (.cons (.blt .len (.cons (.var 7) .nil)) .nil)))))
  (.cons (.asg (.name 4) (.bin .Add (.var 4) (.idx (.str "01") (.var 8))))
  (.cons (.asg (.name 5) (.idx (.dix (.var 1) (.var 5)) (.var 8)))
  .nil)))))
  (.cons (.ret (.var 4))
  .nil))))))
def KY:List AI:=["_law_box_here","_law_ways_here","_law_many","_law_row","_law_often","_law_made","_law_bit","_law_at"]
def Ql:List AI:=["len"]
def HP:Css:=(.cons (.asg (.name 3) (.ife (.cmp .Gt (.call "_law_take" (.cons (.var 0) (.cons (.int 5) .nil))) (.int 0)) (.call "_law_kept_row" (.cons (.var 0) (.cons (.var 1) (.cons (.var 2) .nil)))) (.call "_law_bits" (.cons (.var 0) (.cons (.var 2) .nil)))))
  (.cons (.asg (.name 4) (.idx (.lst (.cons (.int 1) (.cons (.int 2) (.cons (.int 2) (.cons (.int 3) (.cons (.int 5) .nil)))))) (.call "_law_take" (.cons (.var 0) (.cons (.int 5) .nil)))))
  (.cons (.asg (.name 5) (.str ""))
  (.cons (.for_ (.name 6) (.val (.var 3)) (.cons (.asg (.name 5) (.bin .Add (.var 5) (.ife (.cmp .Gt (.call "_law_take" (.cons (.var 0) (.cons (.var 4) .nil))) (.int 0)) (.var 6) (.str "?"))))
  .nil))
  (.cons (.ite (.and (.cmp .Gt (.blt .len (.cons (.var 5) .nil)) (.int 0)) (.cmp .Eq (.call "_law_take" (.cons (.var 0) (.cons (.int 4) .nil))) (.int 0))) (.cons (.asg (.name 7) (.call "_law_take" (.cons (.var 0) (.cons (.blt .len (.cons (.var 5) .nil)) .nil))))
  (.cons (.asg (.name 5) (.bin .Add (.bin .Add (.cut (.var 5) .none (.some (.var 7))) (.idx (.str "01") (.call "_law_take" (.cons (.var 0) (.cons (.int 2) .nil))))) (.cut (.var 5) (.some (.bin .Add (.var 7) (.int 1))) .none)))
  .nil)) .nil)
  (.cons (.ret (.var 5))
  .nil))))))
def KZ:List AI:=["_law_sign"]
def Qm:List AI:=[]
def HQ:Css:=(.cons (.ret (.ife (.cmp .Eq (.var 0) (.str "?")) (.str "01") (.var 0)))
  .nil)
def Ka:List AI:=["_law_ways_here","_law_some","_law_bit","_law_left","_law_ends","_law_room","_law_end"]
def Qn:List AI:=["int","set","sorted"]
def HR:Css:=(.cons (.asg (.name 4) (.comp (.idx (.dix (.var 0) (.var 5)) (.blt .int (.cons (.var 2) .nil))) [5] (.name 5) (.val (.var 1)) .none .nil))
  (.cons (.ret (.stl (.comp (.var 6) [6] (.name 6) (.val (.var 4)) (.some (.din A7 (.var 6) (.var 3))) .nil)))
  .nil))
def Kb:List AI:=["_law_ways_here","_law_holes_here","_law_good","_law_room","_law_sign","_law_here","_law_bit","_law_some","_law_row","_law_at","_law_left","_law_bits_here"]
def Qp:List AI:=["any","dict","enumerate","int","len","list","reversed"]
def HS:Css:=(.cons (.asg (.name 2) (.lst (.cons (.cal .dct (.comp (.tup (.cons (.var 3) (.cons (.bl A3) .nil))) [3] (.name 3) (.dk (.var 0)) .none .nil)) .nil)))
  (.cons (.for_ (.name 4) (.revs (.var 1)) (.cons (.asg (.name 5) .dnt)
  (.cons (.for_ (.name 3) (.dk (.var 0)) (.cons (.ite (.val (.blt .any (.cons (.comp (.din A7 (.idx (.dix (.var 0) (.var 3)) (.blt .int (.cons (.var 6) .nil))) (.idx (.var 2) (.neg (.int 1)))) [6] (.name 6) (.val (.call "_law_signs" (.cons (.var 4) .nil))) .none .nil) .nil))) (.cons (.dput (.var 5) (.var 3) (.bl A3))
  .nil) .nil)
  .nil))
  (.cons (.expr (.met .append (.var 2) (.cons (.var 5) .nil)))
  .nil))))
  (.cons (.ite (.cmw .eqD0 (.idx (.var 2) (.neg (.int 1))) .dnew) (.cons (.ret .non)
  .nil) .nil)
  (.cons (.asg (.name 7) (.blt .listD (.cons (.idx (.var 2) (.neg (.int 1))) .nil)))
  (.cons (.asg (.name 8) (.str ""))
  (.cons (.for_ (.tup (.cons (.name 9) (.cons (.name 4) .nil))) (.enum (.var 1)) (.cons (.asg (.name 10) (.idx (.var 2) (.bin .Sub (.bin .Sub (.blt .len (.cons (.var 1) .nil)) (.var 9)) (.int 1))))
  (.cons (.asg (.name 11) (.comp (.var 6) [6] (.name 6) (.val (.call "_law_signs" (.cons (.var 4) .nil))) (.some (.cmp .NotEq (.call "_law_leads" (.cons (.var 0) (.cons (.var 7) (.cons (.var 6) (.cons (.var 10) .nil))))) (.lst .nil))) .nil))
  (.cons (.asg (.name 8) (.bin .Add (.var 8) (.idx (.var 11) (.int 0))))
  (.cons (.asg (.name 7) (.call "_law_leads" (.cons (.var 0) (.cons (.var 7) (.cons (.idx (.var 11) (.int 0)) (.cons (.var 10) .nil))))))
  .nil)))))
  (.cons (.ret (.var 8))
  .nil)))))))
def Kc:List AI:=["_law_box_here","_law_bounds_here","_law_ways_here","_law_turn","_law_many","_law_holes_here","_law_found","_law_due_here"]
def Qq:List AI:=["int","isinstance","len","range","str"]
def HU:Css:=(.cons (.asg (.name 1) (.call "_law_bounds" (.cons (.var 0) .nil)))
  (.cons (.asg (.name 2) (.call "_law_ways" (.cons (.var 1) .nil)))
  (.cons (.for_ (.name 3) (.range1 (.int 2)) (.cons (.asg (.name 4) (.call "_law_take" (.cons (.var 0) (.cons (.int 15) .nil))))
  (.cons (.ite (.cmp .Eq (.call "_law_take" (.cons (.var 0) (.cons (.int 8) .nil))) (.int 0)) (.cons (.asg (.name 4) (.bin .Add (.int 15) (.call "_law_take" (.cons (.var 0) (.cons (.idx (.lst (.cons (.int 386) (.cons (.int 26) .nil))) (.blt .int (.cons (.cmp .Gt (.blt .lenD (.cons (.var 2) .nil)) (.int 20)) .nil))) .nil)))))
  .nil) .nil)
  (.cons (.for_ (.name 5) (.val (.tup (.cons (.call "_law_holes" (.cons (.var 0) (.cons (.var 2) (.cons (.var 4) .nil)))) (.cons (.bin .Mult (.str "?") (.var 4)) (.cons (.call "_law_kept_row" (.cons (.var 0) (.cons (.var 2) (.cons (.var 4) .nil)))) .nil))))) (.cons (.asg (.name 6) (.call "filled" (.cons (.var 1) (.cons (.var 5) .nil))))
  (.cons (.asg (.name 7) (.call "_law_due" (.cons (.var 2) (.cons (.var 5) .nil))))
  (.cons (.ite (.or (.cmp .NotEq (.blt .isinstance (.cons (.var 6) (.cons (.ty "str") .nil))) (.blt .isinstance (.cons (.var 7) (.cons (.ty "str") .nil)))) (.cmp .NotEq (.var 6) (.var 7))) (.cons (.ret (.bl A7))
  .nil) .nil)
  (.cons (.ite (.and (.cmp .IsNot (.var 6) .non) (.not (.val (.call "keeps" (.cons (.var 1) (.cons (.var 6) .nil)))))) (.cons (.ret (.bl A7))
  .nil) .nil)
  (.cons (.ite (.and (.cmp .NotIn (.str "?") (.var 5)) (.cmp .NotEq (.cmp .Eq (.var 6) (.var 5)) (.call "keeps" (.cons (.var 1) (.cons (.var 5) .nil))))) (.cons (.ret (.bl A7))
  .nil) .nil)
  .nil))))))
  .nil))))
  (.cons (.ret (.bl A3))
  .nil))))
def HV:List AI:=["_law_script","_law_k"]
def Kd:List AI:=["len","max","min","range"]
def HW:Css:=(.cons (.for_ (.name 1) (.range1 (.blt .max (.cons (.int 3) (.cons (.blt .min (.cons (.blt .len (.cons (.var 0) .nil)) (.cons (.int 6) .nil))) .nil)))) (.cons (.ite (.not (.val (.call "_law_right" (.cons (.call "_law_box" (.cons (.var 0) (.cons (.var 1) .nil))) .nil)))) (.cons (.ret (.bl A7))
  .nil) .nil)
  .nil))
  (.cons (.ret (.bl A3))
  .nil))
open TM BD BE TE K06 SR K07 QX
def liB(M:List Rm)(a:List Nat)(c:Sg)(r:Nat):Bool:=(B8 c).any λb=>inR a (K04.bd M b r)
def DF:Sp:=λh H Q _=>∃(a l g:A4)(M:List Rm)(b d:List Nat)(c:Sg),h=[.ref a,.ref l,.str (qx [c]),.ref g]/\IsM H a M/\OkM M/\H l=A0 (.lst (b.map nV))/\H g=A0 (.lst (d.map nV))/\(∀r∈b,r<M.length)/\b.length<=500/\d.length<=500/\∀(f:A4)(e:Hp),Ax H e->e f=A0 (.lst ((b.filter (liB M d c)).map nV))->Q (.ref f) e
theorem iQ{C:Rc}(hN:C.N.length=7)(hG:C.gt "BITS_AT"=A0 BA):∀vs H Q E,DF vs H Q E->tSs C HF {nx:=λ_ t=>Q .non t,rt:=Q} (L2.BJ C.N vs) H:=by
 intro vs H Q E h;obtain⟨a,l,g,M,m,d,c,rfl,hM,hO,hl,hg,Y,a0,a2,q⟩:=h;rw[Bb hN];unfold HF;symm;refine PK (ns:=d.map Int.ofNat) (SqL.of (by rw[Po];exact hg)) (by rw[ac];omega) λp hp=>?_;obtain⟨B,A⟩:=snw hp (Bi p (inL (d.map Int.ofNat)) (d.map Int.ofNat).length);generalize upd H p (Bi p (inL (d.map Int.ofNat)) (d.map Int.ofNat).length)=D at B A⊢;have y:=B _ _ hl;have Z:=hM.mono (BG B);symm;refine CB (SqL.of y) (Cd (vs:=m.map nV) (λi G t=>G=((m.take i).filter (liB M d c)).map nV/\Ax D t) ⟨rfl,Ax.refl _⟩ (λi G t pv=>SqL.of (pv.2 _ _ y)) ?_ ?_)
 .rintro i G t x R hx⟨rfl,T⟩hR;rw[aj]at hx;obtain⟨r,P,rfl⟩:=aP.mp hx;have hi:=BH P;have O:=Y r (ao P);have et:(m.take (i+1)).filter (liB M d c)=(m.take i).filter (liB M d c)++[r].filter (liB M d c):=by rw[aO,P,cU];rfl
  have a1:((m.take i).filter (liB M d c)).length<=500:=aN (bn ..) (by rw[aM];omega);have v:∀e,Ax D e->liB M d c r=A3->R (((m.take i).filter (liB M d c)).map nV++[nV r]) e:=λe s h=>hR _ _ ⟨by rw[et,bM,if_pos h,aC];rfl,s⟩;have no:∀e,Ax D e->liB M d c r=A7->R (((m.take i).filter (liB M d c)).map nV) e:=λe s h=>hR _ _ ⟨by rw[et,bM,if_neg (by rw[h];decide)];simp,s⟩;simp only[nV]at v⊢;symm;refine Pf hG ?_;symm;refine Pg (QR c) ?_;symm;refine Ew (Je (l:=B8 c) (λj ys e=>ys=((B8 c).take j).map (λb=>V.bl (inR d (K04.bd M b r)))/\Ax D e) ⟨rfl,T⟩ ?_ ?_)
  .rintro j ys e b R2 w⟨rfl,o⟩L;have hj:=BH w;have a3:(B8 c).length<=2:=by cases c;exact ah 2;exact dq 1
   have S:=Z.mono (BG o);have U:(B8 c).take (j+1)=(B8 c).take j++[b]:=by rw[aO,w];rfl
   symm;refine Dr S O λpr J=>?_;symm;refine O_ (SqT.of J) ?_;have eo:(if b=A3 then oV (fs2 M r)else oV (fs1 M r))=oV (K04.bd M b r):=by cases b<;>rfl
   rw[eo];symm;refine GZ (k:=oI (K04.bd M b r)) FC (o _ _ A) ?_;rw[Js];simp only[ba,if_false];symm;refine⟨by rw[ac,aM];exact BK ⋯,L _ _ ⟨?_,o⟩⟩;rw[U,aC];rfl
  .rintro ys e⟨rfl,o⟩I n;rw[aQ];obtain⟨X,K⟩:=snw n (.lst ((B8 c).map (λb=>V.bl (inR d (K04.bd M b r)))));generalize upd e I _=H3 at X K⊢;have e4:(B8 c).map (λb=>V.bl (inR d (K04.bd M b r)))=((B8 c).map (λb=>inR d (K04.bd M b r))).map V.bl:=(aU (l:=B8 c) (f:=λb=>inR d (K04.bd M b r)) (g:=V.bl)).symm;rw[e4]at K;symm;refine Oy (SqL.of K) ?_;have ea:((B8 c).map (λb=>inR d (K04.bd M b r))).any id=liB M d c r:=by rw[List.any_map];rfl
   rw[ea];cases w:liB M d c r with
   |true=>symm;exact⟨by rw[ac];exact BK ⋯,v _ (o.trans X) w⟩
   |false=>symm;exact no _ (o.trans X) w
 .rintro G t⟨rfl,T⟩I n;rw[ac,aQ];symm;exact q I _ (B.trans (T.trans (BB n _))) A_
def fS(M:List Rm):List Sg->List Nat
 | []=>aG M.length
 |c::a=>(aG M.length).filter (liB M (fS M a) c)
theorem FO{M:List Rm}:∀{a:List Sg},∀r∈fS M a,r<M.length
 | [],r,h=>aI.mp h
 |_::_,r,h=>aI.mp (aH.mp h).1
theorem Qr{M:List Rm}:∀{a:List Sg},(fS M a).length<=M.length
 | []=>by unfold fS;rw[bf];exact ah _
 |_::_=>by unfold fS;exact aN (bn ..) (by rw[bf];exact ah _)
theorem Qt{hs:List Sg}{i:Nat}{c:Sg}(hi:i<hs.length)(h:hs[hs.length-1-i]?=A0 c):hs.drop (hs.length-(i+1))=c::hs.drop (hs.length-i):=by
 obtain⟨b,a⟩:=aW.mp h;have e:hs.length-(i+1)=hs.length-1-i:=by omega
 rw[e,cx b,a];congr 2;omega
def Qu(H:Hp)(M:List Rm)(hs:List Sg)(ps:List A4):Prop:=∀i p,ps[i]?=A0 p->H p=A0 (.lst ((fS M (hs.drop (hs.length-i))).map nV))
def EV:Sp:=λf H Q _=>∃(a:A4)(M:List Rm)(b:List Sg),f=[.ref a,.str (qx b)]/\IsM H a M/\OkM M/\M.length<=500/\b.length<=500/\∀(p:A4)(e:List A4)(d:Hp),Ax H d->d p=A0 (.lst (e.map V.ref))->e.length=b.length+1->Qu d M b e->Q (.ref p) d
theorem iR{C:Rc}(hN:C.N.length=5)(hL:C.fs "led_into"=A0 DF):∀vs H Q E,EV vs H Q E->tSs C HG {nx:=λ_ x=>Q .non x,rt:=Q} (L2.BJ C.N vs) H:=by
 intro vs H Q E h;obtain⟨a,M,l,rfl,hM,hO,B,hh,q⟩:=h;rw[Bb hN];unfold HG;obtain⟨mv,a0,X⟩:=id hM;have O:=X.len;symm;refine Jf (SqT.of a0) ?_;rw[O];symm;refine GT λpr L=>?_;symm;refine GU A_ ⋯ ⋯ ⋯ ⋯ (bO (BK ⋯)) λR a1=>?_;rw[show(((M.length:Nat):Int)-0).toNat=M.length by omega,Gm];have U:=(BB L (.rng 0 ((M.length:Nat):Int))).trans (BB a1 (.lst ((aG M.length).map nV)));have m:upd (upd H pr (.rng 0 ((M.length:Nat):Int))) R (.lst ((aG M.length).map nV)) R=A0 (.lst ((aG M.length).map nV)):=A_;generalize upd (upd H pr (.rng 0 ((M.length:Nat):Int))) R (.lst ((aG M.length).map nV))=w at U m⊢;symm;refine⟨by decide,λA S=>?_⟩;have s:R≠A:=Bm m S;have v:upd w A (.lst [V.ref R]) R=A0 (.lst ((aG M.length).map nV)):=by rw[Ay s];exact m
 have G:upd w A (.lst [V.ref R]) A=A0 (.lst [V.ref R]):=A_;have s3:Ax w (upd w A (.lst [V.ref R])):=BB S _;generalize upd w A (.lst [V.ref R])=H3 at s3 v G⊢;symm;refine P7 (by rw[Dw];exact bO (BK ⋯)) ?_;refine QP (λi Y x=>(∃b Z,Y=[A0 (.ref a),A0 (.str (qx l)),A0 (.ref R),A0 (.ref A),Z]/\x A=A0 (.lst (b.map V.ref))/\b.length=i+1/\A∉b/\Qu x M l b)/\i<=l.length/\Ax w x/\x R=A0 (.lst ((aG M.length).map nV))) ⟨⟨[R],_,rfl,G,rfl,λz=>s (aF.mp z).symm,λi p e=>?_⟩,aJ _,s3,v⟩ ?_ ?_
 .match i,e with
  |0,e=>cases e;rw[Nat.sub_zero,List.drop_length];exact v
 .rintro i c Y H4 hi hc⟨⟨b,Z,rfl,d,f,o,J⟩,_,K,t⟩;have hd:=Qt hi hc;have T:=U.trans K;symm;have n:atI (b.map V.ref) (-1)=A0 (V.ref (b[i]'⋯)):=Gh (by rw[ac];exact f) (by rw[aj,ae ⋯];rfl);have hg:=J i _ (ae ⋯);refine⟨tyL d rfl,?_⟩;refine B6 hL ?_;symm;refine BV (SqL.of d) n ?_;symm;refine⟨a,R,b[i]'⋯,M,aG M.length,fS M (l.drop (l.length-i)),c,rfl,hM.mono (BG T),hO,t,hg,λr hr=>aI.mp hr,by rw[bf];exact B,aN Qr B,λl' H5 I g=>?_⟩;have D:=I _ _ d;have y:l'≠A:=λz=>by
   rw[z,D]at g;have e:=HO.lst.inj (Option.some.inj g);match b,f with
   |p0::a2,_=>
    cases hf:(aG M.length).filter (liB M (fS M (l.drop (l.length-i))) c)with
    |nil=>rw[hf]at e;cases e
    |cons r0 a3=>rw[hf]at e;cases e
  symm;refine Jh D (by rw[ac];exact BK ⋯) ?_;symm;refine⟨⟨b++[l'],_,rfl,by rw[A_,aC];rfl,by rw[aB,f];rfl,λz=>?_,λj p e=>?_⟩,hi,Pm (K.trans I) S,by rw[Ay s];exact I _ _ t⟩
  .rcases aL.mp z with z|z;.exact o z
   .exact y (aF.mp z).symm
  .by_cases hj:j<b.length;.rw[ce hj]at e;have hp:=ao e;rw[Ay (λz:p=A=>o (by rw[<-z];exact hp))];exact I _ _ (J j p e)
   .have P:j=i+1:=by have:=BH e;rw[aB,bx]at this;omega
    subst P;rw[bX ⋯,show i+1-b.length=0 by omega]at e;cases e;rw[Ay y,hd];exact g
 .rintro Y H4⟨⟨b,Z,rfl,d,f,o,J⟩,_,K,t⟩;symm;exact q A b _ (U.trans K) d f J
def Fit:List Sg->List Bool->Prop
 | [],[]=>True
 |c::a,b::w=>b∈B8 c/\Fit a w
 |_,_=>False
theorem Fit.len:∀{a:List Sg}{w:List Bool},Fit a w->w.length=a.length
 | [],[],_=>rfl
 |_::_,_::_,h=>congrArg (·+1) h.2.len
 | [],_::_,h=>h.elim
 |_::_,[],h=>h.elim
theorem FP{M:List Rm}(j:OkM M):∀{g:List Sg}{r:Nat},r∈fS M g↔r<M.length/\∃w e,Fit g w/\wk M (A0 r) w=A0 e
 | [],r=>by show r∈aG M.length↔_;rw[aI];exact⟨λh=>⟨h,[],r,trivial,rfl⟩,λh=>h.1⟩
 |c::g,r=>by
  show r∈(aG M.length).filter _↔_;rw[aH,aI];refine and_congr_right λn=>?_;unfold liB;rw[br];constructor
  .rintro⟨b,l,h⟩;have i:∃e,K04.bd M b r=A0 e/\e∈fS M g:=by
    cases e:K04.bd M b r with
    |none=>rw[e]at h;cases h
    |some f=>rw[e]at h;exact⟨f,rfl,bj.mp h⟩
   obtain⟨e,d,m⟩:=i;obtain⟨_,w,f,hw,a⟩:=(FP j).mp m;refine⟨b::w,f,⟨l,hw⟩,?_⟩;rw[K05.K2,<-K05.Du,d];exact a
  .rintro⟨w,e,hw,a⟩;cases w with
   |nil=>exact hw.elim
   |cons b w=>
    refine⟨b,hw.1,?_⟩;rw[K05.K2,<-K05.Du]at a;cases d:K04.bd M b r with
    |none=>rw[d,Jr]at a;cases a
    |some f=>rw[d]at a;exact bj.mpr ((FP j).mpr ⟨K04.FK j d,w,e,hw.2,a⟩)
def Wkb(M:List Rm)(w:List Bool):Prop:=∃a r,a<M.length/\wk M (A0 a) w=A0 r
structure Grd(P:List Bool->Prop)(hs:List Sg)(u:List Bool):Prop where
 fit:Fit hs u
 ok:P u
 least:∀i,i<hs.length->u[i]?=A0 A3->hs[i]?=A0 A6->¬∃w,Fit hs w/\P w/\w.take (i+1)=u.take i++[A7]
theorem Ke:∀{hs:List Sg}{w:List Bool}{i:Nat}{b:Bool},Fit hs w->w[i]?=A0 b->∃c,hs[i]?=A0 c/\b∈B8 c
 |c::hs,d::w,0,b,h,e=>by cases e;exact⟨c,rfl,h.1⟩
 |c::hs,d::w,i+1,b,h,e=>Ke (hs:=hs) h.2 e
 | [],d::w,_,_,h,_=>h.elim
 | [],[],_,_,_,e=>by simp at e
 |_::_,[],_,_,h,_=>h.elim
theorem Grd.uniq{P:List Bool->Prop}{hs:List Sg}{u v:List Bool}(a:Grd P hs u)(b:Grd P hs v):u=v:=by
 have h:∀i,i<=hs.length->u.take i=v.take i:=by
  intro i;induction i with
  |zero=>intro _;rfl
  |succ i s=>
   intro t;have e:=s ⋯;have hu:i<u.length:=by rw[a.fit.len];omega
   have j:i<v.length:=by rw[b.fit.len];omega
   have l:u.take (i+1)=u.take i++[u[i]]:=by rw[aO,ae hu];rfl
   have n:v.take (i+1)=v.take i++[v[i]]:=by rw[aO,ae j];rfl
   obtain⟨c,g,p⟩:=Ke a.fit (ae hu);obtain⟨w,d,f⟩:=Ke b.fit (ae j);rw[g]at d;cases d;have:u[i]=v[i]:=by
    rcases c with _|c
    .cases m:u[i]<;>cases o:v[i];.rfl
     .exact absurd ⟨u,a.fit,a.ok,by rw[l,m,e]⟩ (b.least i ⋯ (by rw[ae j,o]) g)
     .exact absurd ⟨v,b.fit,b.ok,by rw[n,o,e]⟩ (a.least i ⋯ (by rw[ae hu,m]) g)
     .rfl
    .have q:=aF.mp p;have r:=aF.mp f;rw[q,r]
   rw[l,n,e,this]
 have:=h hs.length (ah _);rwa [bK (by rw[a.fit.len];exact ah _),bK (by rw[b.fit.len];exact ah _)]at this
def EW(P:List Bool->Prop)(hs:List Sg)(o:Option (List Bool)):Prop:=(o=A6/\¬∃w,Fit hs w/\P w)\/∃u,o=A0 u/\Grd P hs u
theorem EW.uniq{P:List Bool->Prop}{hs:List Sg}{o e:Option (List Bool)}(a:EW P hs o)(b:EW P hs e):o=e:=by
 rcases a with⟨rfl,h⟩|⟨u,rfl,h⟩<;>rcases b with⟨rfl,d⟩|⟨v,rfl,d⟩;.rfl
 .exact absurd ⟨v,d.fit,d.ok⟩ h
 .exact absurd ⟨u,h.fit,h.ok⟩ d
 .rw[h.uniq d]
theorem Qv:∀{hs:List Sg}{w:List Bool}{i:Nat},Fit hs w->Fit (hs.drop i) (w.drop i)
 |_,_,0,h=>by simpa using h
 |_::hs,_::w,i+1,h=>Qv (hs:=hs) (i:=i) h.2
 | [],[],_+1,h=>by simpa using h
 | [],_::_,_+1,h=>h.elim
 |_::_,[],_+1,h=>h.elim
theorem Qw:∀{a:List Sg}{w:List Bool},w.length=a.length->(∀(j:Nat)b,w[j]?=A0 b->∃c,a[j]?=A0 c/\b∈B8 c)->Fit a w
 | [],[],_,_=>trivial
 |c::a,b::w,h,k=>by refine⟨?_,Qw (by simpa using h) λj d e=>k (j+1) d e⟩;obtain⟨g,e,f⟩:=k 0 b rfl;cases e;exact f
 | [],_::_,h,_=>by simp at h
 |_::_,[],h,_=>by simp at h
theorem Qx{a:List Nat}{o:Option Nat}(h:inR a o=A3):∃e,o=A0 e/\e∈a:=by
 cases o with
 |none=>cases h
 |some e=>exact⟨e,rfl,bj.mp h⟩
theorem DG{M:List Rm}{a:List Nat}{b:Bool}{r:Nat}:liB M a (A0 b) r=inR a (K04.bd M b r):=by show([b].any _)=_;simp
structure FilI(M:List Rm)(hs:List Sg)(i:Nat)(u:List Bool)(rs:List Nat):Prop where
 len:u.length=i
 fit:∀(j:Nat)b,u[j]?=A0 b->∃c,hs[j]?=A0 c/\b∈B8 c
 mem:∀r,r∈rs↔r∈fS M (hs.drop i)/\∃r0,r0<M.length/\wk M (A0 r0) u=A0 r
 ne:rs≠[]
 nd:rs.Nodup
 least:∀j,j<i->u[j]?=A0 A3->hs[j]?=A0 A6->¬∃w,Fit hs w/\Wkb M w/\w.take (j+1)=u.take j++[A7]
theorem FilI.step{M:List Rm}(H:OkM M){hs:List Sg}{i:Nat}{u:List Bool}{rs o:List Nat}(I:FilI M hs i u rs){c:Sg}(B:hs[i]?=A0 c){b:Bool}(O:b∈B8 c)
  (K:b=A3->c=A6->∀r∈rs,inR (fS M (hs.drop (i+1))) (K04.bd M A7 r)=A7)(C:rs.filter (liB M (fS M (hs.drop (i+1))) (A0 b))≠[])(S:o.Nodup)
  (P:∀r,r∈o↔∃p∈rs.filter (liB M (fS M (hs.drop (i+1))) (A0 b)),K04.bd M b p=A0 r):FilI M hs (i+1) (u++[b]) o:=by
 obtain⟨Y,D⟩:=aW.mp B;have Z:hs.drop i=c::hs.drop (i+1):=by rw[cx Y,D]
 have L:=I.len;have J:∀{a p r:Nat}{d:Bool},wk M (A0 a) u=A0 p->K04.bd M d p=A0 r->wk M (A0 a) (u++[d])=A0 r:=λ{a p r d}m f=>by rw[Gg,m];show stp M p d=A0 r;rw[<-K05.Du];exact f
 have l:∀{a r:Nat}{d:Bool},wk M (A0 a) (u++[d])=A0 r->∃p,wk M (A0 a) u=A0 p/\K04.bd M d p=A0 r:=λ{a r d}h=>by
  rw[Gg]at h;cases e:wk M (A0 a) u with
  |none=>rw[e]at h;cases h
  |some p=>rw[e]at h;exact⟨p,rfl,by rw[K05.Du];exact h⟩
 have y:∀{a p:Nat}{d:Bool},a<M.length->wk M (A0 a) u=A0 p->d∈B8 c->inR (fS M (hs.drop (i+1))) (K04.bd M d p)=A3->p∈rs:=λ{a p d}g m f t=>by refine(I.mem p).mpr ⟨?_,a,g,m⟩;rw[Z];exact aH.mpr ⟨aI.mpr (Pl H (λk U=>by cases U;exact g) m),br.mpr ⟨d,f,t⟩⟩
 refine⟨by rw[aB,L];rfl,λj d e=>?_,λr=>?_,λz=>?_,S,λj R s v=>?_⟩
 .by_cases R:j<u.length;.rw[ce R]at e;exact I.fit j d e
  .have:=BH e;rw[aB,bx]at this;have n:j=i:=by omega
   subst n;rw[bX ⋯,show j-u.length=0 by omega]at e;cases e;exact⟨c,B,O⟩
 .rw[P];constructor;.rintro⟨p,A,e⟩;obtain⟨m,f⟩:=aH.mp A;rw[DG,e]at f;obtain⟨_,a,g,hw⟩:=(I.mem p).mp m;exact⟨bj.mp f,a,g,J hw e⟩
  .rintro⟨m,a,g,hw⟩;obtain⟨p,s,v⟩:=l hw;have t:inR (fS M (hs.drop (i+1))) (K04.bd M b p)=A3:=by rw[v];exact bj.mpr m
   exact⟨p,aH.mpr ⟨y g s O t,by rw[DG];exact t⟩,v⟩
 .obtain⟨p,A⟩:=List.exists_mem_of_ne_nil _ C;have f:=(aH.mp A).2;rw[DG]at f;obtain⟨e,t,_⟩:=Qx f;have:=(P e).mpr ⟨p,A,t⟩;rw[z]at this;cases this
 .by_cases G:j<i;.rw[ce ⋯]at s;have:=I.least j G s v;rw[List.take_append_of_le_length ⋯];exact this
  .have n:j=i:=by omega
   subst n;rw[bX ⋯,show j-u.length=0 by omega]at s;rw[B]at v;cases s;cases v;rintro⟨w,X,⟨a,e,g,hw⟩,x⟩;have et:u.take j=u:=bK ⋯;rw[List.take_append_of_le_length ⋯,et]at x;rw[<-bG (j+1) w,x,Gg]at hw;cases E:wk M (A0 a) (u++[A7])with
   |none=>rw[E,Jr]at hw;cases hw
   |some q=>
    rw[E]at hw;obtain⟨p,T,Q⟩:=l E;have hq:q∈fS M (hs.drop (j+1)):=(FP H).mpr ⟨K04.FK H Q,_,e,Qv X,hw⟩;have N:inR (fS M (hs.drop (j+1))) (K04.bd M A7 p)=A3:=by rw[Q];exact bj.mpr hq
    have:=K rfl rfl p (y g T (by decide) N);rw[N]at this;cases this
theorem FilI.go{M:List Rm}{hs:List Sg}{i:Nat}{u:List Bool}{rs:List Nat}(I:FilI M hs i u rs){c:Sg}(l:hs[i]?=A0 c):∃b∈B8 c,rs.filter (liB M (fS M (hs.drop (i+1))) (A0 b))≠[]:=by
 obtain⟨f,a⟩:=aW.mp l;have g:hs.drop i=c::hs.drop (i+1):=by rw[cx f,a]
 obtain⟨p,d⟩:=List.exists_mem_of_ne_nil _ I.ne;have e:=((I.mem p).mp d).1;rw[g]at e;obtain⟨b,h,j⟩:=br.mp (aH.mp e).2;exact⟨b,h,λz=>by have:=aH.mpr ⟨d,(DG (M:=M)).trans j⟩;rw[z]at this;cases this⟩
theorem FilI.fin{M:List Rm}{hs:List Sg}{u:List Bool}{rs:List Nat}(I:FilI M hs hs.length u rs):Grd (Wkb M) hs u:=by obtain⟨p,b⟩:=List.exists_mem_of_ne_nil _ I.ne;obtain⟨_,e,d,hw⟩:=(I.mem p).mp b;exact⟨Qw I.len I.fit,⟨e,p,d,hw⟩,λi a=>I.least i a⟩
def vF:Option (List Bool)->V
 |A6=>.non
 |A0 u=>.str (tx u)
def FQ:Sp:=λi H Q _=>∃(p:A4)(h a e b:Nat)(f:Option Nat)(d:List Sg),i=[.ref p,.str (qx d)]/\IsB H p h a e b f/\1<=a/\1<=b/\d.length<=500/\∀(o:Option (List Bool))(g:Hp),Ax H g->EW (λw=>K05.fK h a e b f w=A3) d o->Q (vF o) g
theorem HX{K:W.Frag}{H:Hp}{Q:VK}{l:List Sg}(a:l.length<=1000)(q:Q (.int l.length) H):BZ K .len [.str (qx l)] H Q:=by rw[Ox,DE];exact⟨DB a,q⟩
theorem iS{C:Rc}(hN:C.N.length=11)(hM:C.fs "machine_of"=A0 DC)(hF:C.fs "fillable"=A0 EV)(hL:C.fs "led_into"=A0 DF)(hR:C.fs "rooms_behind"=A0 K05.DD)(hG:C.gt "BITS_AT"=A0 BA):∀vs H Q E,FQ vs H Q E->tSs C HI {nx:=λ_ Z=>Q .non Z,rt:=Q} (L2.BJ C.N vs) H:=by
 intro vs H Q E h;obtain⟨p,l0,h0,l1,h1,sp,d,rfl,hB,c0,c1,hh,q⟩:=h;rw[Bb hN];unfold HI;symm;refine B6 hM ?_;symm;refine⟨p,l0,h0,l1,h1,sp,rfl,hB,λm c6 H1 s1 hm a9=>?_⟩;have D:=QH c0 c1 a9;rw[(HA c0 c1 D a9).2]at hm;generalize rks sp h0 h1 c6=F at D hm;have hO:OkM (Az l0 h0 l1 h1 sp F):=J_;have b6:(Az l0 h0 l1 h1 sp F).length=F.length:=by unfold Az;rw[ac]
 have d8:F.length<=300:=by have:=D.sub.length_le;have:=(DA hB.bs hB.b0 hB.b1 (h0:=h0) (h1:=h1)).1;omega
 have hn:=K05.HD D;obtain⟨M,eM⟩:∃M,M=Az l0 h0 l1 h1 sp F:=⟨_,rfl⟩;rw[<-eM]at hm hO b6;have eP:(λw=>K05.fK l0 h0 l1 h1 sp w=A3)=Wkb M:=funext λw=>propext (by rw[K05.K5 c0 c1 D,<-K05.K4 hn,<-b6,<-eM];exact Iff.rfl);rw[eP]at q;clear eM eP;symm;refine B6 hF ?_;symm;refine⟨m,M,d,rfl,hm,hO,⋯,hh,λA ps H2 s2 hA c7 a7=>?_⟩;symm;have T:atI (ps.map V.ref) (-1)=A0 (V.ref (ps[d.length]'⋯)):=Gh (i:=d.length) (by rw[ac];exact c7) (by rw[aj,ae ⋯];rfl);have t:=a7 d.length _ (ae ⋯);rw[Nat.sub_self,List.drop_zero]at t;refine BV (SqL.of hA) T ?_;generalize ps[d.length]'⋯=R0 at t;symm;refine GV (SqL.of t) ?_;by_cases he:fS M d=[];.rw[show(!((fS M d).map nV).isEmpty)=A7 by rw[he];rfl];symm;refine q A6 _ (s1.trans s2) (.inl ⟨rfl,?_⟩);rintro⟨w,P,r0,e,d4,hw⟩;have:=(FP hO).mpr ⟨d4,w,e,P,hw⟩;rw[he]at this;cases this
 .rw[show(!((fS M d).map nV).isEmpty)=A3 by cases hc:fS M d with
   |nil=>exact absurd hc he
   |cons _ _=>rfl];symm;refine⟨by decide,λB J=>?_⟩;have d6:A≠B:=Bm hA J;obtain⟨s3,a4⟩:=snw J (.lst []);generalize upd H2 B _=H3 at s3 a4⊢;have d0:(fS M d).Nodup:=by
   cases d with
   |nil=>exact dc
   |cons _ _=>exact List.nodup_range.filter _
  symm;refine Jd (QQ (λi Y Z=>(∃(R:A4)(f:List Nat)(u:List Bool)(x6 x7 x8 U n:Option V),Y=[A0 (.ref p),A0 (.str (qx d)),A0 (.ref m),A0 (.ref A),A0 (.ref R),A0 (.ref B),x6,x7,x8,U,n]/\Z R=A0 (.lst (f.map nV))/\R≠B/\Z B=A0 (.lst ((u.map λb=>[b]).map λl=>V.str (tx l)))/\FilI M d i u f)/\i<=d.length/\Ax H2 Z) ⟨⟨R0,fS M d,[],_,_,_,_,_,rfl,s3 _ _ t,Bm t J,a4,⟨rfl,λj b e=>by simp at e,λr=>by rw[List.drop_zero];exact⟨λh=>⟨h,r,FO r h,rfl⟩,λh=>h.1⟩,he,d0,λj hj=>absurd hj (cg _)⟩⟩,aJ _,s3⟩ ?_ ?_)
  .rintro i c Y H4 pp hc c8⟨⟨R,f,u,x6,x7,x8,U,n,rfl,b2,c3,L,I⟩,_,s4⟩;have hi:=BH hc;refine Dl (SqT.of A_) ?_;have S:=BB c8 (.tup [.int i,.str (qx [c])]);have s5:=s4.trans S;have b5:=S _ _ b2;have a6:=S _ _ L;generalize upd H4 pp (.tup [.int i,.str (qx [c])])=H5 at s5 b5 a6⊢;symm;refine HX ⋯ ?_;symm;have c4:((d.length:Int)-(i:Int)-1)=((d.length-1-i:Nat):Int):=by omega
   rw[c4];have b7:d.length-1-i<ps.length:=by omega
   have hg:=a7 _ _ (ae b7);rw[show d.length-(d.length-1-i)=i+1 by omega]at hg;refine BV (SqL.of (s5 _ _ hA)) (v:=.ref ps[d.length-1-i]) (Db (by rw[aj,ae b7];rfl)) ?_;generalize ps[d.length-1-i]=G at hg;symm;refine Pf hG ?_;symm;refine Pg (QR c) ?_;have y:∀r∈f,r<M.length:=λr hr=>FO r ((I.mem r).mp hr).1;have d7:f.length<=300:=by have:=K04.Q7 I.nd y;omega
   refine Ew (Ot (l:=B8 c) (λj Y Z=>(∃(U n:Option V),Y=[A0 (.ref p),A0 (.str (qx d)),A0 (.ref m),A0 (.ref A),A0 (.ref R),A0 (.ref B),A0 (.int i),A0 (.str (qx [c])),A0 (.ref G),U,n])/\Ax H5 Z/\∀b∈(B8 c).take j,f.filter (liB M (fS M (d.drop (i+1))) (A0 b))=[]) ⟨⟨_,_,rfl⟩,Ax.refl _,λb x=>absurd x av⟩ ?_ ?_)
   .rintro j b Y H6 x⟨⟨U,n,rfl⟩,s6,s⟩;have a0:=s5.trans s6;symm;refine B6 hL ?_;symm;refine⟨m,R,G,M,f,fS M (d.drop (i+1)),A0 b,by rw[show qx [A0 b]=tx [b]from Dv (l:=[b])],hm.mono (BG (s2.trans a0)),hO,s6 _ _ b5,a0 _ _ hg,y,⋯,aN Qr ⋯,λg H7 s7 K=>?_⟩;have d1:=a0.trans s7;symm;refine GV (SqL.of K) ?_;by_cases P:f.filter (liB M (fS M (d.drop (i+1))) (A0 b))=[]
    .rw[show(!((f.filter (liB M (fS M (d.drop (i+1))) (A0 b))).map nV).isEmpty)=A7 by rw[P];rfl];symm;refine⟨⟨_,_,rfl⟩,s6.trans s7,λb' b4=>?_⟩;rw[aO,x]at b4;rcases aL.mp b4 with z|z;.exact s b' z
     .rw[aF.mp z];exact P
    .rw[show(!((f.filter (liB M (fS M (d.drop (i+1))) (A0 b))).map nV).isEmpty)=A3 by cases hc:f.filter (liB M (fS M (d.drop (i+1))) (A0 b))with
      |nil=>exact absurd hc P
      |cons _ _=>rfl];symm;have X:=s7 _ _ (s6 _ _ a6);have b9:g≠B:=λz=>by
      rw[z,X]at K;have e:=HO.lst.inj (Option.some.inj K);cases b3:f.filter (liB M (fS M (d.drop (i+1))) (A0 b))with
      |nil=>exact P b3
      |cons r0 a2=>
       rw[b3]at e;cases u with
       |nil=>cases e
       |cons b0 u'=>cases e
     refine⟨tyL X rfl,?_⟩;have d5:=I.len;refine Jh X (by rw[ac,ac];exact BK ⋯) ?_;have eB:(u.map λb=>[b]).map (λl=>V.str (tx l))++[V.str (tx [b])]=((u++[b]).map λb=>[b]).map λl=>V.str (tx l):=by rw[aC,aC];rfl
     rw[eB];have a1:=Pm (o:=.lst (((u++[b]).map λb=>[b]).map λl=>V.str (tx l))) d1 (a:=B) J;have a3:upd H7 B (.lst (((u++[b]).map λb=>[b]).map λl=>V.str (tx l))) g=A0 (.lst ((f.filter (liB M (fS M (d.drop (i+1))) (A0 b))).map nV)):=by rw[Ay b9];exact K
     have b8:upd H7 B (.lst (((u++[b]).map λb=>[b]).map λl=>V.str (tx l))) B=A0 (.lst (((u++[b]).map λb=>[b]).map λl=>V.str (tx l))):=A_;generalize upd H7 B (.lst (((u++[b]).map λb=>[b]).map λl=>V.str (tx l)))=H8 at a1 a3 b8⊢;symm;refine B6 hR ?_;symm;refine⟨m,g,M,f.filter (liB M (fS M (d.drop (i+1))) (A0 b)),b,rfl,hm.mono (BG (s2.trans a1)),hO,a3,λr hr=>y r (aH.mp hr).1,aN (bn ..) ⋯,λl' a2 H9 s9 O d3 c2=>?_⟩;have a5:=s9 _ _ b8;have d2:l'≠B:=λz=>by rw[z,a5]at O;have e:=HO.lst.inj (Option.some.inj O);cases u<;>cases a2<;>cases e
     symm;refine⟨⟨l',a2,u++[b],_,_,_,_,_,rfl,O,d2,a5,I.step hO hc (ao x) (λe1 e2 r hr=>?_) P d3 c2⟩,hi,a1.trans s9⟩;subst e1;subst e2;have c9:j=1:=by
      match j,x with
      |0,x=>cases x
      |1,_=>rfl
      |j+2,x=>cases x
     subst c9;have z:=s A7 (by decide);cases hq:inR (fS M (d.drop (i+1))) (K04.bd M A7 r)with
     |false=>rfl
     |true=>have:=aH.mpr ⟨hr,(DG (M:=M)).trans hq⟩;rw[z]at this;cases this
   .rintro Y H6⟨⟨U,n,rfl⟩,s6,s⟩;obtain⟨b,x,c5⟩:=I.go hc;rw[aQ]at s;exact absurd (s b x) c5
  .rintro Y H4⟨⟨R,f,u,x6,x7,x8,U,n,rfl,b2,c3,L,I⟩,_,s4⟩;symm;refine⟨rfl,?_⟩;have a8:(u.map λb=>[b]).flatten=u:=by
    clear I L;induction u with
    |nil=>rfl
    |cons b u ih=>rw[aK,List.flatten_cons,ih];rfl
   have d5:=I.len;refine P5 (SqL.of L) (by rw[a8];omega) ?_;rw[a8];exact q (A0 u) _ (s1.trans (s2.trans s4)) (.inr ⟨u,rfl,I.fin⟩)
theorem iT{C:Rc}{σ:L2.St}{H:Hp}{b:Bool->Hp->Prop}{d f e:Ce}{a n m:Int}(h1:∀Q,Q (V.int a) H->tE C d σ H Q)(h:∀Q,Q (V.int n) H->tE C f σ H Q)(i:∀Q,Q (V.int m) H->tE C e σ H Q)(q:b (decide (a<=n)&&decide (n<=m)) H):tQ C (.chn .LtE .LtE d f e) σ H b:=by
 show CO (DI (B9 C.K .LtE) (B9 C.K .LtE) (tE C d) (tE C f) (tE C e)) σ H b;unfold CO DI;refine h1 _ (h _ ⟨a,n,rfl,rfl,decide (a<=n),rfl,?_⟩);by_cases g:a<=n;.rw[decide_eq_true g]at q⊢;rw[if_pos rfl];refine i _ ⟨n,m,rfl,rfl,_,rfl,?_⟩;rw[Bool.true_and]at q;exact q
 .rw[decide_eq_false g]at q⊢;rw[if_neg (by decide)];rw[Bool.false_and]at q;exact⟨A7,rfl,q⟩
def Dx:Sp:=λj H Q _=>∃(bd i:A4)(h d e f:Nat)(b:Option Nat)(k:K3)(c:Nat),j=[.ref bd,.ref i,.int c]/\IsB H bd h d e f b/\H i=A0 (.tup [nV k.1,nV k.2.1,nV k.2.2])/\c<2/\k.1<2/\(b=A6->k.2.2=0)/\(lb h d e f b k c=A6->Q .non H)/\∀a,lb h d e f b k c=A0 a->∀(p:A4)(g:Hp),Ax H g->g p=A0 (.tup [nV a.1,nV a.2.1,nV a.2.2])->Q (.ref p) g
theorem iU{C:Rc}(U:C.N.length=7):∀K H Q E,Dx K H Q E->tSs C HL {nx:=λ_ H'=>Q .non H',rt:=Q} (L2.BJ C.N K) H:=by
 intro K H Q E h;obtain⟨bd,Z,t,p,w,s,i,⟨b,g,f⟩,c,rfl,G,J,hc,S,j,I,T⟩:=h;have S:b<2:=S;rw[Bb U];unfold HL;symm;rw[D7];symm;refine P2 (SqT.of J) ?_;simp only[nV,GN,List.set_cons_zero,List.set_cons_succ];symm;refine CL (SqT.of G.at') (v:=oV i) rfl ?_;generalize R:DW C _ _=D;have Aw:∀(d:Nat),lvl i f c=d->(∀m,i=A0 m->d<=m)->D.nx [A0 (.ref bd),A0 (.ref Z),A0 (.int c),A0 (.int b),A0 (.int g),A0 (.int f),A0 (.int d)] H:=by
  intro d x X;have y:=G.at';have e:lb t p w s i (b,g,f) c=if c=b then(if g+1<=(if c=1 then s else p)then A0 (c,g+1,d)else A6)else if(if b=1 then w else t)<=g then A0 (c,1,d)else A6:=by
   unfold lb;dsimp only;rw[x,bg,if_neg];cases i with
   |none=>exact λz=>by cases z
   |some m=>have:=X m rfl;unfold ot;rw[aX,decide_eq_true_eq,decide_eq_true_eq];omega
  rw[<-R];symm;refine Bu (λA=>?_) λA=>?_
  .have A:c=b:=by omega
   subst A;rw[if_pos rfl]at e;symm;have l:atI [nV t,nV p,nV w,nV s,oV i] (2*(c:Int)+1)=A0 (V.int ((if c=1 then s else p:Nat):Int)):=by rcases(by omega:c=0\/c=1)with rfl|rfl<;>rfl
   refine⟨.inl ⟨by decide,by decide⟩,?_⟩;refine CL (SqT.of y) l ?_;symm;refine Bu (λr=>?_) λr=>?_;.symm;refine⟨by decide,λB o=>?_⟩;obtain⟨L,M⟩:=snw o (.tup [.int c,.int ((g:Int)+1),.int d]);exact T (c,g+1,d) (by rw[e,if_pos ⋯]) B _ L M
   .symm;exact I (by rw[e,if_neg ⋯])
  .have A:¬c=b:=by omega
   rw[if_neg A]at e;symm;have l:atI [nV t,nV p,nV w,nV s,oV i] (2*(b:Int))=A0 (V.int ((if b=1 then w else t:Nat):Int)):=by rcases(by omega:b=0\/b=1)with rfl|rfl<;>rfl
   refine⟨.inl ⟨by decide,by decide⟩,?_⟩;refine CL (SqT.of y) l ?_;symm;refine Bu (λr=>?_) λr=>?_;.symm;refine⟨by decide,λB o=>?_⟩;obtain⟨L,M⟩:=snw o (.tup [.int c,.int 1,.int d]);exact T (c,1,d) (by rw[e,if_pos ⋯]) B _ L M
   .symm;exact I (by rw[e,if_neg ⋯])
 cases i with
 |none=>simp only[oV];symm;have j:f=0:=j rfl;subst j;exact Aw 0 rfl (λm z=>nomatch z)
 |some m=>
  simp only[oV];symm;have Y:(f:Int)+2*(c:Int)-1=lvl (A0 m) f c:=by
   show _=(f:Int)+if c=1 then 1 else -1;rcases(by omega:c=0\/c=1)with rfl|rfl;.rw[if_neg (by decide)];omega
   .rw[if_pos rfl];omega
  rw[Y];have P:D.rt=Q:=by rw[<-R];rfl
  refine⟨.inl ⟨by decide,by decide⟩,?_⟩;refine iT (a:=0) (n:=lvl (A0 m) f c) (m:=(m:Int)) (λQ q=>?_) (λQ q=>?_) (λQ q=>?_) ?_;.symm;exact q
  .symm;exact q
  .symm;exact CL (SqT.of G.at') (v:=oV (A0 m)) rfl q
  have O:(lvl (A0 m) f c<0\/lvl (A0 m) f c>m)->lb t p w s (A0 m) (b,g,f) c=A6:=λz=>by unfold lb;exact if_pos (by unfold ot;rw[aX,decide_eq_true_eq,decide_eq_true_eq];exact z)
  by_cases r:0<=lvl (A0 m) f c/\lvl (A0 m) f c<=m;.rw[decide_eq_true r.1,decide_eq_true r.2];symm;have:=Aw (lvl (A0 m) f c).toNat ⋯ (λm' z=>by cases z;omega);rw[show(((lvl (A0 m) f c).toNat:Nat):Int)=lvl (A0 m) f c by omega]at this;exact this
  .rw[show(decide (0<=lvl (A0 m) f c)&&decide (lvl (A0 m) f c<=(m:Int)))=A7 by rw[Bool.and_eq_false_iff,decide_eq_false_iff_not,decide_eq_false_iff_not];omega];symm;rw[P];exact I (O ⋯)
abbrev WL:=List (K3×A4)
def wK(W:WL):List (List Key×V):=W.map λw=>(kK w.1,V.ref w.2)
def OK3(H:Hp)(x:V)(o:Option K3):Prop:=match o with
 |A6=>x=.non
 |A0 k=>∃p,x=.ref p/\H p=A0 (.tup [nV k.1,nV k.2.1,nV k.2.2])
theorem OK3.mono{H H':Hp}(t:Tp H H'){x:V}{o:Option K3}(h:OK3 H x o):OK3 H' x o:=by
 cases o with
 |none=>exact h
 |some k=>obtain⟨p,e,a⟩:=h;exact⟨p,e,t _ _ a⟩
def HY(l0 h0 l1 h1:Nat)(sp:Option Nat)(H:Hp)(w:K3×A4):Prop:=∃b a,H w.2=A0 (.lst [b,a])/\OK3 H b (lb l0 h0 l1 h1 sp w.1 0)/\OK3 H a (lb l0 h0 l1 h1 sp w.1 1)
def Be(l0 h0 l1 h1:Nat)(sp:Option Nat)(H:Hp)(W:WL):Prop:=∀w∈W,HY l0 h0 l1 h1 sp H w
theorem Qy{W:WL}{k:K3}{a:A4}(h:k∉W.map Prod.fst):BX (wK W) (kK k) (.ref a)=wK (W++[(k,a)]):=by
 unfold BX;rw[if_neg];.unfold wK;rw[aC];rfl
 .intro z;obtain⟨q,b,e⟩:=br.mp z;obtain⟨w,hw,rfl⟩:=ar.mp b;exact h (ar.mpr ⟨w,hw,BD.ET (of_decide_eq_true e)⟩)
theorem Qz{H:Hp}{Q:VK}{E:XK}{bd d:A4}{l0 h0 l1 h1:Nat}{sp:Option Nat}{k:K3}(c:Nat)(f:IsB H bd l0 h0 l1 h1 sp)(b:H d=A0 (.tup [nV k.1,nV k.2.1,nV k.2.2]))(g:c<2)(h:k.1<2)(j:sp=A6->k.2.2=0)
  (q:∀x a,Ax H a->OK3 a x (lb l0 h0 l1 h1 sp k c)->Q x a):Dx [.ref bd,.ref d,.int c] H Q E:=
 ⟨bd,d,l0,h0,l1,h1,sp,k,c,rfl,f,b,g,h,j,λe=>q _ _ (Ax.refl _) (by rw[e];rfl),λl e p a s i=>q _ _ s (by rw[e];exact⟨p,rfl,i⟩)⟩
theorem HY.mono{l0 h0 l1 h1:Nat}{sp:Option Nat}{H H':Hp}{w:K3×A4}(t:Tp H H')(k:∀a,H w.2=A0 (.lst a)->H' w.2=A0 (.lst a))(h:HY l0 h0 l1 h1 sp H w):HY l0 h0 l1 h1 sp H' w:=by obtain⟨f,d,e,h1,b⟩:=h;exact⟨f,d,k _ e,h1.mono t,b.mono t⟩
def Q_:Cs:=.for_ (.name 2) (.val (.tup (.cons (.int 0) (.cons (.int 1) .nil)))) (.cons (.for_ (.name 3) (.range2 (.int 1) (.bin .Add (.idx (.var 0) (.bin .Add (.bin .Mult (.int 2) (.var 2)) (.int 1))) (.int 1))) (.cons (.for_ (.name 4) (.range1 (.ife (.cmp .Is (.idx (.var 0) (.int 4)) .non) (.int 1) (.bin .Add (.idx (.var 0) (.int 4)) (.int 1)))) (.cons (.asg (.name 5) (.tup (.cons (.var 2) (.cons (.var 3) (.cons (.var 4) .nil)))))
  (.cons (.dput (.var 1) (.var 5) (.lst (.cons (.call "_law_step" (.cons (.var 0) (.cons (.var 5) (.cons (.int 0) .nil)))) (.cons (.call "_law_step" (.cons (.var 0) (.cons (.var 5) (.cons (.int 1) .nil)))) .nil))))
  .nil)))
  .nil))
  .nil)
theorem iV{C:Rc}{D:Ends}{H H0:Hp}{bd d:A4}{l0 h0 l1 h1:Nat}{sp:Option Nat}(hS:C.fs "_law_step"=A0 Dx)(n:IsB H bd l0 h0 l1 h1 sp)(hd:H d=A6)(sH:Ax H H0)(a4:H0 d=A0 (.dT []))
  (q:∀(T p f b:Option V)(W:WL)(H':Hp),Ax H H'->H' d=A0 (.dT (wK W))->W.map Prod.fst=rk (lvs sp) h0 h1->Be l0 h0 l1 h1 sp H' W->D.nx [A0 (.ref bd),A0 (.ref d),T,p,f,b,A6,A6,A6,A6] H'):tS C Q_ D [A0 (.ref bd),A0 (.ref d),A6,A6,A6,A6,A6,A6,A6,A6] H0:=by
 unfold Q_;symm;refine⟨by decide,λp0 a1=>?_⟩;obtain⟨s0,e0⟩:=snw a1 (.tup [.int 0,.int 1]);have f0:=sH.free a1;have X:=s0 _ _ a4;have sH1:=sH.trans s0;generalize upd H0 p0 _=H1 at s0 e0 X sH1⊢;refine Ex (SqT.of e0) (Os (xs:=[.int 0,.int 1]) (λi h H'=>(∃T p f b,h=[A0 (.ref bd),A0 (.ref d),T,p,f,b,A6,A6,A6,A6])/\Ax H H'/\H' p0=A0 (.tup [.int 0,.int 1])/\∃W,H' d=A0 (.dT (wK W))/\W.map Prod.fst=Bas sp h0 h1 i/\Be l0 h0 l1 h1 sp H' W) ⟨⟨_,_,_,_,rfl⟩,sH1,e0,[],X,rfl,λw hw=>absurd hw av⟩ (λi h H' _ pv=>SqT.of pv.2.2.1) ?_ ?_)
 .rintro i x h H2 A⟨⟨T,p,f,b,rfl⟩,s2,e2,W,K,G,M⟩;obtain⟨hi,rfl⟩:i<2/\x=.int i:=by
   match i,A with
   |0,A=>cases A;exact⟨by decide,rfl⟩
   |1,A=>cases A;exact⟨by decide,rfl⟩
   |i+2,A=>cases A
  symm;have a9:=(n.mono (BG s2)).at';obtain⟨Q,y⟩:∃Q:Nat,Q=if i=1 then h1 else h0:=⟨_,rfl⟩;have a5:atI [nV l0,nV h0,nV l1,nV h1,oV sp] (2*(i:Int)+1)=A0 (V.int (Q:Nat)):=by rw[y];rcases(by omega:i=0\/i=1)with rfl|rfl<;>rfl
  refine⟨.inl ⟨by decide,by decide⟩,?_⟩;refine CL (SqT.of a9) a5 ?_;have a6:Q<=8:=by rw[y];have:=n.b0;have:=n.b1;split<;>omega
  symm;refine Oq (by decide) (by decide) ⋯ ⋯ ?_;rw[show((Q:Int)+1-1).toNat=Q by omega];refine Ez (λj h H'=>(∃p f b,h=[A0 (.ref bd),A0 (.ref d),A0 (.int i),p,f,b,A6,A6,A6,A6])/\Ax H H'/\H' p0=A0 (.tup [.int 0,.int 1])/\∃W,H' d=A0 (.dT (wK W))/\W.map Prod.fst=Bas sp h0 h1 i++r2 (lvs sp) i j/\Be l0 h0 l1 h1 sp H' W) ⟨⟨_,_,_,rfl⟩,s2,e2,W,K,by rw[G,show r2 (lvs sp) i 0=[]from rfl,cZ],M⟩ ?_ ?_
  .rintro j h H4 hj⟨⟨p,f,b,rfl⟩,s4,e4,W4,J,I,O⟩;symm;refine CL (SqT.of (n.mono (BG s4)).at') (v:=oV sp) rfl ?_;have a7:∀Q':VK,Q' (.int (((sp.getD 0:Nat):Int)+1)) H4->kC1 C [A0 (.ref bd),A0 (.ref d),A0 (.int i),A0 (.int (1+(j:Int))),f,b,A6,A6,A6,A6] CmpOp.Is Ce.non (R3.kT (GP C [A0 (.ref bd),A0 (.ref d),A0 (.int i),A0 (.int (1+(j:Int))),f,b,A6,A6,A6,A6] (Ce.int 1) (Ce.bin Operator.Add ((Ce.var 0).idx (Ce.int 4)) (Ce.int 1)) Q')) (oV sp) H4:=by
    intro Q' q';cases sp with
    |none=>simp only[oV];symm;exact q'
    |some s=>simp only[oV];symm;refine CL (SqT.of (n.mono (BG s4)).at') (v:=oV (A0 s)) rfl ?_;simp only[oV];symm;exact q'
   refine a7 _ ?_;obtain⟨m,S⟩:∃m,m=sp.getD 0:=⟨_,rfl⟩;have b2:m<=16:=by
    rw[S];cases sp with
    |none=>exact aJ _
    |some s=>exact n.bs s rfl
   rw[<-S];refine Ey ⋯ ⋯ ?_;rw[show((m:Int)+1).toNat=m+1 by omega];refine Ez (λu h H'=>(∃f b,h=[A0 (.ref bd),A0 (.ref d),A0 (.int i),A0 (.int (1+(j:Int))),f,b,A6,A6,A6,A6])/\Ax H H'/\H' p0=A0 (.tup [.int 0,.int 1])/\∃W,H' d=A0 (.dT (wK W))/\W.map Prod.fst=Bas sp h0 h1 i++r2 (lvs sp) i j++(r1 (lvs sp) i (j+1)).take u/\Be l0 h0 l1 h1 sp H' W) ⟨⟨_,_,rfl⟩,s4,e4,W4,J,by rw[I,List.take_zero,cZ],O⟩ ?_ ?_
   .rintro u h H5 hu⟨⟨f,b,rfl⟩,s5,e5,r,N,o,E⟩;symm;refine⟨by decide,λp6 a8=>?_⟩;obtain⟨s6,e6⟩:=snw a8 (.tup [.int i,.int (1+(j:Int)),.int (0+(u:Int))]);have P:=s5.trans s6;generalize upd H5 p6 _=H6 at s6 e6 P⊢;have B:H6 p6=A0 (.tup [nV i,nV (j+1),nV u]):=by rw[e6];simp only[nV];rw[show((j+1:Nat):Int)=1+(j:Int)by omega,Int.zero_add]
    have Z:sp=A6->u=0:=λz=>by rw[z]at S;have:m=0:=S;omega
    symm;refine B6 hS ?_;symm;refine Qz (k:=(i,j+1,u)) 0 (n.mono (BG P)) B (by decide) hi Z λy0 H7 s7 o0=>?_;symm;refine B6 hS ?_;symm;refine Qz (k:=(i,j+1,u)) 1 (n.mono (BG (P.trans s7))) (s7 _ _ B) (by decide) hi Z λy1 H8 s8 o1=>?_;symm;refine⟨by decide,λR Y=>?_⟩;obtain⟨s9,e9⟩:=snw Y (.lst [y0,y1]);have g:=s6.trans (s7.trans (s8.trans s9));have a3:=o0.mono (BG (s8.trans s9));have a0:=o1.mono (BG s9);have U:=s9 _ _ (s8 _ _ (s7 _ _ B));have f9:H5 R=A6:=(s6.trans (s7.trans s8)).free Y;generalize upd H8 R _=H9 at s9 e9 g a3 a0 U⊢;have l:=g _ _ N;have L:=g _ _ e5;have b3:R≠d:=λz=>by rw[z,l]at e9;cases e9
    symm;refine Pa (ks:=kK (i,j+1,u)) l (by rw[Jv];exact U) (BK (by
     have hw:(wK r).length=(r.map Prod.fst).length:=by unfold wK;rw[ac,ac]
     rw[hw,o];exact bO (iC n.b0 n.b1 n.bs (aN (bO hj) a6)))) ?_;have a2:((i,j+1,u):K3)∉r.map Prod.fst:=by rw[o];exact iB hi
    have t:Tp H9 (upd H9 d (.dT (BX (wK r) (kK (i,j+1,u)) (.ref R)))):=tpo l λxs z=>by cases z
    refine⟨⟨_,_,rfl⟩,so hd (s5.trans g),?_,r++[((i,j+1,u),R)],?_,?_,λw hw=>?_⟩
    .rw[Ay];.exact L
     .rintro rfl;rw[l]at L;cases L
    .rw[A_,Qy a2]
    .have:(r1 (lvs sp) i (j+1)).take (u+1)=(r1 (lvs sp) i (j+1)).take u++[(i,j+1,u)]:=by rw[Jy,<-S];exact hY hu
     rw[this,aC,o];simp
    .have lk:∀{a:A4}{xs:List V},H9 a=A0 (.lst xs)->upd H9 d (.dT (BX (wK r) (kK (i,j+1,u)) (.ref R))) a=A0 (.lst xs):=λ{a xs}e=>by
      rw[Ay];.exact e
      .rintro rfl;rw[l]at e;cases e
     rcases aL.mp hw with z|z;.exact(E w z).mono ((BG g).trans t) λxs e=>lk (g _ _ e)
     .rw[aF.mp z];exact⟨y0,y1,lk e9,a3.mono t,a0.mono t⟩
   .rintro h H5⟨⟨f,b,rfl⟩,s5,e5,r,N,o,E⟩;refine⟨⟨_,_,_,rfl⟩,s5,e5,r,N,?_,E⟩;rw[o,Gu,bc,bK (by rw[Jy,<-S,hZ];exact ah _)]
  .rintro h H4⟨⟨p,f,b,rfl⟩,s4,e4,W4,J,I,O⟩;refine⟨⟨_,_,_,_,rfl⟩,s4,e4,W4,J,?_,O⟩;rw[I,y];rcases(by omega:i=0\/i=1)with rfl|rfl;.rfl
   .rfl
 .rintro h H2⟨⟨T,p,f,b,rfl⟩,s2,e2,W,K,G,M⟩;exact q T p f b W H2 s2 K G M
theorem Cv{k:K3}:∀{W:WL},(W.map Prod.fst).Nodup->(∀a,(k,a)∈W->Bl (wK W) (kK k)=A0 (.ref a))/\(k∉W.map Prod.fst->Bl (wK W) (kK k)=A6)
 | [],_=>⟨λa h=>absurd h av,λ_=>rfl⟩
 |w::W,l=>by
  obtain⟨f,d⟩:=cc.mp l;obtain⟨j,i⟩:=Cv (k:=k) d;have g:wK (w::W)=(kK w.1,V.ref w.2)::wK W:=rfl;by_cases h:w.1=k
  .refine⟨λa b=>?_,λz=>absurd (ar.mpr ⟨w,ay,h⟩) z⟩;rw[g,EB (by rw[h])];rcases ap.mp b with e|e;.rw[<-e]
   .exact absurd (h▸ar.mpr ⟨(k,a),e,rfl⟩) f
  .rw[g,EC (λz=>h (BD.ET z))];refine⟨λa b=>?_,λz=>i λy=>z (ax _ y)⟩;rcases ap.mp b with e|e;.exact absurd (by rw[<-e]) h
   .exact j a e
theorem iW{H:Hp}{p:A4}{W:WL}(hs:∀w∈W,C7 w.1)(h:Rd H p (.dT (wK W))):NoR H p:=⟨_,h,λb a=>by obtain⟨w,hw,rfl⟩:=ar.mp a;exact⟨BD.kI w.1,rfl,QA (hs w hw)⟩⟩
theorem HZ{H:Hp}{Q:VK}{D:A4}{W:WL}{x:V}{o:Option K3}(b:(W.map Prod.fst).Nodup)(hs:∀w∈W,C7 w.1)(d:Rd H D (.dT (wK W)))(f:OK3 H x o)(q:Q (.bl (inK (W.map Prod.fst) o)) H):Dp A7 x Q (.ref D) H:=by
 cases o with
 |none=>have e:x=.non:=f;subst e;exact PV (iW hs d) q
 |some k=>
  obtain⟨p,rfl,g⟩:=f;refine Jl (.inr ⟨_,kK k,p,d,rfl,QB g,rfl⟩) ?_;by_cases a:k∈W.map Prod.fst;.obtain⟨w,hw,e⟩:=ar.mp a;rw[(Cv b).1 w.2 (by rw[<-e];exact hw)];rw[show inK (W.map Prod.fst) (A0 k)=A3 from decide_eq_true a]at q;exact q
  .rw[(Cv b).2 a];rw[show inK (W.map Prod.fst) (A0 k)=A7 from decide_eq_false a]at q;exact q
theorem iX{G:List K3}{k:K3}(h:k∈G):BX (dK3 G) (kK k) (.bl A3)=dK3 G:=by
 unfold BX;have a:((dK3 G).any λb=>decide (b.1=kK k))=A3:=br.mpr ⟨(kK k,V.bl A3),ar.mpr ⟨k,h,rfl⟩,decide_eq_true rfl⟩;rw[if_pos a];unfold dK3;rw[aU];refine cO λq _=>?_;show(if _ then _ else _)=_;split;.rfl
 .rfl
theorem Ha:∀{L:PL}{G:List K3}{d:List K3},L.map (λx=>(x.2.1,x.2.2.2))=d.map (λk=>(kK k,V.bl A3))->∃e,putA (dK3 G) L=dK3 e/\(∀k,k∈e↔k∈G\/k∈d)/\e.length<=G.length+L.length
 | [],G,d,h=>by
  have:d=[]:=by cases d with
   |nil=>rfl
   |cons _ _=>cases h
  subst this;exact⟨G,rfl,λk=>by simp,ah _⟩
 |x::L,G,d,h=>by
  cases d with
  |nil=>cases h
  |cons k d=>
   rw[aK,aK]at h;injection h with g i;have j:putA (dK3 G) (x::L)=putA (BX (dK3 G) (kK k) (.bl A3)) L:=by show putA (BX (dK3 G) x.2.1 x.2.2.2) L=_;rw[show x.2.1=kK k from congrArg Prod.fst g,show x.2.2.2=V.bl A3 from congrArg Prod.snd g]
   by_cases f:k∈G
   .obtain⟨e,a,b,c⟩:=Ha (G:=G) i;refine⟨e,by rw[j,iX f,a],λq=>?_,by rw[bv];omega⟩;rw[b,ap];constructor
    .rintro(z|z);.exact .inl z
     .exact .inr (.inr z)
    .rintro(z|z|z);.exact .inl z
     .exact .inl (z▸f)
     .exact .inr z
   .obtain⟨e,a,b,c⟩:=Ha (G:=G++[k]) i;refine⟨e,by rw[j,QF f,a],λq=>?_,by rw[bv];rw[aB,bx]at c;omega⟩;rw[b,aL,aF,ap,or_assoc]
def cmW(F:List K3)(os:List (Option K3)):List K3:=os.filterMap λo=>if inK F o=A3 then o else A6
theorem iY{F:List K3}{os:List (Option K3)}{k:K3}:k∈cmW F os↔k∈F/\A0 k∈os:=by
 unfold cmW;rw[List.mem_filterMap];constructor
 .rintro⟨o,a,e⟩;by_cases h:inK F o=A3;.rw[if_pos h]at e;rw[e]at h a;exact⟨of_decide_eq_true h,a⟩
  .rw[if_neg h]at e;cases e
 .rintro⟨d,b⟩;exact⟨A0 k,b,if_pos (decide_eq_true d)⟩
theorem R1{F:List K3}{os:List (Option K3)}:(cmW F os).length<=os.length:=List.length_filterMap_le ..
def R4:Cs:=.for_ (.name 5) (.dk (.var 1)) (.cons (.expr (.upd (.var 7) (.comp (.tup (.cons (.var 8) (.cons (.bl A3) .nil))) [8] (.name 8) (.val (.dix (.var 1) (.var 5))) (.some (.din A7 (.var 8) (.var 1))) .nil))) .nil)
theorem iZ{C:Rc}{D:Ends}{H g:Hp}{d e:A4}{l0 h0 l1 h1:Nat}{sp:Option Nat}{W:WL}{x0 x2 x3 x4 A x6 t x9:Option V}(hn:(W.map Prod.fst).Nodup)(hs:∀w∈W,C7 w.1)(hl:W.length<=300)(hd:H d=A6)(he:H e=A6)(Y:d≠e)(sH:Ax H g)
  (E:g d=A0 (.dT (wK W)))(a4:g e=A0 (.dT []))(hI:Be l0 h0 l1 h1 sp g W)
  (q:∀(A t:Option V)(G:List K3)(o:AT)(H':Hp),Ax H H'->H' d=A0 (.frz o (.dT (wK W)))->H' e=A0 (.dT (dK3 G))->(∀k,k∈G↔k∈W.map Prod.fst/\∃w∈W,lb l0 h0 l1 h1 sp w.1 0=A0 k\/lb l0 h0 l1 h1 sp w.1 1=A0 k)->Be l0 h0 l1 h1 sp H' W->D.nx [x0,A0 (.ref d),x2,x3,x4,A,x6,A0 (.ref e),t,x9] H'):
  tS C R4 D [x0,A0 (.ref d),x2,x3,x4,A,x6,A0 (.ref e),t,x9] g:=by
 unfold R4;symm;refine GW (.inl E) λo as a9 hat=>?_;have t1:Tp g (upd g d (.frz o (.dT (wK W)))):=tpo E λB z=>by cases z
 have Q:upd g d (.frz o (.dT (wK W))) d=A0 (.frz o (.dT (wK W))):=A_;have T:upd g d (.frz o (.dT (wK W))) e=A0 (.dT []):=by rw[Ay (λz=>Y z.symm)];exact a4
 have sH1:Ax H (upd g d (.frz o (.dT (wK W)))):=so hd sH;have S:Be l0 h0 l1 h1 sp (upd g d (.frz o (.dT (wK W)))) W:=λw hw=>(hI w hw).mono t1 λB z=>by
  rw[Ay];.exact z
  .rintro rfl;rw[E]at z;cases z
 have y:∀(i:Nat)a w,as[i]?=A0 a->W[i]?=A0 w->upd g d (.frz o (.dT (wK W))) a=A0 (.tup ((kK w.1).map L2.kV)):=λi a w h1 l=>t1 _ _ (hat i a (kK w.1,V.ref w.2) h1 (by unfold wK;rw[aj,l];rfl));have P:as.length=W.length:=by rw[a9];unfold wK;rw[ac]
 generalize upd g d (.frz o (.dT (wK W)))=H1 at t1 Q T sH1 S y⊢;refine P8 (λi σ H'=>(∃A t,σ=[x0,A0 (.ref d),x2,x3,x4,A,x6,A0 (.ref e),t,x9])/\Ax H H'/\Tp H1 H'/\H' d=A0 (.frz o (.dT (wK W)))/\Be l0 h0 l1 h1 sp H' W/\∃G:List K3,H' e=A0 (.dT (dK3 G))/\G.length<=2*i/\∀k,k∈G↔k∈W.map Prod.fst/\∃w∈W.take i,lb l0 h0 l1 h1 sp w.1 0=A0 k\/lb l0 h0 l1 h1 sp w.1 1=A0 k) ⟨⟨_,_,rfl⟩,sH1,λ_ _ z=>z,Q,S,[],T,ah _,λk=>by simp⟩ (λi σ H' pv=>⟨_,pv.2.2.2.1⟩) ?_ ?_
 .rintro i x σ H2 b⟨⟨A,t,rfl⟩,s2,t2,h,r,G,p,b1,hG⟩;rw[aj]at b;obtain⟨a,ha,rfl⟩:=aP.mp b;have hi:i<W.length:=by have:=BH ha;omega
  have hw:W[i]?=A0 W[i]:=ae hi;generalize W[i]=w at hw;have N:=ao hw;have a1:=t2 _ _ (y i a w ha hw);obtain⟨y0,y1,hp,o0,o1⟩:=r w N;symm;refine gT (.inr ⟨_,.inl p⟩) ?_;symm;refine⟨d,.ref w.2,rfl,.inr ⟨_,kK w.1,a,.inr ⟨o,h⟩,rfl,a1,((Cv hn).1 w.2 N).symm⟩,?_⟩;obtain⟨os,n⟩:∃os,os=[lb l0 h0 l1 h1 sp w.1 0,lb l0 h0 l1 h1 sp w.1 1]:=⟨_,rfl⟩;refine CB (SqL.of hp) (Cd (vs:=[y0,y1]) (λj B H'=>∃(L:PL),B=L.map (λx=>V.ref x.1)/\Ax H2 H'/\L.map (λx=>(x.2.1,x.2.2.2))=(cmW (W.map Prod.fst) (os.take j)).map (λk=>(kK k,V.bl A3))/\∀x∈L,H' x.1=A0 (.tup [.ref x.2.2.1,x.2.2.2])/\H' x.2.2.1=A0 (.tup (x.2.1.map L2.kV))) ⟨[],rfl,Ax.refl _,rfl,λx b=>absurd b av⟩ (λj B H' pv=>by obtain⟨L,_,s,_⟩:=pv;exact SqL.of (s _ _ hp)) ?_ ?_)
  .rintro j B U x R b⟨L,rfl,I,M,hT⟩hR;obtain⟨K,b2,a0⟩:∃K,os[j]?=A0 K/\OK3 H2 x K:=by
    rw[n];match j,b with
    |0,b=>cases b;exact⟨_,rfl,o0⟩
    |1,b=>cases b;exact⟨_,rfl,o1⟩
    |j+2,b=>cases b
   have hj:j<2:=BH b;have a5:L.length<=2:=by have h1:=congrArg cL M;rw[ac,ac]at h1;have l:=R1 (F:=W.map Prod.fst) (os:=os.take j);rw[aM]at l;omega
   have et:cmW (W.map Prod.fst) (os.take (j+1))=cmW (W.map Prod.fst) (os.take j)++cmW (W.map Prod.fst) [K]:=by unfold cmW;rw[aO,b2,List.filterMap_append];rfl
   symm;refine HZ hn hs (.inr ⟨o,I _ _ h⟩) (a0.mono (BG I)) ?_;cases hk:inK (W.map Prod.fst) K with
   |false=>symm;refine hR _ _ ⟨L,rfl,I,?_,hT⟩;rw[M,et,show cmW (W.map Prod.fst) [K]=[]by unfold cmW;rw[cK,hk];rfl,cZ]
   |true=>
    cases K with
    |none=>cases hk
    |some k=>
     obtain⟨kp,rfl,a3⟩:=a0.mono (BG I);symm;refine⟨by decide,λpp a7=>?_⟩;obtain⟨m,X⟩:=snw a7 (.tup [.ref kp,.bl A3]);generalize upd U pp _=H4 at m X⊢;refine⟨by rw[ac];exact BK ⋯,hR _ _ ⟨L++[(pp,kK k,kp,.bl A3)],by rw[aC];rfl,I.trans m,?_,λx b=>?_⟩⟩;.rw[aC,M,et,show cmW (W.map Prod.fst) [A0 k]=[k]by unfold cmW;rw[cK,if_pos hk];rfl,aC];rfl
     .rcases aL.mp b with z|z;.exact⟨m _ _ (hT x z).1,m _ _ (hT x z).2⟩
      .rw[aF.mp z];exact⟨X,m _ _ a3⟩
  .rintro B U⟨L,rfl,I,M,hT⟩pc a2;have ef:os.take [y0,y1].length=os:=by rw[n];rfl
   rw[ef]at M;obtain⟨m,X⟩:=snw a2 (.lst (L.map λx=>V.ref x.1));have f:=I.trans m;have Z:∀x∈L,upd U pc (.lst (L.map λx=>V.ref x.1)) x.1=A0 (.tup [.ref x.2.2.1,x.2.2.2])/\upd U pc (.lst (L.map λx=>V.ref x.1)) x.2.2.1=A0 (.tup (x.2.1.map L2.kV)):=λx b=>⟨m _ _ (hT x b).1,m _ _ (hT x b).2⟩;generalize upd U pc (.lst (L.map λx=>V.ref x.1))=H4 at m X f Z⊢;have a5:L.length<=2:=by
    have g1:=congrArg cL M;rw[ac,ac]at g1;have g2:=R1 (F:=W.map Prod.fst) (os:=os);have g3:os.length=2:=by rw[n];rfl
    omega
   have J:=f _ _ p;obtain⟨G',b0,a6,b3⟩:=Ha (G:=G) M;refine gU ⟨J,X,Z,by rw[Jz];exact bO (BK ⋯)⟩ ?_;rw[b0];have O:Tp H4 (upd H4 e (.dT (dK3 G'))):=tpo J λB z=>by cases z
   symm;refine⟨⟨_,_,rfl⟩,so he (s2.trans f),(t2.trans (BG f)).trans O,by rw[Ay Y];exact f _ _ h,λw' a8=>(r w' a8).mono ((BG f).trans O) λB z=>?_,G',A_,⋯,λk=>?_⟩
   .rw[Ay];.exact f _ _ z
    .rintro rfl;have:=f _ _ z;rw[J]at this;cases this
   .rw[a6,hG,iY,aO,hw,n];constructor
    .rintro(⟨h1,v,hv,l⟩|⟨h1,l⟩);.exact⟨h1,v,bq _ hv,l⟩
     .refine⟨h1,w,am _ (by simp),?_⟩;rcases ap.mp l with z|z;.exact .inl z.symm
      .exact .inr (aF.mp z).symm
    .rintro⟨h1,v,hv,l⟩;rcases aL.mp hv with z|z;.exact .inl ⟨h1,v,z,l⟩
     .have ev:v=w:=by simpa using z
      subst ev;refine .inr ⟨h1,?_⟩;rcases l with z|z;.exact ap.mpr (.inl z.symm)
      .exact ax _ (aF.mpr z.symm)
 .rintro σ H2⟨⟨A,t,rfl⟩,s2,t2,h,r,G,p,b1,hG⟩;rw[ac,P,aQ]at hG;exact q A t G o H2 s2 h p hG r
def R5:Ce:=.comp (.var 5) [5] (.name 5) (.dk (.var 1)) (.some (.and (.din A7 (.var 5) (.var 7)) (.or (.din A7 (.idx (.dix (.var 1) (.var 5)) (.int 0)) (.var 1)) (.din A7 (.idx (.dix (.var 1) (.var 5)) (.int 1)) (.var 1))))) .nil
def kpW(l0 h0 l1 h1:Nat)(sp:Option Nat)(W:WL):WL:=W.filter λw=>kp l0 h0 l1 h1 sp (W.map Prod.fst) w.1
theorem ia{l0 h0 l1 h1:Nat}{sp:Option Nat}{W:WL}:(kpW l0 h0 l1 h1 sp W).map Prod.fst=nxl l0 h0 l1 h1 sp (W.map Prod.fst):=by rw[QG,List.filter_map];rfl
theorem ib{C:Rc}{Q:VK}{H g:Hp}{d e:A4}{l0 h0 l1 h1:Nat}{sp:Option Nat}{W:WL}{G:List K3}{o0:AT}{x0 x2 x3 x4 x5 x6 x8 x9:Option V}(P:(W.map Prod.fst).Nodup)(hs:∀w∈W,C7 w.1)(hl:W.length<=300)(hd:H d=A6)(Z:d≠e)(sH:Ax H g)
  (r:g d=A0 (.frz o0 (.dT (wK W))))(T:g e=A0 (.dT (dK3 G)))(hI:Be l0 h0 l1 h1 sp g W)(hG:∀k,k∈G↔k∈W.map Prod.fst/\∃w∈W,lb l0 h0 l1 h1 sp w.1 0=A0 k\/lb l0 h0 l1 h1 sp w.1 1=A0 k)
  (q:∀(s:A4)(A:List (A4×K3×A4))(o:AT)(H':Hp),Ax H H'->H' d=A0 (.frz o (.dT (wK W)))->H' s=A0 (.lst (A.map λx=>V.ref x.1))->A.map (·.2)=kpW l0 h0 l1 h1 sp W->(∀x∈A,H' x.1=A0 (.tup ((kK x.2.1).map L2.kV)))->Be l0 h0 l1 h1 sp H' W->Q (.ref s) H'):
  tE C R5 [x0,A0 (.ref d),x2,x3,x4,x5,x6,A0 (.ref e),x8,x9] g Q:=by
 unfold R5;symm;refine GW (.inr ⟨o0,r⟩) λo as X hat=>?_;have O:Tp g (upd g d (.frz o (.dT (wK W)))):=tpo r λB z=>by cases z
 have f:upd g d (.frz o (.dT (wK W))) d=A0 (.frz o (.dT (wK W))):=A_;have L:upd g d (.frz o (.dT (wK W))) e=A0 (.dT (dK3 G)):=by rw[Ay (λz=>Z z.symm)];exact T
 have sH1:Ax H (upd g d (.frz o (.dT (wK W)))):=so hd sH;have y:Be l0 h0 l1 h1 sp (upd g d (.frz o (.dT (wK W)))) W:=λw hw=>(hI w hw).mono O λB z=>by
  rw[Ay];.exact z
  .rintro rfl;rw[r]at z;cases z
 have n:∀(i:Nat)a w,as[i]?=A0 a->W[i]?=A0 w->upd g d (.frz o (.dT (wK W))) a=A0 (.tup ((kK w.1).map L2.kV)):=λi a w h1 h2=>O _ _ (hat i a (kK w.1,V.ref w.2) h1 (by unfold wK;rw[aj,h2];rfl));have J:as.length=W.length:=by rw[X];unfold wK;rw[ac]
 generalize upd g d (.frz o (.dT (wK W)))=H1 at O f L sH1 y n⊢;refine P9 (λi B H'=>H'=H1/\∃A:List (A4×K3×A4),B=A.map (λx=>V.ref x.1)/\A.map (·.2)=(W.take i).filter (λw=>kp l0 h0 l1 h1 sp (W.map Prod.fst) w.1)/\∀x∈A,H1 x.1=A0 (.tup ((kK x.2.1).map L2.kV))) ⟨rfl,[],rfl,rfl,λx j=>absurd j av⟩ (λi B H' pv=>⟨.dT (wK W),by rw[pv.1];exact f⟩) ?_ ?_
 .rintro i B M x R j⟨rfl,A,rfl,D,hT⟩hR;rw[aj]at j;obtain⟨a,ha,rfl⟩:=aP.mp j;have hi:i<W.length:=by have:=BH ha;omega
  have hw:W[i]?=A0 W[i]:=ae hi;generalize W[i]=w at hw;have t:=ao hw;have p:=n i a w ha hw;obtain⟨y0,y1,hp,o0,o1⟩:=y w t;have a0:A.length<=300:=by have g1:=congrArg cL D;rw[ac]at g1;have g2:=bn (λw=>kp l0 h0 l1 h1 sp (W.map Prod.fst) w.1) (W.take i);rw[aM]at g2;omega
  have et:(W.take (i+1)).filter (λw=>kp l0 h0 l1 h1 sp (W.map Prod.fst) w.1)=(W.take i).filter (λw=>kp l0 h0 l1 h1 sp (W.map Prod.fst) w.1)++[w].filter (λw=>kp l0 h0 l1 h1 sp (W.map Prod.fst) w.1):=by rw[aO,hw,cU];rfl
  have Y:decide (w.1∈G)=(W.map Prod.fst).any λq=>decide (lb l0 h0 l1 h1 sp q 0=A0 w.1)||decide (lb l0 h0 l1 h1 sp q 1=A0 w.1):=by
   rw[cz,decide_eq_true_eq,br,hG];constructor;.rintro⟨_,v,S,h⟩;exact⟨v.1,ar.mpr ⟨v,S,rfl⟩,by rw[aX,decide_eq_true_eq,decide_eq_true_eq];exact h⟩
   .rintro⟨z,hz,h⟩;obtain⟨v,S,rfl⟩:=ar.mp hz;rw[aX,decide_eq_true_eq,decide_eq_true_eq]at h;exact⟨ar.mpr ⟨w,t,rfl⟩,v,S,h⟩
  have b:kp l0 h0 l1 h1 sp (W.map Prod.fst) w.1=A3->R (A.map (λx=>V.ref x.1)++[V.ref a]) M:=λh=>hR _ _ ⟨rfl,A++[(a,w)],by rw[aC];rfl,by rw[aC,D,et,bM,if_pos h];rfl,λx j=>by
   rcases aL.mp j with z|z;.exact hT x z
   .rw[aF.mp z];exact p⟩;have m:kp l0 h0 l1 h1 sp (W.map Prod.fst) w.1=A7->R (A.map (λx=>V.ref x.1)) M:=λh=>hR _ _ ⟨rfl,A,rfl,by rw[D,et,bM,if_neg (by rw[h];decide)];simp,hT⟩;unfold kp at b m;rw[<-Y]at b m;have l:Bn M d (.ref a) (A0 (.ref w.2)):=.inr ⟨_,kK w.1,a,.inr ⟨o,f⟩,rfl,p,((Cv P).1 w.2 t).symm⟩;symm;refine Jl (.inr ⟨_,kK w.1,a,.inl L,rfl,p,rfl⟩) ?_;rw[Gy];by_cases N:w.1∈G
  .rw[if_pos N];rw[decide_eq_true N]at b m;simp only[ba,if_false,Option.isSome_some];symm;refine⟨d,.ref w.2,rfl,l,?_⟩;refine BV (SqL.of hp) (v:=y0) rfl ?_;symm;refine HZ P hs (.inr ⟨o,f⟩) o0 ?_;cases I:inK (W.map Prod.fst) (lb l0 h0 l1 h1 sp w.1 0)with
   |true=>rw[I]at b;symm;exact⟨by rw[ac];exact BK ⋯,b rfl⟩
   |false=>
    rw[I]at b m;symm;refine⟨d,.ref w.2,rfl,l,?_⟩;refine BV (SqL.of hp) (v:=y1) rfl ?_;symm;refine HZ P hs (.inr ⟨o,f⟩) o1 ?_;cases E:inK (W.map Prod.fst) (lb l0 h0 l1 h1 sp w.1 1)with
    |true=>rw[E]at b;symm;exact⟨by rw[ac];exact BK ⋯,b rfl⟩
    |false=>rw[E]at m;symm;exact m rfl
  .rw[if_neg N];rw[decide_eq_false N]at m;simp only[ba,if_false,Option.isSome_none];symm;exact m rfl
 .rintro B M⟨rfl,A,rfl,D,hT⟩p3 U;have K:=BB U (.lst (A.map λx=>V.ref x.1));rw[ac,J,aQ]at D;exact q p3 A o _ (sH1.trans K) (K _ _ f) A_ D (λx j=>K _ _ (hT x j)) λw hw=>(y w hw).mono (BG K) λB z=>K _ _ z
theorem R6:∀{L:PL}{a W:WL},L.map (λx=>(x.2.1,x.2.2.2))=W.map (λw=>(kK w.1,V.ref w.2))->((a++W).map Prod.fst).Nodup->L.foldl (λf x=>BX f x.2.1 x.2.2.2) (wK a)=wK (a++W)
 | [],a,W,h,_=>by
  have:W=[]:=by cases W with
   |nil=>rfl
   |cons _ _=>cases h
  subst this;rw[cZ];rfl
 |x::L,a,W,h,d=>by
  cases W with
  |nil=>cases h
  |cons w W=>
   rw[aK,aK]at h;injection h with g i;have b:w.1∉a.map Prod.fst:=λz=>by rw[aC,aK]at d;exact(List.nodup_append.mp d).2.2 w.1 z w.1 ay rfl
   rw[List.foldl_cons,show x.2.1=kK w.1 from congrArg Prod.fst g,show x.2.2.2=V.ref w.2 from congrArg Prod.snd g,Qy b];have e:a++w::W=(a++[(w.1,w.2)])++W:=by rw[bc];rfl
   rw[e]at d⊢;exact R6 i d
def R7:Ce:=.cal .dct (.comp (.tup (.cons (.var 5) (.cons (.dix (.var 1) (.var 5)) .nil))) [5] (.name 5) (.val (.var 9)) .none .nil)
theorem ic{C:Rc}{Q:VK}{H h:Hp}{d s:A4}{l0 h0 l1 h1:Nat}{sp:Option Nat}{W:WL}{A:List (A4×K3×A4)}{o:AT}{Z x2 x3 x4 x5 x6 Y x8:Option V}(P:(W.map Prod.fst).Nodup)(hl:W.length<=300)(T:Ax H h)
  (M:h d=A0 (.frz o (.dT (wK W))))(l:h s=A0 (.lst (A.map λx=>V.ref x.1)))(N:A.map (·.2)=kpW l0 h0 l1 h1 sp W)(hT:∀x∈A,h x.1=A0 (.tup ((kK x.2.1).map L2.kV)))(X:Be l0 h0 l1 h1 sp h W)
  (q:∀(p:A4)(H':Hp),H p=A6->Ax H H'->H' p=A0 (.dT (wK (kpW l0 h0 l1 h1 sp W)))->Be l0 h0 l1 h1 sp H' (kpW l0 h0 l1 h1 sp W)->Q (.ref p) H'):
  tE C R7 [Z,A0 (.ref d),x2,x3,x4,x5,x6,Y,x8,A0 (.ref s)] h Q:=by
 unfold R7;have g:∀w∈kpW l0 h0 l1 h1 sp W,w∈W:=λw hw=>(aH.mp hw).1;have O:∀x∈A,x.2∈W:=λx e=>g _ (by rw[<-N];exact ar.mpr ⟨x,e,rfl⟩);have a0:A.length<=300:=by have E:=congrArg cL N;rw[ac]at E;have g2:=bn (λw=>kp l0 h0 l1 h1 sp (W.map Prod.fst) w.1) W;unfold kpW at E;omega
 rw[Pc];symm;refine CB (SqL.of l) (Cd (vs:=A.map λx=>V.ref x.1) (λi y H'=>i<=A.length/\Ax h H'/\∃L:PL,y=L.map (λx=>V.ref x.1)/\L.map (λx=>(x.2.1,x.2.2.2))=(A.take i).map (λx=>(kK x.2.1,V.ref x.2.2))/\∀x∈L,H' x.1=A0 (.tup [.ref x.2.2.1,x.2.2.2])/\H' x.2.2.1=A0 (.tup (x.2.1.map L2.kV))) ⟨aJ _,Ax.refl _,[],rfl,rfl,λx e=>absurd e av⟩ (λi y H' pv=>SqL.of (pv.2.1 _ _ l)) ?_ ?_)
 .rintro i y t x R e⟨_,m,L,rfl,B,a⟩hR;rw[aj]at e;obtain⟨w,hw,rfl⟩:=aP.mp e;have hi:=BH hw;have v:=ao hw;have j:=m _ _ (hT w v);have a1:L.length<=300:=by have E:=congrArg cL B;rw[ac,ac,aM]at E;omega
  symm;refine⟨d,.ref w.2.2,rfl,.inr ⟨_,kK w.2.1,w.1,.inr ⟨o,m _ _ M⟩,rfl,j,((Cv P).1 w.2.2 (O w v)).symm⟩,?_⟩;symm;refine⟨by decide,λU I=>?_⟩;obtain⟨f,r⟩:=snw I (.tup [.ref w.1,.ref w.2.2]);generalize upd t U _=H2 at f r⊢;refine⟨by rw[ac];exact BK ⋯,hR _ _ ⟨hi,m.trans f,L++[(U,kK w.2.1,w.1,.ref w.2.2)],by rw[aC];rfl,?_,λx e=>?_⟩⟩;.rw[aC,B,aO,hw,aC];rfl
  .rcases aL.mp e with z|z;.exact⟨f _ _ (a x z).1,f _ _ (a x z).2⟩
   .rw[aF.mp z];exact⟨r,f _ _ j⟩
 .rintro y t⟨_,m,L,rfl,B,a⟩D G;rw[ac,aQ]at B;obtain⟨f,r⟩:=snw G (.lst (L.map λx=>V.ref x.1));have b:=m.trans f;have n:∀x∈L,upd t D (.lst (L.map λx=>V.ref x.1)) x.1=A0 (.tup [.ref x.2.2.1,x.2.2.2])/\upd t D (.lst (L.map λx=>V.ref x.1)) x.2.2.1=A0 (.tup (x.2.1.map L2.kV)):=λx e=>⟨f _ _ (a x e).1,f _ _ (a x e).2⟩;generalize upd t D (.lst (L.map λx=>V.ref x.1))=H2 at f r b n⊢;refine⟨D,L,rfl,r,n,λp S=>?_⟩;have ep:Cn L=wK (kpW l0 h0 l1 h1 sp W):=by
   have e1:L.map (λx=>(x.2.1,x.2.2.2))=(kpW l0 h0 l1 h1 sp W).map (λw=>(kK w.1,V.ref w.2)):=by rw[B,<-N,aU];rfl
   have J:(([]++kpW l0 h0 l1 h1 sp W:WL).map Prod.fst).Nodup:=by rw[List.nil_append];exact P.sublist ((db).map Prod.fst)
   exact R6 (a:=[]) e1 J
  rw[ep];have K:=BB S (.dT (wK (kpW l0 h0 l1 h1 sp W)));exact q p _ ((T.trans b).free S) (T.trans (b.trans K)) A_ λw hw=>(X w (g w hw)).mono (BG (b.trans K)) λy z=>(b.trans K) _ _ z
def FR:Sp:=λh H Q _=>∃(bd:A4)(g a e b:Nat)(f:Option Nat),h=[.ref bd]/\IsB H bd g a e b f/\1<=a/\1<=b/\∀(p:A4)(W:WL)(d:Hp),H p=A6->Ax H d->d p=A0 (.dT (wK W))->Lsd g a e b f (W.map Prod.fst)->Be g a e b f d W->Q (.ref p) d
theorem R8{W:WL}:(wK W).length=W.length:=by unfold wK;rw[ac]
theorem ie{C:Rc}(hN:C.N.length=10)(hS:C.fs "_law_step"=A0 Dx):∀Z H Q E,FR Z H Q E->tSs C HM {nx:=λ_ v=>Q .non v,rt:=Q} (L2.BJ C.N Z) H:=by
 intro Z H Q E h;obtain⟨bd,l0,h0,l1,h1,sp,rfl,f,a0,a1,q⟩:=h;have b4:=ER (ES (sp:=sp)) (h0:=h0) (h1:=h1);have b9:=(DA f.bs f.b0 f.b1).1;have a3:=(DA f.bs f.b0 f.b1).2;rw[Bb hN];unfold HM;refine Cu λN0 b5=>?_;rw[D7,Ji];intro d i;obtain⟨s1,e1⟩:=snw i (.dT []);generalize upd H d _=H1 at s1 e1⊢;refine b5 _ _ ?_;refine Cu λN1 b6=>?_;refine iV (l0:=l0) (l1:=l1) hS f i s1 e1 λR L P y W0 H2 s2 e2 l a6=>b6 _ _ ?_;symm;refine Ou (λm σ v=>∃(d:A4)(W:WL)(R L P y x7 X x9:Option V)(z:Int),σ=[A0 (.ref bd),A0 (.ref d),R,L,P,y,A0 (.int z),x7,X,x9]/\H d=A6/\Ax H v/\v d=A0 (.dT (wK W))/\Be l0 h0 l1 h1 sp v W/\(W.map Prod.fst).Sublist (rk (lvs sp) h0 h1)/\Cov l0 h0 l1 h1 sp (W.map Prod.fst)/\((z=-1/\m=1000)\/∃G:List K3,W.map Prod.fst=nxl l0 h0 l1 h1 sp G/\z=(G.length:Int)/\m=G.length)) 1000 ⟨d,W0,R,L,P,y,_,_,_,_,rfl,i,s2,e2,a6,by rw[l];exact List.Sublist.refl _,λS hS r hr k hk=>by rw[l];exact ao hk,.inl ⟨rfl,rfl⟩⟩ ?_;rintro m σ H3⟨d,W,R,L,P,y,x7,X,x9,z,rfl,i,s3,t,K,a,b,hz⟩;have a7:=a.length_le;rw[ac]at a7;have j:=a.nodup b4;have x:∀w∈W,C7 w.1:=λw hw=>a3 _ (a.subset (ar.mpr ⟨w,hw,rfl⟩));symm;refine Jm (.inl t) ?_;rw[R8];symm;rw[show(!decide (z=(W.length:Int)))=decide (¬z=(W.length:Int))by simp];refine Bu (λhc=>Ov ?_) λhc=>Ow ?_
 .refine Cu λN3 a8=>?_;symm;refine Jm (.inl t) ?_;rw[R8];symm;refine a8 _ _ ?_;refine Cu λN4 b3=>?_;rw[D7,Ji];intro e O;obtain⟨B,e4⟩:=snw O (.dT []);have D:d≠e:=by rintro rfl;rw[t]at O;cases O
  have f4:=s3.free O;have I:=s3.trans B;have n:=B _ _ t;have J:Be l0 h0 l1 h1 sp (upd H3 e (.dT [])) W:=λw hw=>(K w hw).mono (BG B) λxs z=>B _ _ z;generalize upd H3 e _=H4 at B e4 I n J⊢;refine b3 _ _ ?_;refine Cu λN5 Y=>?_;refine iZ j x ⋯ i f4 D I n e4 J λy X G o H5 s5 a9 b2 U a2=>Y _ _ ?_;refine Cu λN6 a5=>?_;rw[D7];refine ib j x ⋯ i D s5 a9 b2 a2 U λs A o' H6 s6 b8 T hA hT a4=>?_;symm;refine a5 _ _ ?_;rw[OW,D7];refine ic j ⋯ s6 b8 T hA hT a4 λp H7 hp s7 e7 b7=>?_;symm;have hf:=ia (l0:=l0) (h0:=h0) (l1:=l1) (h1:=h1) (sp:=sp) (W:=W);refine⟨W.length,?_,p,kpW l0 h0 l1 h1 sp W,_,_,_,_,_,_,_,_,rfl,hp,s7,e7,b7,by rw[hf];exact(db).trans a,by rw[hf];exact b.nx a0 a1,.inr ⟨W.map Prod.fst,hf,by rw[ac],by rw[ac]⟩⟩;have g:(W.map Prod.fst).length=W.length:=ac _;rcases hz with⟨_,rfl⟩|⟨G,M,rfl,rfl⟩;.omega
  .have:=bn (kp l0 h0 l1 h1 sp G) G;rw[<-QG,<-M,g]at this;omega
 .symm;rcases hz with⟨rfl,_⟩|⟨G,M,rfl,_⟩;.omega
  .have g:(W.map Prod.fst).length=W.length:=ac _;rw[M]at g;have e:nxl l0 h0 l1 h1 sp G=G:=Q5 (show G.length<=(nxl l0 h0 l1 h1 sp G).length by omega);refine q d W H3 i s3 t ⟨a,?_,b⟩ K;rw[M,e,e]
def FS:Sp:=λa H Q _=>∃c:Sg,a=[.str (qx [c])]/\Q (.str (tx (B8 c))) H
theorem ig{C:Rc}(b:C.N.length=1):∀a H Q E,FS a H Q E->tSs C HQ {nx:=λ_ d=>Q .non d,rt:=Q} (L2.BJ C.N a) H:=by
 intro a H Q E h;obtain⟨c,rfl,q⟩:=h;rw[Bb b];unfold HQ;symm;rw[K7];rcases c with _|c;.rw[decide_eq_true rfl];symm;exact q
 .rw[decide_eq_false λz=>by cases iK z];symm;exact q
theorem Dy{c:Nat}{H H':Hp}{D:A4}{a:List (List Key×V)}(g:Go c H H')(h:Rd H D (.dT a)):Rd H' D (.dT a):=by
 rcases h with h|⟨o,h⟩;.exact .inl (g.oth D _ h λ_ z=>by cases z)
 .exact .inr ⟨o,g.oth D _ h λ_ z=>by cases z⟩
theorem FT{l0 h0 l1 h1:Nat}{sp:Option Nat}{c:Nat}{H H':Hp}{W:WL}(g:Go c H H')(h:Be l0 h0 l1 h1 sp H W):Be l0 h0 l1 h1 sp H' W:=λw hw=>(h w hw).mono (λ_ _ e=>g.tup e) λa z=>g.lst z
def DZ:Sp:=λj H Q _=>∃(b D:A4)(n i d e g:Nat)(f:Option Nat)(W:WL)(N:Nat),j=[.ref b,.ref D,.int N]/\H b=A0 (Bh b n)/\n<=2^39/\Rd H D (.dT (wK W))/\Lsd i d e g f (W.map Prod.fst)/\(∀w∈W,C7 w.1)/\W.length<=300/\Be i d e g f H W/\N<=500/\∀(a:List Bool)(h:Hp),a.length<=N->Go (N+1) H h->Q (.str (tx a)) h
theorem ii{C:Rc}(hN:C.N.length=9)(hT:C.fs "_law_take"=A0 C0):∀vs H Q E,DZ vs H Q E->tSs C HN {nx:=λ_ H'=>Q .non H',rt:=Q} (L2.BJ C.N vs) H:=by
 intro vs H Q E h;obtain⟨b,D,n,Y,O,T,B,U,W,N,rfl,hb,hn,hD,hL,c0,d2,hI,d0,q⟩:=h;have a0:=K05.HD hL;rw[Bb hN];unfold HN;symm;refine gM (n:=2) hD (λkv c8=>?_) λl qs hl Z hat=>?_;.obtain⟨w,_,rfl⟩:=ar.mp c8;exact⟨BD.kI w.1,rfl,rfl⟩
 have eu:(wK W).map (λkv=>unK kv.1)=W.map λw=>BD.kI w.1:=by unfold wK;rw[aU];rfl
 rw[eu]at Z;have P:∀a∈qs.map (·.2),∃w∈W,H a=A0 (.tup ((kK w.1).map L2.kV)):=λa ha=>by obtain⟨q,hq,rfl⟩:=ar.mp ha;obtain⟨w,hw,e⟩:=ar.mp (Z.mem_iff.mp (ar.mpr ⟨q,hq,rfl⟩));have:=hat q hq;rw[<-e]at this;exact⟨w,hw,this⟩
 have has:(qs.map (·.2)).length=W.length:=by have:=Z.length_eq;rw[ac,ac]at this;rw[ac];exact this
 rw[show(qs.map λq=>V.ref q.2)=(qs.map (·.2)).map V.ref by rw[aU];rfl];generalize qs.map (·.2)=m at has P⊢;clear hat Z;obtain⟨s1,e1⟩:=snw hl (.lst (m.map V.ref));have M:∀a∈m,∃w∈W,upd H l (.lst (m.map V.ref)) a=A0 (.tup ((kK w.1).map L2.kV)):=λa ha=>let⟨w,hw,e⟩:=P a ha;⟨w,hw,s1 _ _ e⟩;have g1:Go 0 H (upd H l (.lst (m.map V.ref))):=Go.of_same s1;generalize upd H l (.lst (m.map V.ref))=H1 at e1 g1 M⊢;symm;refine⟨by decide,λp2 c6=>?_⟩;obtain⟨s2,e2⟩:=snw c6 (.lst []);have g2:Go 0 H (upd H1 p2 (.lst [])):=(g1.trans (Go.of_same (c:=0) s2)).mono ⋯;have A:=s2 _ _ e1;have J:∀a∈m,∃w∈W,upd H1 p2 (.lst []) a=A0 (.tup ((kK w.1).map L2.kV)):=λa ha=>let⟨w,hw,e⟩:=M a ha;⟨w,hw,s2 _ _ e⟩;generalize upd H1 p2 (.lst [])=H2 at e2 g2 A J⊢;refine ey (SqL.of A) (SqL.of e2) (λL=>?_) ?_;.have:m.map V.ref=[]:=cn.mp L;rw[this];intro i x y B;cases B
 cases hW:W with
 |nil=>have:m=[]:=cn.mp (by rw[has,hW];rfl);subst this;rw[show decide ((([]:List A4).map V.ref)=[])=A3 from decide_eq_true rfl];symm;exact q [] _ (aJ _) (g2.mono ⋯)
 |cons w0 W'=>
  have d1:1<=W.length:=by rw[hW];exact Nat.le_add_left ..
  rw[show decide (m.map V.ref=[])=A7 from decide_eq_false λz=>by have:=congrArg cL z;rw[ac,has]at this;have O:([]:List V).length=0:=rfl;omega];symm;refine B6 hT ?_;symm;refine EN (SqL.of A) ?_;rw[ac,has];symm;refine CU hb g2 ⋯ ⋯ ⋯ λr0 H3 c7 d3 g3 c5=>?_;obtain⟨r,rfl⟩:=aZ c7;have hr:r<m.length:=by omega
  refine BV (SqL.of (g3.lst A)) (v:=.ref m[r]) (Db (by rw[aj,ae hr];rfl)) ?_;obtain⟨wr,b9,g⟩:=J m[r] (bQ hr);have g:=g3.tup g;generalize m[r]=st0 at g;symm;refine Ey ⋯ ⋯ ?_;rw[bg];refine Ez (λi σ H'=>(∃(o:List Bool)(X:A4)(w:K3×A4)(x6 x7 x8:Option V),σ=[A0 (.ref b),A0 (.ref D),A0 (.int N),A0 (.ref l),A0 (.str (tx o)),A0 (.ref X),x6,x7,x8]/\o.length=i/\w∈W/\H' X=A0 (.tup ((kK w.1).map L2.kV)))/\Go (1+i) H H') ⟨⟨[],st0,wr,_,_,_,rfl,rfl,b9,g⟩,c5.mono ⋯⟩ ?_ ?_
  .rintro i σ H4 hi⟨⟨o,X,w,x6,x7,x8,rfl,K,hw,a9⟩,g4⟩;symm;refine⟨by decide,λpt c1=>?_⟩;obtain⟨s5,e5⟩:=snw c1 (.tup [.int 0,.int 1]);have g5:=(g4.trans (Go.of_same (c:=0) s5)).mono (c:=1+i+0) (d:=1+i) ⋯;have s:=s5 _ _ a9;generalize upd H4 pt _=H5 at s5 e5 g5 s⊢;have a6:=Dy g5 hD;have b5:=FT g5 hI;obtain⟨y0,y1,Z,o0,o1⟩:=b5 w hw;have a2:Bn H5 D (.ref X) (A0 (.ref w.2)):=.inr ⟨_,kK w.1,X,a6,rfl,s,((Cv a0).1 w.2 hw).symm⟩;have oc:∀c:Bool,OK3 H5 (if c then y1 else y0) (lb Y O T B U w.1 (if c then 1 else 0)):=λc=>by cases c;exact o0;exact o1
   have a1:∀c:Bool,atI [y0,y1] (if c then(1:Int)else 0)=A0 (if c then y1 else y0):=λc=>by cases c<;>rfl
   obtain⟨f,G⟩:∃f:Bool->Bool,f=λc=>inK (W.map Prod.fst) (lb Y O T B U w.1 (if c then 1 else 0)):=⟨_,rfl⟩;refine Ex (SqT.of e5) (eO (vs:=[.int 0,.int 1]) (λj ys H'=>ys=(([A7,A3].take j).filter f).map (λc:Bool=>V.int (if c then 1 else 0))/\H'=H5) ⟨rfl,rfl⟩ (λj ys H' pv=>SqT.of (by rw[pv.2];exact e5)) ?_ ?_)
   .rintro j ys H6 v R S⟨rfl,rfl⟩hR;obtain⟨c,p,rfl⟩:∃c:Bool,[A7,A3][j]?=A0 c/\v=V.int (if c then 1 else 0):=by
     match j,S with
     |0,S=>cases S;exact⟨A7,rfl,rfl⟩
     |1,S=>cases S;exact⟨A3,rfl,rfl⟩
     |j+2,S=>cases S
    have hj:j<2:=BH p;have et:([A7,A3].take (j+1)).filter f=([A7,A3].take j).filter f++[c].filter f:=by rw[aO,p,cU];rfl
    have L:(([A7,A3].take j).filter f).length<=2:=aN (bn ..) (by rw[aM];exact Nat.min_le_right ..);symm;refine⟨D,.ref w.2,rfl,a2,?_⟩;symm;refine BV (SqL.of Z) (a1 c) ?_;symm;refine HZ a0 c0 a6 (oc c) ?_;have hf:inK (W.map Prod.fst) (lb Y O T B U w.1 (if c then 1 else 0))=f c:=by rw[G]
    rw[hf];cases a4:f c with
    |true=>symm;exact⟨by rw[ac];exact BK ⋯,hR _ _ ⟨by rw[et,bM,if_pos a4,aC];rfl,rfl⟩⟩
    |false=>symm;exact hR _ _ ⟨by rw[et,bM,if_neg (by rw[a4];decide)];simp,rfl⟩
   .rintro ys H6⟨rfl,rfl⟩p7 b4;have b7:∀c:Bool,f c=A3->∃k',lb Y O T B U w.1 (if c then 1 else 0)=A0 k'/\k'∈W.map Prod.fst:=λc p=>by
     rw[G]at p;have p:inK (W.map Prod.fst) (lb Y O T B U w.1 (if c then 1 else 0))=A3:=p;cases e:lb Y O T B U w.1 (if c then 1 else 0)with
     |none=>rw[e]at p;cases p
     |some k'=>rw[e]at p;exact⟨k',rfl,of_decide_eq_true p⟩
    have a3:[A7,A3].filter f≠[]:=λz=>by
     have hk:w.1∈nxl Y O T B U (W.map Prod.fst):=by rw[hL.fix];exact ar.mpr ⟨w,hw,rfl⟩
     have h2:=(aH.mp hk).2;rw[ai,aX]at h2;rcases h2.2 with h3|h3;.have:A7∈[A7,A3].filter f:=aH.mpr ⟨by decide,by rw[G];exact h3⟩;rw[z]at this;cases this
     .have:A3∈[A7,A3].filter f:=aH.mpr ⟨by decide,by rw[G];exact h3⟩;rw[z]at this;cases this
    have I:∀c∈[A7,A3].filter f,f c=A3:=λc p=>(aH.mp p).2;rw[show([A7,A3].take [V.int 0,V.int 1].length)=[A7,A3]from rfl];have b0:([A7,A3].filter f).length<=2:=bn ..;generalize [A7,A3].filter f=fs at a3 I b0;have d4:1<=fs.length:=List.length_pos_iff.mpr a3;obtain⟨s7,e7⟩:=snw b4 (.lst (fs.map λc:Bool=>V.int (if c then 1 else 0)));have g7:=(g5.trans (Go.of_same (c:=0) s7)).mono (d:=1+i) ⋯;generalize upd H6 p7 _=H7 at s7 e7 g7⊢;symm;refine B6 hT ?_;symm;refine EN (SqL.of e7) ?_;rw[ac];symm;refine CU hb g7 ⋯ ⋯ ⋯ λt0 H8 c2 c9 g8 a8=>?_;obtain⟨t,rfl⟩:=aZ c2;have ht:t<fs.length:=by omega
    refine BV (SqL.of (g8.lst e7)) (v:=V.int (if fs[t]then 1 else 0)) (Db (by rw[aj,ae ht];rfl)) ?_;have a7:=I _ (bQ ht);generalize fs[t]=c at a7;obtain⟨k',ek,b2⟩:=b7 c a7;have a5:=(oc c).mono (H':=H8) (λ_ _ e=>g8.tup (s7 _ _ e));rw[ek]at a5;obtain⟨p',c3,b8⟩:=a5;have b3:=Dy a8 hD;have b1:=g8.tup (s7 _ _ s);have b6:=g8.lst (s7 _ _ Z);symm;refine Jg (l:=[A7,A3]) (c:=c) (by decide) (by cases c<;>rfl) ?_;symm;refine⟨DB ⋯,?_⟩;refine⟨D,.ref w.2,rfl,.inr ⟨_,kK w.1,X,b3,rfl,b1,((Cv a0).1 w.2 hw).symm⟩,?_⟩;symm;refine BV (SqL.of b6) (a1 c) ?_;rw[c3];symm;obtain⟨w',c4,e'⟩:=ar.mp b2;exact⟨⟨o++[c],p',w',_,_,_,rfl,by rw[aB,K];rfl,c4,by rw[e'];exact b8⟩,a8.mono ⋯⟩
  .rintro σ H4⟨⟨o,X,w,x6,x7,x8,rfl,K,hw,a9⟩,g4⟩;symm;exact q o _ ⋯ (g4.mono ⋯)
theorem Hb{K:W.Frag}{H:Hp}{Q:VK}{x y:List Sg}:Br K .Add (.str (qx x)) (.str (qx y)) H Q=(x.length+y.length<=A9/\Q (.str (qx (x++y))) H):=by rw[OV,DE,DE,K6]
theorem Kf{c:Bool}:tx [c]=qx [A0 c]:=(Dv (l:=[c])).symm
def FU:Sp:=λj H Q _=>∃(b D:A4)(n i a d f:Nat)(e:Option Nat)(W:WL)(N:Nat),j=[.ref b,.ref D,.int N]/\H b=A0 (Bh b n)/\n<=2^38/\Rd H D (.dT (wK W))/\Lsd i a d f e (W.map Prod.fst)/\(∀w∈W,C7 w.1)/\W.length<=300/\Be i a d f e H W/\N<=500/\∀(g:List Sg)(h:Hp),g.length<=N->Go (2*N+10) H h->Q (.str (qx g)) h
theorem ij{C:Rc}(hN:C.N.length=8)(hT:C.fs "_law_take"=A0 C0)(hK:C.fs "_law_kept_row"=A0 DZ)(a2:C.fs "_law_bits"=A0 FB):∀O H Q E,FU O H Q E->tSs C HP {nx:=λ_ U=>Q .non U,rt:=Q} (L2.BJ C.N O) H:=by
 intro O H Q E h;obtain⟨b,D,n,l0,h0,l1,h1,sp,W,N,rfl,m,hn,hD,hL,Y,X,hI,w,q⟩:=h;rw[Bb hN];unfold HP;refine Cu λN1 a5=>?_;symm;refine B6 hT ?_;symm;refine CU m (Go.refl (c:=0)) ⋯ (by decide) (by decide) λr1 H1 b8 b7 g1 r=>?_;obtain⟨n1,x,b1,_⟩:=r.boxed m ⋯;have a4:=Dy g1 hD;have y:∀(e:List Bool)j,e.length<=N->Go (N+2) H j->N1 [A0 (.ref b),A0 (.ref D),A0 (.int N),A0 (.str (tx e)),A6,A6,A6,A6] j:=by
  intro e j f v;refine a5 _ _ ?_;symm;refine⟨by decide,λp hp=>?_⟩;obtain⟨s3,e3⟩:=snw hp (.lst [.int 1,.int 2,.int 2,.int 3,.int 5]);have g3:=(v.trans (Go.of_same (c:=0) s3)).mono (d:=N+2) ⋯;generalize upd j p _=H3 at s3 e3 g3⊢;symm;refine B6 hT ?_;symm;refine CU m g3 ⋯ (by decide) (by decide) λs H4 a8 a9 R g4=>?_;obtain⟨o,ho,b3,c1⟩:∃o:Int,atI [V.int 1,.int 2,.int 2,.int 3,.int 5] s=A0 (.int o)/\1<=o/\o<=5:=by
   rcases(by omega:s=0\/s=1\/s=2\/s=3\/s=4)with rfl|rfl|rfl|rfl|rfl;.exact⟨1,rfl,by decide,by decide⟩
   .exact⟨2,rfl,by decide,by decide⟩
   .exact⟨2,rfl,by decide,by decide⟩
   .exact⟨3,rfl,by decide,by decide⟩
   .exact⟨5,rfl,by decide,by decide⟩
  refine BV (SqL.of (R.lst e3)) ho ?_;symm;refine Ew (Ot (l:=e) (λi T U=>(∃(a:List Sg)(M:Option V),T=[A0 (.ref b),A0 (.ref D),A0 (.int N),A0 (.str (tx e)),A0 (.int o),A0 (.str (qx a)),M,A6]/\a.length=i)/\Go (N+3+i) H U) ⟨⟨[],_,rfl,rfl⟩,g4.mono ⋯⟩ ?_ ?_)
  .rintro i c T H5 hc⟨⟨a,M,rfl,G⟩,J⟩;have hi:=BH hc;symm;refine B6 hT ?_;symm;refine CU m J ⋯ ⋯ ⋯ λr6 H6 a0 a3 P I=>?_;have g:∀(d:Sg),Go (N+3+(i+1)) H H6/\(a++[d]).length=i+1:=λd=>⟨I.mono ⋯,by rw[aB,G];rfl⟩;symm;refine Bu (λB=>?_) λB=>?_;.symm;rw[Kf,Hb];refine⟨DB (by rw[bx];omega),?_⟩;symm;exact⟨⟨a++[A0 c],_,rfl,(g (A0 c)).2⟩,(g (A0 c)).1⟩
   .symm;rw[K7,Hb];refine⟨DB (by rw[bx];omega),?_⟩;symm;exact⟨⟨a++[A6],_,rfl,(g A6).2⟩,(g A6).1⟩
  .rintro T H5⟨⟨a,M,rfl,G⟩,J⟩;have A:a.length<=N:=by omega
   symm;refine HX ⋯ ?_;symm;refine Bu (λB=>?_) λB=>?_
   .symm;refine B6 hT ?_;symm;refine CU m J ⋯ (by decide) (by decide) λr6 H6 a0 a3 P I=>?_;symm;refine Bu (λK=>?_) λK=>?_
    .symm;refine B6 hT ?_;symm;refine HX ⋯ ?_;symm;refine CU m I ⋯ ⋯ ⋯ λr7 H7 a1 b2 a7 g7=>?_;obtain⟨t,rfl⟩:=aZ a1;symm;refine iO (DB ⋯) ⋯ ?_;symm;refine B6 hT ?_;symm;refine CU m g7 ⋯ (by decide) (by decide) λZ H8 b9 b5 b4 g8=>?_;obtain⟨L,a6⟩:∃L,atI [A7,A3] Z=A0 L:=by
      rcases(by omega:Z=0\/Z=1)with rfl|rfl;.exact⟨A7,rfl⟩
      .exact⟨A3,rfl⟩
     symm;refine Jg (by decide) a6 ?_;symm;have S:(a.take t).length=t:=by rw[aM];omega
     rw[Kf,Hb];refine⟨DB (by rw[bx];omega),?_⟩;symm;rw[show(t:Int)+1=((t+1:Nat):Int)by omega];refine iP (DB ⋯) ⋯ ?_;have b0:(a.drop (t+1)).length=a.length-(t+1):=List.length_drop;have b6:(a.take t++[A0 L]).length=t+1:=by rw[aB,S];rfl
     symm;rw[Hb];refine⟨DB ⋯,?_⟩;symm;exact q _ _ (by rw[aB];omega) (g8.mono ⋯)
    .symm;exact q _ _ A (I.mono ⋯)
   .symm;exact q _ _ A (J.mono ⋯)
 symm;refine Bu (λB=>?_) λB=>?_;.symm;refine B6 hK ?_;symm;refine⟨b,D,n1,l0,h0,l1,h1,sp,W,N,rfl,x,⋯,a4,hL,Y,X,FT g1 hI,w,λe j f v=>?_⟩;symm;exact y e j f ((r.trans v).mono ⋯)
 .symm;refine B6 a2 ?_;symm;refine⟨b,n1,N,rfl,x,⋯,w,λe j f v=>?_⟩;symm;exact y e j ⋯ ((r.trans v).mono ⋯)
def SmL(H:Hp)(l:A4)(F:List K3)(A:List (A4×K3)):Prop:=H l=A0 (.lst (A.map λx=>V.ref x.1))/\(∀x∈A,x.2∈F/\H x.1=A0 (.tup ((kK x.2).map L2.kV)))/\A.length<=300
theorem R9{H:Hp}{Q:VK}{D:A4}{G:List K3}{x:V}{o:Option K3}(hs:∀k∈G,C7 k)(b:Rd H D (.dT (dK3 G)))(d:OK3 H x o)(q:Q (.bl (inK G o)) H):Dp A7 x Q (.ref D) H:=by
 cases o with
 |none=>have e:x=.non:=d;subst e;exact PV (hU hs b) q
 |some k=>
  obtain⟨p,rfl,f⟩:=d;refine Jl (.inr ⟨_,kK k,p,b,rfl,QB f,rfl⟩) ?_;rw[Gy];by_cases a:k∈G;.rw[if_pos a];rw[show inK G (A0 k)=A3 from decide_eq_true a]at q;exact q
  .rw[if_neg a];rw[show inK G (A0 k)=A7 from decide_eq_false a]at q;exact q
theorem RA{g j:Type}{f:g->j}{B:List g}:∀{i:List j},(∀q∈i,q∈B.map f)->∃A:List g,i=A.map f/\∀x∈A,x∈B
 | [],_=>⟨[],rfl,λx b=>absurd b av⟩
 |q::i,h=>by
  obtain⟨A,e,m⟩:=RA λl d=>h l (ax _ d);obtain⟨a,n,rfl⟩:=ar.mp (h q ay);exact⟨a::A,by rw[e];rfl,λx b=>by
   rcases ap.mp b with rfl|b;.exact n
   .exact m x b⟩
def EX:Sp:=λo H Q _=>∃(D i g:A4)(m e n h:Nat)(f:Option Nat)(W:WL)(G:List K3)(A:List (A4×K3))(b:Bool),o=[.ref D,.ref i,.str (tx [b]),.ref g]/\Rd H D (.dT (wK W))/\(W.map Prod.fst).Nodup/\(∀w∈W,C7 w.1)/\Be m e n h f H W/\SmL H i (W.map Prod.fst) A/\Rd H g (.dT (dK3 G))/\(∀k∈G,k∈W.map Prod.fst)/\∀(l:A4)(j:List (A4×K3))(d:Hp),Ax H d->SmL d l (W.map Prod.fst) j->(∀k,k∈j.map (·.2)↔k∈G/\∃a∈A.map (·.2),lb m e n h f a (K05.bit b)=A0 k)->Q (.ref l) d
theorem ik{C:Rc}(hN:C.N.length=7):∀vs H Q E,EX vs H Q E->tSs C HR {nx:=λ_ I=>Q .non I,rt:=Q} (L2.BJ C.N vs) H:=by
 intro vs H Q E h;obtain⟨D,sm,lf,M,O,t,f,K,W,G,A,b,rfl,hD,hn,b1,hI,hA,a9,hG,q⟩:=h;obtain⟨a2,a7,b7⟩:=hA;have b3:∀k∈G,C7 k:=λk g=>by obtain⟨w,hw,e⟩:=ar.mp (hG k g);rw[<-e];exact b1 w hw
 rw[Bb hN];unfold HR;symm;refine CB (SqL.of a2) (Cd (vs:=A.map λx=>V.ref x.1) (λi n I=>n.length=i/\I=H/\∀(j:Nat)a x,A[j]?=A0 a->n[j]?=A0 x->OK3 H x (lb M O t f K a.2 (K05.bit b))) ⟨rfl,rfl,λj a x _ z=>by simp at z⟩ (λi n I pv=>SqL.of (by rw[pv.2.1];exact a2)) ?_ ?_)
 .rintro i n I x R d⟨r,rfl,P⟩hR;rw[aj]at d;obtain⟨a,S,rfl⟩:=aP.mp d;have hi:=BH S;obtain⟨b0,hat⟩:=a7 a (ao S);obtain⟨w,hw,ew⟩:=ar.mp b0;obtain⟨y0,y1,hp,o0,o1⟩:=hI w hw;have oc:OK3 I (if b then y1 else y0) (lb M O t f K a.2 (K05.bit b)):=by rw[<-ew];cases b;exact o0;exact o1
  symm;refine⟨D,.ref w.2,rfl,.inr ⟨_,kK a.2,a.1,hD,rfl,hat,((Cv hn).1 w.2 (by rw[<-ew];exact hw)).symm⟩,?_⟩;symm;refine BV (SqL.of hp) (v:=if b then y1 else y0) (by cases b<;>rfl) ?_;symm;refine⟨BK ⋯,hR _ _ ⟨by rw[aB,r];rfl,rfl,λj U x' hj o=>?_⟩⟩;by_cases a6:j<n.length;.rw[ce a6]at o;exact P j U x' hj o
  .have:=BH o;rw[aB,bx]at this;have b2:j=i:=by omega
   subst b2;rw[bX ⋯,show j-n.length=0 by omega]at o;rw[S]at hj;cases hj;cases o;exact oc
 .rintro n I⟨r,rfl,P⟩p hp;rw[ac]at r;obtain⟨s1,e1⟩:=snw hp (.lst n);generalize upd I p _=H1 at s1 e1⊢;have X:∀(j:Nat)a x,A[j]?=A0 a->n[j]?=A0 x->OK3 H1 x (lb M O t f K a.2 (K05.bit b)):=λj a x f h2=>(P j a x f h2).mono (BG s1);have a3:=Gz s1 a9;symm;refine CB (SqL.of e1) (Cd (vs:=n) (λi ys H2=>H2=H1/\∃B:List (A4×K3),ys=B.map (λx=>V.ref x.1)/\B.length<=i/\(∀x∈B,x.2∈G/\H1 x.1=A0 (.tup ((kK x.2).map L2.kV)))/\∀k,k∈B.map (·.2)↔k∈G/\∃a∈(A.take i).map (·.2),lb M O t f K a (K05.bit b)=A0 k) ⟨rfl,[],rfl,aJ _,λx d=>absurd d av,λk=>by simp⟩ (λi n I pv=>SqL.of (by rw[pv.1];exact e1)) ?_ ?_)
  .rintro i ys H2 x R d⟨rfl,B,rfl,Y,T,s⟩hR;have hi:=BH d;have S:A[i]?=A0 A[i]:=ae ⋯;have ok:=X i _ x S d;have et:(A.take (i+1)).map (·.2)=(A.take i).map (·.2)++[A[i].2]:=by rw[aO,S,aC];rfl
   generalize A[i]=a at S ok et;symm;refine R9 b3 a3 ok ?_;have a0:∀k,lb M O t f K a.2 (K05.bit b)≠A0 k\/k∉G->((k∈G/\∃a∈(A.take (i+1)).map (·.2),lb M O t f K a (K05.bit b)=A0 k)↔k∈B.map (·.2)):=λk g=>by
    rw[s,et];constructor
    .rintro⟨f,U,h2,h3⟩;rcases aL.mp h2 with z|z;.exact⟨f,U,z,h3⟩
     .rw[aF.mp z]at h3;rcases g with g|g;.exact absurd h3 g
      .exact absurd f g
    .rintro⟨f,U,h2,h3⟩;exact⟨f,U,bq _ h2,h3⟩
   cases m:inK G (lb M O t f K a.2 (K05.bit b))with
   |false=>
    symm;refine hR _ _ ⟨rfl,B,rfl,⋯,T,λk=>(a0 k ?_).symm⟩;by_cases g:lb M O t f K a.2 (K05.bit b)=A0 k;.rw[g]at m;exact .inr (of_decide_eq_false m)
    .exact .inl g
   |true=>
    cases J:lb M O t f K a.2 (K05.bit b)with
    |none=>rw[J]at m;cases m
    |some k0=>
     rw[J]at ok m;obtain⟨kp,rfl,a8⟩:=ok;have Z:k0∈G:=of_decide_eq_true m;symm;refine⟨BK (by rw[ac];omega),hR _ _ ⟨rfl,B++[(kp,k0)],by rw[aC];rfl,by rw[aB,bx];omega,λx d=>?_,λk=>?_⟩⟩
     .rcases aL.mp d with z|z;.exact T x z
      .rw[aF.mp z];exact⟨Z,a8⟩
     .rw[aC,aL];by_cases g:k=k0;.subst g;refine⟨λ_=>⟨Z,a.2,by rw[et];exact am _ ay,J⟩,λ_=>.inr ay⟩
      .rw[a0 k (.inl λz=>g (by rw[J]at z;cases z;rfl))];exact⟨λz=>z.resolve_right λy=>g (aF.mp y),.inl⟩
  .rintro ys H2⟨rfl,B,rfl,Y,T,s⟩p2 b4;rw[show n.length=A.length from r,aQ]at s;rw[r]at Y;obtain⟨s2,e2⟩:=snw b4 (.lst (B.map λx=>V.ref x.1));generalize upd H2 p2 _=H3 at s2 e2⊢;have b5:(B.map λx=>(BD.kI x.2,x.1)).map (λq=>V.ref q.2)=B.map λx=>V.ref x.1:=by rw[aU];rfl
   refine gE (L:=B.map λx=>(BD.kI x.2,x.1)) (SqL.of (by rw[b5];exact e2)) (λq hq=>?_) (by rw[ac];omega) ⟨2,λq hq=>?_⟩ λl qs hl k1 k2 k3=>?_;.obtain⟨x,d,rfl⟩:=ar.mp hq;exact s2 _ _ (T x d).2
   .obtain⟨x,d,rfl⟩:=ar.mp hq;rfl
   .obtain⟨A',rfl,a4⟩:=RA k1;have a1:(A'.map λx=>(BD.kI x.2,x.1)).map (λq=>V.ref q.2)=A'.map λx=>V.ref x.1:=by rw[aU];rfl
    rw[a1];rw[ac,ac]at k3;obtain⟨s3,e3⟩:=snw hl (.lst (A'.map λx=>V.ref x.1));have b6:=s1.trans (s2.trans s3);symm;refine q l A' _ b6 ⟨e3,λx d=>⟨hG _ (T x (a4 x d)).1,s3 _ _ (s2 _ _ (T x (a4 x d)).2)⟩,⋯⟩ λk=>?_;rw[<-s];have:=k2 (BD.kI k);rw[aU,aU]at this;have a5:∀l:List (A4×K3),BD.kI k∈l.map ((λx=>x.1)∘λx:A4×K3=>(BD.kI x.2,x.1))↔k∈l.map (·.2):=λl=>by rw[ar,ar];exact⟨λ⟨x,d,e⟩=>⟨x,d,Q9 e⟩,λ⟨x,d,e⟩=>⟨x,d,congrArg BD.kI e⟩⟩
    rw[a5,a5]at this;exact this
structure SD(D:A4)(kvs:List (List Key×V))(H H':Hp):Prop where
 old:Rd H D (.dT kvs)
 oth:∀a u,a≠D->H a=A0 u->H' a=A0 u
 dct:Rd H' D (.dT kvs)
 free:∀a,H' a=A6->H a=A6
theorem SD.refl{D:A4}{a:List (List Key×V)}{H:Hp}(h:Rd H D (.dT a)):SD D a H H:=⟨h,λ_ _ _ e=>e,h,λ_ e=>e⟩
theorem SD.same{D:A4}{b:List (List Key×V)}{H f d:Hp}(a:SD D b H f)(s:Ax f d):SD D b H d:=⟨a.old,λx u g e=>s _ _ (a.oth x u g e),Gz s a.dct,λx e=>a.free x (s.free e)⟩
theorem SD.frz{D:A4}{b:List (List Key×V)}{H f:Hp}(a:SD D b H f)(o:AT):SD D b H (upd f D (.frz o (.dT b))):=⟨a.old,λx u d e=>by rw[Ay d];exact a.oth x u d e,.inr ⟨o,A_⟩,λx e=>by
 by_cases d:x=D;.subst d;rw[A_]at e;cases e
 .rw[Ay d]at e;exact a.free x e⟩
theorem SD.put{D e:A4}{d:List (List Key×V)}{H j:Hp}{u:HO}(a:SD D d H j)(i:H e=A6):SD D d H (upd j e u):=by
 have f:D≠e:=λz=>by rcases a.old with h|⟨o,h⟩<;>rw[z,i]at h<;>cases h
 refine⟨a.old,λx v g b=>?_,?_,λx b=>?_⟩;.rw[Ay (λz:x=e=>by rw[z,i]at b;cases b)];exact a.oth x v g b
 .rcases a.dct with h|⟨o,h⟩;.exact .inl (by rw[Ay f];exact h)
  .exact .inr ⟨o,by rw[Ay f];exact h⟩
 .by_cases g:x=e;.rw[g];exact i
  .rw[Ay g]at b;exact a.free x b
theorem SD.ne{D x:A4}{b:List (List Key×V)}{H H':Hp}{u:HO}(a:SD D b H H')(e:H x=A0 u)(h1:∀w,u≠.dT w)(d:∀o w,u≠.frz o w):x≠D:=λz=>by
 subst z;rcases a.old with h|⟨o,h⟩<;>rw[h]at e<;>injection e with e;.exact h1 _ e.symm
 .exact d _ _ e.symm
theorem SD.lst{D x:A4}{b:List (List Key×V)}{H H':Hp}{xs:List V}(a:SD D b H H')(e:H x=A0 (.lst xs)):H' x=A0 (.lst xs):=a.oth x _ (a.ne e (λ_ z=>by cases z) λ_ _ z=>by cases z) e
theorem SD.tup{D x:A4}{b:List (List Key×V)}{H H':Hp}{xs:List V}(a:SD D b H H')(e:H x=A0 (.tup xs)):H' x=A0 (.tup xs):=a.oth x _ (a.ne e (λ_ z=>by cases z) λ_ _ z=>by cases z) e
theorem Kg{l0 h0 l1 h1:Nat}{sp:Option Nat}{D:A4}{b:List (List Key×V)}{H H':Hp}{W:WL}(a:SD D b H H')(h:Be l0 h0 l1 h1 sp H W):Be l0 h0 l1 h1 sp H' W:=λw hw=>(h w hw).mono (λ_ _ e=>a.tup e) λd z=>a.lst z
def DH(F:List K3)(M:List Rm)(G:List K3)(hs:List Sg):Prop:=(∀k,k∈G↔∃r∈fS M hs,F[r]?=A0 k)/\G.length<=300
def EY(F:List K3)(M:List Rm)(H:Hp)(hs:List Sg)(ps:List A4):Prop:=∀i p,ps[i]?=A0 p->∃G,H p=A0 (.dT (dK3 G))/\DH F M G (hs.drop (hs.length-i))
theorem EY.mono{F:List K3}{M:List Rm}{H H':Hp}{hs:List Sg}{ps:List A4}(h:EY F M H hs ps)(k:∀p∈ps,∀u,H p=A0 u->H' p=A0 u):EY F M H' hs ps:=λi p e=>by obtain⟨G,a,b⟩:=h i p e;exact⟨G,k p (ao e) _ a,b⟩
section
variable{l0 h0 l1 h1:Nat}{sp:Option Nat}{F:List K3}
def liK(l0 h0 l1 h1:Nat)(sp:Option Nat)(G:List K3)(c:Sg)(k:K3):Bool:=(B8 c).any λb=>inK G (lb l0 h0 l1 h1 sp k (K05.bit b))
theorem RB{b:Bool}{r:Nat}{k:K3}(a:F[r]?=A0 k):K04.bd (Az l0 h0 l1 h1 sp F) b r=ixF F (lb l0 h0 l1 h1 sp k (K05.bit b)):=by rw[K05.Du,K05.QJ a]
theorem RC(g:F.Nodup){b:Bool}{r t:Nat}{k d:K3}(i:F[r]?=A0 k)(a:F[t]?=A0 d):K04.bd (Az l0 h0 l1 h1 sp F) b r=A0 t↔lb l0 h0 l1 h1 sp k (K05.bit b)=A0 d:=by
 rw[RB i,K05.K1];constructor;.rintro⟨m,e,h,f⟩;have:=C1 h;rw[f,a]at this;cases this;exact e
 .intro e;exact⟨d,e,ao a,DX g a⟩
theorem il(f:F.Nodup){G:List K3}{hs:List Sg}(e:DH F (Az l0 h0 l1 h1 sp F) G hs){b:Bool}{r:Nat}{k:K3}(g:F[r]?=A0 k):inR (fS (Az l0 h0 l1 h1 sp F) hs) (K04.bd (Az l0 h0 l1 h1 sp F) b r)=inK G (lb l0 h0 l1 h1 sp k (K05.bit b)):=by
 rw[RB g];cases i:lb l0 h0 l1 h1 sp k (K05.bit b)with
 |none=>rfl
 |some m=>
  show inR _ (if m∈F then A0 (F.idxOf m)else A6)=decide (m∈G);by_cases a:m∈F
  .rw[if_pos a,cz,decide_eq_true_eq,e.1];show(fS (Az l0 h0 l1 h1 sp F) hs).contains (F.idxOf m)=A3↔_;rw[bj];constructor;.exact λh=>⟨_,h,C1 a⟩
   .rintro⟨t,h1,d⟩;rw[DX f d];exact h1
  .rw[if_neg a,decide_eq_false];.rfl
   .intro z;obtain⟨t,_,d⟩:=(e.1 m).mp z;exact a (ao d)
theorem DH.sub{M:List Rm}{G:List K3}{hs:List Sg}(h:DH F M G hs):∀k∈G,k∈F:=λk b=>by obtain⟨t,_,a⟩:=(h.1 k).mp b;exact ao a
theorem im(d:F.length<=300){G:List K3}(b:∀k,k∈G↔k∈F)(a:G.length<=300):DH F (Az l0 h0 l1 h1 sp F) G []:=by
 refine⟨λk=>?_,a⟩;rw[b];show _↔∃r∈aG (Az l0 h0 l1 h1 sp F).length,F[r]?=A0 k;constructor;.intro h;have:=C1 h;exact⟨_,aI.mpr (by unfold Az;rw[ac];exact BH this),this⟩
 .rintro⟨r,_,e⟩;exact ao e
theorem io(g:F.Nodup)(f:F.length<=300){G:List K3}{hs:List Sg}(c:Sg)(d:DH F (Az l0 h0 l1 h1 sp F) G hs):DH F (Az l0 h0 l1 h1 sp F) (F.filter (liK l0 h0 l1 h1 sp G c)) (c::hs):=by
 refine⟨λk=>?_,aN (bn ..) f⟩;have a:∀{r:Nat},F[r]?=A0 k->liB (Az l0 h0 l1 h1 sp F) (fS (Az l0 h0 l1 h1 sp F) hs) c r=liK l0 h0 l1 h1 sp G c k:=λ{r}e=>by unfold liB liK;congr 1;funext b;exact il g d e
 rw[aH];show _↔∃r∈(aG (Az l0 h0 l1 h1 sp F).length).filter _,F[r]?=A0 k;constructor;.rintro⟨h1,h⟩;have e:=C1 h1;exact⟨_,aH.mpr ⟨aI.mpr (by unfold Az;rw[ac];exact BH e),by rw[a e];exact h⟩,e⟩
 .rintro⟨r,h1,e⟩;have:=(aH.mp h1).2;rw[a e]at this;exact⟨ao e,this⟩
end
def FV:Sp:=λi H Q _=>∃(D:A4)(g a d b:Nat)(e:Option Nat)(W:WL)(f:List Sg),i=[.ref D,.str (qx f)]/\Rd H D (.dT (wK W))/\Lsd g a d b e (W.map Prod.fst)/\1<=a/\1<=b/\(∀w∈W,C7 w.1)/\W.length<=300/\Be g a d b e H W/\f.length<=500/\∀(o:Option (List Bool))(h:Hp),SD D (wK W) H h->EW (λw=>K05.fK g a d b e w=A3) f o->Q (vF o) h
section
variable{l0 h0 l1 h1:Nat}{sp:Option Nat}{F:List K3}
theorem ip(j:F.Nodup){G n:List K3}{hs:List Sg}{rs:List Nat}(o:DH F (Az l0 h0 l1 h1 sp F) G hs)(m:∀k,k∈n↔∃r∈rs,F[r]?=A0 k)(i:∀r∈rs,r<F.length){b:Bool}{k:K3}:
  (k∈G/\∃a∈n,lb l0 h0 l1 h1 sp a (K05.bit b)=A0 k)↔∃r,F[r]?=A0 k/\∃p∈rs.filter (liB (Az l0 h0 l1 h1 sp F) (fS (Az l0 h0 l1 h1 sp F) hs) (A0 b)),K04.bd (Az l0 h0 l1 h1 sp F) b p=A0 r:=by
 constructor;.rintro⟨h1,a,q,e⟩;obtain⟨r,s,f⟩:=(o.1 k).mp h1;obtain⟨p,h,g⟩:=(m a).mp q;have d:=(RC j g f).mpr e;exact⟨r,f,p,aH.mpr ⟨h,by rw[DG,d];exact bj.mpr s⟩,d⟩
 .rintro⟨r,f,p,h,d⟩;obtain⟨h1,l⟩:=aH.mp h;rw[DG,d]at l;have g:=ae (i p h1);exact⟨(o.1 k).mpr ⟨r,bj.mp l,f⟩,_,(m _).mpr ⟨p,h1,g⟩,(RC j g f).mp d⟩
theorem iq(j:OkM (Az l0 h0 l1 h1 sp F))(n:(Az l0 h0 l1 h1 sp F).length=F.length){hs:List Sg}{rs:List Nat}{b:Bool}{d:List (A4×K3)}
  (h:∀k,k∈d.map (·.2)↔∃r,F[r]?=A0 k/\∃p∈rs.filter (liB (Az l0 h0 l1 h1 sp F) (fS (Az l0 h0 l1 h1 sp F) hs) (A0 b)),K04.bd (Az l0 h0 l1 h1 sp F) b p=A0 r):(d.map λx=>V.ref x.1)=[]↔rs.filter (liB (Az l0 h0 l1 h1 sp F) (fS (Az l0 h0 l1 h1 sp F) hs) (A0 b))=[]:=by
 constructor
 .intro z;have i:d=[]:=List.map_eq_nil_iff.mp z;refine cA.mpr λp a=>?_;have f:=(aH.mp a).2;rw[DG]at f;obtain⟨e,g,o⟩:=Qx f;have m:e<F.length:=by rw[<-n];exact K04.FK j g
  have:=(h _).mpr ⟨e,ae m,p,a,g⟩;rw[i]at this;cases this
 .intro z;refine List.map_eq_nil_iff.mpr (cA.mpr λx l=>?_);obtain⟨r,_,p,a,_⟩:=(h x.2).mp (ar.mpr ⟨x,l,rfl⟩);rw[z]at a;cases a
end
theorem ir{C:Rc}(hN:C.N.length=12)(hS:C.fs "_law_signs"=A0 FS)(hL:C.fs "_law_leads"=A0 EX):∀vs H Q E,FV vs H Q E->tSs C HS {nx:=λ_ S=>Q .non S,rt:=Q} (L2.BJ C.N vs) H:=by
 intro vs H Q E h;obtain⟨D,B,J,n,d,t,W,K,rfl,hD,f9,c0,c1,k7,p2,hI,hh,q⟩:=h;have hn:=K05.HD f9;obtain⟨F,hF⟩:∃F,F=W.map Prod.fst:=⟨_,rfl⟩;have j0:F.length=W.length:=by rw[hF,ac]
 have i8:=hn;rw[<-hF]at hn f9;have hO:OkM (Az B J n d t F):=J_;have d7:(Az B J n d t F).length=F.length:=by unfold Az;rw[ac]
 have eP:(λw=>K05.fK B J n d t w=A3)=Wkb (Az B J n d t F):=funext λw=>propext (by rw[K05.K5 c0 c1 f9,<-K05.K4 hn,<-d7];exact Iff.rfl);rw[eP]at q;have g5:∀(i:Nat)w,W[i]?=A0 w->F[i]?=A0 w.1:=λi w e=>by rw[hF,aj,e];rfl
 rw[Bb hN];unfold HS;refine Cu λN0 o3=>?_;symm;(try rw[Pc]);symm;refine GW hD λo as i2 hat=>?_;have g9:=(SD.refl hD).frz o;have Z:∀(i:Nat)a w,as[i]?=A0 a->W[i]?=A0 w->upd H D (.frz o (.dT (wK W))) a=A0 (.tup ((kK w.1).map L2.kV)):=λi a w d h2=>g9.tup (hat i a (kK w.1,V.ref w.2) d (by unfold wK;rw[aj,h2];rfl));have b6:as.length=W.length:=by rw[i2];unfold wK;rw[ac]
 have j9:upd H D (.frz o (.dT (wK W))) D=A0 (.frz o (.dT (wK W))):=A_;generalize upd H D (.frz o (.dT (wK W)))=H1 at g9 Z j9⊢;refine P9 (λi xs S=>i<=W.length/\Ax H1 S/\∃L:PL,xs=L.map (λx=>V.ref x.1)/\L.map (λx=>(x.2.1,x.2.2.2))=(F.take i).map (λk=>(kK k,V.bl A3))/\∀x∈L,S x.1=A0 (.tup [.ref x.2.2.1,x.2.2.2])/\S x.2.2.1=A0 (.tup (x.2.1.map L2.kV))) ⟨aJ _,Ax.refl _,[],rfl,rfl,λx X=>absurd X av⟩ (λi xs S pv=>⟨.dT (wK W),pv.2.1 _ _ j9⟩) ?_ ?_
 .rintro i xs H2 x R X⟨_,s2,L,rfl,hL,b9⟩hR;rw[aj]at X;obtain⟨a,ha,rfl⟩:=aP.mp X;have hi:i<W.length:=by have:=BH ha;omega
  have hw:W[i]?=A0 W[i]:=ae hi;generalize W[i]=w at hw;have c8:=s2 _ _ (Z i a w ha hw);have p1:L.length<=300:=by have g1:=congrArg cL hL;rw[ac,ac,aM]at g1;omega
  symm;refine⟨by decide,λpp h6=>?_⟩;obtain⟨s3,h3⟩:=snw h6 (.tup [.ref a,.bl A3]);generalize upd H2 pp _=H3 at s3 h3⊢;refine⟨BK (by rw[ac];omega),hR _ _ ⟨hi,s2.trans s3,L++[(pp,kK w.1,a,.bl A3)],by rw[aC];rfl,?_,λx X=>?_⟩⟩;.rw[aC,hL,aO,g5 i w hw,aC];rfl
  .rcases aL.mp X with z|z;.exact⟨s3 _ _ (b9 x z).1,s3 _ _ (b9 x z).2⟩
   .rw[aF.mp z];exact⟨h3,s3 _ _ c8⟩
 rintro xs H2⟨_,s2,L,rfl,i4,b9⟩pc m6;rw[ac,b6,<-j0,aQ]at i4;obtain⟨s3,h3⟩:=snw m6 (.lst (L.map λx=>V.ref x.1));have f0:∀x∈L,upd H2 pc (.lst (L.map λx=>V.ref x.1)) x.1=A0 (.tup [.ref x.2.2.1,x.2.2.2])/\upd H2 pc (.lst (L.map λx=>V.ref x.1)) x.2.2.1=A0 (.tup (x.2.1.map L2.kV)):=λx X=>⟨s3 _ _ (b9 x X).1,s3 _ _ (b9 x X).2⟩;have f5:=g9.same (s2.trans s3);generalize upd H2 pc (.lst (L.map λx=>V.ref x.1))=H3 at s3 h3 f5 f0⊢;refine⟨pc,L,rfl,h3,f0,λp0 k8=>?_⟩;obtain⟨G0,ep,m7,e6⟩:=Ha (G:=[]) i4;rw[show Cn L=dK3 G0 from ep];have e6:G0.length<=300:=by have g1:=congrArg cL i4;rw[ac,ac]at g1;have:([]:List K3).length=0:=rfl;omega
 have i6:DH F (Az B J n d t F) G0 []:=im ⋯ (λk=>by rw[m7];simp) e6;obtain⟨s4,h4⟩:=snw k8 (.dT (dK3 G0));have i5:=f5.same s4;have n3:=f5.free p0 k8;generalize upd H3 p0 _=H4 at s4 h4 i5⊢;symm;refine⟨by decide,λg hg=>?_⟩;have o4:p0≠g:=λz=>by rw[z,hg]at h4;cases h4
 obtain⟨s5,h5⟩:=snw hg (.lst [.ref p0]);have fg:=i5.free g hg;have i9:=i5.same s5;have k2:=s5 _ _ h4;generalize upd H4 g _=H5 at s5 h5 i9 k2⊢;symm;refine o3 _ _ ?_;refine Cu λN1 o6=>?_;symm;refine P7 (by rw[Dw];exact bO (BK ⋯)) ?_;refine QP (λi σ S=>(∃T x3 x4 x5 x6,σ=[A0 (.ref D),A0 (.str (qx K)),A0 (.ref g),x3,x4,x5,x6,A6,A6,A6,A6,A6]/\S g=A0 (.lst (T.map V.ref))/\T.length=i+1/\g∉T/\(∀p∈T,H p=A6)/\EY F (Az B J n d t F) S K T)/\i<=K.length/\SD D (wK W) H S) ⟨⟨[p0],_,_,_,_,rfl,h5,rfl,λz=>o4 (aF.mp z).symm,λp hp=>by rw[aF.mp hp];exact n3,λi p e=>?_⟩,aJ _,i9⟩ ?_ ?_
 .match i,e with
  |0,e=>cases e;rw[Nat.sub_zero,List.drop_length];exact⟨G0,k2,i6⟩
 .rintro i c σ H6 hi hc⟨⟨T,x3,x4,x5,x6,rfl,b4,d1,g0,g7,a7⟩,_,d8⟩;have hd:=Qt hi hc;obtain⟨P,hP,d6⟩:∃P,T[i]?=A0 P/\atI (T.map V.ref) (-1)=A0 (V.ref P):=⟨T[i]'⋯,ae ⋯,Gh (by rw[ac];exact d1) (by rw[aj,ae ⋯];rfl)⟩;obtain⟨Y,l3,i0⟩:=a7 i P hP;have n6:∀k∈Y,C7 k:=λk hk=>by have:=i0.sub k hk;rw[hF]at this;obtain⟨w,hw,e⟩:=ar.mp this;rw[<-e];exact k7 w hw
  have f2:=io hn ⋯ c i0;rw[<-hd]at f2;symm;intro e he;have d3:=d8.free e he;obtain⟨s7,h7⟩:=snw he (.dT (dK3 []));have a0:=d8.same s7;have a5:=s7 _ _ b4;have a3:=a7.mono λp _ u z=>s7 _ _ z;have f6:e≠g:=λz=>by rw[z,b4]at he;cases he
  have o5:e∉T:=λz=>by obtain⟨j,hj⟩:=dC z;obtain⟨G',e',_⟩:=a7 j e hj;rw[he]at e';cases e'
  generalize j6:upd H6 e (.dT (dK3 []))=H7 at s7 h7 a0 a5 a3;rw[show upd H6 e (.dT [])=H7 from j6];clear j6;refine GW a0.dct λo as i2 hat=>?_;have d2:∀{x:A4},H x=A6->x≠D:=λ{x}X z=>by subst z;rcases hD with z|⟨_,z⟩<;>rw[X]at z<;>cases z
  have a8:=a0.frz o;have b3:upd H7 D (.frz o (.dT (wK W))) g=A0 (.lst (T.map V.ref)):=by rw[Ay (d2 fg)];exact a5
  have a1:EY F (Az B J n d t F) (upd H7 D (.frz o (.dT (wK W)))) K T:=a3.mono λp hp u z=>by rw[Ay (d2 (g7 p hp))];exact z
  have h8:upd H7 D (.frz o (.dT (wK W))) e=A0 (.dT (dK3 [])):=by rw[Ay (d2 d3)];exact h7
  have Z:∀(i:Nat)a w,as[i]?=A0 a->W[i]?=A0 w->upd H7 D (.frz o (.dT (wK W))) a=A0 (.tup ((kK w.1).map L2.kV)):=λi a w d h2=>by
   have z:=hat i a (kK w.1,V.ref w.2) d (by unfold wK;rw[aj,h2];rfl);rw[Ay];.exact z
   .rintro rfl;rcases a0.dct with y|⟨_,y⟩<;>rw[y]at z<;>cases z
  have b6:as.length=W.length:=by rw[i2];unfold wK;rw[ac]
  have k6:upd H7 D (.frz o (.dT (wK W))) D=A0 (.frz o (.dT (wK W))):=A_;generalize upd H7 D (.frz o (.dT (wK W)))=H8 at a8 Z k6 b3 a1 h8⊢;refine P8 (λj σ S=>(∃x3 x6,σ=[A0 (.ref D),A0 (.str (qx K)),A0 (.ref g),x3,A0 (.str (qx [c])),A0 (.ref e),x6,A6,A6,A6,A6,A6])/\j<=W.length/\SD D (wK W) H S/\Tp H8 S/\S D=A0 (.frz o (.dT (wK W)))/\S g=A0 (.lst (T.map V.ref))/\EY F (Az B J n d t F) S K T/\S e=A0 (.dT (dK3 ((F.take j).filter (liK B J n d t Y c))))) ⟨⟨_,_,rfl⟩,aJ _,a8,λ_ _ z=>z,k6,b3,a1,h8⟩ (λi σ S pv=>⟨_,pv.2.2.2.2.1⟩) ?_ ?_
  .rintro j x σ H9 X⟨⟨x3,x6,rfl⟩,_,d0,t9,f4,c2,a4,h9⟩;rw[aj]at X;obtain⟨a,ha,rfl⟩:=aP.mp X;have hj:j<W.length:=by have:=BH ha;omega
   have hw:W[j]?=A0 W[j]:=ae hj;generalize W[j]=w at hw;have j1:=ao hw;have c8:=t9 _ _ (Z j a w ha hw);obtain⟨y0,y1,hp,o0,o1⟩:=Kg d0 hI w j1;obtain⟨j3,n1,k4⟩:=a4 i P hP;have oc:∀b:Bool,OK3 H9 (if b then y1 else y0) (lb B J n d t w.1 (K05.bit b)):=λb=>by cases b;exact o0;exact o1
   have et:(F.take (j+1)).filter (liK B J n d t Y c)=(F.take j).filter (liK B J n d t Y c)++[w.1].filter (liK B J n d t Y c):=by rw[aO,g5 j w hw,cU];rfl
   have l6:∀k,k∈j3↔k∈Y:=λk=>by rw[k4.1,i0.1]
   have l2:∀o,inK j3 o=inK Y o:=λo=>by
    cases o with
    |none=>rfl
    |some k=>exact decide_eq_decide.mpr (l6 k)
   symm;refine B6 hS ?_;symm;refine⟨c,rfl,?_⟩;symm;refine Ew (Je (l:=B8 c) (λu ys S=>ys=((B8 c).take u).map (λb=>V.bl (inK Y (lb B J n d t w.1 (K05.bit b))))/\S=H9) ⟨rfl,rfl⟩ ?_ ?_)
   .rintro u ys c7 b R hb⟨rfl,rfl⟩hR;have hu:=BH hb;have p5:(B8 c).length<=2:=by cases c;exact ah 2;exact dq 1
    have n7:(B8 c).take (u+1)=(B8 c).take u++[b]:=by rw[aO,hb];rfl
    symm;refine⟨D,.ref w.2,rfl,.inr ⟨_,kK w.1,a,.inr ⟨o,f4⟩,rfl,c8,((Cv i8).1 w.2 j1).symm⟩,?_⟩;symm;refine BV (SqL.of hp) (v:=if b then y1 else y0) (by cases b<;>rfl) ?_;symm;refine BV (SqL.of c2) d6 ?_;refine R9 (λk hk=>n6 k ((l6 k).mp hk)) (.inl n1) (oc b) ?_;rw[l2];symm;exact⟨by rw[ac,aM];exact BK ⋯,hR _ _ ⟨by rw[n7,aC];rfl,rfl⟩⟩
   .rintro ys c7⟨rfl,rfl⟩p3 n8;rw[aQ];obtain⟨O,g8⟩:=snw n8 (.lst ((B8 c).map (λb=>V.bl (inK Y (lb B J n d t w.1 (K05.bit b))))));generalize upd c7 p3 _=g4 at O g8⊢;have m9:(B8 c).map (λb=>V.bl (inK Y (lb B J n d t w.1 (K05.bit b))))=((B8 c).map (λb=>inK Y (lb B J n d t w.1 (K05.bit b)))).map V.bl:=(aU (l:=B8 c) (f:=λb=>inK Y (lb B J n d t w.1 (K05.bit b))) (g:=V.bl)).symm;rw[m9]at g8;have a2:=d0.same O;have l7:=t9.trans (BG O);have e3:=O _ _ f4;have e8:=O _ _ c2;have c3:=a4.mono λp _ u z=>O _ _ z;have c4:=O _ _ h9;have f3:=O _ _ c8;symm;refine Oy (SqL.of g8) ?_;have ea:((B8 c).map (λb=>inK Y (lb B J n d t w.1 (K05.bit b)))).any id=liK B J n d t Y c w.1:=by rw[List.any_map];rfl
    rw[ea];have p6:((F.take j).filter (liK B J n d t Y c)).length<=300:=aN (bn ..) (by rw[aM];omega);cases hb:liK B J n d t Y c w.1 with
    |true=>
     symm;refine Pa (ks:=kK w.1) c4 f3 (BK (by rw[Jz];omega)) ?_;have n5:w.1∉(F.take j).filter (liK B J n d t Y c):=λz=>by
      obtain⟨m,hm⟩:=dC (aH.mp z).1;have m8:m<j:=by have:=BH hm;rw[aM]at this;omega
      rw[List.getElem?_take_of_lt m8]at hm;have e1:=DX hn hm;have e2:=DX hn (g5 j w hw);omega
     rw[QF n5];have l9:(F.take j).filter (liK B J n d t Y c)++[w.1]=(F.take (j+1)).filter (liK B J n d t Y c):=by rw[et,bM,if_pos hb];rfl
     rw[l9];symm;refine⟨⟨_,_,rfl⟩,hj,a2.put d3,l7.trans (tpo c4 λxs z=>by cases z),?_,?_,c3.mono λp hp u z=>?_,A_⟩;.rw[Ay (λz=>d2 d3 z.symm)];exact e3
     .rw[Ay (λz=>f6 z.symm)];exact e8
     .rw[Ay (λy:p=e=>o5 (y▸hp))];exact z
    |false=>symm;refine⟨⟨_,_,rfl⟩,hj,a2,l7,e3,e8,c3,?_⟩;rw[et,bM,if_neg (by rw[hb];decide),List.filter_nil,cZ];exact c4
  .rintro σ H9⟨⟨x3,x6,rfl⟩,_,d0,t9,f4,c2,a4,h9⟩;rw[ac,b6,<-j0,aQ]at h9;symm;refine⟨tyL c2 rfl,?_⟩;symm;refine Jh c2 (by rw[ac];exact BK ⋯) ?_;symm;refine⟨⟨T++[e],_,_,_,_,rfl,by rw[A_,aC];rfl,by rw[aB,d1];rfl,λz=>?_,λp hp=>?_,λj p e'=>?_⟩,hi,d0.put fg⟩
   .rcases aL.mp z with z|z;.exact g0 z
    .exact f6 (aF.mp z).symm
   .rcases aL.mp hp with z|z;.exact g7 p z
    .rw[aF.mp z];exact d3
   .by_cases hj:j<T.length;.rw[ce hj]at e';have hp:=ao e';rw[Ay (λz:p=g=>g0 (by rw[<-z];exact hp))];exact a4 j p e'
    .have n2:j=i+1:=by have:=BH e';rw[aB,bx]at this;omega
     subst n2;rw[bX ⋯,show i+1-T.length=0 by omega]at e';cases e';rw[Ay f6];exact⟨_,h9,f2⟩
 .rintro σ H6⟨⟨T,x3,x4,x5,x6,rfl,b4,d1,g0,g7,a7⟩,_,d8⟩;refine o6 _ _ ?_;obtain⟨P,hP,d6⟩:∃P,T[K.length]?=A0 P/\atI (T.map V.ref) (-1)=A0 (V.ref P):=⟨T[K.length]'⋯,ae ⋯,Gh (by rw[ac];exact d1) (by rw[aj,ae ⋯];rfl)⟩;obtain⟨Gl,l3,a6⟩:=a7 K.length P hP;rw[Nat.sub_self,List.drop_zero]at a6;symm;refine BV (SqL.of b4) d6 ?_;symm;intro pe n0;obtain⟨s7,h7⟩:=snw n0 (.dK []);have a0:=d8.same s7;have a5:=s7 _ _ b4;have f8:=s7 _ _ l3;have a3:=a7.mono λp _ u z=>s7 _ _ z;generalize upd H6 pe _=H7 at s7 h7 a0 a5 f8 a3⊢;refine gR (.inl f8) h7 ?_;have e9:dK3 Gl=[]↔fS (Az B J n d t F) K=[]:=by
   constructor
   .intro z;have zG:Gl=[]:=List.map_eq_nil_iff.mp z;refine cA.mpr λr hr=>?_;have m5:r<F.length:=by rw[<-d7];exact FO r hr
    have:=(a6.1 _).mpr ⟨r,hr,ae m5⟩;rw[zG]at this;cases this
   .intro z;refine List.map_eq_nil_iff.mpr (cA.mpr λk hk=>?_);obtain⟨r,hr,_⟩:=(a6.1 k).mp hk;rw[z]at hr;cases hr
  by_cases he:fS (Az B J n d t F) K=[];.rw[decide_eq_true (e9.mpr he)];symm;refine q A6 _ a0 (.inl ⟨rfl,?_⟩);rintro⟨w,hf,r0,e,n9,hw⟩;have:=(FP hO).mpr ⟨n9,w,e,hf,hw⟩;rw[he]at this;cases this
  .rw[decide_eq_false λz=>he (e9.mp z)];symm;refine BV (SqL.of a5) d6 ?_;symm;refine gL (.inl f8) λl as hl hK=>?_;obtain⟨m0,m1⟩:=hK;rw[Jz]at m0;obtain⟨s8,h8⟩:=snw hl (.lst (as.map V.ref));have a8:=a0.same s8;have b3:=s8 _ _ a5;have a1:=a3.mono λp _ u z=>s8 _ _ z;have f1:∀(i:Nat)a k,as[i]?=A0 a->Gl[i]?=A0 k->upd H7 l (.lst (as.map V.ref)) a=A0 (.tup ((kK k).map L2.kV)):=λi a k d h2=>s8 _ _ (m1 i a (kK k,.bl A3) d (by unfold dK3;rw[aj,h2];rfl));generalize upd H7 l _=H8 at s8 h8 a8 b3 a1 f1⊢;have o7:(as.zip Gl).map Prod.fst=as:=List.map_fst_zip ⋯;have o2:(as.zip Gl).map Prod.snd=Gl:=List.map_snd_zip ⋯;have o8:=a6.2;have k0:SmL H8 l F (as.zip Gl):=by
    refine⟨?_,λx X=>?_,by rw[List.length_zip];omega⟩
    .rw[h8];conv=>lhs;rw[<-o7]
     rw[aU];rfl
    .obtain⟨i,hi,e⟩:=cq.mp X;rw[List.length_zip]at hi;rw[List.getElem_zip]at e;subst e;have g1:=ae (show i<as.length by omega);have g2:=ae (show i<Gl.length by omega);exact⟨a6.sub _ (ao g2),f1 i _ _ g1 g2⟩
   have n4:(fS (Az B J n d t F) K).Nodup:=by
    cases K with
    |nil=>exact dc
    |cons _ _=>exact List.nodup_range.filter _
   symm;refine Jd (QQ (λi σ S=>(∃(sm:A4)(A:List (A4×K3))(rs:List Nat)(u:List Bool)(x3 x4 x5 x6 x9 i3 i1:Option V),σ=[A0 (.ref D),A0 (.str (qx K)),A0 (.ref g),x3,x4,x5,x6,A0 (.ref sm),A0 (.str (tx u)),x9,i3,i1]/\SmL S sm F A/\(∀k,k∈A.map (·.2)↔∃r∈rs,F[r]?=A0 k)/\FilI (Az B J n d t F) K i u rs)/\i<=K.length/\Ax H8 S) ⟨⟨l,as.zip Gl,fS (Az B J n d t F) K,[],_,_,_,_,_,_,_,rfl,k0,λk=>by show k∈(as.zip Gl).map Prod.snd↔_;rw[o2];exact a6.1 k,⟨rfl,λj b e=>by simp at e,λr=>by rw[List.drop_zero];exact⟨λh=>⟨h,r,FO r h,rfl⟩,λh=>h.1⟩,he,n4,λj hj=>absurd hj (cg _)⟩⟩,aJ _,Ax.refl _⟩ ?_ ?_)
   .rintro i c σ H9 pp hc h6⟨⟨sm,A,rs,u,x3,x4,x5,x6,x9,i3,i1,rfl,j5,i7,I⟩,_,s9⟩;have hi:=BH hc;refine Dl (SqT.of A_) ?_;have g6:=BB h6 (.tup [.int i,.str (qx [c])]);have b8:=s9.trans g6;generalize upd H9 pp (.tup [.int i,.str (qx [c])])=c7 at g6 b8⊢;have mono:∀{H1 H2:Hp}{A:List (A4×K3)}{sm:A4},Ax H1 H2->SmL H1 sm F A->SmL H2 sm F A:=λ{H1 H2 A sm}s h=>⟨s _ _ h.1,λx X=>⟨(h.2.1 x X).1,s _ _ (h.2.1 x X).2⟩,h.2.2⟩;have g3:=mono g6 j5;symm;refine HX ⋯ ?_;symm;rw[show((K.length:Int)-(i:Int)-1)=((K.length-1-i:Nat):Int)by omega];have l5:K.length-1-i<T.length:=by omega
    obtain⟨Gq,j4,f7⟩:=a1 _ _ (ae l5);rw[show K.length-(K.length-1-i)=i+1 by omega]at f7;refine BV (SqL.of (b8 _ _ b3)) (v:=.ref T[K.length-1-i]) (Db (by rw[aj,ae l5];rfl)) ?_;generalize T[K.length-1-i]=R at j4;have l4:∀r∈rs,r<F.length:=λr hr=>by rw[<-d7];exact FO r ((I.mem r).mp hr).1
    have e4:∀(b:Bool){H1:Hp}{Q1:VK}{E1:XK},Ax c7 H1->(∀l A' H2,Ax H1 H2->SmL H2 l F A'->(∀k,k∈A'.map (·.2)↔∃r,F[r]?=A0 k/\∃p∈rs.filter (liB (Az B J n d t F) (fS (Az B J n d t F) (K.drop (i+1))) (A0 b)),K04.bd (Az B J n d t F) b p=A0 r)->Q1 (.ref l) H2)->EX [.ref D,.ref sm,.str (tx [b]),.ref R] H1 Q1 E1:=λb{H1 Q1 E1}s1 k1=>by
     have a2:=a8.same (b8.trans s1);refine⟨D,sm,R,B,J,n,d,t,W,Gq,A,b,rfl,a2.dct,i8,k7,Kg a2 hI,?_,.inl ((b8.trans s1) _ _ j4),λk hk=>?_,λl A' H2 s2 c5 b2=>k1 l A' H2 s2 ?_ λk=>?_⟩;.rw[<-hF];exact mono s1 g3
     .rw[<-hF];exact f7.sub k hk
     .rw[hF];exact c5
     .rw[b2,ip hn f7 i7 l4]
    symm;refine B6 hS ?_;symm;refine⟨c,rfl,?_⟩;symm;obtain⟨U,d4⟩:∃U:Bool->Bool,U=λb=>!decide (rs.filter (liB (Az B J n d t F) (fS (Az B J n d t F) (K.drop (i+1))) (A0 b))=[]):=⟨_,rfl⟩;refine Ew (Je (l:=B8 c) (λj ys S=>ys=(((B8 c).take j).filter U).map (λb=>V.str (tx [b]))/\Ax c7 S) ⟨rfl,Ax.refl _⟩ ?_ ?_)
    .rintro j ys g4 b R2 hb⟨rfl,O⟩hR;have hj:=BH hb;have o9:(B8 c).length<=2:=by cases c;exact ah 2;exact dq 1
     have et:((B8 c).take (j+1)).filter U=((B8 c).take j).filter U++[b].filter U:=by rw[aO,hb,cU];rfl
     have e5:(((B8 c).take j).filter U).length<=2:=aN (bn ..) (by rw[aM];omega);symm;refine B6 hL ?_;symm;refine e4 b O λl A' k3 d5 c5 b2=>?_;symm;refine⟨by decide,λp hp=>?_⟩;obtain⟨c6,k5⟩:=snw hp (.lst []);have a9:=c6 _ _ c5.1;have b7:=O.trans (d5.trans c6);generalize upd k3 p _=l8 at c6 k5 a9 b7⊢;refine ez (SqL.of a9) (SqL.of k5) (λe5=>?_) ?_;.have:(A'.map λx=>V.ref x.1)=[]:=cn.mp e5;rw[this];intro i x y d;cases d
     have ef:(!decide ((A'.map λx=>V.ref x.1)=[]))=U b:=by rw[d4];exact congrArg (!·) (decide_eq_decide.mpr (iq hO d7 b2))
     rw[ef];cases j8:U b with
     |true=>symm;exact⟨by rw[ac];exact BK ⋯,hR _ _ ⟨by rw[et,bM,if_pos j8,aC];rfl,b7⟩⟩
     |false=>symm;exact hR _ _ ⟨by rw[et,bM,if_neg (by rw[j8];decide)];simp,b7⟩
    .rintro ys g4⟨rfl,O⟩p hp;rw[aQ];obtain⟨d5,a9⟩:=snw hp (.lst (((B8 c).filter U).map λb=>V.str (tx [b])));have b5:=O.trans d5;generalize upd g4 p _=k3 at d5 a9 b5⊢;obtain⟨b1,m3,j7⟩:=I.go hc;obtain⟨b0,r0,c9⟩:∃b0 r0,(B8 c).filter U=b0::r0:=by
      cases hz:(B8 c).filter U with
      |nil=>have:b1∈(B8 c).filter U:=aH.mpr ⟨m3,by rw[d4];simpa using j7⟩;rw[hz]at this;cases this
      |cons b0 r0=>exact⟨b0,r0,rfl⟩
     have e0:=aH.mp (show b0∈(B8 c).filter U by rw[c9];exact ay);have k9:rs.filter (liB (Az B J n d t F) (fS (Az B J n d t F) (K.drop (i+1))) (A0 b0))≠[]:=λz=>by have:=e0.2;rw[d4]at this;simp[z]at this
     have j2:atI (((B8 c).filter U).map λb=>V.str (tx [b])) 0=A0 (V.str (tx [b0])):=by rw[c9];exact Db (j:=0) rfl
     have m4:b0=A3->c=A6->∀r∈rs,inR (fS (Az B J n d t F) (K.drop (i+1))) (K04.bd (Az B J n d t F) A7 r)=A7:=by
      rintro rfl rfl r hr;have hf:U A7=A7:=by
       cases m2:U A7 with
       |false=>rfl
       |true=>
        have:(B8 A6).filter U=A7::([A3].filter U):=by show[A7,A3].filter U=_;rw[bM,if_pos m2]
        rw[this]at c9;cases c9
      rw[d4]at hf;have hf:rs.filter (liB (Az B J n d t F) (fS (Az B J n d t F) (K.drop (i+1))) (A0 A7))=[]:=by simpa using hf
      cases hq:inR (fS (Az B J n d t F) (K.drop (i+1))) (K04.bd (Az B J n d t F) A7 r)with
      |false=>rfl
      |true=>have:=aH.mpr ⟨hr,(DG (M:=Az B J n d t F)).trans hq⟩;rw[hf]at this;cases this
     have p4:=I.len;symm;refine BV (SqL.of a9) j2 ?_;symm;refine⟨DB ⋯,?_⟩;symm;refine B6 hL ?_;symm;refine BV (SqL.of a9) j2 ?_;symm;refine e4 b0 b5 λl A' l8 c6 c5 b2=>?_;symm;obtain⟨d9,e7⟩:∃d9:List Nat,d9=(aG (Az B J n d t F).length).filter λr=>(rs.filter (liB (Az B J n d t F) (fS (Az B J n d t F) (K.drop (i+1))) (A0 b0))).any λp=>decide (K04.bd (Az B J n d t F) b0 p=A0 r):=⟨_,rfl⟩;have hm:∀r,r∈d9↔∃p∈rs.filter (liB (Az B J n d t F) (fS (Az B J n d t F) (K.drop (i+1))) (A0 b0)),K04.bd (Az B J n d t F) b0 p=A0 r:=λr=>by rw[e7,aH,aI,br];simp only[decide_eq_true_eq];exact⟨λh=>h.2,λh=>⟨by obtain⟨p,_,e⟩:=h;exact K04.FK hO e,h⟩⟩
     refine⟨⟨l,A',d9,u++[b0],_,_,_,_,_,_,_,rfl,c5,λk=>?_,I.step hO hc e0.1 m4 k9 (by rw[e7];exact List.nodup_range.filter _) hm⟩,hi,b8.trans (b5.trans c6)⟩;rw[b2];exact⟨λ⟨r,e,h⟩=>⟨r,(hm r).mpr h,e⟩,λ⟨r,h,e⟩=>⟨r,e,(hm r).mp h⟩⟩
   .rintro σ H9⟨⟨sm,A,rs,u,x3,x4,x5,x6,x9,i3,i1,rfl,j5,i7,I⟩,_,s9⟩;symm;exact q (A0 u) _ (a8.same s9) (.inr ⟨u,rfl,I.fin⟩)
theorem iu{D:A4}{d:List (List Key×V)}{c:Nat}{b h f:Hp}(g:Go c b h)(j:b D=A6)(s:SD D d h f):Go c b f:=by
 have i:∀{a:A4}{u:HO},b a=A0 u->a≠D:=λ{a u}e z=>by rw[z,j]at e;cases e
 refine⟨λa n e=>?_,λa o e p=>s.oth a _ (i e) (g.oth a o e p),λa e=>g.free a (s.free a e)⟩;obtain⟨m,q,l⟩:=g.box a n e;exact⟨m,q,s.oth a _ (i e) l⟩
theorem RD:∀{a:List Sg}{u:List Bool},Fit a u->A6∉a->qx a=tx u
 | [],[],_,_=>rfl
 |c::a,b::u,h,f=>by
  have g:=RD h.2 λz=>f (ax _ z);have e:c=A0 b:=by
   cases c with
   |none=>exact absurd ay f
   |some d=>exact congrArg A0 (aF.mp h.1).symm
  subst e;have:=congrArg (λz=>qx [A0 b]++z) g;simp only[K6]at this;rw[show A0 b::a=[A0 b]++a from rfl,this,<-Kf,GQ];rfl
 | [],_::_,h,_=>h.elim
 |_::_,[],h,_=>h.elim
theorem some_of:∀{a:List Sg},A6∉a->∃w:List Bool,a=w.map A0
 | [],_=>⟨[],rfl⟩
 |A6::_,h=>absurd ay h
 |A0 b::a,h=>by obtain⟨w,rfl⟩:=some_of λz=>h (ax _ z);exact⟨b::w,rfl⟩
theorem RE:∀{w:List Bool},Fit (w.map A0) w
 | []=>trivial
 |_::_=>⟨ay,RE⟩
theorem RF{P:List Bool->Prop}{w:List Bool}{o:Option (List Bool)}(h:EW P (w.map A0) o):(o=A0 w)↔P w:=by
 rcases h with⟨rfl,d⟩|⟨u,rfl,g⟩;.exact⟨λz=>by(cases z),λz=>absurd ⟨w,RE,z⟩ d⟩
 .have a:A6∉w.map A0:=λz=>by obtain⟨b,_,e⟩:=ar.mp z;cases e
  have e:=RD g.fit a;rw[Dv]at e;have e:=On e;subst e;exact⟨λ_=>g.ok,λ_=>rfl⟩
def EZ:Sp:=λd H Q _=>∃b:A4,d=[.ref b]/\H b=A0 (Bh b 0)/\∀a,Go 9000 H a->Q (.bl A3) a
theorem iv{C:Rc}(hN:C.N.length=8)(d0:C.fs "_law_bounds"=A0 K04.FJ)(hW:C.fs "_law_ways"=A0 FR)(hT:C.fs "_law_take"=A0 C0)(e5:C.fs "_law_holes"=A0 FU)(hK:C.fs "_law_kept_row"=A0 DZ)(hF:C.fs "filled"=A0 FQ)(hD:C.fs "_law_due"=A0 FV)(a7:C.fs "keeps"=A0 K05.FN):∀vs H Q E,EZ vs H Q E->tSs C HU {nx:=λ_ a=>Q .non a,rt:=Q} (L2.BJ C.N vs) H:=by
 intro vs H Q E h;obtain⟨b,rfl,hb,q⟩:=h;rw[Bb hN];unfold HU;symm;refine B6 d0 ?_;symm;refine⟨b,0,rfl,hb,by decide,λp g h0 e h1 f H1 g1 n a0 a1 a2 a3=>?_⟩;symm;refine B6 hW ?_;symm;refine⟨p,g,h0,e,h1,f,rfl,n,⋯,⋯,λD W H2 fD s2 c7 J d8=>?_⟩;have hD0:H D=A6:=g1.free D fD;have a8:W.length<=300:=by have z1:=J.sub.length_le;have z2:=(DA n.bs n.b0 n.b1 (h0:=h0) (h1:=h1)).1;rw[ac]at z1;omega
 have b2:∀w∈W,C7 w.1:=λw hw=>(DA n.bs n.b0 n.b1).2 _ (J.sub.subset (ar.mpr ⟨w,hw,rfl⟩));have g2:=(g1.trans (Go.of_same (c:=0) s2)).mono (d:=20) ⋯;have e1:=n.mono (BG s2);symm;refine Ey (by decide) (by decide) ?_;refine Ez (λi σ a=>(∃x3 x4 O M P,σ=[A0 (.ref b),A0 (.ref p),A0 (.ref D),x3,x4,O,M,P])/\Go (20+4000*i) H a/\IsB a p g h0 e h1 f/\Rd a D (.dT (wK W))/\Be g h0 e h1 f a W) ⟨⟨_,_,_,_,_,rfl⟩,g2,e1,.inl c7,d8⟩ ?_ ?_
 .rintro i σ H3 hi⟨⟨x3,x4,O,M,P,rfl⟩,g3,l,L,a5⟩;have hi:i<2:=by omega
  symm;refine B6 hT ?_;symm;refine CU hb g3 ⋯ (by decide) (by decide) λr4 H4 c4 f4 c9 g4=>?_;symm;generalize e2:DW C _ _=D1;have Aw:∀(N:Nat)(H5:Hp),N<=414->Go (20+4000*i+3) H H5->Go 3 H3 H5->D1.nx [A0 (.ref b),A0 (.ref p),A0 (.ref D),A0 (.int (0+(i:Int))),A0 (.int N),O,M,P] H5:=by
   intro N H5 e8 g5 A;rw[<-e2];have f3:IsB H5 p g h0 e h1 f:=⟨A.tup l.at',l.b0,l.b1,l.bs⟩;have d5:=Dy A L;have c5:=FT A a5;obtain⟨n5,d6,_,e9⟩:=g5.boxed hb ⋯;symm;refine B6 e5 ?_;symm;refine⟨b,D,n5,g,h0,e,h1,f,W,N,rfl,d6,⋯,d5,J,b2,a8,c5,⋯,λG H6 e6 b8=>?_⟩;have g6:=(g5.trans b8).mono (d:=20+4000*i+900) ⋯;have y:=A.trans b8;obtain⟨n6,d4,_,f7⟩:=g6.boxed hb ⋯;symm;rw[K7,iN];refine⟨⋯,⋯,by rw[DE];show 1*_<=_;omega,?_⟩;symm;refine B6 hK ?_;symm;refine⟨b,D,n6,g,h0,e,h1,f,W,N,rfl,d4,⋯,Dy y L,J,b2,a8,FT y a5,⋯,λI H7 f1 R=>?_⟩;have g7:=(g6.trans R).mono (d:=20+4000*i+1400) ⋯;have e3:=y.trans R;symm;refine⟨by decide,λp8 c6=>?_⟩;obtain⟨s8,h8⟩:=snw c6 (.tup [.str (qx G),.str (qx (bU N A6)),.str (tx I)]);have g8:=(g7.trans (Go.of_same (c:=0) s8)).mono (d:=20+4000*i+1400) ⋯;have X:=e3.trans (Go.of_same (c:=0) s8);have c1:IsB (upd H7 p8 (.tup [.str (qx G),.str (qx (bU N A6)),.str (tx I)])) p g h0 e h1 f:=⟨X.tup l.at',l.b0,l.b1,l.bs⟩;have b4:=Dy X L;have b5:=FT X a5;generalize upd H7 p8 _=H8 at s8 h8 g8 X c1 b4 b5⊢;refine Ex (SqT.of h8) (Os (xs:=[.str (qx G),.str (qx (bU N A6)),.str (tx I)]) (λj σ a=>(∃O M P,σ=[A0 (.ref b),A0 (.ref p),A0 (.ref D),A0 (.int (0+(i:Int))),A0 (.int N),O,M,P])/\Go (20+4000*i+1400) H a/\IsB a p g h0 e h1 f/\Rd a D (.dT (wK W))/\Be g h0 e h1 f a W/\a p8=A0 (.tup [.str (qx G),.str (qx (bU N A6)),.str (tx I)])) ⟨⟨_,_,_,rfl⟩,g8,c1,b4,b5,h8⟩ (λj σ a _ pv=>SqT.of pv.2.2.2.2.2) ?_ ?_)
   .rintro j x σ H9 S⟨⟨O,M,P,rfl⟩,g9,v,b3,Y,h9⟩;obtain⟨Z,a4,rfl⟩:∃Z:List Sg,Z.length<=500/\x=.str (qx Z):=by
     match j,S with
     |0,S=>cases S;exact⟨G,⋯,rfl⟩
     |1,S=>cases S;exact⟨_,by rw[List.length_replicate];omega,rfl⟩
     |2,S=>cases S;exact⟨I.map A0,by rw[ac];omega,by rw[Dv]⟩
     |j+3,S=>cases S
    symm;refine B6 hF ?_;symm;refine⟨p,g,h0,e,h1,f,Z,rfl,v,⋯,⋯,a4,λo g0 r ho=>?_⟩;symm;refine B6 hD ?_;symm;refine⟨D,g,h0,e,h1,f,W,Z,rfl,Gz r b3,J,⋯,⋯,b2,a8,(λw hw=>(Y w hw).mono (BG r) λxs z=>r _ _ z),a4,λo' b7 t c0=>?_⟩;have eo:=ho.uniq c0;subst eo;have a9:=iu (g9.trans (Go.of_same (c:=0) r)) hD0 t;have a9:=a9.mono (d:=20+4000*i+1400) ⋯;have B:IsB b7 p g h0 e h1 f:=⟨t.tup (r _ _ v.at'),v.b0,v.b1,v.bs⟩;have b9:=Kg t λw hw=>(Y w hw).mono (BG r) λxs z=>r _ _ z;have d1:=t.tup (r _ _ h9);have b6:=t.dct;clear c0;symm;have c3:∀a,Fh a (vF o)=A0 (if o.isSome then"str"else"NoneType"):=λa=>by cases o<;>rfl
    have c2:(if o.isSome then"str"else"NoneType")∈Dg:=by
     cases o;.exact(by decide:"NoneType"∈Dg)
     .exact(by decide:"str"∈Dg)
    refine Oz (c3 _) c2 (by decide) ?_;symm;refine Oz (c3 _) c2 (by decide) ?_;symm;generalize a6:DW C _ _=f9;have T:∀(a:Hp),Ax b7 a->(∃O M P,[A0 (V.ref b),A0 (.ref p),A0 (.ref D),A0 (.int (0+(i:Int))),A0 (.int N),A0 (.str (qx Z)),A0 (vF o),A0 (vF o)]=[A0 (V.ref b),A0 (.ref p),A0 (.ref D),A0 (.int (0+(i:Int))),A0 (.int N),O,M,P])/\Go (20+4000*i+1400) H a/\IsB a p g h0 e h1 f/\Rd a D (.dT (wK W))/\Be g h0 e h1 f a W/\a p8=A0 (.tup [.str (qx G),.str (qx (bU N A6)),.str (tx I)]):=λa s=>⟨⟨_,_,_,rfl⟩,(a9.trans (Go.of_same (c:=0) s)).mono ⋯,B.mono (BG s),Gz s b6,(λw hw=>(b9 w hw).mono (BG s) λxs z=>s _ _ z),s _ _ d1⟩;cases o with
    |none=>
     simp only[vF];rw[P0 rfl,decide_eq_true rfl];symm;rw[<-a6];symm;rw[QO];by_cases U:A6∈Z;.rw[decide_eq_true U];symm;exact T _ (Ax.refl _)
     .obtain⟨w,rfl⟩:=some_of U;rw[decide_eq_false U];symm;rw[er rfl,decide_eq_false λz=>by cases z];symm;refine B6 a7 ?_;symm;refine⟨p,g,h0,e,h1,f,w,by rw[Dv],B,⋯,⋯,by rw[ac]at a4;omega,λd2 K=>?_⟩;have hf:K05.fK g h0 e h1 f w=A7:=by
       cases hf:K05.fK g h0 e h1 f w with
       |false=>rfl
       |true=>have:=(RF ho).mpr hf;cases this
      rw[hf];symm;exact T _ K
    |some u=>
     obtain⟨u',d7,gu⟩:∃u',A0 u=A0 u'/\Grd (λw=>K05.fK g h0 e h1 f w=A3) Z u':=by
      rcases ho with⟨z,_⟩|z;.cases z
      .exact z
     cases d7;have f0:=gu.fit.len;simp only[vF];rw[P0 rfl,decide_eq_true rfl];symm;rw[<-a6];symm;refine B6 a7 ?_;symm;refine⟨p,g,h0,e,h1,f,u,rfl,B,⋯,⋯,⋯,λd2 K=>?_⟩;rw[gu.ok];symm;rw[QO];by_cases U:A6∈Z;.rw[decide_eq_true U];symm;exact T _ K
     .obtain⟨w,rfl⟩:=some_of U;rw[decide_eq_false U];symm;refine B6 a7 ?_;symm;refine⟨p,g,h0,e,h1,f,w,by rw[Dv],B.mono (BG K),⋯,⋯,by rw[ac]at a4;omega,λe7 e4=>?_⟩;have hf:decide (tx u=qx (w.map A0))=K05.fK g h0 e h1 f w:=by rw[Dv,cz,decide_eq_true_eq,<-RF ho];exact⟨λz=>by rw[On z],λz=>by cases z;rfl⟩
      rw[hf];symm;exact T _ (K.trans e4)
   .rintro σ H9⟨⟨O,M,P,rfl⟩,g9,v,b3,Y,h9⟩;exact⟨⟨_,_,_,_,_,rfl⟩,g9.mono ⋯,v,b3,Y⟩
  refine B6 hT ?_;symm;refine CU hb g4 ⋯ (by decide) (by decide) λr5 H5 f2 f8 c8 g5=>?_;symm;have A:=c9.trans c8;refine Bu (λhq=>?_) λhq=>?_
  .symm;refine B6 hT ?_;symm;refine⟨by decide,λp6 e0=>?_⟩;obtain⟨s6,h6⟩:=snw e0 (.lst [.int 386,.int 26]);have g6:=(g5.trans (Go.of_same (c:=0) s6)).mono (d:=20+4000*i+2) ⋯;have y:=A.trans (Go.of_same (c:=0) s6);generalize upd H5 p6 _=H6 at s6 h6 g6 y⊢;symm;refine Jm (Dy y L) ?_;symm;refine eZ (k:=decide (((wK W).length:Int)>20)) (SqL.of h6) ?_;obtain⟨m,U,d3,f6⟩:∃m:Int,(if decide (((wK W).length:Int)>20)=A3 then V.int 26 else V.int 386)=.int m/\0<m/\m<=386:=by
    split;.exact⟨26,rfl,by decide,by decide⟩
    .exact⟨386,rfl,by decide,by decide⟩
   rw[U];symm;refine CU hb g6 ⋯ d3 ⋯ λr7 H7 d9 f5 R g7=>?_;symm;obtain⟨N,rfl⟩:=aZ d9;rw[show 15+(N:Int)=((15+N:Nat):Int)by omega];exact Aw (15+N) H7 ⋯ (g7.mono ⋯) ((y.trans R).mono ⋯)
  .symm;obtain⟨N,rfl⟩:=aZ c4;exact Aw N H5 ⋯ (g5.mono ⋯) (A.mono ⋯)
 .rintro σ H3⟨⟨x3,x4,O,M,P,rfl⟩,g3,l,L,a5⟩;symm;exact q _ (g3.mono (by decide))
def FW(K:W.Frag):Sp:=λe H Q _=>∃(a:A4)(b:List Int),e=[.ref a]/\SqL K H a (b.map V.int)/\b.length<=63/\∀d,Q (.bl A3) d
theorem iw{C:Rc}(x:C.N.length=2)(s:C.fs "_law_box"=A0 (F0 C.K))(hR:C.fs "_law_right"=A0 EZ):∀p H Q E,FW C.K p H Q E->tSs C HW {nx:=λ_ o=>Q .non o,rt:=Q} (L2.BJ C.N p) H:=by
 intro p H Q E h;obtain⟨a,e,rfl,r,w,q⟩:=h;rw[Bb x];unfold HW;symm;refine EN r ?_;rw[ac];symm;generalize m:(if(3:Int)<(if(e.length:Int)<6 then(e.length:Int)else 6)then(if(e.length:Int)<6 then(e.length:Int)else 6)else 3)=N;have y:0<=N/\N<=8:=by rw[<-m];split<;>split<;>omega
 refine Ey ⋯ ⋯ (Ez (λi n o=>(∃l,n=[A0 (.ref a),l])/\SqL C.K o a (e.map V.int)) ⟨⟨A6,rfl⟩,r⟩ ?_ ?_);.rintro i n j B⟨⟨l,rfl⟩,d⟩;symm;refine B6 hR ?_;symm;refine B6 s ?_;symm;refine⟨a,e,_,rfl,d,⋯,⋯,λb v=>?_⟩;have f:=(BB v (Bh b 0)).seq d;have g:upd j b (Bh b 0) b=A0 (Bh b 0):=A_;generalize upd j b (Bh b 0)=D at f g⊢;symm;refine⟨b,rfl,g,λA t=>?_⟩;symm;exact⟨⟨_,rfl⟩,t.seq f⟩
 .rintro n j⟨⟨l,rfl⟩,d⟩;symm;exact q j
open TM BD BE TE K06 SR K07 QX
def top(i:Nat):Ao:=PySem.Challenge.pw_runbound_k39_holes_filled.main.body.getD i (.Pass ⟨0,0,0,0⟩)
theorem ix:mSs K8 QS (B4 (top 1)) K05.HB (BL (top 1))=A3:=⋯
theorem iy:FnScope K8 ["machine","rooms","bit"] (B4 (top 1)):=⟨rfl,rfl,rfl,⋯,rfl,⋯,⋯⟩
theorem iz:mSs K9 QT (B4 (top 2)) Gi (BL (top 2))=A3:=⋯
theorem i_:FnScope K9 ["machine","rooms"] (B4 (top 2)):=⟨rfl,rfl,rfl,⋯,rfl,⋯,⋯⟩
theorem jA:mSs KA QU (B4 (top 3)) Gj (BL (top 3))=A3:=⋯
theorem jB:FnScope KA ["machine","numbers"] (B4 (top 3)):=⟨rfl,rfl,rfl,⋯,rfl,⋯,⋯⟩
theorem jC:mSs KB QV (B4 (top 4)) Gk (BL (top 4))=A3:=⋯
theorem jD:FnScope KB ["machine"] (B4 (top 4)):=⟨rfl,rfl,rfl,⋯,rfl,⋯,⋯⟩
theorem jE:mSs KC QW (B4 (top 6)) Gn (BL (top 6))=A3:=⋯
theorem jF:FnScope KC ["bounds"] (B4 (top 6)):=⟨rfl,rfl,rfl,⋯,rfl,⋯,⋯⟩
theorem jG:mSs KD QY (B4 (top 7)) Gp (BL (top 7))=A3:=⋯
theorem jH:FnScope KD ["bounds","room","bit"] (B4 (top 7)):=⟨rfl,rfl,rfl,⋯,rfl,⋯,⋯⟩
theorem jI:mSs KF QZ (B4 (top 8)) Gr (BL (top 8))=A3:=⋯
theorem jJ:FnScope KF ["bounds","rooms"] (B4 (top 8)):=⟨rfl,rfl,rfl,⋯,rfl,⋯,⋯⟩
theorem jK:mSs KG Qa (B4 (top 9)) Gs (BL (top 9))=A3:=⋯
theorem jL:FnScope KG ["bounds"] (B4 (top 9)):=⟨rfl,rfl,rfl,⋯,rfl,⋯,⋯⟩
theorem jM:mSs KH Qc (B4 (top 10)) K04.Gv (BL (top 10))=A3:=⋯
theorem jN:FnScope KH ["bounds","row"] (B4 (top 10)):=⟨rfl,rfl,rfl,⋯,rfl,⋯,⋯⟩
theorem jO:mSs KI Qd (B4 (top 11)) K04.Gw (BL (top 11))=A3:=⋯
theorem jP:FnScope KI ["bounds","row"] (B4 (top 11)):=⟨rfl,rfl,rfl,⋯,rfl,⋯,⋯⟩
theorem jQ:mSs HE KJ (B4 (top 14)) HF (BL (top 14))=A3:=⋯
theorem jR:FnScope HE ["machine","rooms","sign","goals"] (B4 (top 14)):=⟨rfl,rfl,rfl,⋯,rfl,⋯,⋯⟩
theorem jS:mSs KL Qe (B4 (top 15)) HG (BL (top 15))=A3:=⋯
theorem jT:FnScope KL ["machine","holes"] (B4 (top 15)):=⟨rfl,rfl,rfl,⋯,rfl,⋯,⋯⟩
theorem jU:mSs HH KM (B4 (top 16)) HI (BL (top 16))=A3:=⋯
theorem jV:FnScope HH ["bounds","holes"] (B4 (top 16)):=⟨rfl,rfl,rfl,⋯,rfl,⋯,⋯⟩
theorem jW:mSs HJ KN (B4 (top 18)) Gb (BL (top 18))=A3:=⋯
theorem jX:FnScope HJ ["_law_script","_law_k"] (B4 (top 18)):=⟨rfl,rfl,rfl,⋯,rfl,⋯,⋯⟩
theorem jY:mSs HK KO (B4 (top 19)) Gc (BL (top 19))=A3:=⋯
theorem jZ:FnScope HK ["_law_script","_law_k"] (B4 (top 19)):=⟨rfl,rfl,rfl,⋯,rfl,⋯,⋯⟩
theorem ja:mSs KP Qf (B4 (top 20)) Gd (BL (top 20))=A3:=⋯
theorem jb:FnScope KP ["_law_box_here","_law_many"] (B4 (top 20)):=⟨rfl,rfl,rfl,⋯,rfl,⋯,⋯⟩
theorem jc:mSs KQ Qg (B4 (top 21)) Gf (BL (top 21))=A3:=⋯
theorem jd:FnScope KQ ["_law_box_here","_law_many"] (B4 (top 21)):=⟨rfl,rfl,rfl,⋯,rfl,⋯,⋯⟩
theorem je:mSs KR Qh (B4 (top 22)) K04.Gx (BL (top 22))=A3:=⋯
theorem jf:FnScope KR ["_law_box_here"] (B4 (top 22)):=⟨rfl,rfl,rfl,⋯,rfl,⋯,⋯⟩
theorem jg:mSs KS Qi (B4 (top 23)) HL (BL (top 23))=A3:=⋯
theorem jh:FnScope KS ["_law_bounds_here","_law_room","_law_bit"] (B4 (top 23)):=⟨rfl,rfl,rfl,⋯,rfl,⋯,⋯⟩
theorem ji:mSs KU Qj (B4 (top 24)) HM (BL (top 24))=A3:=⋯
theorem jj:FnScope KU ["_law_bounds_here"] (B4 (top 24)):=⟨rfl,rfl,rfl,⋯,rfl,⋯,⋯⟩
theorem jk:mSs KW Qk (B4 (top 26)) HN (BL (top 26))=A3:=⋯
theorem jl:FnScope KW ["_law_box_here","_law_ways_here","_law_many"] (B4 (top 26)):=⟨rfl,rfl,rfl,⋯,rfl,⋯,⋯⟩
theorem jm:mSs KY Ql (B4 (top 27)) HP (BL (top 27))=A3:=⋯
theorem jn:FnScope KY ["_law_box_here","_law_ways_here","_law_many"] (B4 (top 27)):=⟨rfl,rfl,rfl,⋯,rfl,⋯,⋯⟩
theorem jo:mSs KZ Qm (B4 (top 28)) HQ (BL (top 28))=A3:=⋯
theorem jp:FnScope KZ ["_law_sign"] (B4 (top 28)):=⟨rfl,rfl,rfl,⋯,rfl,⋯,⋯⟩
theorem jq:mSs Ka Qn (B4 (top 29)) HR (BL (top 29))=A3:=⋯
theorem jr:FnScope Ka ["_law_ways_here","_law_some","_law_bit","_law_left"] (B4 (top 29)):=⟨rfl,rfl,rfl,⋯,rfl,⋯,⋯⟩
theorem js:mSs Kb Qp (B4 (top 30)) HS (BL (top 30))=A3:=⋯
theorem jt:FnScope Kb ["_law_ways_here","_law_holes_here"] (B4 (top 30)):=⟨rfl,rfl,rfl,⋯,rfl,⋯,⋯⟩
theorem ju:mSs Kc Qq (B4 (top 31)) HU (BL (top 31))=A3:=⋯
theorem jv:FnScope Kc ["_law_box_here"] (B4 (top 31)):=⟨rfl,rfl,rfl,⋯,rfl,⋯,⋯⟩
theorem jw:mSs HV Kd (B4 (top 32)) HW (BL (top 32))=A3:=⋯
theorem jx:FnScope HV ["_law_script"] (B4 (top 32)):=⟨rfl,rfl,rfl,⋯,rfl,⋯,⋯⟩
end
open TM BD BE TE K06 SR K07 QX
open TM BD BE TE K06 SR K07 QX
set_option hygiene false in
local macro_rules| `(tactic|walk_at"o")=> `(tactic|(intro vs H Q E h;repeat(first|(obtain⟨rfl,_⟩:=h;rfl)|(obtain⟨_,h⟩:=h))))
def FnD(K:W.Frag)(x:AI)(st:Ao):Prop:=∃(f:A4)(a:Ar),W.nsIn K AQ x=A0 (A0 (.ref f))/\Fun K x x st f a
theorem Bg{K:W.Frag}{x:AI}{st:Ao}{f:A4}{i:A2}{m g:Option A4}{d:Array (Option A2)}{kV e h b j:A2}(a:W.nsIn K AQ x=A0 (A0 (.ref f)))(l:K.lookup f=A0 ⟨i,m,.func (W.fnOf x x (E8 st) (BL st) (B4 st) .none kV e h g b j),d⟩)(c:W.codeIn K b x=A3)(k:W.keepIn K (.ref f)=A3):FnD K x st:=⟨f,_,a,Tf l c k⟩
set_option hygiene false in
local macro_rules| `(tactic|walk_at"b")=> `(tactic|(intro _ _ _ _ _ _ us hl;first|exact fU (P:=λus=>bindArgs _ ({pos:=us}:Args)=pure (cj _ us)) (λ_ _ _=>rfl) us hl|exact fT (P:=λus=>bindArgs _ ({pos:=us}:Args)=pure (cj _ us)) (λ_ _=>rfl) us hl|exact fR (P:=λus=>bindArgs _ ({pos:=us}:Args)=pure (cj _ us)) (λ_=>rfl) us hl|exact fV (P:=λus=>bindArgs _ ({pos:=us}:Args)=pure (cj _ us)) (λ_ _ _ _=>rfl) us hl))
noncomputable section
theorem jy{l:W.OpenLaw}{w:AL}{K:W.Frag}{h:AM}{mg:AI->Option A2}{fa:A4}(X:K.In h)(G:h.Ns AQ mg)(j7:mg "law"=A0 (.ref fa))
  {T:A4}
  (p1:FnD K "rooms_behind" (top 1))
  (p2:FnD K "lasting" (top 2))
  (p3:FnD K "part_of" (top 3))
  (p4:FnD K "trimmed" (top 4))
  (p5:FnD K "rooms_in_bounds" (top 6))
  (p6:FnD K "room_behind" (top 7))
  (p7:FnD K "machine_in_bounds" (top 8))
  (p8:FnD K "machine_of" (top 9))
  (p9:FnD K "fault_at" (top 10))
  (h7:FnD K "keeps" (top 11))
  (l0:FnD K "led_into" (top 14))
  (i6:FnD K "fillable" (top 15))
  (r4:FnD K "filled" (top 16))
  (i4:FnD K "_law_cell_at" (top 18))
  (d6:FnD K "_law_box" (top 19))
  (d9:FnD K "_law_take" (top 20))
  (h4:FnD K "_law_bits" (top 21))
  (h3:FnD K "_law_bounds" (top 22))
  (j4:FnD K "_law_step" (top 23))
  (i9:FnD K "_law_ways" (top 24))
  (h8:FnD K "_law_kept_row" (top 26))
  (i5:FnD K "_law_holes" (top 27))
  (j3:FnD K "_law_signs" (top 28))
  (o0:FnD K "_law_leads" (top 29))
  (q7:FnD K "_law_due" (top 30))
  (j0:FnD K "_law_right" (top 31))
  (r3:FnD K "law" (top 32))
  (z1:W.nsIn K AQ "~"=A0 A6)
  (z2:W.nsIn K AQ "^"=A0 A6)
  (z3:W.nsIn K AQ "%"=A0 A6)
  (z4:W.nsIn K AQ "int"=A0 A6)
  (z5:W.nsIn K AQ "sorted"=A0 A6)
  (z6:W.nsIn K AQ "set"=A0 A6)
  (z7:W.nsIn K AQ "enumerate"=A0 A6)
  (z8:W.nsIn K AQ "tuple"=A0 A6)
  (z9:W.nsIn K AQ "len"=A0 A6)
  (k4:W.nsIn K AQ "list"=A0 A6)
  (j9:W.nsIn K AQ "range"=A0 A6)
  (e1:W.nsIn K AQ "any"=A0 A6)
  (e6:W.nsIn K AQ "reversed"=A0 A6)
  (o2:W.nsIn K AQ "abs"=A0 A6)
  (d7:W.nsIn K AQ "dict"=A0 A6)
  (i3:W.nsIn K AQ "isinstance"=A0 A6)
  (k9:W.nsIn K AQ "str"=A0 A6)
  (e2:W.nsIn K AQ "max"=A0 A6)
  (e3:W.nsIn K AQ "min"=A0 A6)
  (c9:W.nsIn K AQ "BITS_AT"=A0 (A0 (.ref T)))
  (ge1:PyProof.Rows.KTD.tabLook PyProof.Rows.KTD.flatLooks (λb=>K.lookup b) T (([("0","0"),("1","1"),("?","01")]:List (AI×AI)).map λp=>(p.1,Ag p.2))=A3)
  (gf1:PyProof.Rows.KTD.hashesOf (λb=>K.lookup b) T=([("0","0"),("1","1"),("?","01")]:List (AI×AI)).map λp=>hashStr w p.1):
  ∃fd:Ar,(∀(s:A5)(v:A2),BindsTo s fd ⟨[v],[]⟩ [("_law_script",v)])/\∀base:AM,K.In base->base.Ns AQ mg->FnOk l.prog w K mg base CX0 60 fa fd ["_law_script"] (FW K):=by obtain⟨f1,g1,a1,F1⟩:=p1;obtain⟨f2,g2,a2,F2⟩:=p2;obtain⟨f3,g3,a3,F3⟩:=p3;obtain⟨f4,g4,a4,F4⟩:=p4;obtain⟨f5,g5,a5,F5⟩:=p5;obtain⟨f6,g6,a6,F6⟩:=p6;obtain⟨f7,g7,a7,F7⟩:=p7;obtain⟨f8,g8,a8,F8⟩:=p8;obtain⟨f9,g9,a9,F9⟩:=p9;obtain⟨s5,u3,j2,S⟩:=h7;obtain⟨t9,u0,k1,r⟩:=l0;obtain⟨u8,t7,j5,R⟩:=i6;obtain⟨t3,v0,l8,I⟩:=r4;obtain⟨t2,t4,k6,x⟩:=i4;obtain⟨u5,r8,i7,O⟩:=d6;obtain⟨w0,u1,r0,i⟩:=d9;obtain⟨s6,t0,j6,M⟩:=h4;obtain⟨t6,t1,k0,y⟩:=h3;obtain⟨s7,s2,l6,H⟩:=j4;obtain⟨w5,u7,i1,L⟩:=i9;obtain⟨t5,w1,q3,t⟩:=h8;obtain⟨u6,u2,j8,J⟩:=i5;obtain⟨w2,u9,o4,E⟩:=j3;obtain⟨s9,w3,l2,A⟩:=o0;obtain⟨r9,s8,o3,D⟩:=q7;obtain⟨s0,w4,k7,Q⟩:=j0;obtain⟨t8,u4,c3,b0⟩:=r3;obtain⟨r7,r6,d4,Z,c7,c8,c1,d1,r5,rfl,s1,s3⟩:=b0.ex;have e:=j7.symm.trans (W.mg_of X G c3);cases e;have b1:=F1.binds (ps:=["machine","rooms","bit"]) ⋯;have m1:=W.mg_of X G a1;have b2:=F2.binds (ps:=["machine","rooms"]) ⋯;have m2:=W.mg_of X G a2;have b3:=F3.binds (ps:=["machine","numbers"]) ⋯;have m3:=W.mg_of X G a3;have b4:=F4.binds (ps:=["machine"]) ⋯;have m4:=W.mg_of X G a4;have b5:=F5.binds (ps:=["bounds"]) ⋯;have m5:=W.mg_of X G a5;have b6:=F6.binds (ps:=["bounds","room","bit"]) ⋯;have m6:=W.mg_of X G a6;have b7:=F7.binds (ps:=["bounds","rooms"]) ⋯;have m7:=W.mg_of X G a7;have b8:=F8.binds (ps:=["bounds"]) ⋯;have m8:=W.mg_of X G a8;have b9:=F9.binds (ps:=["bounds","row"]) ⋯;have m9:=W.mg_of X G a9;have l5:=S.binds (ps:=["bounds","row"]) ⋯;have k2:=W.mg_of X G j2;have d3:=r.binds (ps:=["machine","rooms","sign","goals"]) ⋯;have a0:=W.mg_of X G k1;have n0:=R.binds (ps:=["machine","holes"]) ⋯;have q8:=W.mg_of X G j5;have o8:=I.binds (ps:=["bounds","holes"]) ⋯;have e8:=W.mg_of X G l8;have d8:=x.binds (ps:=["_law_script","_law_k"]) ⋯;have e7:=W.mg_of X G k6;have l9:=O.binds (ps:=["_law_script","_law_k"]) ⋯;have h2:=W.mg_of X G i7;have j:=i.binds (ps:=["_law_box_here","_law_many"]) ⋯;have m:=W.mg_of X G r0;have h5:=M.binds (ps:=["_law_box_here","_law_many"]) ⋯;have l7:=W.mg_of X G j6;have q1:=y.binds (ps:=["_law_box_here"]) ⋯;have o5:=W.mg_of X G k0;have e9:=H.binds (ps:=["_law_bounds_here","_law_room","_law_bit"]) ⋯;have h9:=W.mg_of X G l6;have q6:=L.binds (ps:=["_law_bounds_here"]) ⋯;have k3:=W.mg_of X G i1;have c0:=t.binds (ps:=["_law_box_here","_law_ways_here","_law_many"]) ⋯;have c2:=W.mg_of X G q3;have i2:=J.binds (ps:=["_law_box_here","_law_ways_here","_law_many"]) ⋯;have k5:=W.mg_of X G j8;have d5:=E.binds (ps:=["_law_sign"]) ⋯;have e0:=W.mg_of X G o4;have l3:=A.binds (ps:=["_law_ways_here","_law_some","_law_bit","_law_left"]) ⋯;have e4:=W.mg_of X G l2;have f0:=D.binds (ps:=["_law_ways_here","_law_holes_here"]) ⋯;have q2:=W.mg_of X G o3;have h0:=Q.binds (ps:=["_law_box_here"]) ⋯;have i0:=W.mg_of X G k7;have s4:=W.mg_of X G c3;have a:=W.mg_none_of X G z1;have d:=W.mg_none_of X G z2;have f:=W.mg_none_of X G z3;have U:=W.mg_none_of X G z4;have n5:=W.mg_none_of X G z5;have n6:=W.mg_none_of X G z6;have Y:=W.mg_none_of X G z7;have n8:=W.mg_none_of X G z8;have n:=W.mg_none_of X G z9;have q:=W.mg_none_of X G k4;have g:=W.mg_none_of X G j9;have c4:=W.mg_none_of X G e1;have c5:=W.mg_none_of X G e6;have q9:=W.mg_none_of X G o2;have d0:=W.mg_none_of X G d7;have o1:=W.mg_none_of X G i3;have g0:=W.mg_none_of X G k9;have l4:=W.mg_none_of X G e2;have o7:=W.mg_none_of X G e3;refine⟨W.fnOf "law" "law" (E8 (top 32)) (BL (top 32)) (B4 (top 32)) .none d4 Z c7 c8 c1 d1,λs v=>.of_eq rfl,λbase _ _=>?_⟩;have O1:=Bd (P:=l.prog) (w:=w) (mg:=mg) (base:=base) (k:=0) F1 {N:=K8,B:=QS,K:=K,fs:=B1 []} iy rfl K05.HB ix (sp:=K05.DD) ⋯ (Bc mN) (mC ⟨U,(mC ⟨n5,mN⟩)⟩) ⟨a,d,f⟩ ⋯ ⋯ rfl rfl (K05.iH rfl  );have O2:=Bd (P:=l.prog) (w:=w) (mg:=mg) (base:=base) (k:=0) F2 {N:=K9,B:=QT,K:=K,fs:=B1 []} i_ rfl Gi iz (sp:=FD) ⋯ (Bc mN) (mC ⟨n6,mN⟩) ⟨a,d,f⟩ ⋯ ⋯ rfl rfl (gh rfl  );have O3:=Bd (P:=l.prog) (w:=w) (mg:=mg) (base:=base) (k:=0) F3 {N:=KA,B:=QU,K:=K,fs:=B1 []} jB rfl Gj jA (sp:=FH) ⋯ (Bc mN) (mC ⟨Y,(mC ⟨n8,mN⟩)⟩) ⟨a,d,f⟩ ⋯ ⋯ rfl rfl (gw rfl  );have O4:=Bd (P:=l.prog) (w:=w) (mg:=mg) (base:=base) (k:=1) F4 {N:=KB,B:=QV,K:=K,fs:=B1 [("lasting",FD),("part_of",FH)]} jD rfl Gk jC (sp:=FI) ⋯ (Bc (mC ⟨⟨_,_,_,(O2).mono ⋯,m2,F2.kp,b2⟩,(mC ⟨⟨_,_,_,(O3).mono ⋯,m3,F3.kp,b3⟩,mN⟩)⟩)) (mC ⟨n,(mC ⟨q,(mC ⟨g,mN⟩)⟩)⟩) ⟨a,d,f⟩ ⋯ ⋯ rfl rfl (gz rfl (show B1 _ "lasting"=A0 (FD)from BP) (show B1 _ "part_of"=A0 (FH)from((BC ⋯).trans BP)));have O5:=Bd (P:=l.prog) (w:=w) (mg:=mg) (base:=base) (k:=0) F5 {N:=KC,B:=QW,K:=K,fs:=B1 []} jF rfl Gn jE (sp:=FE) ⋯ (Bc mN) (mC ⟨q,(mC ⟨g,mN⟩)⟩) ⟨a,d,f⟩ ⋯ ⋯ rfl rfl (gk rfl  );have O6:=Bd (P:=l.prog) (w:=w) (mg:=mg) (base:=base) (k:=0) F6 {N:=KD,B:=QY,K:=K,fs:=B1 []} jH rfl Gp jG (sp:=FF) ⋯ (Bc mN) mN ⟨a,d,f⟩ ⋯ ⋯ rfl rfl (gl rfl  );have O7:=Bd (P:=l.prog) (w:=w) (mg:=mg) (base:=base) (k:=1) F7 {N:=KF,B:=QZ,K:=K,fs:=B1 [("room_behind",FF)]} jJ rfl Gr jI (sp:=FG) ⋯ (Bc (mC ⟨⟨_,_,_,(O6).mono ⋯,m6,F6.kp,b6⟩,mN⟩)) (mC ⟨Y,(mC ⟨n8,mN⟩)⟩) ⟨a,d,f⟩ ⋯ ⋯ rfl rfl (gp rfl (show B1 _ "room_behind"=A0 (FF)from BP));have O8:=Bd (P:=l.prog) (w:=w) (mg:=mg) (base:=base) (k:=2) F8 {N:=KG,B:=Qa,K:=K,fs:=B1 [("trimmed",FI),("machine_in_bounds",FG),("rooms_in_bounds",FE)]} jL rfl Gs jK (sp:=DC) ⋯ (Bc (mC ⟨⟨_,_,_,(O4).mono ⋯,m4,F4.kp,b4⟩,(mC ⟨⟨_,_,_,(O7).mono ⋯,m7,F7.kp,b7⟩,(mC ⟨⟨_,_,_,(O5).mono ⋯,m5,F5.kp,b5⟩,mN⟩)⟩)⟩)) mN ⟨a,d,f⟩ ⋯ ⋯ rfl rfl (iD rfl (show B1 _ "trimmed"=A0 (FI)from BP) (show B1 _ "machine_in_bounds"=A0 (FG)from((BC ⋯).trans BP)) (show B1 _ "rooms_in_bounds"=A0 (FE)from((BC ⋯).trans ((BC ⋯).trans BP))));have O9:=Bd (P:=l.prog) (w:=w) (mg:=mg) (base:=base) (k:=3) F9 {N:=KH,B:=Qc,K:=K,fs:=B1 [("machine_of",DC),("rooms_behind",K05.DD)]} jN rfl K04.Gv jM (sp:=K05.FM) ⋯ (Bc (mC ⟨⟨_,_,_,(O8).mono ⋯,m8,F8.kp,b8⟩,(mC ⟨⟨_,_,_,(O1).mono ⋯,m1,F1.kp,b1⟩,mN⟩)⟩)) (mC ⟨Y,(mC ⟨n,(mC ⟨q,(mC ⟨g,mN⟩)⟩)⟩)⟩) ⟨a,d,f⟩ ⋯ ⋯ rfl rfl (K05.iI rfl (show B1 _ "machine_of"=A0 (DC)from BP) (show B1 _ "rooms_behind"=A0 (K05.DD)from((BC ⋯).trans BP)));have m0:=Bd (P:=l.prog) (w:=w) (mg:=mg) (base:=base) (k:=4) S {N:=KI,B:=Qd,K:=K,fs:=B1 [("fault_at",K05.FM)]} jP rfl K04.Gw jO (sp:=K05.FN) ⋯ (Bc (mC ⟨⟨_,_,_,(O9).mono ⋯,m9,F9.kp,b9⟩,mN⟩)) mN ⟨a,d,f⟩ ⋯ ⋯ rfl rfl (K05.iJ rfl (show B1 _ "fault_at"=A0 (K05.FM)from BP));have c6:=Bd (P:=l.prog) (w:=w) (mg:=mg) (base:=base) (k:=0) r {N:=HE,B:=KJ,K:=K,fs:=B1 [],gt:=D8 "BITS_AT" [("0","0"),("1","1"),("?","01")]} jR rfl HF jQ (sp:=DF) ⋯ (Bc mN) (mC ⟨c4,(mC ⟨U,(mC ⟨n6,mN⟩)⟩)⟩) ⟨a,d,f⟩ ⋯ ⋯ rfl rfl (iQ (C:={N:=HE,B:=KJ,K:=K,fs:=B1 [],gt:=D8 "BITS_AT" [("0","0"),("1","1"),("?","01")]}) rfl  (show D8 "BITS_AT" [("0","0"),("1","1"),("?","01")] "BITS_AT"=A0 ([("0","0"),("1","1"),("?","01")]:List (AI×AI))from PD)) rfl (PF rfl (W.mg_of X G c9) ge1 ⋯ gf1);have h1:=Bd (P:=l.prog) (w:=w) (mg:=mg) (base:=base) (k:=1) R {N:=KL,B:=Qe,K:=K,fs:=B1 [("led_into",DF)]} jT rfl HG jS (sp:=EV) ⋯ (Bc (mC ⟨⟨_,_,_,(c6).mono ⋯,a0,r.kp,d3⟩,mN⟩)) (mC ⟨n,(mC ⟨q,(mC ⟨g,(mC ⟨c5,mN⟩)⟩)⟩)⟩) ⟨a,d,f⟩ ⋯ ⋯ rfl rfl (iR rfl (show B1 _ "led_into"=A0 (DF)from BP));have k8:=Bd (P:=l.prog) (w:=w) (mg:=mg) (base:=base) (k:=3) I {N:=HH,B:=KM,K:=K,fs:=B1 [("machine_of",DC),("fillable",EV),("led_into",DF),("rooms_behind",K05.DD)],gt:=D8 "BITS_AT" [("0","0"),("1","1"),("?","01")]} jV rfl HI jU (sp:=FQ) ⋯ (Bc (mC ⟨⟨_,_,_,(O8).mono ⋯,m8,F8.kp,b8⟩,(mC ⟨⟨_,_,_,(h1).mono ⋯,q8,R.kp,n0⟩,(mC ⟨⟨_,_,_,(c6).mono ⋯,a0,r.kp,d3⟩,(mC ⟨⟨_,_,_,(O1).mono ⋯,m1,F1.kp,b1⟩,mN⟩)⟩)⟩)⟩)) (mC ⟨Y,(mC ⟨n,mN⟩)⟩) ⟨a,d,f⟩ ⋯ ⋯ rfl rfl (iS (C:={N:=HH,B:=KM,K:=K,fs:=B1 [("machine_of",DC),("fillable",EV),("led_into",DF),("rooms_behind",K05.DD)],gt:=D8 "BITS_AT" [("0","0"),("1","1"),("?","01")]}) rfl (show B1 _ "machine_of"=A0 (DC)from BP) (show B1 _ "fillable"=A0 (EV)from((BC ⋯).trans BP)) (show B1 _ "led_into"=A0 (DF)from((BC ⋯).trans ((BC ⋯).trans BP))) (show B1 _ "rooms_behind"=A0 (K05.DD)from((BC ⋯).trans ((BC ⋯).trans ((BC ⋯).trans BP)))) (show D8 "BITS_AT" [("0","0"),("1","1"),("?","01")] "BITS_AT"=A0 ([("0","0"),("1","1"),("?","01")]:List (AI×AI))from PD)) rfl (PF rfl (W.mg_of X G c9) ge1 ⋯ gf1);have j1:=Bd (P:=l.prog) (w:=w) (mg:=mg) (base:=base) (k:=0) x {N:=HJ,B:=KN,K:=K,fs:=B1 []} jX rfl Gb jW (sp:=EO K) ⋯ (Bc mN) (mC ⟨n,mN⟩) ⟨a,d,f⟩ ⋯ ⋯ rfl rfl (gW (C:={N:=HJ,B:=KN,K:=K,fs:=B1 []}) rfl  );have p0:=ga (Bd (P:=l.prog) (w:=w) (mg:=mg) (base:=base) (k:=1) O {N:=HK,B:=KO,K:=K,fs:=B1 [("_law_cell_at",EO K)]} jZ rfl Gc jY (sp:=Jq K) ⋯ (Bc (mC ⟨⟨_,_,_,(j1).mono ⋯,e7,x.kp,d8⟩,mN⟩)) (mC ⟨q9,(mC ⟨U,mN⟩)⟩) ⟨a,d,f⟩ ⋯ ⋯ rfl rfl (gX (C:={N:=HK,B:=KO,K:=K,fs:=B1 [("_law_cell_at",EO K)]}) rfl (show B1 _ "_law_cell_at"=A0 (EO K)from BP)));have o:=gZ rfl (Bd (P:=l.prog) (w:=w) (mg:=mg) (base:=base) (k:=0) i {N:=KP,B:=Qf,K:=K,fs:=B1 []} jb rfl Gd ja (sp:=Ge) ⋯ (Bc mN) mN ⟨a,d,f⟩ ⋯ ⋯ rfl rfl (gY rfl  ));have q5:=Bd (P:=l.prog) (w:=w) (mg:=mg) (base:=base) (k:=1) M {N:=KQ,B:=Qg,K:=K,fs:=B1 [("_law_take",C0)]} jd rfl Gf jc (sp:=FB) ⋯ (Bc (mC ⟨⟨_,_,_,(o).mono ⋯,m,i.kp,j⟩,mN⟩)) (mC ⟨g,mN⟩) ⟨a,d,f⟩ ⋯ ⋯ rfl rfl (gc rfl (show B1 _ "_law_take"=A0 (C0)from BP));have h6:=Bd (P:=l.prog) (w:=w) (mg:=mg) (base:=base) (k:=1) y {N:=KR,B:=Qh,K:=K,fs:=B1 [("_law_take",C0)]} jf rfl K04.Gx je (sp:=K04.FJ) ⋯ (Bc (mC ⟨⟨_,_,_,(o).mono ⋯,m,i.kp,j⟩,mN⟩)) mN ⟨a,d,f⟩ ⋯ ⋯ rfl rfl (K04.g_ rfl (show B1 _ "_law_take"=A0 (C0)from BP));have o9:=Bd (P:=l.prog) (w:=w) (mg:=mg) (base:=base) (k:=0) H {N:=KS,B:=Qi,K:=K,fs:=B1 []} jh rfl HL jg (sp:=Dx) ⋯ (Bc mN) mN ⟨a,d,f⟩ ⋯ ⋯ rfl rfl (iU rfl  );have i8:=Bd (P:=l.prog) (w:=w) (mg:=mg) (base:=base) (k:=1) L {N:=KU,B:=Qj,K:=K,fs:=B1 [("_law_step",Dx)]} jj rfl HM ji (sp:=FR) ⋯ (Bc (mC ⟨⟨_,_,_,(o9).mono ⋯,h9,H.kp,e9⟩,mN⟩)) (mC ⟨d0,(mC ⟨n,(mC ⟨g,mN⟩)⟩)⟩) ⟨a,d,f⟩ ⋯ ⋯ rfl rfl (ie rfl (show B1 _ "_law_step"=A0 (Dx)from BP));have d2:=Bd (P:=l.prog) (w:=w) (mg:=mg) (base:=base) (k:=1) t {N:=KW,B:=Qk,K:=K,fs:=B1 [("_law_take",C0)]} jl rfl HN jk (sp:=DZ) ⋯ (Bc (mC ⟨⟨_,_,_,(o).mono ⋯,m,i.kp,j⟩,mN⟩)) (mC ⟨n,(mC ⟨g,(mC ⟨n5,mN⟩)⟩)⟩) ⟨a,d,f⟩ ⋯ ⋯ rfl rfl (ii rfl (show B1 _ "_law_take"=A0 (C0)from BP));have q0:=Bd (P:=l.prog) (w:=w) (mg:=mg) (base:=base) (k:=2) J {N:=KY,B:=Ql,K:=K,fs:=B1 [("_law_take",C0),("_law_kept_row",DZ),("_law_bits",FB)]} jn rfl HP jm (sp:=FU) ⋯ (Bc (mC ⟨⟨_,_,_,(o).mono ⋯,m,i.kp,j⟩,(mC ⟨⟨_,_,_,(d2).mono ⋯,c2,t.kp,c0⟩,(mC ⟨⟨_,_,_,(q5).mono ⋯,l7,M.kp,h5⟩,mN⟩)⟩)⟩)) (mC ⟨n,mN⟩) ⟨a,d,f⟩ ⋯ ⋯ rfl rfl (ij rfl (show B1 _ "_law_take"=A0 (C0)from BP) (show B1 _ "_law_kept_row"=A0 (DZ)from((BC ⋯).trans BP)) (show B1 _ "_law_bits"=A0 (FB)from((BC ⋯).trans ((BC ⋯).trans BP))));have e5:=Bd (P:=l.prog) (w:=w) (mg:=mg) (base:=base) (k:=0) E {N:=KZ,B:=Qm,K:=K,fs:=B1 []} jp rfl HQ jo (sp:=FS) ⋯ (Bc mN) mN ⟨a,d,f⟩ ⋯ ⋯ rfl rfl (ig rfl  );have l1:=Bd (P:=l.prog) (w:=w) (mg:=mg) (base:=base) (k:=0) A {N:=Ka,B:=Qn,K:=K,fs:=B1 []} jr rfl HR jq (sp:=EX) ⋯ (Bc mN) (mC ⟨U,(mC ⟨n6,(mC ⟨n5,mN⟩)⟩)⟩) ⟨a,d,f⟩ ⋯ ⋯ rfl rfl (ik rfl  );have q4:=Bd (P:=l.prog) (w:=w) (mg:=mg) (base:=base) (k:=1) D {N:=Kb,B:=Qp,K:=K,fs:=B1 [("_law_signs",FS),("_law_leads",EX)]} jt rfl HS js (sp:=FV) ⋯ (Bc (mC ⟨⟨_,_,_,(e5).mono ⋯,e0,E.kp,d5⟩,(mC ⟨⟨_,_,_,(l1).mono ⋯,e4,A.kp,l3⟩,mN⟩)⟩)) (mC ⟨c4,(mC ⟨d0,(mC ⟨Y,(mC ⟨U,(mC ⟨n,(mC ⟨q,(mC ⟨c5,mN⟩)⟩)⟩)⟩)⟩)⟩)⟩) ⟨a,d,f⟩ ⋯ ⋯ rfl rfl (ir rfl (show B1 _ "_law_signs"=A0 (FS)from BP) (show B1 _ "_law_leads"=A0 (EX)from((BC ⋯).trans BP)));have o6:=Bd (P:=l.prog) (w:=w) (mg:=mg) (base:=base) (k:=5) Q {N:=Kc,B:=Qq,K:=K,fs:=B1 [("_law_bounds",K04.FJ),("_law_ways",FR),("_law_take",C0),("_law_holes",FU),("_law_kept_row",DZ),("filled",FQ),("_law_due",FV),("keeps",K05.FN)]} jv rfl HU ju (sp:=EZ) ⋯ (Bc (mC ⟨⟨_,_,_,(h6).mono ⋯,o5,y.kp,q1⟩,(mC ⟨⟨_,_,_,(i8).mono ⋯,k3,L.kp,q6⟩,(mC ⟨⟨_,_,_,(o).mono ⋯,m,i.kp,j⟩,(mC ⟨⟨_,_,_,(q0).mono ⋯,k5,J.kp,i2⟩,(mC ⟨⟨_,_,_,(d2).mono ⋯,c2,t.kp,c0⟩,(mC ⟨⟨_,_,_,(k8).mono ⋯,e8,I.kp,o8⟩,(mC ⟨⟨_,_,_,(q4).mono ⋯,q2,D.kp,f0⟩,(mC ⟨⟨_,_,_,(m0).mono ⋯,k2,S.kp,l5⟩,mN⟩)⟩)⟩)⟩)⟩)⟩)⟩)⟩)) (mC ⟨U,(mC ⟨o1,(mC ⟨n,(mC ⟨g,(mC ⟨g0,mN⟩)⟩)⟩)⟩)⟩) ⟨a,d,f⟩ ⋯ ⋯ rfl rfl (iv rfl (show B1 _ "_law_bounds"=A0 (K04.FJ)from BP) (show B1 _ "_law_ways"=A0 (FR)from((BC ⋯).trans BP)) (show B1 _ "_law_take"=A0 (C0)from((BC ⋯).trans ((BC ⋯).trans BP))) (show B1 _ "_law_holes"=A0 (FU)from((BC ⋯).trans ((BC ⋯).trans ((BC ⋯).trans BP)))) (show B1 _ "_law_kept_row"=A0 (DZ)from((BC ⋯).trans ((BC ⋯).trans ((BC ⋯).trans ((BC ⋯).trans BP))))) (show B1 _ "filled"=A0 (FQ)from((BC ⋯).trans ((BC ⋯).trans ((BC ⋯).trans ((BC ⋯).trans ((BC ⋯).trans BP)))))) (show B1 _ "_law_due"=A0 (FV)from((BC ⋯).trans ((BC ⋯).trans ((BC ⋯).trans ((BC ⋯).trans ((BC ⋯).trans ((BC ⋯).trans BP))))))) (show B1 _ "keeps"=A0 (K05.FN)from((BC ⋯).trans ((BC ⋯).trans ((BC ⋯).trans ((BC ⋯).trans ((BC ⋯).trans ((BC ⋯).trans ((BC ⋯).trans BP)))))))));exact Bd (P:=l.prog) (w:=w) (mg:=mg) (base:=base) (k:=59) b0 {N:=HV,B:=Kd,K:=K,fs:=B1 [("_law_box",F0 K),("_law_right",EZ)]} jx rfl HW jw (sp:=FW K) ⋯ (Bc (mC ⟨⟨_,_,_,(p0).mono ⋯,h2,O.kp,l9⟩,(mC ⟨⟨_,_,_,(o6).mono ⋯,i0,Q.kp,h0⟩,mN⟩)⟩)) (mC ⟨n,(mC ⟨l4,(mC ⟨o7,(mC ⟨g,mN⟩)⟩)⟩)⟩) ⟨a,d,f⟩ ⋯ ⋯ rfl rfl (iw (C:={N:=HV,B:=Kd,K:=K,fs:=B1 [("_law_box",F0 K),("_law_right",EZ)]}) rfl (show B1 _ "_law_box"=A0 (F0 K)from BP) (show B1 _ "_law_right"=A0 (EZ)from((BC ⋯).trans BP)))
theorem jz{l:W.OpenLaw}{q:AC}{g:List AI}{L:(AI->Option A2)->AM->Prop}{d:DefRec}{K:Params->W.Frag}{C:List A4}{m t:Nat}(E:l.most=A0 63)(v:d.params.defaults=[])(e:∀P,C=(K P).map (·.1))
  (F:∀(w:AL)(mg:AI->Option A2)(B:A4)(h:AM),(K w.params).In h->h.Ns AQ mg->mg d.name=A0 (.ref B)->
   ∃D:Ar,(∀(s:A5)(u:A2),BindsTo s D ⟨[u],[]⟩ [("_law_script",u)])/\∀b:AM,(K w.params).In b->b.Ns AQ mg->FnOk l.prog w (K w.params) mg b CX0 60 B D ["_law_script"] (FW (K w.params))):
  W.WalkX q g L (W.X.obsZ C) (W.X.valZ K m t) l.row.toRowW d [] (λf vs=>PySem.call f vs):=
 λw p r mg mb G y a o M R A N kV T O Z H U I i j cs J=>L2.Te (YP:=λw h=>(K w.params).In h) (n:=63) (k:=60) (x:="_law_script") (CX:=λ_=>CX0) (sp:=λw=>FW (K w.params)) E (by decide) v ⟨rfl,by decide,by decide,rfl⟩ (λ_ _ Y=>Y) F (λ_ _ a Q hl _ S=>⟨a,Q,rfl,S,hl,λ_=>rfl⟩) (λ_ _ _ _ _ z=>z) w p r mg mb G (W.InK.keeps w _ _ (W.X.z_facts e y).2.1 J.keeps) a o M R A N kV T O Z H U I i j cs
end
end K39
end
open PySem PySem.W PyProof.Rows
namespace PySem.W.Fast
noncomputable section
def tw17074592691472734690:=0
def tw4056548239692654796:=0
def tw2873589705283463206:=0
def tw17410611606415728623:=0
def tw15468925670197070835:=0
def tw15703951559614302483:=0
def tw6340736192107824893:=0
def tw2224129671664112563:=0
def tw5239870364317674437:=0
def tw1944939770245766247:=0
def tw12440306892081681726:=0
def tw14028852206609610640:=0
def tw3048468132662329155:=0
def tw605914849472725879:=0
def tw3740488014517427869:=0
def tw7024299875839499419:=0
def tw5296748602490797093:=0
def tw4759903468751481244:=0
def tw2140654524454549849:=0
def tw8104173857819640066:=0
def tw4871659412312597343:=0
def tw7682916484253108076:=0
def tw11684247846520487168:=0
def tw16184774527683074588:=0
def tw11770943700455283320:=0
def tw17262408065530544740:=0
def tw15252655999196342202:=0
def tw460497125153265823:=0
def tw6119853999353152040:=0
def tw13079195895505220691:=0
def tw17085194618310904257:=0
def tw16898692815073275988:=0
def tw16777170440211225147:=0
def tw11348119293734238639:=0
def tw13306031304383673491:=0
def tw9612908973285635627:=0
def tw5055688142577372530:=0
def tw16500103443606128327:=0
def tw8240845687548265681:=0
def tw12262277715931030279:=0
def tw17089147386796132669:=0
def tw12551710527344565220:=0
def tw7915072727299256211:=0
def tw15222926448008789844:=0
def tw7643056872805682882:=0
def tw10712374825303270416:=0
def tw5323575040495782253:=0
def tw15371393956875467116:=0
def tw14149148914530193316:=0
def tw9467996988415290552:=0
def tw7743733363973158795:=0
def tw3492497944030220476:=0
def tw4337316485086996799:=0
def tw4325303124498496939:=0
end
end PySem.W.Fast
set_option maxRecDepth 100000 in
set_option maxHeartbeats 0 in
theorem PySem.Challenge.cw_runbound_k39_holes_filled_holds : PySem.Challenge.rw_runbound_k39_holes_filled.Holds := by
 w_on; o_law; z_head; (case hw => w_witness2)
 k_fill
 refine K39.jz (l := PySem.Challenge.rw_runbound_k39_holes_filled) rfl rfl (fun _ => rfl) ?F
 case F =>
  intro w mg fa h KX G hmg
  refine' K39.jy KX G hmg (K39.Bg _ _ _ _) (K39.Bg _ _ _ _) (K39.Bg _ _ _ _) (K39.Bg _ _ _ _) (K39.Bg _ _ _ _) (K39.Bg _ _ _ _) (K39.Bg _ _ _ _) (K39.Bg _ _ _ _) (K39.Bg _ _ _ _) (K39.Bg _ _ _ _) (K39.Bg _ _ _ _) (K39.Bg _ _ _ _) (K39.Bg _ _ _ _) (K39.Bg _ _ _ _) (K39.Bg _ _ _ _) (K39.Bg _ _ _ _) (K39.Bg _ _ _ _) (K39.Bg _ _ _ _) (K39.Bg _ _ _ _) (K39.Bg _ _ _ _) (K39.Bg _ _ _ _) (K39.Bg _ _ _ _) (K39.Bg _ _ _ _) (K39.Bg _ _ _ _) (K39.Bg _ _ _ _) (K39.Bg _ _ _ _) (K39.Bg _ _ _ _) _ _ _ _ _ _ _ _ _ _ _ _ _ _ _ _ _ _ _ _ ?ge1 ?gf1
  all_goals try k_is
  all_goals try k_is
  (case ge1 => kernel_rfl)
  (case gf1 => kernel_rfl)
