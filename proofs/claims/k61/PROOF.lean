import PyProof.Rows.All
import Wide.All
import OpenK.AllK
import Wide.FinOn
import Lean
import PyProof.EqAt
import PyProof.EqKinds
import PyProof.TupleCall
import PySem.Challenge.RW_websbykind_k61_papers_that_none_has_coun
set_option Elab.async false
set_option linter.all false
set_option compiler.extract_closed false
set_option bootstrap.genMatcherCode false
set_option genSizeOf false
set_option maxHeartbeats 4000000
set_option maxRecDepth 100000
set_option autoImplicit true
open PySem PySem.Spec PyProof.Rows
open PySem.W (Frag)
noncomputable section
local macro_rules | `(⋯)=>`(by first |decide |lia |simp)
local macro_rules | `($x⁻¹)=>`(($x).heap.objs.size)
local macro_rules|`(⇑$x)=>`((.slot $x))
local macro_rules|`(↥$x)=>`((.val (.int $x)))
local macro_rules|`(‹$x›)=>`((.dat (.int $x)))
set_option hygiene false in
local macro_rules|`(~~~5)=>`(List (List Int))
local macro_rules|`(~~~0)=>`(List Int)
set_option hygiene false in
local macro_rules|`(~~~1)=>`(List (Addr×Obj))
set_option hygiene false in
local macro_rules|`(~~~2)=>`(model X.prog X.w)
local macro_rules|`(~~~3)=>`(("__debug__":Str))
set_option hygiene false in
local macro_rules|`(~~~7)=>`(Inv X ah O H s)
set_option hygiene false in
local macro_rules|`(tactic|symm)=>`(tactic|cases h)
abbrev aS:=@PySem.wpAny_bind
abbrev bP:=@PySem.Heap.get?_push_of_some
abbrev b0:=@List.mem_cons_of_mem
abbrev dA:=@List.mem_cons_self
abbrev dC:=@List.size_toArray
abbrev dE:=@List.getElem?_eq_some_iff
abbrev dL:=@List.mem_cons
abbrev dS:=@PySem.wpAny_pure
abbrev d0:=@PySem.Heap.lt_size
abbrev d5:=@List.getElem?_append_right
abbrev d6:=@PySem.Heap.get?_push_size
abbrev eA:=@Nat.le_refl
abbrev eC:=@Option.bind_eq_some_iff
abbrev eD:=@List.getElem?_set_ne
abbrev eJ:=@List.getElem?_append_left
abbrev eM:=@Nat.lt_of_lt_of_le
abbrev eP:=@Bool.and_eq_true
abbrev eQ:=@decide_eq_true_eq
abbrev fA:=@List.length_replicate
abbrev fI:=@List.getElem?_set_self
abbrev fN:=@List.nodup_cons
abbrev fR:=@List.length_map
abbrev gL:=@Nat.ne_of_lt
abbrev gN:=@if_neg
abbrev hU:=@List.mem_singleton
abbrev hV:=@List.mem_filter
abbrev i3:=@List.length_cons
abbrev i4:=@List.not_mem_nil
abbrev i5:=@if_pos
abbrev i6:=@List.length_append
abbrev i7:=@List.mem_map
abbrev i8:=@of_decide_eq_true
abbrev i9:=@Nat.add_sub_cancel_left
abbrev kA:=@List.mem_append_right
abbrev kS:=@List.length_set
abbrev lL:=@List.pairwise_cons
abbrev lS:=@PySem.wpAny_newObj_type
abbrev l5:=@PySem.wpAny_field
abbrev l6:=@PySem.Heap.get?_update_other
abbrev l7:=@List.mem_of_getElem?
abbrev l8:=@PySem.wpAny_mono
abbrev l9:=@List.replicate_succ
abbrev mB:=@decide_eq_false
abbrev mE:=@PySem.wpAny_truthy_bool
abbrev mI:=@List.append_nil
abbrev mM:=@Int.toNat_natCast
abbrev mP:=@PyProof.Rows.slot_tuple_getitem
abbrev nE:=@List.getElem?_eq_getElem
abbrev nK:=@decide_eq_true
abbrev nN:=@PySem.Heap.size_push
abbrev nS:=@Int.mul_le_mul_of_nonneg_right
abbrev nV:=@List.getD_eq_getElem?_getD
abbrev n0:=@List.length_reverse
abbrev oC:=@Option.some.inj
abbrev oD:=@List.all_eq_true
abbrev oI:=@Nat.le_trans
abbrev oP:=@PySem.wpAny_holding
abbrev oQ:=@Ne.symm
abbrev oS:=@List.lookup_cons
abbrev o6:=@PySem.wpAny_callSpecial?_slot
abbrev pE:=@Bool.false_ne_true
abbrev pV:=@PySem.wpAny_Call_Name_kw
abbrev qS:=@Nat.lt_irrefl
abbrev rV:=@PySem.sizeLine_eq
abbrev r6:=@List.mem_map_of_mem
abbrev sB:=@List.mem_append
abbrev sK:=@PySem.W.kia_one
abbrev tJ:=@Nat.lt_of_lt_of_eq
abbrev tP:=@List.filterMap_cons
abbrev tS:=@Array.length_toList
abbrev t5:=@List.getElem?_map
abbrev t6:=@List.flatten_cons
abbrev t7:=@PySem.Heap.get?_update_self
abbrev t8:=@List.getElem?_eq_none
abbrev t9:=@List.set_append_right
abbrev u4:=@PySem.Obj.data_mapFields
abbrev u7:=@List.length_take
abbrev u8:=@or_false
abbrev vS:=@List.sum_cons
abbrev v6:=@List.mem_range
abbrev wE:=@List.nodup_nil
abbrev wP:=@Int.mul_nonneg
abbrev wS:=@PyProof.Rows.callWith_type1
abbrev wT:=@PySem.F.slot_tuple_iterator_next
abbrev w8:=@PySem.wpAny_call_entry
abbrev w9:=@Nat.lt_succ_self
abbrev xI:=@Nat.le_add_right
abbrev xL:=@List.mem_replicate
abbrev x0:=@PySem.Obj.isFreed_of_fields
abbrev x5:=@List.pairwise_reverse
abbrev yA:=@PySem.wpAny_setField_rec
abbrev yB:=@List.getElem?_eq_none_iff
abbrev yY:=@PySem.wpAny_seqItems
abbrev y0:=@PySem.wpAny_passesOwn
abbrev y6:=@List.getElem?_take_of_lt
abbrev y7:=@List.nil_append
abbrev y8:=@PySem.AutoSeq1.wpAny_loadPart'
abbrev An:=@Bool.or_eq_true
abbrev Ap:=@PySem.mem_of_lookup
abbrev At:=@PySem.wpAny_pyIter_tuple
abbrev AA:=@PySem.W.callWith_K
abbrev AB:=@Nat.ne_of_gt
abbrev AC:=@List.find?_cons
abbrev AD:=@List.contains_iff_mem
abbrev AE:=@List.map_set
abbrev AF:=@PySem.wpAny_pyIter_list
abbrev AG:=@Nat.lt_succ_of_lt
abbrev AH:=@Array.getElem?_eq_some_iff
abbrev AI:=@List.mem_append_left
abbrev AJ:=@Nat.not_succ_le_zero
abbrev AK:=@PySem.wpAny_setField
abbrev AL:=@PySem.wpAny_execs_cons
abbrev AM:=@Nat.zero_le
abbrev AO:=@PySem.F.args_tuple_add_2
abbrev AQ:=@Nat.lt_or_ge
abbrev AR:=@List.getElem?_replicate
abbrev AS:=@PySem.F.entry_tuple_add
abbrev AT:=@if_true
abbrev AU:=@Option.map_some
abbrev AV:=@Bool.false_eq_true
abbrev AW:=@Int.emod_lt_of_pos
abbrev AX:=@PySem.W.cellsFrom_some
abbrev AY:=@PySem.F.slot_tuple_add
abbrev A7:=@Nat.lt_of_succ_lt_succ
abbrev A8:=@Nat.le_of_succ_le_succ
abbrev A9:=@List.take_of_length_le
abbrev Bi:=@List.reverse_cons
abbrev Bz:=@PySem.W.kitx_list
abbrev BA:=@PySem.W.kitx_dict
abbrev BB:=@Bool.not_eq_true'
abbrev BC:=@List.drop_zero
abbrev BD:=@PySem.codeAny_mono
abbrev BE:=@List.length_singleton
abbrev BF:=@Nat.succ.inj
abbrev BH:=@List.take_append_drop
abbrev BI:=@Nat.sub_self
abbrev BM:=@Int.le_trans
abbrev BN:=@List.getElem_mem
abbrev BO:=@List.any_eq_true
abbrev BS:=@List.set_append_left
abbrev BU:=@PySem.wpAny_standAt
abbrev BY:=@PySem.wpAny_onRaise
abbrev B0:=@PySem.W.mg_of
abbrev B1:=@beq_eq_false_iff_ne
abbrev B3:=@List.of_mem_zip
abbrev B6:=@Bool.eq_iff_iff
abbrev B8:=@Int.emod_nonneg
abbrev B9:=@List.map_congr_left
abbrev Cc:=@List.take_succ_cons
abbrev Cf:=@PySem.wpAny_typeOf
abbrev Cn:=@List.all_map
abbrev CA:=@Bool.and_false
abbrev CB:=@PySem.wpAny_Name
abbrev CC:=@PySem.wpAny_call
abbrev CD:=@PySem.call_meets
abbrev CF:=@Int.not_lt
abbrev CI:=@if_false
theorem nt{p:Prop}(h:false=true):p:=Bool.noConfusion h
namespace L2
def gH(s:Stmt):Arguments:=match s with
 |.FunctionDef _ a _ _ _ _ _ _ _ _=>a
 |_=>{ posonlyargs:=[],args:=[],vararg:=none,kwonlyargs:=[],kw_defaults:=[],kwarg:=none,defaults:=[]}
def bz(s:Stmt):List Stmt:=match s with
 |.FunctionDef _ _ b _ _ _ _ _ _ _=>b
 |_=>[]
def aB(s:Stmt):Scope:=match s with
 |.FunctionDef _ _ _ _ _ _ sc _ _ _=>sc
 |_=>{ kind:=.function,names:=[],isGenerator:=false,isCoroutine:=false}
end L2
namespace Ev
open L2
noncomputable def oH(q:Addr)(K:Params->Frag)(P:Params):Frag:=(q,{ cls:=.none,data:=.fields #[]})::K P
section
open PySem.W
noncomputable def Gg(tb:String->Option Builtin)(p:Program)(w:World)(n₀:Nat)(ann:Option Value):Nat->SharedT->Thread->Option SharedT
 | 0,_,_=>none
 |n+1,s,t=>match through t with
  |true=>some s
  |false=>match stepOk n₀ ann t with
   |false=>none
   |true=>match stepT (denote tb) p w s t with
    |some (s',t')=>Gg tb p w n₀ ann n s' t'
    |none=>none
theorem v5{tb:String->Option Builtin}{p:Program}{w:World}{n₀:Nat}{ann:Option Value}:∀{n:Nat}{s s':SharedT}{t:Thread},Gg tb p w n₀ ann n s t=some s'->topRun tb p w n₀ ann n s.abs t=some s'.abs
 | 0,_,_,_,h=>by symm
 |n+1,s,s',t,h=>by
  unfold Gg at h;unfold topRun;cases he:through t with
  |true=>rw[he]at h;symm;rfl
  |false=>
   rw[he]at h;cases hk:stepOk n₀ ann t with
   |false=>rw[hk]at h;symm
   |true=>
    rw[hk]at h;cases hs:stepT (denote tb) p w s t with
    |none=>rw[hs]at h;symm
    |some r=>obtain⟨s₂,t₂⟩:=r;rw[hs]at h;rw[stepT_spec hs];exact v5 h
noncomputable def Ko:BT->Nat->List Obj->BT
 |t,_,[]=>t
 |t,n,o::os=>Ko (t.ins n o) (n+1) os
noncomputable def zY(P:Params):BT:=Ko .nil 0 (boot_heap P).objs.toList
theorem zZ(P:Params):absHeap (zY P) 11 (boot_heap P).life=boot_heap P:=by kernel_rfl
noncomputable abbrev AN (P:Params):Option Value:=(boot_heap P).nsMap mainGlobals "__annotations__"
theorem xV{p q:Program}{loose:List Str}{Xt:Shared->Bool}{α:Type}{Yf:Shared->α}{Ya:World->α}{N:Nat}{ann:Option Value}
  (e:opening p=plainProg p.main.scope.names) (hN:Nat.ble 600 N=true) (f:∀s,fenceModules? p s=some s) (ha:∀P,AN P=ann)
  (run:∀(w:World) (os:OsState),(Gg treeTable p w 11 ann N ⟨zY w.params,11,(boot_heap w.params).life,#[],boot_drawn,boot_toks,os⟩ (topStub p)).map (λs=>
   (staticsOk (importedModules p.main.body) (boot_heap w.params) s.abs.heap&&namesBound p s.abs.heap&&gensDone s.abs&&laidKept (boot_heap w.params) s.abs.heap,openSeen q loose (importedModules p.main.body) Xt true s.abs,Yf s.abs))=some (true,openGood q loose,Ya w)):LeftO p q loose Xt Yf Ya N:=λw=>by
 obtain⟨⟨h,gs,d,k,os⟩,e1,e2⟩:=Option.map_eq_some_iff.mp (boot_open e hN f w);obtain⟨rfl,rfl,rfl,rfl⟩:h=boot_heap w.params/\gs=Array.mk []/\d=boot_drawn/\k=boot_toks:=by simpa using e2
 obtain⟨s,r1,r2⟩:=Option.map_eq_some_iff.mp (run w os);obtain⟨l1,l2,l3⟩:_/\_/\_:=by simpa only[Prod.mk.injEq]using r2
 have r:=v5 r1;unfold openEnds;rw[e1];show (topFrom treeTable p w N _).map _=_;have z0:((boot_heap w.params).isNs mainGlobals&&(Array.mk []:Array GenState).size==0)=true:=by kernel_rfl
 have t:topFrom treeTable p w N ⟨boot_heap w.params,Array.mk [],boot_drawn,boot_toks,os⟩=some s.abs:=by
  unfold topFrom;dsimp only;rw[z0];have r':topRun treeTable p w (boot_heap w.params).objs.size ((boot_heap w.params).nsMap mainGlobals "__annotations__") N ⟨boot_heap w.params,Array.mk [],boot_drawn,boot_toks,os⟩ (topStub p)=some s.abs:=by
   have:=ha w.params;unfold AN at this;rw[this];have z:SharedT.abs ⟨zY w.params,11,(boot_heap w.params).life,#[],boot_drawn,boot_toks,os⟩=⟨boot_heap w.params,Array.mk [],boot_drawn,boot_toks,os⟩:=by unfold SharedT.abs;dsimp only;rw[zZ]
   rw[z]at r;exact r
  rw[r'];show (match staticsOk (importedModules p.main.body) (boot_heap w.params) s.abs.heap&&namesBound p s.abs.heap&&gensDone s.abs&&laidKept (boot_heap w.params) s.abs.heap with |true=>_ |false=>_)=_
  rw[l1]
 rw[t];exact congrArg some (Prod.ext l2 l3)
theorem SJ(P:Params):AN P=some (.ref 6):=by kernel_rfl
end
end Ev
namespace bD
open L2 Ev
def st(j:Nat):Stmt:=PySem.Challenge.pw_websbykind_k61_papers_that_none_has_coun.main.body.getD j (.Pass ⟨0,0,0,0⟩)
noncomputable def de(P:Params)(s:Str)(t:Tok)(v:Value):DictEntry:=⟨PyData.keyHash P s,.str s t,v⟩
noncomputable def co(vs:Array Value):Obj:=⟨.type "code",none,.fields vs,#[]⟩
noncomputable def fo(j:Nat)(n:Str)(kV doc pm:Value)(an:Option Addr)(bB ct:Value):Obj:=⟨.type "function",none,.func (PySem.W.fnOf n n (gH (st j)) (bz (st j)) (aB (st j)) .none kV doc pm an bB ct),#[]⟩
noncomputable def ce(n:Str)(b a s r t u:Nat):Obj:=⟨.type "type",none,.cls ⟨n,[.ref b],[.ref a,.ref b,.type "ValueError",.type "Exception",.type "BaseException",.type "object"],s,n,true,[],[],false,none,false⟩,#[some (.ref r),none,some (.str n t),some (.str n u),some (.builtin "ValueError.__new__"),some (.bool true)]⟩
def cd(n:Str)(t l p r:Nat)(x y z:Value)(u:Nat):Obj:=co #[.str n t,.str n (t+1),.str "/claim/cut.py" (t+2),.int l 0,.int p 0,.int 0 0,.int 0 0,.int 3 0,.ref r,.bool true,.int 181 0,.ref (r+1),.none,x,y,z,.int u 0,.int l 0,.str "/claim/cut.py" (u+1)]
def fq(j:Nat)(n:Str)(m:Value)(c:Addr):Obj:=fo j n .none .none m none (.ref c) .none
def m0:Value:=.str "websbykind.whole" 458
def m1:Value:=.str "websbykind.kinds" 476
def m2:Value:=.str "websbykind.counts" 484
def m3:Value:=.str "law_websbykind_k61_papers_that_none_has_coun" 535
def K(P:Params):Frag:=
 (nat_lit 3,⟨.type "dict",none,.dict #[de P "__name__" 165 (.str "law_websbykind_k61_papers_that_none_has_coun" 535),de P "__doc__" 166 (.none),de P "__package__" 167 (.none),de P "__loader__" 168 (.builtin "__main__.__loader__#opaque"),de P "__spec__" 169 (.none),de P "__annotations__" 170 (.ref 6),de P "__builtins__" 171 (.ref 4),de P "__file__" 173 (.str "/claim/cut.py" 172),de P "__cached__" 174 (.none),de P "KindError" 206 (.ref 24),de P "NoWeb" 222 (.ref 37),de P "NoNumber" 238 (.ref 49),de P "NoTurn" 254 (.ref 61),de P "NoKind" 270 (.ref 73),de P "NoPlace" 286 (.ref 85),de P "NoTie" 302 (.ref 97),de P "NoNumbers" 318 (.ref 109),de P "NoTree" 334 (.ref 121),de P "NoCode" 350 (.ref 133),de P "NoCounts" 366 (.ref 145),de P "NoMarks" 382 (.ref 157),de P "NoText" 398 (.ref 169),de P "NoLine" 414 (.ref 181),de P "NoDeed" 430 (.ref 193),de P "TooGreat" 457 (.ref 212),de P "is_whole" 466 (.ref 221),de P "is_within" 475 (.ref 228),de P "is_falling" 483 (.ref 233),de P "MOST_COUNTS" 487 (.int 12 486),de P "is_counts" 493 (.ref 238),de P "must_be_counts" 500 (.ref 245),de P "has_web" 507 (.ref 252),de P "is_none_paper" 515 (.ref 259),de P "is_odd" 522 (.ref 266),de P "is_much" 528 (.ref 271),de P "none_paper" 534 (.ref 276),de P "_law_same" 542 (.ref 281),de P "_law_whole" 549 (.ref 288),de P "_law_is_none_paper" 560 (.ref 295),de P "_law_cell_at" 568 (.ref 302),de P "_law_state" 577 (.ref 309),de P "_law_take" 587 (.ref 316),de P "_law_counts" 593 (.ref 321),de P "_law_laid" 599 (.ref 326),de P "_law_bent_counts" 610 (.ref 333),de P "_law_is_counts" 616 (.ref 338),de P "_law_refused" 622 (.ref 343),de P "_law_papers_right" 628 (.ref 348),de P "_law_due" 634 (.ref 353),de P "law" 640 (.ref 358)] 50,#[]⟩) ::
 (nat_lit 4,⟨.type "module",(some 0),.plain,#[]⟩) ::
 (nat_lit 24,⟨.type "type",none,.cls ⟨"KindError",[.type "ValueError"],[.ref 24,.type "ValueError",.type "Exception",.type "BaseException",.type "object"],23, "KindError",true,[],[.ref 37,.ref 49,.ref 61,.ref 73,.ref 85,.ref 97,.ref 109,.ref 121,.ref 133,.ref 145,.ref 157,.ref 169,.ref 181,.ref 193,.ref 212],false,none,false⟩,#[some (.ref 15),none,some (.str "KindError" 189),some (.str "KindError" 197),some (.builtin "ValueError.__new__"),some (.bool true)]⟩) ::
 (nat_lit 23,⟨.type "dict",none,.dict #[de P "__module__" 196 (.str "websbykind.errors" 187),de P "__firstlineno__" 200 (.int 2 199),de P "__static_attributes__" 201 (.ref 22),de P "__weakref__" 203 (.ref 25),de P "__doc__" 204 (.none)] 3,#[]⟩) ::
 (nat_lit 37,ce "NoWeb" 24 37 36 28 207 215) ::
 (nat_lit 49,ce "NoNumber" 24 49 48 40 223 231) ::
 (nat_lit 61,ce "NoTurn" 24 61 60 52 239 247) ::
 (nat_lit 73,ce "NoKind" 24 73 72 64 255 263) ::
 (nat_lit 85,ce "NoPlace" 24 85 84 76 271 279) ::
 (nat_lit 97,ce "NoTie" 24 97 96 88 287 295) ::
 (nat_lit 109,ce "NoNumbers" 24 109 108 100 303 311) ::
 (nat_lit 121,ce "NoTree" 24 121 120 112 319 327) ::
 (nat_lit 133,ce "NoCode" 24 133 132 124 335 343) ::
 (nat_lit 145,ce "NoCounts" 24 145 144 136 351 359) ::
 (nat_lit 144,⟨.type "dict",none,.dict #[de P "__module__" 358 (.str "websbykind.errors" 187),de P "__firstlineno__" 362 (.int 22 361),de P "__static_attributes__" 363 (.ref 143),de P "__doc__" 364 (.none)] 2,#[]⟩) ::
 (nat_lit 157,ce "NoMarks" 24 157 156 148 367 375) ::
 (nat_lit 169,ce "NoText" 24 169 168 160 383 391) ::
 (nat_lit 181,ce "NoLine" 24 181 180 172 399 407) ::
 (nat_lit 193,ce "NoDeed" 24 193 192 184 415 423) ::
 (nat_lit 212,ce "TooGreat" 24 212 211 196 431 439) ::
 (nat_lit 220,cd "is_whole" 460 38 1 215 (.ref 217) (.ref 218) (.ref 219) 464) ::
 (nat_lit 221,fq 18 "is_whole" m0 220) ::
 (nat_lit 227,cd "is_within" 467 40 3 222 (.ref 224) (.ref 225) (.ref 226) 473) ::
 (nat_lit 228,fq 19 "is_within" m0 227) ::
 (nat_lit 232,cd "is_falling" 478 43 1 229 .none .none (.ref 231) 481) ::
 (nat_lit 233,fq 21 "is_falling" m1 232) ::
 (nat_lit 237,cd "is_counts" 488 47 1 234 .none .none (.ref 236) 491) ::
 (nat_lit 238,fq 24 "is_counts" m2 237) ::
 (nat_lit 244,cd "must_be_counts" 494 51 1 239 (.ref 241) (.ref 242) (.ref 243) 498) ::
 (nat_lit 245,fq 25 "must_be_counts" m2 244) ::
 (nat_lit 251,cd "has_web" 501 54 1 246 (.ref 248) (.ref 249) (.ref 250) 505) ::
 (nat_lit 252,fq 26 "has_web" m2 251) ::
 (nat_lit 258,cd "is_none_paper" 508 56 2 253 (.ref 255) (.ref 256) (.ref 257) 513) ::
 (nat_lit 259,fq 27 "is_none_paper" m2 258) ::
 (nat_lit 265,cd "is_odd" 516 65 1 260 (.ref 262) (.ref 263) (.ref 264) 520) ::
 (nat_lit 266,fq 28 "is_odd" m2 265) ::
 (nat_lit 270,cd "is_much" 523 67 2 267 .none .none (.ref 269) 526) ::
 (nat_lit 271,fq 29 "is_much" m2 270) ::
 (nat_lit 275,cd "none_paper" 529 70 1 272 .none .none (.ref 274) 532) ::
 (nat_lit 276,fq 30 "none_paper" m2 275) ::
 (nat_lit 280,cd "_law_same" 537 77 2 277 .none .none (.ref 279) 540) ::
 (nat_lit 281,fq 32 "_law_same" m3 280) ::
 (nat_lit 287,cd "_law_whole" 543 85 1 282 (.ref 284) (.ref 285) (.ref 286) 547) ::
 (nat_lit 288,fq 33 "_law_whole" m3 287) ::
 (nat_lit 294,cd "_law_is_none_paper" 550 87 2 289 (.ref 291) (.ref 292) (.ref 293) 558) ::
 (nat_lit 295,fq 34 "_law_is_none_paper" m3 294) ::
 (nat_lit 301,cd "_law_cell_at" 561 99 2 296 (.ref 298) (.ref 299) (.ref 300) 566) ::
 (nat_lit 302,fq 35 "_law_cell_at" m3 301) ::
 (nat_lit 308,cd "_law_state" 569 103 2 303 (.ref 305) (.ref 306) (.ref 307) 575) ::
 (nat_lit 309,fq 36 "_law_state" m3 308) ::
 (nat_lit 315,cd "_law_take" 578 108 2 310 (.ref 312) (.ref 313) (.ref 314) 585) ::
 (nat_lit 316,fq 37 "_law_take" m3 315) ::
 (nat_lit 320,cd "_law_counts" 588 117 2 317 .none .none (.ref 319) 591) ::
 (nat_lit 321,fq 38 "_law_counts" m3 320) ::
 (nat_lit 325,cd "_law_laid" 594 138 1 322 .none .none (.ref 324) 597) ::
 (nat_lit 326,fq 39 "_law_laid" m3 325) ::
 (nat_lit 332,cd "_law_bent_counts" 600 149 2 327 (.ref 329) (.ref 330) (.ref 331) 608) ::
 (nat_lit 333,fq 40 "_law_bent_counts" m3 332) ::
 (nat_lit 337,cd "_law_is_counts" 611 155 1 334 .none .none (.ref 336) 614) ::
 (nat_lit 338,fq 41 "_law_is_counts" m3 337) ::
 (nat_lit 342,cd "_law_refused" 617 161 1 339 .none .none (.ref 341) 620) ::
 (nat_lit 343,fq 42 "_law_refused" m3 342) ::
 (nat_lit 347,cd "_law_papers_right" 623 175 1 344 .none .none (.ref 346) 626) ::
 (nat_lit 348,fq 43 "_law_papers_right" m3 347) ::
 (nat_lit 352,cd "_law_due" 629 182 1 349 .none .none (.ref 351) 632) ::
 (nat_lit 353,fq 44 "_law_due" m3 352) ::
 (nat_lit 357,cd "law" 635 187 1 354 .none .none (.ref 356) 638) ::
 (nat_lit 358,fq 45 "law" m3 357)::[]
noncomputable def as:List Addr:=nat_lit 3::nat_lit 4::nat_lit 24::nat_lit 23::nat_lit 37::nat_lit 49::nat_lit 61::nat_lit 73::nat_lit 85::nat_lit 97::nat_lit 109::nat_lit 121::nat_lit 133::nat_lit 145::nat_lit 144::nat_lit 157::nat_lit 169::nat_lit 181::nat_lit 193::nat_lit 212::nat_lit 220::nat_lit 221::nat_lit 227::nat_lit 228::nat_lit 232::nat_lit 233::nat_lit 237::nat_lit 238::nat_lit 244::nat_lit 245::nat_lit 251::nat_lit 252::nat_lit 258::nat_lit 259::nat_lit 265::nat_lit 266::nat_lit 270::nat_lit 271::nat_lit 275::nat_lit 276::nat_lit 280::nat_lit 281::nat_lit 287::nat_lit 288::nat_lit 294::nat_lit 295::nat_lit 301::nat_lit 302::nat_lit 308::nat_lit 309::nat_lit 315::nat_lit 316::nat_lit 320::nat_lit 321::nat_lit 325::nat_lit 326::nat_lit 332::nat_lit 333::nat_lit 337::nat_lit 338::nat_lit 342::nat_lit 343::nat_lit 347::nat_lit 348::nat_lit 352::nat_lit 353::nat_lit 357::nat_lit 358::[]
def as2:List Addr:=nat_lit 355::as
noncomputable def qv:Program:={ PySem.Challenge.pw_websbykind_k61_papers_that_none_has_coun with main:={ PySem.Challenge.pw_websbykind_k61_papers_that_none_has_coun.main with body:=[st 1,st 2,st 3,st 4,st 5,st 6,st 7,st 8,st 9,st 10,st 11,st 12,st 13,st 14,st 15,st 16,st 18,st 19,st 21,st 23,st 24,st 25,st 26,st 27,st 28,st 29,st 30,st 32,st 33,st 34,st 35,st 36,st 37,st 38,st 39,st 40,st 41,st 42,st 43,st 44,st 45]}}
theorem SM(P:Params):as2=(oH 355 K P).map (·.1):=by kernel_rfl
theorem op:PySem.W.opening PySem.Challenge.rw_websbykind_k61_papers_that_none_has_coun.row.prog=PySem.W.plainProg PySem.Challenge.rw_websbykind_k61_papers_that_none_has_coun.row.prog.main.scope.names:=by kernel_rfl
theorem fe:∀s,PySem.fenceModules? PySem.Challenge.rw_websbykind_k61_papers_that_none_has_coun.row.prog s=some s:=λs=>by kernel_rfl
theorem hl:PySem.W.LeftO PySem.Challenge.rw_websbykind_k61_papers_that_none_has_coun.row.prog qv [] (λs=>PySem.W.xlAt qv [] s&&PySem.W.recOk (PySem.W.OpenRow.toRowW PySem.Challenge.rw_websbykind_k61_papers_that_none_has_coun.row).records s) (λs=>as2.map s.heap.get?) (λw=>(oH 355 K w.params).map λp:Nat×Obj=>some p.2) 8000:=xV op ⋯ fe SJ λw os=>by kernel_rfl
end bD
namespace Ev
open PySem PySem.W
end Ev
namespace L2
abbrev Key:=Sum Int Str
noncomputable def oJ:Key->Value->Bool
 |.inl k,v=>Value.isInt k v
 |.inr x,v=>Value.isStrOf x v
noncomputable def XD(w:World):Key->Int
 |.inl k=>hashInt k
 |.inr x=>hashStr w x
theorem bA:∀{k:Key}{v:Value},oJ k v=true->(∃i t,k=Sum.inl i/\v=Value.int i t)\/(∃x t,k=Sum.inr x/\v=Value.str x t)
 |.inl i,v,h=>by
  obtain⟨t,e⟩:=Value.isInt_shape (k:=i) (v:=v) h;exact .inl ⟨i,t,rfl,e⟩
 |.inr x,v,h=>by
  obtain⟨t,e⟩:=Value.isStrOf_shape (x:=x) (v:=v) h;exact .inr ⟨x,t,rfl,e⟩
theorem xX(i:Int)(t:Tok):oJ (.inl i) (.int i t)=true:=by simp[oJ,Value.isInt]
theorem xY(x:Str)(t:Tok):oJ (.inr x) (.str x t)=true:=by simp[oJ,Value.isStrOf]
theorem Lr(a b:Int):decide ((Sum.inl a:Key)=Sum.inl b)=(a==b):=by
 by_cases e:a=b
 . subst e;simp
 .
  have h : ¬ (Sum.inl a:Key)=Sum.inl b:=λq=>e (Sum.inl.inj q)
  rw[mB h];exact (B1.mpr e).symm
theorem Ls(a b:Str):decide ((Sum.inr a:Key)=Sum.inr b)=decide (a=b):=by
 by_cases e:a=b
 . subst e;simp
 .
  have h : ¬ (Sum.inr a:Key)=Sum.inr b:=λq=>e (Sum.inr.inj q)
  rw[mB h,mB e]
theorem Lv(a:Int)(b:Str):decide ((Sum.inl a:Key)=Sum.inr b)=false:=mB (λq=>nomatch q)
theorem Lw(a:Str)(b:Int):decide ((Sum.inr a:Key)=Sum.inl b)=false:=mB (λq=>nomatch q)
def fj(prog:Program)(w:World):PySem.KeyKind prog w Key where
 is:=oJ
 hash:=XD w
 inj:=λv a b ha hb=>by
  rcases bA ha with ⟨i,t,rfl,rfl⟩ |⟨x,t,rfl,rfl⟩
  .
   rcases bA hb with ⟨j,u,rfl,e⟩ |⟨y,u,rfl,e⟩
   . injection e with e1 _;rw[e1]
   . exact nomatch e
  .
   rcases bA hb with ⟨j,u,rfl,e⟩ |⟨y,u,rfl,e⟩
   . exact nomatch e
   . injection e with e1 _;rw[e1]
 byValue:=λk v h=>by
  rcases bA h with ⟨i,t,rfl,rfl⟩ |⟨x,t,rfl,rfl⟩ <;> rfl
 pyHash:=λhv h=>by
  rcases bA hv with ⟨i,t,rfl,rfl⟩ |⟨x,t,rfl,rfl⟩
  . exact wpAny_pyHash_int h
  . exact wpAny_pyHash_str h
 eqBool:=λhu hv h=>by
  rcases bA hu with ⟨i,t,rfl,rfl⟩ |⟨x,t,rfl,rfl⟩
  .
   rcases bA hv with ⟨j,u,rfl,rfl⟩ |⟨y,u,rfl,rfl⟩
   . rw[Lr]at h;exact wpAny_eqBool_int h
   . rw[Lv]at h;exact SeqAt.EqAt.int_str i t y u _ _ _ _ h
  .
   rcases bA hv with ⟨j,u,rfl,rfl⟩ |⟨y,u,rfl,rfl⟩
   . rw[Lw]at h;exact SeqAt.EqAt.str_int x t j u _ _ _ _ h
   . rw[Ls]at h;exact wpAny_eqBool_str h
 «strs»:=λk x t v h=>by
  rcases bA h with ⟨i,u,rfl,e⟩ |⟨y,u,rfl,e⟩
  . exact nomatch e
  . injection e with e1 _;subst e1;cases v <;> rfl
theorem se(prog:Program)(w:World)(i:Int)(t:Tok):(fj prog w).is (.inl i) (.int i t)=true:=xX i t
theorem sf(prog:Program)(w:World)(x:Str)(t:Tok):(fj prog w).is (.inr x) (.str x t)=true:=xY x t
inductive V where
 |non |bl (b:Bool) |int (i:Int) |str (x:Str) |Kp (b:Array UInt8) |flt (b:UInt64) |ref (a:Addr) |ty (n:String)
 deriving DecidableEq
noncomputable def RelV:V->Value->Prop
 |.non,u=>u=Value.none
 |.bl b,u=>u=Value.bool b
 |.int i,u=>∃t,u=Value.int i t
 |.str x,u=>∃t,u=Value.str x t
 |.Kp b,u=>∃t,u=Value.bytes b t
 |.flt b,u=>∃t,u=Value.float b t
 |.ref a,u=>u=Value.ref a
 |.ty n,u=>u=Value.type n
abbrev Vals:List V->List Value->Prop:=Paired RelV
theorem Vals.length{xs:List V}{us:List Value}(r:Vals xs us):xs.length=us.length:=Paired.length r
theorem Vals.get:∀{xs:List V}{us:List Value}{i:Nat}{x:V},Vals xs us->xs[i]?=some x->∃u,us[i]?=some u/\RelV x u
 |_,_,_,_,.nil,e=>by simp at e
 |_,_,0,_,.cons r _,e=>by simp at e;subst e;exact⟨_,rfl,r⟩
 |_,_,i+1,x,.cons _ t,e=>by
  obtain⟨u,h1,h2⟩:=Vals.get (i:=i) (x:=x) t (by simpa using e)
  exact⟨u,by simpa using h1,h2⟩
theorem Vals.set{x:V}{u:Value}(r:RelV x u):∀{xs:List V}{us:List Value} (i:Nat),Vals xs us->Vals (xs.set i x) (us.set i u)
 |_,_,_,.nil=>.nil
 |_,_,0,.cons _ t=>.cons r t
 |_,_,i+1,.cons q t=>.cons q (Vals.set r i t)
theorem Vals.append:∀{xs ys:List V}{us ws:List Value},Vals xs us->Vals ys ws->Vals (xs++ys) (us++ws)
 |_,_,_,_,.nil,s=>s
 |_,_,_,_,.cons r t,s=>.cons r (Vals.append t s)
theorem Vals.take:∀{xs:List V}{us:List Value} (n:Nat),Vals xs us->Vals (xs.take n) (us.take n)
 |_,_,0,_=>.nil
 |_,_,_+1,.nil=>.nil
 |_,_,n+1,.cons r t=>.cons r (Vals.take n t)
theorem Vals.drop:∀{xs:List V}{us:List Value} (n:Nat),Vals xs us->Vals (xs.drop n) (us.drop n)
 |_,_,0,r=>r
 |_,_,_+1,.nil=>.nil
 |_,_,n+1,.cons _ t=>Vals.drop n t
def SN:Option V->Option Value->Prop
 |some v,some u=>RelV v u
 |none,none=>True
 |_,_=>False
def KV{κ:Type}:List (κ×V)->List (κ×Value)->Prop:=Paired λ(p:κ×V) (q:κ×Value)=>p.1=q.1/\RelV p.2 q.2
noncomputable def kV:Key->V
 |.inl i=>.int i
 |.inr x=>.str x
inductive HO where
 |lst (xs:List V)
 |tup (xs:List V)
 |dK (eW:List (Key×V)) |dT (eW:List (List Key×V))
 |set (S:Int->Bool) (n:Nat)
 |ins (C dx:Addr) (fs:List (Str×V))
 |own (x:Addr)
 |xd (fs:List (Str×V))
 |met (f x:Addr)
 |Wz (lo hi:Int)
 |jE (o:Obj) (u:HO)
 |jH (ps:Array Value)
 |ext (φ:Heap->Prop)
abbrev Hp:=Addr->Option HO
noncomputable def upd(H:Hp)(a:Addr)(o:HO):Hp:=λb=>if b=a then some o else H b
theorem aC:upd H a o a=some o:=by unfold upd;rw[i5 rfl]
theorem ao(h:b≠a):upd H a o b=H b:=by unfold upd;rw[gN h]
theorem aH{H:Hp}{a b:Addr}{o:HO}(h:H a=some o)(h':H b=none):a≠b:=by intro e;subst e;rw[h]at h';cases h'
def dR(h:Heap)(a:Addr)(its:Array Value):Prop:=∃o,h.get? a=some o/\(o.cls=.type "tuple" /\∃n,o.data=.seq its n)/\o.dict=none
theorem dR.tup{h:Heap}{a:Addr}{its:Array Value}(x:dR h a its):IsTup h a its:=let ⟨o,e,c,_⟩:=x;⟨o,e,c⟩
theorem dR.new(h:Heap)(its:Array Value):dR (h.push { cls:=.type "tuple",data:=.seq its}) h.objs.size its:=⟨_,d6 _ rfl,⟨rfl,_,rfl⟩,rfl⟩
section
variable(P:Program)(w:World)
def cH(H:Hp)(h:Heap)(a:Addr):HO->Prop
 |.lst xs=>xs.length<=sizeLine/\∃(its:List Value) (n:Nat),Vals xs its/\h.get? a=some { cls:=.type "list",data:=.seq its.toArray n}
 |.tup xs=>xs.length<=sizeLine/\∃its:List Value,Vals xs its/\dR h a its.toArray
 |.dK eW=>eW.length<=sizeLine/\(a==sysModules)=false/\∃vs,KV eW vs/\h.DictOf (fj P w) a vs
 |.dT eW=>eW.length<=sizeLine/\(a==sysModules)=false/\∃xs:List (List Key×Addr×Value),
   Paired (λ(p:List Key×V) (q:List Key×Addr×Value)=>p.1=q.1/\H q.2.1=some (.tup (p.1.map kV))/\RelV p.2 q.2.2) eW xs/\
   ∃o es ep,h.get? a=some o/\o.ExactDict/\o.data=.dict es ep/\es.toList=xs.map (entryOfKey (tupleKind (fj P w)))/\(xs.map (·.1)).Nodup
 |.set S n=>h.SetOf (intKind P w) a S n
 |.ins C dx fs=>H dx=some (.own a)/\fs.length<=1000/\dx≠a/\h.get? a=some (PySem.W.instObj C dx)/\
   ∃mA,h.Ns1 dx mA/\(∀f,SN (fs.lookup f) (mA f))/\PySem.Within mA (fs.map (·.1))
 |.own _=>∃o,h.get? a=some o
 |.xd fs=>∃mA,h.Ns1 a mA/\∀f,SN (fs.lookup f) (mA f)
 |.Wz lo hi=>∃t u v,h.get? a=some { cls:=.type "range",data:=.fields #[.int lo t,.int hi u,.int 1 v]}
 |.jE o u=>h.get? a=some o/\cH H h a u
 |.jH ps=>h.get? a=some { cls:=.none,data:=.fields ps}
 |.met f x=>h.get? a=some (PySem.W.methodObj (.ref f) (.ref x))
 |.ext φ=>φ h/\(∃o,h.get? a=some o)/\∀h1 h2:Heap,φ h1->(∀o,h1.get? a=some o->h2.get? a=some o)->φ h2
def jI(H:Hp)(h:Heap):Prop:=∀a o,H a=some o->cH P w H h a o
end
section
variable{P:Program}{w:World}{H H':Hp}{h h':Heap}{a:Addr}{o:HO}
theorem cH.lt(x:cH P w H h a o):a<h.objs.size:=by
 cases o with
 |lst xs=>obtain⟨_,_,_,_,e⟩:=x;exact d0 e
 |tup xs=>obtain⟨_,_,_,_,e,_⟩:=x;exact d0 e
 |dK eW=>obtain⟨_,_,_,_,o,_,_,e,_⟩:=x;exact d0 e
 |dT eW=>obtain⟨_,_,_,_,o,_,_,e,_⟩:=x;exact d0 e
 |set S n=>obtain⟨o,_,_,_,e,_⟩:=x;exact d0 e
 |ins C dx fs=>obtain⟨_,_,_,e,_⟩:=x;exact d0 e
 |own y=>obtain⟨_,e⟩:=x;exact d0 e
 |xd fs=>obtain⟨_,⟨_,_,_,e,_⟩,_⟩:=x;exact d0 e
 |Wz lo hi=>obtain⟨_,_,_,e⟩:=x;exact d0 e
 |jE ob u=>obtain⟨e,_⟩:=x;exact d0 e
 |jH ps=>exact d0 (show h.get? a=some _ from x)
 |met f y=>exact d0 (show h.get? a=some _ from x)
 |ext φ=>obtain⟨_,⟨_,e⟩,_⟩:=x;exact d0 e
theorem Paired.SQ{α β:Type}{F G:α->β->Prop}:∀{l₁:List α}{l₂:List β},Paired F l₁ l₂->(∀a b,F a b->G a b)->Paired G l₁ l₂
 |_,_,.nil,_=>.nil
 |_,_,.cons r t,f=>.cons (f _ _ r) (Paired.SQ t f)
theorem cH.stay(x:cH P w H h a o)(k:∀b u,(b=a\/H b=some (.own a))->h.get? b=some u->h'.get? b=some u)
  (ho:∀b,H b=some (.own a)->H' b=some (.own a)) (ht:∀b xs,H b=some (.tup xs)->H' b=some (.tup xs)):cH P w H' h' a o:=by
 induction o with
 |lst xs=>obtain⟨z,its,n,r,e⟩:=x;exact⟨z,its,n,r,k _ _ (.inl rfl) e⟩
 |tup xs=>obtain⟨z,its,r,ob,e,c⟩:=x;exact⟨z,its,r,ob,k _ _ (.inl rfl) e,c⟩
 |dK eW=>obtain⟨z,y,vs,r,ob,es,ep,e,c⟩:=x;exact⟨z,y,vs,r,ob,es,ep,k _ _ (.inl rfl) e,c⟩
 |dT eW=>obtain⟨z,y,xs,r,ob,es,ep,e,c⟩:=x;exact⟨z,y,xs,Paired.SQ r λp q z=>⟨z.1,ht _ _ z.2.1,z.2.2⟩,ob,es,ep,k _ _ (.inl rfl) e,c⟩
 |set S n=>obtain⟨ob,es,ep,t,e,c⟩:=x;exact⟨ob,es,ep,t,k _ _ (.inl rfl) e,c⟩
 |ins C dx fs=>obtain⟨d,z,ne,e,mA,⟨od,es,ep,e2,c⟩,r⟩:=x;exact⟨ho _ d,z,ne,k _ _ (.inl rfl) e,mA,⟨od,es,ep,k _ _ (.inr d) e2,c⟩,r⟩
 |own y=>obtain⟨ob,e⟩:=x;exact⟨ob,k _ _ (.inl rfl) e⟩
 |xd fs=>obtain⟨mA,⟨od,es,ep,e,c⟩,r⟩:=x;exact⟨mA,⟨od,es,ep,k _ _ (.inl rfl) e,c⟩,r⟩
 |Wz lo hi=>obtain⟨t,u,v,e⟩:=x;exact⟨t,u,v,k _ _ (.inl rfl) e⟩
 |jE ob u ih=>obtain⟨e,q⟩:=x;exact⟨k _ _ (.inl rfl) e,ih q⟩
 |jH ps=>have e:h.get? a=some { cls:=.none,data:=.fields ps}:=x;show h'.get? a=some { cls:=.none,data:=.fields ps};exact k a _ (.inl rfl) e
 |met f y=>have e:h.get? a=some (PySem.W.methodObj (.ref f) (.ref y)):=x;show h'.get? a=some (PySem.W.methodObj (.ref f) (.ref y));exact k a _ (.inl rfl) e
 |ext φ=>obtain⟨p,⟨o,e⟩,st⟩:=x;exact⟨st _ _ p λo q=>k _ _ (.inl rfl) q,⟨o,k _ _ (.inl rfl) e⟩,st⟩
theorem jI.lt(x:jI P w H h)(e:H a=some o):a<h.objs.size:=(x a o e).lt
theorem jI.fresh(x:jI P w H h)(e:h.objs.size<=a):H a=none:=by
 cases q:H a with
 |none=>rfl
 |some u=>exact absurd (eM (x.lt q) e) (qS _)
theorem jI.kept(x:jI P w H h)(k:∀b u,h.get? b=some u->h'.get? b=some u):jI P w H h':=λa o e=>
 (x a o e).stay (λb u _ q=>k b u q) (λ_ q=>q) λ_ _ q=>q
theorem jI.laid(x:jI P w H h)(k:∀b u,h.get? b=some u->h'.get? b=some u)(hp:h.objs.size<=a)(new:cH P w (upd H a o) h' a o):jI P w (upd H a o) h':=λb u e=>by
 have hn:=x.fresh hp;by_cases hb:b=a
 . subst hb;rw[aC]at e;cases e;exact new
 . rw[ao hb]at e;exact (x b u e).stay (λc v _ q=>k c v q) (λc q=>by rw[ao (aH q hn)];exact q) λc xs q=>by rw[ao (aH q hn)];exact q
end
def Rd(H:Hp)(a:Addr)(u:HO):Prop:=H a=some u\/∃o,H a=some (.jE o u)
theorem Rd.ok{P:Program}{w:World}{H:Hp}{h:Heap}{a:Addr}{u:HO}(r:Rd H a u)(x:jI P w H h):cH P w H h a u:=by
 rcases r with r |⟨o,r⟩
 . exact x a u r
 . obtain⟨_,q⟩:=x a _ r;exact q
noncomputable def WD:Option HO->Prop
 |some (.lst _)=>True
 |some (.dK _)=>True
 |some (.dT _)=>True
 |some (.set _ _)=>True
 |some (.ins _ _ _)=>True
 |some (.ext _)=>True
 |_=>False
section
variable{P:Program}{w:World}{H:Hp}{h h':Heap}{x e:Addr}{o':HO}
theorem jI.write(ok:jI P w H h)(mu:WD (H x))(he:e=x\/H e=some (.own x))(k:∀b u,b≠e->h.get? b=some u->h'.get? b=some u)(RK:∃u,h'.get? e=some u)
  (new:cH P w (upd H x o') h' x o'):jI P w (upd H x o') h':=λb u q=>by
 have SX:∀c y,H c=some (.own y)->c≠x:=λc y r z=>by subst z;rw[r]at mu;exact mu
 have XF:∀c xs,H c=some (.tup xs)->c≠x:=λc xs r z=>by subst z;rw[r]at mu;exact mu
 by_cases hb:b=x
 . subst hb;rw[aC]at q;cases q;exact new
 .
  rw[ao hb]at q;by_cases Lx:b=e
  .
   have q':H b=some (.own x):=by
    rcases he with z |z
    . exact absurd (Lx.trans z) hb
    . rw[Lx];exact z
   rw[q]at q';cases q';obtain⟨v,hv⟩:=RK;exact⟨v,by rw[Lx];exact hv⟩
  .
   refine (ok b u q).stay (λc v hc r=>k c v ?_ r) (λc r=>by rw[ao (SX c b r)];exact r) λc xs r=>by rw[ao (XF c xs r)];exact r
   rcases hc with rfl |hc
   . exact Lx
   .
    rintro rfl;rcases he with z |z
    . exact SX c b hc z
    . rw[hc]at z;cases z;exact hb rfl
end
structure Un(fs ex:List Addr)(H H':Hp)(h h':Heap):Prop where
 keep:∀b o,h.get? b=some o->H b=none->b∉fs->b∉ex->h'.get? b=some o
 slot:∀b o,h.get? b=some o->H b=none->b∈fs->b∉ex->∃sl,h'.get? b=some { o with slots:=sl}
 free:∀b o,h.get? b=some o->H b=none->b∉ex->H' b=none
 there:∀b o,h.get? b=some o->b∉ex->∃o',h'.get? b=some o'
 tups:∀b xs,H b=some (.tup xs)->H' b=some (.tup xs)
 iU:∀b o u,H b=some (.jE o u)->H' b=some (.jE o u)
 iV:∀b ps,H b=some (.jH ps)->∃more,H' b=some (.jH (ps++more))
section
variable{fs fs' ex ex':List Addr}{H H1 H2:Hp}{h h1 h2 h':Heap}{a x e:Addr}{o:HO}
theorem Un.any(u:Un fs ex H H1 h h1){b:Addr}{ob:Obj}(q:h.get? b=some ob)(n:H b=none)(hx:b∉ex):∃sl,h1.get? b=some { ob with slots:=sl}:=by
 by_cases hb:b∈fs
 . exact u.slot b ob q n hb hx
 . exact⟨ob.slots,u.keep b ob q n hb hx⟩
theorem Un.kept(k:∀b u,h.get? b=some u->h'.get? b=some u):Un fs ex H H h h':=
 ⟨λb ob q _ _ _=>k b ob q,λb ob q _ _ _=>⟨ob.slots,k b ob q⟩,λ_ _ _ n _=>n,λb ob q _=>⟨ob,k b ob q⟩,λ_ _ q=>q,λ_ _ _ q=>q,λ_ ps q=>⟨#[],by rw[q];simp⟩⟩
theorem Un.refl:Un fs ex H H h h:=Un.kept λ_ _ q=>q
theorem Un.laid(k:∀b u,h.get? b=some u->h'.get? b=some u)(hp:h.objs.size<=a)(hn:H a=none):Un fs ex H (upd H a o) h h' where
 keep:=λb u q _ _ _=>k b u q
 slot:=λb u q _ _ _=>⟨u.slots,k b u q⟩
 free:=λb u q n _=>by rw[ao (gL (eM (d0 q) hp))];exact n
 there:=λb u q _=>⟨u,k b u q⟩
 tups:=λb xs q=>by rw[ao (aH q hn)];exact q
 iU:=λb u xs q=>by rw[ao (aH q hn)];exact q
 iV:=λb ps q=>⟨#[],by rw[ao (aH q hn),q];simp⟩
theorem Un.write(mu:WD (H x))(he:e=x\/H e=some (.own x))(k:∀b u,b≠e->h.get? b=some u->h'.get? b=some u)(RK:∃u,h'.get? e=some u):Un fs ex H (upd H x o) h h':=by
 have hx:∀b,H b=none->b≠x:=λb n z=>by subst z;rw[n]at mu;exact mu
 have hb:∀b,H b=none->b≠e:=λb n z=>by
  subst z;rcases he with r |r
  . exact hx b n r
  . rw[n]at r;cases r
 have hm:∀b u,H b=some u->¬ WD (some u)->b≠x:=λb u q nm z=>by subst z;rw[q]at mu;exact nm mu
 refine⟨λb u q n _ _=>k b u (hb b n) q,λb u q n _ _=>⟨u.slots,k b u (hb b n) q⟩,λb u q n _=>by rw[ao (hx b n)];exact n,λb u q _=>?_,
  λb xs q=>by rw[ao (hm b _ q λz=>z)];exact q,λb u xs q=>by rw[ao (hm b _ q λz=>z)];exact q,λb ps q=>⟨#[],by rw[ao (hm b _ q λz=>z),q];simp⟩⟩
 by_cases Lx:b=e
 . subst Lx;exact RK
 . exact⟨u,k b u Lx q⟩
end
noncomputable def WK(h:Heap)(H:Hp):List Addr:=(List.range h.objs.size).filter λa=>(H a).isSome
def qd(h:Heap)(H:Hp):Heap:=PySem.W.hideAll h (WK h H)
theorem xZ(h:Heap)(H:Hp):(qd h H).objs.size=h.objs.size:=PySem.W.hideAll_size _ _
theorem z5(e:h.get? b=some o)(n:H b=none):(qd h H).get? b=some o:=
 PySem.W.hideAll_get _ e λhm=>by
  have q:(H b).isSome=true:=(hV.mp hm).2;rw[n]at q;simp at q
theorem Gh(e:(qd h H).get? b=some o):h.get? b=some o/\H b=none:=by
 have e':h.get? b=some o:=PySem.W.of_hideAll (WK h H) e;refine⟨e',?_⟩;cases q:H b with
 |none=>rfl
 |some x=>
  have hm:b∈WK h H:=hV.mpr ⟨v6.mpr (d0 e'),by simp[q]⟩
  have z:(qd h H).get? b=none:=PySem.W.hideAll_none (WK h H) hm;rw[z]at e;cases e
noncomputable def Gi(g h:Heap)(L:Addr): ~~~1:=(List.range h.objs.size).filterMap λa=>if a=L\/(g.get? a).isSome=true then none else (h.get? a).map λo=>(a,o)
def rest(g h:Heap)(L d:Addr): ~~~1:=(Gi g h L).filter λp=>decide (p.1≠d)
structure Mod(K:Frag)(mg:Str->Option Value)(base:Heap):Prop where
 zQ:K.In base
 glob:base.Ns mainGlobals mg
 blt:∃mb,base.Ns builtinsNs mb/\∀x:Str,x≠ "__name__" ->mb x=bootBuiltins x
 nolimit:base.NoLimit
structure Cx where
 prog:Program
 w:World
 K:Frag
 mg:Str->Option Value
 base:Heap
 A:Around
 N:List Str
 s₀:Shared
 H₀:Hp
 env:Env
 outer:List Env
 stack:List Env
 ex:List Addr
 fn:Str->Bool
 calm:Bool
 pn:List (Addr×Obj)
 xe:Value->Shared->Prop
noncomputable def frs(l:List Env):List Addr:=l.filterMap (·.frame)
abbrev Cx.fs(X:Cx):List Addr:=frs X.outer
def oK(sc:Scope)(x:Str):Prop:=sc.names.lookup x=some .local\/sc.names.lookup x=some .cell\/sc.names.lookup x=some .free
def Loc(sc:Scope)(x:Str):Prop:=sc.names.lookup x=some .local\/sc.names.lookup x=some .cell
def Look(env:Env)(h:Heap)(m:Str->Option Value)(x:Str)(u:Value):Prop:=
 (env.kindOf x=some .local/\m x=some u)\/((env.kindOf x=some .cell\/env.kindOf x=some .free)/\∃c,env.cells.lookup x=some c/\h.IsCell c (some u))
structure Cx.Ok(X:Cx):Prop where
 mod:Mod X.K X.mg X.base
 kind:X.env.scope.kind=.function
 glob:X.env.globals=mainGlobals
 blt:X.env.builtins=builtinsNs
 above:X.s₀⁻¹<=X.env.locals
 inj:∀x y c,X.env.cells.lookup x=some c->X.env.cells.lookup y=some c->x=y
 has:∀x,(X.env.kindOf x=some .cell\/X.env.kindOf x=some .free)->∃c,X.env.cells.lookup x=some c
 Ly:∀x c,X.fn x=true->X.env.cells.lookup x=some c->X.s₀⁻¹<=c
 hd:X.calm=true->X.A.handled=none
 frames:X.A.frames=some X.stack
 stk:X.stack=X.outer\/(X.stack=X.env::X.outer/\X.env.frame=some X.env.locals)
 RL:∀b∈X.ex,b≠X.env.locals/\∀x c,X.env.cells.lookup x=some c->c≠b
 bs:∀b o,X.base.get? b=some o->X.s₀.heap.get? b=some o/\X.H₀ b=none
 z6:X.base.objs.size<=X.s₀⁻¹
 sr:∀b o,X.base.get? b=some o->b∉X.ex
 uL:∀b∈X.ex,b∉X.fs
 iW:X.s₀.heap.FunFrames X.base X.outer
 Gj:∀b∈X.fs,X.H₀ b=none
structure Inv(X:Cx)(ah: ~~~1)(O:List (Option V))(H:Hp)(s:Shared):Prop where
 ok:X.Ok
 os:s.os=X.s₀.os
 bare:AllBare s.gens
 base:Un X.fs X.ex X.H₀ H X.s₀.heap s.heap
 loc:∃m,s.heap.Ns X.env.locals m/\∀(i:Nat) (x:Str) (v:V),X.N[i]?=some x->O[i]?=some (some v)->oK X.env.scope x->∃u,RelV v u/\Look X.env s.heap m x u
 cell:∀x c,X.env.cells.lookup x=some c->∃v,s.heap.IsCell c v
 free:H X.env.locals=none
 dg:∀x c,X.env.cells.lookup x=some c->H c=none
 pin:∀p∈X.pn++ah,s.heap.get? p.1=some p.2/\H p.1=none/\p.1≠X.env.locals/\p.1∉X.fs/\∀v,p.2.data≠.cell v
 hok:jI X.prog X.w H s.heap
 len:O.length=X.N.length
section
variable{X:Cx}{ah: ~~~1}{O:List (Option V)}{H H':Hp}{s:Shared}{h':Heap}
theorem Cx.Ok.XH(ok:X.Ok)(e:X.base.get? b=some o):b∉X.fs:=λhb=>by
 have:=(ok.iW.mem hb).1;rw[e]at this;cases this
theorem Inv.bs(I: ~~~7):∀b o,X.base.get? b=some o->s.heap.get? b=some o/\H b=none:=λb o e=>
 ⟨I.base.keep b o (I.ok.bs b o e).1 (I.ok.bs b o e).2 (I.ok.XH e) (I.ok.sr b o e),I.base.free b o (I.ok.bs b o e).1 (I.ok.bs b o e).2 (I.ok.sr b o e)⟩
theorem Inv.bk(I: ~~~7):∀b o,X.base.get? b=some o->s.heap.get? b=some o:=λb o e=>(I.bs b o e).1
theorem Inv.mod(I: ~~~7):Mod X.K X.mg X.base:=I.ok.mod
theorem Inv.kP(I: ~~~7):X.K.In s.heap:=I.ok.mod.zQ.keeps I.bk
theorem Inv.nolimit(I: ~~~7):s.heap.NoLimit:=I.ok.mod.nolimit.keeps I.bk
theorem Inv.lt(I: ~~~7):X.env.locals<s⁻¹:=let ⟨_,hn,_⟩:=I.loc;hn.lt
theorem Inv.sz(I: ~~~7):X.s₀⁻¹<=s⁻¹:=oI I.ok.above (Nat.le_of_lt I.lt)
theorem Inv.XJ(I: ~~~7)(h:s⁻¹<=a):a∉X.fs:=λhb=>by
 obtain⟨_,o,ho,_⟩:=I.ok.iW.mem hb;exact absurd (eM (d0 ho) (oI I.sz h)) (qS _)
theorem Inv.Lz(I: ~~~7):∀x c,X.env.cells.lookup x=some c->c≠X.env.locals:=λx c e z=>by
 obtain⟨v,o,ho,hd⟩:=I.cell x c e;obtain⟨m,⟨o',es,ep,ho',hd',_⟩,_⟩:=I.loc;rw[z,ho']at ho;cases ho;rw[hd']at hd;cases hd
theorem Inv.iW(I: ~~~7):s.heap.FunFrames X.base X.outer:=by
 have all:∀(l:List Env),(∀b∈frs l,b∈X.fs)->X.s₀.heap.FunFrames X.base l->s.heap.FunFrames X.base l:=by
  intro l
  induction l with
  |nil=>intro _ _;trivial
  |cons env r ih=>
   intro hs hl;obtain⟨hk,⟨L,o,hf,hn,ho,hd⟩,hr⟩:=hl;have hL:L∈X.fs:=hs L (by unfold frs;rw[tP,hf];exact dA)
   obtain⟨sl,e⟩:=I.base.slot L o ho (I.ok.Gj L hL) hL λz=>I.ok.uL L z hL
   exact⟨hk,⟨L,_,hf,hn,e,hd⟩,ih (λb hb=>hs b (by unfold frs;rw[tP,hf];exact b0 _ hb)) hr⟩
 exact all X.outer (λ_ hb=>hb) I.ok.iW
theorem Inv.stack(I: ~~~7):s.heap.FunFrames X.base X.stack:=by
 rcases I.ok.stk with e |⟨e,hf⟩
 . rw[e];exact I.iW
 .
  rw[e];obtain⟨m,hn,_⟩:=I.loc;refine .cons (by rw[I.ok.kind];decide) hf hn ?_ I.iW
  exact Heap.get?_none_of_le (oI I.ok.z6 I.ok.above)
theorem Inv.uM(I: ~~~7):∀b∈frs X.stack,b∈X.env.locals::X.fs:=λb hb=>by
 rcases I.ok.stk with e |⟨e,hf⟩
 . rw[e]at hb;exact b0 _ hb
 . rw[e]at hb;unfold frs at hb;rw[tP,hf]at hb;exact hb
theorem Inv.qe(I: ~~~7):∀b∈frs X.stack,H b=none:=λb hb=>by
 rcases dL.mp (I.uM b hb)with e |hb
 . rw[e];exact I.free
 . obtain⟨_,o,ho,_⟩:=I.ok.iW.mem hb;exact I.base.free b o ho (I.ok.Gj b hb) λz=>I.ok.uL b z hb
theorem Inv.step{g':Array GenState}{t':Nat}{d':Drawn}{ch:List Addr}(I: ~~~7)
  (hch:∀b∈ch,(b∈X.ex\/X.s₀⁻¹<=b)/\b≠X.env.locals/\(∀x c,X.env.cells.lookup x=some c->c≠b)/\∀p∈X.pn++ah,p.1≠b)
  (keep:∀b o,b≠X.env.locals->b∉X.fs->b∉ch->s.heap.get? b=some o->H b=none->h'.get? b=some o)
  (slot:∀b o,b≠X.env.locals->b∈X.fs->b∉ch->s.heap.get? b=some o->H b=none->∃sl,h'.get? b=some { o with slots:=sl}) (free:∀b o,b∉ch->s.heap.get? b=some o->H b=none->H' b=none)
  (there:∀b o,b∉ch->s.heap.get? b=some o->∃o',h'.get? b=some o')
  (tups:∀b xs,H b=some (.tup xs)->H' b=some (.tup xs)) (iU:∀b o u,H b=some (.jE o u)->H' b=some (.jE o u)) (iV:∀b ps,H b=some (.jH ps)->∃more,H' b=some (.jH (ps++more)))
  (ns:∀m,s.heap.Ns X.env.locals m->h'.Ns X.env.locals m) (hok:jI X.prog X.w H' h') (hg:AllBare g') :
  Inv X ah O H' { s with heap:=h',gens:=g',drawn:=d',toks:=t'}:=by
 have neL:∀b o,X.s₀.heap.get? b=some o->b≠X.env.locals:=λb o e=>gL (eM (d0 e) I.ok.above)
 have WL:∀b o,X.s₀.heap.get? b=some o->b∉X.ex->b∉ch:=λb o e hx hb=>by
  rcases (hch b hb).1 with z |z
  . exact hx z
  . exact absurd (eM (d0 e) z) (qS _)
 have cellK:∀x c,X.env.cells.lookup x=some c->∀v,s.heap.IsCell c v->h'.IsCell c v:=λx c e v ⟨o,ho,hd⟩=>by
  have S0:c∉ch:=λz=>(hch c z).2.2.1 x c e rfl
  by_cases hc:c∈X.fs
  . obtain⟨sl,q⟩:=slot c o (I.Lz x c e) hc S0 ho (I.dg x c e);exact⟨_,q,hd⟩
  . exact⟨o,keep c o (I.Lz x c e) hc S0 ho (I.dg x c e),hd⟩
 refine⟨I.ok,I.os,hg,⟨λb o e n hb hx=>?_,λb o e n hb hx=>?_,λb o e n hx=>?_,λb o e hx=>?_,λb xs e=>tups b xs (I.base.tups b xs e),λb o xs e=>iU b o xs (I.base.iU b o xs e),λb ps e=>?_⟩,?_,λx c e=>?_,?_,λx c e=>?_,λp hp=>?_,hok,I.len⟩
 . exact keep b o (neL b o e) hb (WL b o e hx) (I.base.keep b o e n hb hx) (I.base.free b o e n hx)
 . obtain⟨sl,e1⟩:=I.base.slot b o e n hb hx;obtain⟨WM,e2⟩:=slot b _ (neL b o e) hb (WL b o e hx) e1 (I.base.free b o e n hx);exact⟨WM,e2⟩
 . obtain⟨o',e1⟩:=I.base.there b o e hx;exact free b o' (WL b o e hx) e1 (I.base.free b o e n hx)
 . obtain⟨o',e1⟩:=I.base.there b o e hx;exact there b o' (WL b o e hx) e1
 . obtain⟨m1,e1⟩:=I.base.iV b ps e;obtain⟨m2,e2⟩:=iV b _ e1;exact⟨m1++m2,by rw[e2,Array.append_assoc]⟩
 .
  obtain⟨m,hn,hl⟩:=I.loc;refine⟨m,ns m hn,λi x v e1 e2 e3=>?_⟩
  obtain⟨u,r,l⟩:=hl i x v e1 e2 e3;refine⟨u,r,?_⟩;rcases l with l |⟨k,c,e,z⟩
  . exact .inl l
  . exact .inr ⟨k,c,e,cellK x c e _ z⟩
 . obtain⟨v,z⟩:=I.cell x c e;exact⟨v,cellK x c e v z⟩
 . obtain⟨m,⟨o,_,_,ho,_⟩,_⟩:=I.loc;exact free _ o (λz=>(hch _ z).2.1 rfl) ho I.free
 . obtain⟨v,o,ho,hd⟩:=I.cell x c e;exact free c o (λz=>(hch c z).2.2.1 x c e rfl) ho (I.dg x c e)
 .
  obtain⟨e,n,ne,nf,d⟩:=I.pin p hp;have S0:p.1∉ch:=λz=>(hch p.1 z).2.2.2 p hp rfl
  exact⟨keep p.1 p.2 ne nf S0 e n,free p.1 p.2 S0 e n,ne,nf,d⟩
theorem Inv.un{t':Nat}(I: ~~~7)(u:Un X.fs [] H H' s.heap h')(hok:jI X.prog X.w H' h'):Inv X ah O H' { s with heap:=h',toks:=t'}:=by
 obtain⟨m,⟨o,es,ep,ho,r⟩,_⟩:=id I.loc;obtain⟨sl,hL⟩:=u.any ho I.free ⋯;exact I.step (g':=s.gens) (d':=s.drawn) (ch:=[]) (λ_ z=>nomatch z) (λb o _ hb _ e n=>u.keep b o e n hb ⋯) (λb o _ hb _ e n=>u.slot b o e n hb ⋯) (λb o _ e n=>u.free b o e n ⋯) (λb o _ e=>u.there b o e ⋯) u.tups u.iU u.iV (λm' hm=>by
  obtain⟨o',es',Gk,ho',r'⟩:=hm;rw[ho]at ho';cases ho';exact⟨_,es',Gk,hL,r'⟩) hok I.bare
theorem Inv.call{g':Array GenState}{t':Nat}{d':Drawn}{ch:List Addr}(I: ~~~7)(u:Un (frs X.stack) ch H H' s.heap h')(hok:jI X.prog X.w H' h')(hg:AllBare g')
  (hch:∀b∈ch,(b∈X.ex\/X.s₀⁻¹<=b)/\b≠X.env.locals/\(∀x c,X.env.cells.lookup x=some c->c≠b)/\∀p∈X.pn++ah,p.1≠b) :
  Inv X ah O H' { s with heap:=h',gens:=g',drawn:=d',toks:=t'}:=by
 obtain⟨m,⟨o,es,ep,ho,r⟩,_⟩:=id I.loc;obtain⟨sl,hL⟩:=u.any ho I.free λz=>(hch _ z).2.1 rfl
 exact I.step (ch:=ch) hch (λb o hL hb hc e n=>u.keep b o e n (λz=>(dL.mp (I.uM b z)).elim hL hb) hc) (λb o _ _ hc e n=>u.any e n hc) (λb o hc e n=>u.free b o e n hc) (λb o hc e=>u.there b o e hc) u.tups u.iU u.iV (λm' hm=>by
  obtain⟨o',es',Gk,ho',r'⟩:=hm;rw[ho]at ho';cases ho';exact⟨_,es',Gk,hL,r'⟩) hok hg
theorem Inv.turned{t':Nat}{it:Addr}(I: ~~~7)(k:∀b o,b≠it->s.heap.get? b=some o->h'.get? b=some o)(hn:H it=none)(hL:it≠X.env.locals)
  (h1:it∈X.ex\/X.s₀⁻¹<=it) (h2:∀x c,X.env.cells.lookup x=some c->c≠it) (h3:∀p∈X.pn++ah,p.1≠it):Inv X ah O H { s with heap:=h',toks:=t'}:=by
 have nit:∀b u,H b=some u->b≠it:=λb u e z=>by rw[z,hn]at e;cases e
 refine I.step (g':=s.gens) (d':=s.drawn) (ch:=[it]) (λb hb=>?_) (λb o _ _ hc e _=>k b o (λz=>hc (by simp[z])) e) (λb o _ _ hc e _=>⟨o.slots,k b o (λz=>hc (by simp[z])) e⟩) (λ_ _ _ _ n=>n)
  (λb o hc e=>⟨o,k b o (λz=>hc (by simp[z])) e⟩) (λ_ _ e=>e) (λ_ _ _ e=>e) (λb ps e=>⟨#[],by rw[e];simp⟩) (λm hm=>?_) (λb u e=>?_) I.bare
 .
  have e:b=it:=by simpa using hb
  subst e;exact⟨h1,hL,h2,h3⟩
 . obtain⟨o,es,ep,ho,r⟩:=hm;exact⟨o,es,ep,k _ o (oQ hL) ho,r⟩
 .
  refine (I.hok b u e).stay (λc v hc q=>k c v ?_ q) (λ_ q=>q) λ_ _ q=>q
  rcases hc with z |z
  . rw[z];exact nit b u e
  . exact nit c _ z
theorem Inv.tok(I: ~~~7)(t:Nat):Inv X ah O H { s with toks:=t}:=I.un (h':=s.heap) (t':=t) Un.refl I.hok
theorem Inv.kept{t':Nat}(I: ~~~7)(k:∀b u,s.heap.get? b=some u->h'.get? b=some u):Inv X ah O H { s with heap:=h',toks:=t'}:=I.un (Un.kept k) (I.hok.kept k)
theorem Inv.laid{a:Addr}{o:HO}{t':Nat}(I: ~~~7)(k:∀b u,s.heap.get? b=some u->h'.get? b=some u)(hp:s⁻¹<=a)(new:cH X.prog X.w (upd H a o) h' a o) :
  Inv X ah O (upd H a o) { s with heap:=h',toks:=t'}:=I.un (Un.laid k hp (I.hok.fresh hp)) (I.hok.laid k hp new)
theorem Inv.write(I: ~~~7)(mu:WD (H x))(he:e=x\/H e=some (.own x))(k:∀b u,b≠e->s.heap.get? b=some u->h'.get? b=some u)(RK:∃u,h'.get? e=some u)
  (new:cH X.prog X.w (upd H x o) h' x o):Inv X ah O (upd H x o) { s with heap:=h',toks:=t'}:=I.un (Un.write mu he k RK) (I.hok.write mu he k RK new)
theorem Inv.v7(I: ~~~7)(h:∀p∈S8,s.heap.get? p.1=some p.2/\H p.1=none/\p.1≠X.env.locals/\p.1∉X.fs/\∀v,p.2.data≠.cell v):Inv X S8 O H s:=
 ⟨I.ok,I.os,I.bare,I.base,I.loc,I.cell,I.free,I.dg,λp hp=>(sB.mp hp).elim (λz=>I.pin p (AI _ z)) (h p),I.hok,I.len⟩
theorem lJ{N:List Str}(hN:N.Nodup){i j:Nat}{x:Str}(a:N[i]?=some x)(b:N[j]?=some x):i=j:=by obtain⟨h1,e1⟩:=dE.mp a;obtain⟨h2,e2⟩:=dE.mp b;exact (List.getElem_inj hN).mp (e1.trans e2.symm)
theorem oM{M:Model}{A:Around}{E:Value->Shared->Prop}{i:Nat}{x:Str}{v:V}{u:Value}{Q:Unit->Shared->Prop}(I: ~~~7)(hN:X.N.Nodup)(hi:X.N[i]?=some x)(hx:Loc X.env.scope x)(r:RelV v u)
  (h:∀s',Inv X ah (O.set i (some v)) H s'->(∃a,Heap.SameBut a s.heap s'.heap/\(a=X.env.locals\/X.env.cells.lookup x=some a))->Q () s') (hf:X.fn x=true\/X.env.scope.names.lookup x=some .local:=by first |exact .inl rfl |exact .inr rfl |assumption):wpAny M A (storeName X.env x u) Q E s:=by
 obtain⟨m,hn,hl⟩:=id I.loc;have hcls:(X.env.scope.kind==.class||(X.env.scope.kind==.module&&X.env.locals != X.env.globals))=false:=by rw[I.ok.kind];rfl
 have S9:i<O.length:=by rw[I.len];exact (dE.mp hi).1
 have Lz:=I.Lz;have tracked:∀{a:Addr}{h':Heap},(∃o,s.heap.get? a=some o/\H a=none)->Heap.SameBut a s.heap h'->jI X.prog X.w H h':=λ{a h'} ha hs b ob e=>by
  obtain⟨_,_,hfree⟩:=ha;refine (I.hok b ob e).stay (λc w' hc q=>(hs.2 c ?_).trans q) (λ_ q=>q) λ_ _ q=>q
  rintro rfl;rcases hc with rfl |hc
  . rw[hfree]at e;cases e
  . rw[hfree]at hc;cases hc
 rcases hx with hk |hk
 .
  refine wpAny_storeName_local hk hn (λh' hn' hs=>?_) hcls
  obtain⟨oL,_,_,hoL,_⟩:=id hn;refine h _ ⟨I.ok,I.os,I.bare,⟨λb o e n hb hx=>?_,λb o e n hb hx=>?_,I.base.free,λb o e hx=>?_,I.base.tups,I.base.iU,I.base.iV⟩,⟨_,hn',λj y v' e1 e2 e3=>?_⟩,λy c e=>?_,I.free,I.dg,λp hp=>?_,tracked ⟨oL,hoL,I.free⟩ hs,by simpa using I.len⟩ ⟨_,hs,.inl rfl⟩
  . exact (hs.2 b (gL (eM (d0 e) I.ok.above))).trans (I.base.keep b o e n hb hx)
  . obtain⟨sl,e1⟩:=I.base.slot b o e n hb hx;exact⟨sl,(hs.2 b (gL (eM (d0 e) I.ok.above))).trans e1⟩
  . obtain⟨o',e1⟩:=I.base.there b o e hx;exact⟨o',(hs.2 b (gL (eM (d0 e) I.ok.above))).trans e1⟩
  .
   by_cases hj:j=i
   . subst hj;rw[hi]at e1;cases e1;rw[fI S9]at e2;cases e2;exact⟨u,r,.inl ⟨hk,by simp⟩⟩
   .
    rw[eD (oQ hj)]at e2;obtain⟨u',r',q⟩:=hl j y v' e1 e2 e3;refine⟨u',r',?_⟩;rcases q with ⟨k,e⟩ |⟨k,c,e,z⟩
    .
     refine .inl ⟨k,?_⟩;have:y≠x:=λe=>hj (lJ hN e1 (e▸hi))
     simp[this,e]
    . exact .inr ⟨k,c,e,z.sameBut hs (Lz y c e)⟩
  . obtain⟨w',z⟩:=I.cell y c e;exact⟨w',z.sameBut hs (Lz y c e)⟩
  . obtain⟨e,n,ne,nf,d⟩:=I.pin p hp;exact⟨(hs.2 p.1 ne).trans e,n,ne,nf,d⟩
 .
  have hfn:X.fn x=true:=by
   rcases hf with z |z
   . exact z
   . rw[z]at hk;cases hk
  obtain⟨c,hc⟩:=I.ok.has x (.inl hk);obtain⟨w',z⟩:=I.cell x c hc;refine wpAny_storeName_cell I.ok.kind hk hc z (λh' hc' hs=>?_)
  obtain⟨oc,hoc,XM⟩:=id z;refine h { s with heap:=h'} ⟨I.ok,I.os,I.bare,⟨λb o e n hb hx=>?_,λb o e n hb hx=>?_,I.base.free,λb o e hx=>?_,I.base.tups,I.base.iU,I.base.iV⟩,⟨m,hn.sameBut hs (oQ (Lz x c hc)),λj y v' e1 e2 e3=>?_⟩,λy c' e=>?_,I.free,I.dg,λp hp=>?_,tracked ⟨oc,hoc,I.dg x c hc⟩ hs,by simpa using I.len⟩ ⟨c,hs,.inr hc⟩
  . exact (hs.2 b (gL (eM (d0 e) (I.ok.Ly x c hfn hc)))).trans (I.base.keep b o e n hb hx)
  . obtain⟨sl,e1⟩:=I.base.slot b o e n hb hx;exact⟨sl,(hs.2 b (gL (eM (d0 e) (I.ok.Ly x c hfn hc)))).trans e1⟩
  . obtain⟨o',e1⟩:=I.base.there b o e hx;exact⟨o',(hs.2 b (gL (eM (d0 e) (I.ok.Ly x c hfn hc)))).trans e1⟩
  .
   by_cases hj:j=i
   . subst hj;rw[hi]at e1;cases e1;rw[fI S9]at e2;cases e2;exact⟨u,r,.inr ⟨.inl hk,c,hc,hc'⟩⟩
   .
    rw[eD (oQ hj)]at e2;obtain⟨u',r',q⟩:=hl j y v' e1 e2 e3;refine⟨u',r',?_⟩;rcases q with q |⟨k,c',e,z'⟩
    . exact .inl q
    . refine .inr ⟨k,c',e,z'.sameBut hs ?_⟩;rintro rfl;exact hj (lJ hN e1 (I.ok.inj _ _ _ e hc▸hi))
  .
   by_cases hcc:c'=c
   . subst hcc;exact⟨_,hc'⟩
   . obtain⟨w2,z2⟩:=I.cell y c' e;exact⟨w2,z2.sameBut hs hcc⟩
  . obtain⟨e,n,ne,nf,d⟩:=I.pin p hp;refine⟨(hs.2 p.1 ?_).trans e,n,ne,nf,d⟩;intro q;rw[q,hoc]at e;have q':oc=p.2:=oC e;exact d w' (by rw[<- q'];exact XM)
theorem fV{M:Model}{A:Around}{E:Value->Shared->Prop}{i:Nat}{x:Str}{v:V}{u:Value}{Q:Unit->Shared->Prop}(I: ~~~7)(hN:X.N.Nodup)(hi:X.N[i]?=some x)(hx:Loc X.env.scope x)(r:RelV v u)
  (h:∀s',Inv X ah (O.set i (some v)) H s'->Q () s') (hf:X.fn x=true\/X.env.scope.names.lookup x=some .local:=by first |exact .inl rfl |exact .inr rfl |assumption):wpAny M A (storeName X.env x u) Q E s:=
 oM I hN hi hx r (λs' I' _=>h s' I') hf
theorem Inv.call'(I: ~~~7)(ho:s'.os=s.os)(u:Un (frs X.stack) ch H H' s.heap s'.heap)(hok:jI X.prog X.w H' s'.heap)(hg:AllBare s'.gens)
  (hch:∀b∈ch,(b∈X.ex\/X.s₀⁻¹<=b)/\b≠X.env.locals/\(∀x c,X.env.cells.lookup x=some c->c≠b)/\∀p∈X.pn++ah,p.1≠b):Inv X ah O H' s':=by
 obtain⟨h',g',d',t',o'⟩:=s';have e:o'=s.os:=ho;subst e;exact I.call (g':=g') (t':=t') (d':=d') u hok hg hch
end
abbrev XK:=Value->Option Addr->Hp->Prop
abbrev St:=List (Option V)
abbrev VK:=V->Hp->Prop
abbrev TE:=St->Hp->VK->Prop
abbrev TT:=St->Hp->(Bool->Hp->Prop)->Prop
abbrev TA:=St->Hp->(List V->Hp->Prop)->Prop
structure Ends where
 nx:St->Hp->Prop
 rt:VK
 bk:St->Hp->Prop:=λ_ _=>False
 ct:St->Hp->Prop:=λ_ _=>False
abbrev TS:=Ends->St->Hp->Prop
def EP(X:Cx)(ah: ~~~1)(O:St)(Q:VK)(u:Value)(s':Shared):Prop:=∃v H',Inv X ah O H' s'/\RelV v u/\Q v H'
def TP(X:Cx)(ah: ~~~1)(O:St)(Q:Bool->Hp->Prop)(b:Bool)(s':Shared):Prop:=∃H',Inv X ah O H' s'/\Q b H'
def AP(X:Cx)(ah: ~~~1)(O:St)(Q:List V->Hp->Prop)(us:List Value)(s':Shared):Prop:=∃vs H',Inv X ah O H' s'/\Vals vs us/\Q vs H'
def SP(X:Cx)(ah: ~~~1)(D:Ends)(f:Flow)(s':Shared):Prop:=
 match f with
 |.next=>∃σ' H',Inv X ah σ' H' s'/\D.nx σ' H'
 |.brk=>∃σ' H',Inv X ah σ' H' s'/\D.bk σ' H'
 |.cont=>∃σ' H',Inv X ah σ' H' s'/\D.ct σ' H'
 |.ret u=>∃v σ' H',Inv X ah σ' H' s'/\RelV v u/\D.rt v H'
def PE(X:Cx)(e:Expr)(t:TE):Prop:=
 ∀(ah: ~~~1) (s:Shared) (O:St) (H:Hp) (Q:VK),Inv X ah O H s->t O H Q->wpAny (~~~2) X.A (eval e X.env) (EP X ah O Q) X.xe s
def PT(X:Cx)(e:Expr)(t:TT):Prop:=
 ∀(ah: ~~~1) (s:Shared) (O:St) (H:Hp) (Q:Bool->Hp->Prop),Inv X ah O H s->t O H Q->wpAny (~~~2) X.A (isTrue e X.env (eval e X.env)) (TP X ah O Q) X.xe s
def PW(X:Cx)(e:Expr)(t:TT):Prop:=
 ∀(whole:Sem Value) (ah: ~~~1) (s:Shared) (O:St) (H:Hp) (Q:Bool->Hp->Prop),Inv X ah O H s->t O H Q->wpAny (~~~2) X.A (isTrue e X.env whole) (TP X ah O Q) X.xe s
theorem PW.pt{X:Cx}{e:Expr}{t:TT}(h:PW X e t):PT X e t:=h _
def PA(X:Cx)(es:List Expr)(t:TA):Prop:=
 ∀(pos:Pos) (ah: ~~~1) (s:Shared) (O:St) (H:Hp) (Q:List V->Hp->Prop),Inv X ah O H s->t O H Q->wpAny (~~~2) X.A (spliced (backTo pos (starEach es X.env))) (AP X ah O Q) X.xe s
def PS(X:Cx)(st:Stmt)(t:TS):Prop:=
 ∀(ah: ~~~1) (s:Shared) (O:St) (H:Hp) (D:Ends),Inv X ah O H s->t D O H->wpAny (~~~2) X.A (exec st X.env) (SP X ah D) X.xe s
def qg(X:Cx)(st:List Stmt)(t:TS):Prop:=
 ∀(ah: ~~~1) (s:Shared) (O:St) (H:Hp) (D:Ends),Inv X ah O H s->t D O H->wpAny (~~~2) X.A (execs st X.env) (SP X ah D) X.xe s
theorem bR{α:Type}{t:Sem α}{Q Q':α->Shared->Prop}{M:Model}{A:Around}{E:Value->Shared->Prop}{s:Shared}(h:wpAny M A t Q E s)(hQ:∀a s,Q a s->Q' a s):wpAny M A t Q' E s:=l8 h hQ λ_ _ x=>x
section
variable{X:Cx}
theorem bin{a b:Expr}{ta tb:TE}(ha:PE X a ta)(hb:PE X b tb){ah: ~~~1}{s:Shared}{O:St}{H:Hp}{R:V->V->Hp->Prop}(I: ~~~7)(h:ta O H λx H1=>tb O H1 λy H2=>R x y H2)
  {α:Type}{Q:α->Shared->Prop}{f:Value->Value->Sem α}
  (hf:∀v u s2 x y H2,Inv X ah O H2 s2->RelV x v->RelV y u->R x y H2->wpAny (~~~2) X.A (f v u) Q X.xe s2) :
  wpAny (~~~2) X.A (eval a X.env) (λv s₁=>wpAny (~~~2) X.A (eval b X.env) (λu s₂=>wpAny (~~~2) X.A (f v u) Q X.xe s₂) X.xe s₁) X.xe s:=by
 refine bR (ha ah s O H _ I h) λv s1 ⟨x,H1,I1,r1,q1⟩=>?_
 refine bR (hb ah s1 O H1 _ I1 q1) λu s2 ⟨y,H2,I2,r2,q2⟩=>?_
 exact hf v u s2 x y H2 I2 r1 r2 q2
def Tc(i:Nat):TE:=λO H Q=>∃v,O[i]?=some (some v)/\Q v H
def tC(v:V):TE:=λ_ H Q=>Q v H
theorem fW(hN:X.N[i]?=some x)(hv:oK X.env.scope x)(hd:(x==(~~~3))=false:=by decide)(bY:(x==("__classdict__":Str))=false:=by decide):PE X (.Name x pos) (Tc i):=by
 intro ah s O H Q I h;obtain⟨v,e,h⟩:=h;obtain⟨m,hn,hl⟩:=I.loc;obtain⟨u,r,l⟩:=hl i x v hN e hv;have fin:EP X ah O Q u s:=⟨v,H,I,r,h⟩;rcases l with ⟨hk,hm⟩ |⟨hk,c,hc,hcell⟩
 . exact CB (wpAny_loadName_local I.ok.kind hk hn hm fin) hd
 .
  rcases hk with hk |hk
  . exact CB (wpAny_loadName_cell I.ok.kind hk hc hcell fin) hd
  . exact CB (wpAny_loadName_free I.ok.kind hk hc hcell fin bY) hd
theorem z7{i j pos}:PE X (.Constant (.int i) j pos) (tC (.int i)):=λ_ _ _ H _ I h=>wpAny_Constant_int ⟨.int i,H,I.tok _,⟨_,rfl⟩,h⟩
theorem Td{b j pos}:PE X (.Constant (.bool b) j pos) (tC (.bl b)):=λ_ _ _ H _ I h=>Constant_bool ⟨.bl b,H,I,rfl,h⟩
theorem z8{j pos}:PE X (.Constant .none j pos) (tC .non):=λ_ _ _ H _ I h=>Constant_none ⟨.non,H,I,rfl,h⟩
theorem LC{x j pos}:PE X (.Constant (.str x) j pos) (tC (.str x)):=λ_ _ _ H _ I h=>Calls.Constant_str ⟨.str x,H,I.tok _,⟨_,rfl⟩,h⟩
def Gl(X:Cx)(x:Str):Prop:=X.env.kindOf x=some .globalImplicit
theorem d9{E:Value->Shared->Prop}{ah: ~~~1}{s:Shared}{O:St}{H:Hp}{x:Str}{u:Value}{pos:Pos}{Q:Value->Shared->Prop}(I: ~~~7)(hg:Gl X x)(hm:X.mg x=some u)(h:Q u s)
  (hd:(x==(~~~3))=false:=by decide):wpAny (~~~2) X.A (eval (.Name x pos) X.env) Q E s:=
 Calls.Name_function_global I.ok.kind hg (Calls.loadGlobal_global (by rw[I.ok.glob];exact I.mod.glob.keeps I.bk) hm h) hd
theorem iC{E:Value->Shared->Prop}{ah: ~~~1}{s:Shared}{O:St}{H:Hp}{x:Str}{u:Value}{pos:Pos}{Q:Value->Shared->Prop}(I: ~~~7)(hg:Gl X x)(hm:X.mg x=none)(hv:bootBuiltins x=some u)(h:Q u s)
  (hn:x≠ "__name__" :=by decide) (hd:(x==(~~~3))=false:=by decide):wpAny (~~~2) X.A (eval (.Name x pos) X.env) Q E s:=by
 obtain⟨mb,h1,h2⟩:=I.mod.blt;exact Calls.Name_function_global I.ok.kind hg (Calls.loadGlobal_builtin (by rw[I.ok.glob];exact I.mod.glob.keeps I.bk) hm (by rw[I.ok.blt];exact h1.keeps I.bk) ((h2 x hn).trans hv) h) hd
theorem v8(hg:Gl X x)(hm:X.mg x=some u)(r:RelV v u)(hd:(x==(~~~3))=false:=by decide):PE X (.Name x pos) (tC v):=
 λ_ _ _ H _ I h=>d9 I hg hm ⟨v,H,I,r,h⟩ hd
theorem qh(hg:Gl X x)(hm:X.mg x=none)(hv:bootBuiltins x=some u)(r:RelV v u)(hn:x≠ "__name__" :=by decide)(hd:(x==(~~~3))=false:=by decide):PE X (.Name x pos) (tC v):=
 λ_ _ _ H _ I h=>iC I hg hm hv ⟨v,H,I,r,h⟩ hn hd
variable{a b:Expr}{ta tb:TE}{pos:Pos}
def tB(t:TE):TT:=λO H Q=>t O H λx H1=>∃c,x=.bl c/\Q c H1
theorem LK{e:Expr}{t:TE}(h:PE X e t)(he:∀whole,isTrue e X.env whole=(do let v <- whole;standAt e.pos;holding [v] (truthy v)):=by intro _;rfl):PT X e (tB t):=by
 intro ah s O H Q I hw;refine isTrue_plain (bR (h ah s O H _ I hw) λv s1 ⟨x,H1,I1,r1,q1⟩=>?_) (he _)
 obtain⟨d,rfl,q⟩:=q1;cases r1;exact mE ⟨H1,I1,q⟩
variable{tA WN:TT}{rest:List Expr}
noncomputable def XQ(t u:TT):TT:=λO H Q=>t O H λc H1=>if c=true then u O H1 Q else Q false H1
noncomputable def tOr(t u:TT):TT:=λO H Q=>t O H λc H1=>if c=true then Q true H1 else u O H1 Q
def XR(t:TT):TT:=λO H Q=>t O H λc H1=>Q (!c) H1
theorem pw_and1(ha:PT X a tA):PW X (.BoolOp .And [a] pos) tA:=by
 intro wh ah s O H Q I h;refine isTrue_and (bR (ha ah s O H Q I h) λc s1 e=>?_)
 cases c with
 |true=>exact isTrue_and_nil e
 |false=>exact e
theorem pw_or1(ha:PT X a tA):PW X (.BoolOp .Or [a] pos) tA:=by
 intro wh ah s O H Q I h;refine isTrue_or (bR (ha ah s O H Q I h) λc s1 e=>?_)
 cases c with
 |false=>exact isTrue_or_nil e
 |true=>exact e
theorem pw_and(ha:PT X a tA)(hb:PW X (.BoolOp .And (b::rest) pos) WN):PW X (.BoolOp .And (a::b::rest) pos) (XQ tA WN):=by
 intro wh ah s O H Q I h;refine isTrue_and (bR (ha ah s O H _ I h) λc s1 ⟨H1,I1,q1⟩=>?_)
 cases c with
 |true=>exact hb wh ah s1 O H1 Q I1 q1
 |false=>exact⟨H1,I1,q1⟩
theorem pw_or(ha:PT X a tA)(hb:PW X (.BoolOp .Or (b::rest) pos) WN):PW X (.BoolOp .Or (a::b::rest) pos) (tOr tA WN):=by
 intro wh ah s O H Q I h;refine isTrue_or (bR (ha ah s O H _ I h) λc s1 ⟨H1,I1,q1⟩=>?_)
 cases c with
 |true=>exact⟨H1,I1,q1⟩
 |false=>exact hb wh ah s1 O H1 Q I1 q1
theorem z9(ha:PT X a tA):PT X (.UnaryOp .Not a pos) (XR tA):=by intro ah s O H Q I h;exact isTrue_not (ha ah s O H (λc H1=>Q (!c) H1) I h)
noncomputable def Te(ta tb:TE):TE:=λO H Q=>ta O H λx H1=>∃c,x=.bl c/\if c=true then tb O H1 Q else Q (.bl false) H1
noncomputable def XS(ta tb:TE):TE:=λO H Q=>ta O H λx H1=>∃c,x=.bl c/\if c=true then Q (.bl true) H1 else tb O H1 Q
def Tf(ta:TE):TE:=λO H Q=>ta O H λx H1=>∃c,x=.bl c/\Q (.bl (!c)) H1
theorem LQ{op}(h:PE X a t):PE X (.BoolOp op [a] pos) t:=λah s O H Q I hw=>BoolOp_one (h ah s O H Q I hw)
theorem Aa(ha:PE X a ta)(hb:PE X (.BoolOp .And (b::rest) pos) tb):PE X (.BoolOp .And (a::b::rest) pos) (Te ta tb):=by
 intro ah s O H Q I h;refine BoolOp_and (bR (ha ah s O H _ I h) λv s1 ⟨x,H1,I1,r1,q1⟩=>?_)
 obtain⟨c,rfl,q1⟩:=q1;cases r1;refine mE ?_;cases c with
 |true=>exact hb ah s1 O H1 Q I1 q1
 |false=>exact⟨.bl false,H1,I1,rfl,q1⟩
theorem Kq(ha:PE X a ta)(hb:PE X (.BoolOp .Or (b::rest) pos) tb):PE X (.BoolOp .Or (a::b::rest) pos) (XS ta tb):=by
 intro ah s O H Q I h;refine BoolOp_or (bR (ha ah s O H _ I h) λv s1 ⟨x,H1,I1,r1,q1⟩=>?_)
 obtain⟨c,rfl,q1⟩:=q1;cases r1;refine mE ?_;cases c with
 |false=>exact hb ah s1 O H1 Q I1 q1
 |true=>exact⟨.bl true,H1,I1,rfl,q1⟩
theorem LR(ha:PE X a ta):PE X (.UnaryOp .Not a pos) (Tf ta):=by
 intro ah s O H Q I h;refine UnaryOp_ (bR (ha ah s O H _ I h) λv s1 ⟨x,H1,I1,r1,q1⟩=>?_)
 obtain⟨c,rfl,q1⟩:=q1;cases r1;exact not_of (mE ⟨.bl (!c),H1,I1,rfl,q1⟩)
noncomputable def tIf(t:TT)(ta tb:TE):TE:=λO H Q=>t O H λc H1=>if c=true then ta O H1 Q else tb O H1 Q
theorem su{c:Expr}(hc:PT X c tA)(ha:PE X a ta)(hb:PE X b tb):PE X (.IfExp c a b pos) (tIf tA ta tb):=by
 intro ah s O H Q I h;refine wpAny_IfExp (bR (hc ah s O H _ I h) λd s1 ⟨H1,I1,q1⟩=>?_)
 cases d with
 |true=>exact ha ah s1 O H1 Q I1 q1
 |false=>exact hb ah s1 O H1 Q I1 q1
end
def cG(K:Frag)(H:Hp)(a:Addr)(xs:List V):Prop:=
 Rd H a (.lst xs)\/
  ∃(o:Obj) (its:Array Value) (n:Nat),K.lookup a=some o/\o.cls=.type "list" /\o.dict=none/\o.data=.seq its n/\its.size<=sizeLine/\Vals xs its.toList
def fX(K:Frag)(H:Hp)(a:Addr)(xs:List V):Prop:=
 Rd H a (.tup xs)\/
  ∃(o:Obj) (its:Array Value) (n:Nat),K.lookup a=some o/\o.cls=.type "tuple" /\o.data=.seq its n/\its.size<=sizeLine/\Vals xs its.toList
noncomputable def XT:Value->Option V
 |.none=>some .non
 |.bool b=>some (.bl b)
 |.int i _=>some (.int i)
 |.str x _=>some (.str x)
 |.bytes b _=>some (.Kp b)
 |.float b _=>some (.flt b)
 |.ref a=>some (.ref a)
 |.type n=>some (.ty n)
 |_=>none
theorem RelV.abs(r:RelV x u):XT u=some x:=by
 cases x with
 |non=>cases r;rfl
 |bl _=>cases r;rfl
 |int _=>obtain⟨t,rfl⟩:=r;rfl
 |str _=>obtain⟨t,rfl⟩:=r;rfl
 |Kp _=>obtain⟨t,rfl⟩:=r;rfl
 |flt _=>obtain⟨t,rfl⟩:=r;rfl
 |ref _=>cases r;rfl
 |ty _=>cases r;rfl
theorem RelV.inj{x y:V}{u:Value}(r:RelV x u)(q:RelV y u):x=y:=oC (r.abs.symm.trans q.abs)
theorem Vals.inj:∀{xs ys:List V}{us:List Value},Vals xs us->Vals ys us->xs=ys
 |_,_,_,.nil,.nil=>rfl
 |_,_,_,.cons r t,.cons r' t'=>by rw[r.inj r',Vals.inj t t']
section
variable{X:Cx}{ah: ~~~1}{O:St}{H:Hp}{s:Shared}{a:Addr}{xs ys:List V}
theorem cG.of{K:Frag}(h:H a=some (.lst xs)):cG K H a xs:=.inl (.inl h)
theorem Inv.list(I: ~~~7)(h:cG X.K H a xs):∃its:List Value,Vals xs its/\PlainL s.heap a its.toArray/\xs.length<=sizeLine:=by
 rcases h with h |⟨o,its,n,hk,hc,hd,hs,hz,r⟩
 . obtain⟨z,its,n,r,e⟩:=h.ok I.hok;exact⟨its,r,⟨_,n,e,rfl,rfl,rfl⟩,z⟩
 .
  refine⟨its.toList,r,⟨o,n,I.kP a o hk,hc,hd,by simpa using hs⟩,?_⟩
  have e:=r.length;simp only[tS]at e;lia
theorem Inv.tuple(I: ~~~7)(h:fX X.K H a xs):∃its:List Value,Vals xs its/\IsTup s.heap a its.toArray/\xs.length<=sizeLine:=by
 rcases h with h |⟨o,its,n,hk,hc,hs,hz,r⟩
 . obtain⟨z,its,r,p⟩:=h.ok I.hok;exact⟨its,r,p.tup,z⟩
 .
  refine⟨its.toList,r,⟨o,I.kP a o hk,hc,n,by simpa using hs⟩,?_⟩
  have e:=r.length;simp only[tS]at e;lia
theorem Inv.sy(I: ~~~7)(h:cG X.K H a xs)(h':cG X.K H a ys):xs=ys:=by
 obtain⟨its,r,⟨o,n,e,_,_,d⟩,_⟩:=I.list h;obtain⟨its',r',⟨o',n',e',_,_,d'⟩,_⟩:=I.list h';rw[e]at e';cases e';rw[d]at d';injection d' with d1 _;have:its=its':=by simpa using congrArg Array.toList d1
 subst this;exact r.inj r'
theorem Inv.oN(I: ~~~7)(h:fX X.K H a xs)(h':fX X.K H a ys):xs=ys:=by
 obtain⟨its,r,⟨o,e,_,n,d⟩,_⟩:=I.tuple h;obtain⟨its',r',⟨o',e',_,n',d'⟩,_⟩:=I.tuple h';rw[e]at e';cases e';rw[d]at d';injection d' with d1 _;have:its=its':=by simpa using congrArg Array.toList d1
 subst this;exact r.inj r'
end
abbrev Cx.wish(X:Cx)(E:Value->Shared->Prop):Cx:={ X with xe:=E}
abbrev Cx.jJ(X:Cx):Cx:=X.wish λ_ _=>False
theorem Cx.Ok.wish{X:Cx}(ok:X.Ok)(E:Value->Shared->Prop):(X.wish E).Ok:=
 ⟨ok.mod,ok.kind,ok.glob,ok.blt,ok.above,ok.inj,ok.has,ok.Ly,ok.hd,ok.frames,ok.stk,ok.RL,ok.bs,ok.z6,ok.sr,ok.uL,ok.iW,ok.Gj⟩
theorem Cx.Ok.cM{X:Cx}{E:Value->Shared->Prop}(ok:(X.wish E).Ok):X.Ok:=
 ⟨ok.mod,ok.kind,ok.glob,ok.blt,ok.above,ok.inj,ok.has,ok.Ly,ok.hd,ok.frames,ok.stk,ok.RL,ok.bs,ok.z6,ok.sr,ok.uL,ok.iW,ok.Gj⟩
section
variable{X:Cx}{ah: ~~~1}{O:St}{H:Hp}{s:Shared}{E:Value->Shared->Prop}
theorem Inv.wish(I: ~~~7)(E:Value->Shared->Prop):Inv (X.wish E) ah O H s:=⟨I.ok.wish E,I.os,I.bare,I.base,I.loc,I.cell,I.free,I.dg,I.pin,I.hok,I.len⟩
theorem Inv.cM(I:Inv (X.wish E) ah O H s):Inv X ah O H s:=⟨I.ok.cM,I.os,I.bare,I.base,I.loc,I.cell,I.free,I.dg,I.pin,I.hok,I.len⟩
theorem SP.cM(h:SP (X.wish E) ah D f s'):SP X ah D f s':=by
 cases f with
 |next=>obtain⟨σ',H',I,q⟩:=h;exact⟨σ',H',I.cM,q⟩
 |brk=>obtain⟨σ',H',I,q⟩:=h;exact⟨σ',H',I.cM,q⟩
 |cont=>obtain⟨σ',H',I,q⟩:=h;exact⟨σ',H',I.cM,q⟩
 |ret u=>obtain⟨v,σ',H',I,r,q⟩:=h;exact⟨v,σ',H',I.cM,r,q⟩
theorem PE.jJ(h:PE X.jJ e t):PE X e t:=λah s O H Q I hw=>
 l8 (h ah s O H Q (I.wish _) hw) (λ_ _ ⟨v,H',I',r,q⟩=>⟨v,H',I'.cM,r,q⟩) λ_ _ z=>False.elim z
theorem PT.jJ(h:PT X.jJ e t):PT X e t:=λah s O H Q I hw=>
 l8 (h ah s O H Q (I.wish _) hw) (λ_ _ ⟨H',I',q⟩=>⟨H',I'.cM,q⟩) λ_ _ z=>False.elim z
theorem qg.jJ{st:List Stmt}{t:TS}(h:qg X.jJ st t):qg X st t:=λah s O H D I hw=>
 l8 (h ah s O H D (I.wish _) hw) (λ_ _ q=>q.cM) λ_ _ z=>False.elim z
end
section
variable{X:Cx}{st:Stmt}{rest:List Stmt}{t u:TS}{e:Expr}{te:TE}{pos:Pos}
def Ti:TS:=λD O H=>D.nx O H
def Tj(t u:TS):TS:=λD O H=>t { D with nx:=u D} O H
theorem Gm:qg X [] Ti:=λ_ _ O H _ I h=>wpAny_execs_nil ⟨O,H,I,h⟩
theorem dU(h1:PS X st t)(h2:qg X rest u):qg X (st::rest) (Tj t u):=by
 intro ah s O H D I h;refine AL (bR (h1 ah s O H { D with nx:=u D} I h) λf s1 q=>?_)
 cases f with
 |next=>obtain⟨σ',H',I',q⟩:=q;exact h2 ah s1 σ' H' D I' q
 |ret v=>exact q
 |brk=>exact q
 |cont=>exact q
theorem Gn(h1:PS X st t):qg X [st] t:=by
 intro ah s O H D I h;refine AL (bR (h1 ah s O H D I h) λf s1 q=>?_)
 cases f with
 |next=>exact wpAny_execs_nil q
 |ret v=>exact q
 |brk=>exact q
 |cont=>exact q
theorem Inv.quiet{ah: ~~~1}{O:St}{H:Hp}{s:Shared}(I: ~~~7):interactive X.env=false:=by simp[interactive,I.ok.kind]
def Tn(te:TE):TS:=λD O H=>te O H λ_ H1=>D.nx O H1
theorem qi(he:PE X e te)(hs:swapsWith e none pos.line X.env=pure false:=by rfl):PS X (.Expr e pos) (Tn te):=by intro ah s O H D I h;exact wpAny_Expr_any (bR (he ah s O H _ I h) λv s1 ⟨x,H1,I1,r1,q1⟩=>⟨O,H1,I1,q1⟩) I.quiet hs
def XX(te:TE):TS:=λD O H=>te O H D.rt
theorem uN(he:PE X e te):PS X (.Return (some e) pos) (XX te):=by intro ah s O H D I h;exact wpAny_Return_some (bR (he ah s O H _ I h) λv s1 ⟨x,H1,I1,r1,q1⟩=>⟨x,O,H1,I1,r1,q1⟩)
noncomputable def XZ(c:TT)(t u:TS):TS:=λD O H=>c O H λb H1=>if b=true then t D O H1 else u D O H1
theorem lK{c:Expr}{a b:List Stmt}{tc:TT}(hc:PT X c tc)(ha:qg X a t)(hb:qg X b u):PS X (.If c a b pos) (XZ tc t u):=by
 intro ah s O H D I h;refine wpAny_If (bR (hc ah s O H _ I h) λd s1 ⟨H1,I1,q1⟩=>?_)
 cases d with
 |true=>exact ha ah s1 O H1 D I1 q1
 |false=>exact hb ah s1 O H1 D I1 q1
def LW:TS:=λ_ _ _=>False
theorem aY:qg X iT LW:=λ_ _ _ _ _ _ h=>h.elim
end
abbrev TG:=V->St->Hp->(St->Hp->Prop)->Prop
abbrev Kr:=List V->St->Hp->(St->Hp->Prop)->Prop
def PG(X:Cx)(target:Expr)(t:TG):Prop:=
 ∀(ah: ~~~1) (s:Shared) (O:St) (H:Hp) (v:V) (u:Value) (Q:St->Hp->Prop),Inv X ah O H s->RelV v u->t v O H Q->
  wpAny (~~~2) X.A (assign target X.env u) (λ_ s'=>∃σ' H',Inv X ah σ' H' s'/\Q σ' H') X.xe s
def RM(X:Cx)(ts:List Expr)(t:Kr):Prop:=
 ∀(ah: ~~~1) (s:Shared) (O:St) (H:Hp) (vs:List V) (us:List Value) (Q:St->Hp->Prop),Inv X ah O H s->Vals vs us->t vs O H Q->
  wpAny (~~~2) X.A (assignInOrder ((assignEach ts X.env).map (·.2)) us) (λ_ s'=>∃σ' H',Inv X ah σ' H' s'/\Q σ' H') X.xe s
abbrev L0:=V->V->V->Hp->(Hp->Prop)->Prop
def Tp(X:Cx)(t:L0):Prop:=
 ∀(ah: ~~~1) (s:Shared) (O:St) (H:Hp) (o i v:V) (ov iv u:Value) (Q:Hp->Prop),Inv X ah O H s->RelV o ov->RelV i iv->RelV v u->t o i v H Q->
  wpAny (~~~2) X.A (setItem ov iv u) (λ_ s'=>∃H',Inv X ah O H' s'/\Q H') X.xe s
section
variable{X:Cx}{pos:Pos}
def v9(i:Nat):TG:=λv O H Q=>Q (O.set i (some v)) H
theorem qj(hN:X.N.Nodup)(hi:X.N[i]?=some x)(hx:Loc X.env.scope x)(hf:X.fn x=true\/X.env.scope.names.lookup x=some .local:=by first |exact .inl rfl |exact .inr rfl |assumption):PG X (.Name x pos) (v9 i):=by intro ah s O H v u Q I r h;exact wpAny_assign_Name (fV I hN hi hx r (λs' I'=>⟨_,H,I',h⟩) hf)
def X3:Kr:=λvs O H Q=>vs=[]/\Q O H
noncomputable def Tq(t:TG)(u:Kr):Kr:=λvs O H Q=>∃v r,vs=v::r/\t v O H λσ' H'=>u r σ' H' Q
theorem Gp:RM X [] X3:=by intro ah s O H vs us Q I r h;obtain⟨e,h⟩:=h;subst e;cases r;exact assignInOrder_nil ⟨O,H,I,h⟩
theorem Ad{e:Expr}{es:List Expr}{t:TG}{u:Kr}(h1:PG X e t)(h2:RM X es u)
  (hs:(assignEach (e::es) X.env).map (·.2)=assign e X.env::(assignEach es X.env).map (·.2):=by rfl):RM X (e::es) (Tq t u):=by
 intro ah s O H vs us Q I r h;obtain⟨v,vr,e1,h⟩:=h;subst e1;cases r with
 |cons r rr=>
  rw[hs];refine assignInOrder_cons (bR (h1 ah s O H _ _ _ I r h) λ_ s1 ⟨σ1,H1,I1,q1⟩=>?_)
  exact h2 ah s1 σ1 H1 _ _ Q I1 rr q1
def X4(K:Frag)(n:Nat)(t:Kr):TG:=λv O H Q=>∃a xs,v=.ref a/\fX K H a xs/\xs.length=n/\t xs O H Q
theorem L1(hc:X.calm=true)(h:RM X es t)
  (hn:(assignEach es X.env).length=n:=by rfl) (d8:(assignEach es X.env).findIdx? (·.1)=none:=by rfl):PG X (.Tuple es k pos) (X4 X.K n t):=by
 intro ah s O H v u Q I r hw;obtain⟨a,xs,e1,hq,hl,hw⟩:=hw;subst e1;cases r;obtain⟨its,rv,ht,hz⟩:=I.tuple hq;refine assign_Tuple_tuple (I.ok.hd hc) ht (by simp[hn,<- hl,rv.length]) d8 λh' hx=>?_
 have I1:Inv X ah O H { s with heap:=h'}:=I.kept (t':=s.toks) λb o e=>hx b o (gL (d0 e)) e
 exact h ah _ O H xs _ Q I1 (by simpa using rv) hw
noncomputable def X5(to ti:TE)(t:L0):TG:=λv O H Q=>to O H λo H1=>ti O H1 λi H2=>t o i v H2 λH3=>Q O H3
theorem L5{o i:Expr}{to ti:TE}{t:L0}(ho:PE X o to)(hi:PE X i ti)(hs:Tp X t)
  (ha:∀v,assign (.Subscript o i pos) X.env v=(do
   let ov <- holding [v] (eval o X.env)
   let iv <- holding [v,ov] (eval i X.env)
   standAt pos
   holding [v,ov,iv] (setItem ov iv v)
   release [v,ov,iv] []):=by intro _;rfl):PG X (.Subscript o i pos) (X5 to ti t):=by
 intro ah s O H v u Q I r h;rw[ha];refine aS (oP (bR (ho ah s O H _ I h) λov s1 ⟨x,H1,I1,r1,q1⟩=>?_))
 refine aS (oP (bR (hi ah s1 O H1 _ I1 q1) λiv s2 ⟨y,H2,I2,r2,q2⟩=>?_))
 refine aS (BU (aS (oP (bR (hs ah s2 O H2 x y v ov iv u _ I2 r1 r2 r q2) λ_ s3 ⟨H3,I3,q3⟩=>?_))))
 exact wpAny_release ⟨O,H3,I3,q3⟩
def L7(te:TE)(g:TG):TS:=λD O H=>te O H λx H1=>g x O H1 D.nx
theorem L8{tg e:Expr}{te:TE}{g:TG}(he:PE X e te)(hg:PG X tg g)(hs:swapsWithSole [tg] e pos.line X.env=pure false:=by rfl)(hw:swappedStores [tg] e X.env=pure none:=by rfl)
  (h1:(assignEach [tg] X.env).map (·.2)=[assign tg X.env]:=by rfl):PS X (.Assign [tg] e pos) (L7 te g):=by
 intro ah s O H D I h;refine wpAny_Assign_stores (bR (he ah s O H _ I h) λv s1 ⟨x,H1,I1,r1,q1⟩=>?_) hs hw
 rw[h1];exact bR (hg ah s1 O H1 x v _ I1 r1 q1) λ_ s2 q=>q
theorem lM{i:Nat}{x:Str}{e:Expr}{te:TE}{pos':Pos}(hN:X.N.Nodup)(hi:X.N[i]?=some x)(hx:Loc X.env.scope x)(he:PE X e te)(hs:swapsWith e (some (.Name x pos')) pos.line X.env=pure false:=by rfl)(hf:X.fn x=true\/X.env.scope.names.lookup x=some .local:=by first |exact .inl rfl |exact .inr rfl |assumption) :
  PS X (.Assign [.Name x pos'] e pos) (L7 te (v9 i)):=by
 intro ah s O H D I h;refine wpAny_Assign_Name (bR (he ah s O H _ I h) λv s1 ⟨y,H1,I1,r1,q1⟩=>?_) hs
 exact fV I1 hN hi hx r1 (λs2 I2=>⟨_,H1,I2,q1⟩) hf
noncomputable def X6(i j:Nat)(ta:TA):TS:=λD O H=>ta O H λvs H1=>∃v w,vs=[v,w]/\D.nx ((O.set i (some v)).set j (some w)) H1
theorem Ma{i j:Nat}{x y:Str}{a b:Expr}{ta:TA}{px py pt:Pos}{kt k2 Gq}(hc:X.calm=true)(hN:X.N.Nodup)(hi:X.N[i]?=some x)(hj:X.N[j]?=some y)(hij:i≠j)
  (hx:X.env.scope.names.lookup x=some .local) (hy:X.env.scope.names.lookup y=some .local) (ha:PA X [a,b] ta)
  (hw:swappedStores [.Tuple [.Name x px,.Name y py] kt pt] (.Tuple [a,b] k2 Gq) X.env=pure (some [x,y]))
  (hs:swapsWithSole [.Tuple [.Name x px,.Name y py] kt pt] (.Tuple [a,b] k2 Gq) pos.line X.env=pure false:=by rfl) :
  PS X (.Assign [.Tuple [.Name x px,.Name y py] kt pt] (.Tuple [a,b] k2 Gq) pos) (X6 i j ta):=by
 intro ah s O H D I h;rw[exec_Assign_arm];refine aS (BU ?_);rw[hs];refine aS (dS ?_);rw[gN ⋯];refine aS (Tuple_ (bR (ha _ ah s O H _ I h) λus s1 ⟨vs,H1,I1,r1,q1⟩=>?_))
 obtain⟨v,w,e1,q1⟩:=q1;subst e1;obtain⟨u1,u2,rfl,rv,rw'⟩:∃u1 u2,us=[u1,u2]/\RelV v u1/\RelV w u2:=by
  cases r1 with
  |cons p q=>
   cases q with
   |cons p' q'=>cases q';exact⟨_,_,rfl,p,p'⟩
 refine lS ?_ (by show 2<=sizeLine;decide)
 have I2:Inv X ah O H1 { s1 with heap:=s1.heap.push { cls:=.type "tuple",data:=.seq [u1,u2].toArray}}:=I1.kept (t':=s1.toks) λb o e=>bP _ e
 rw[hw];refine aS (dS ?_);show wpAny (~~~2) X.A (do rule "assign.swapped-stores";let items <- unpackItems (.ref s1⁻¹) 2 none;assignInOrder [λv=>bindName X.env y v,λv=>bindName X.env x v] items.reverse;pure Flow.next) _ _ _
 refine aS (wpAny_rule (aS (unpackItems_tuple (items:=#[u1,u2]) (I.ok.hd hc) (IsTup.new s1.heap _) λh' hx'=>?_)))
 have I3:=I2.kept (h':=h') (t':=s1.toks) λb o e=>hx' b o (gL (d0 e)) e
 show wpAny _ _ (assignInOrder [λv=>bindName X.env y v,λv=>bindName X.env x v] [u2,u1] >>= λ_=>pure Flow.next) _ _ _
 refine aS (assignInOrder_cons (wpAny_bindName (fV I3 hN hj (.inl hy) rw' (λs2 I4=>?_) (.inr hy))))
 refine assignInOrder_cons (wpAny_bindName (fV I4 hN hi (.inl hx) rv (λs3 I5=>assignInOrder_nil (dS ?_)) (.inr hx)))
 rw[List.set_comm _ _ (oQ hij)]at I5;exact⟨_,H1,I5,q1⟩
end
section
variable{X:Cx}{pos:Pos}
noncomputable def Mf(c:TT)(tb:TS):TS:=λD O H=>∃W:Nat->St->Hp->Prop,(∃m,W m O H)/\∀m O H,W m O H->
 c O H λb H1=>if b=true then ∃N:St->Hp->Prop,(∀σ' H',N σ' H'->∃m',m'<m/\W m' σ' H')/\tb { D with nx:=N,ct:=N,bk:=D.nx} O H1 else D.nx O H1
theorem Ae{c:Expr}{body:List Stmt}{tc:TT}{tb:TS}(hp:PassesOwn (~~~2) X.A X.env X.xe)(hc:PT X c tc)(hb:qg X body tb):PS X (.While c body [] pos) (Mf tc tb):=by
 intro ah s O H D I h;obtain⟨W,⟨m0,w0⟩,turn⟩:=h;refine wpAny_While (codeAny_whileLoop (λn s'=>∃σ' H',Inv X ah σ' H' s'/\W n σ' H') ?_ m0 ⟨O,H,I,w0⟩)
 rintro n s1 ⟨σ1,H1,I1,w1⟩;refine y0 hp (bR (hc ah s1 σ1 H1 _ I1 (turn n σ1 H1 w1)) λb s2 ⟨H2,I2,q2⟩=>?_)
 cases b with
 |true=>
  obtain⟨N,hN,q2⟩:=q2;rw[i5 rfl];refine y0 hp (bR (hb ah s2 σ1 H2 _ I2 q2) λf s3 q3=>?_)
  cases f with
  |next=>obtain⟨σ3,H3,I3,n3⟩:=q3;obtain⟨m',hm,w3⟩:=hN σ3 H3 n3;exact⟨m',hm,σ3,H3,I3,w3⟩
  |cont=>obtain⟨σ3,H3,I3,n3⟩:=q3;obtain⟨m',hm,w3⟩:=hN σ3 H3 n3;exact⟨m',hm,σ3,H3,I3,w3⟩
  |brk=>exact q3
  |ret v=>exact q3
 |false=>rw[gN pE];exact wpAny_execs_nil ⟨σ1,H2,I2,q2⟩
end
structure It where
 go:Nat->Hp->Prop
 WQ:Nat->Hp->V->Hp->Prop
 stop:Nat->Hp->Prop
def jK(X:Cx)(ah: ~~~1)(H:Hp)(b:Addr):Prop:=
 H b=none/\b≠X.env.locals/\b∉X.fs/\(b∈X.ex\/X.s₀⁻¹<=b)/\(∀x c,X.env.cells.lookup x=some c->c≠b)/\∀p∈X.pn++ah,p.1≠b
theorem Inv.Af{X:Cx}{ah: ~~~1}{O:St}{H H':Hp}{s:Shared}{b:Addr}(I: ~~~7)(hb:s⁻¹<=b)(hn:H' b=none):jK X ah H' b:=by
 refine⟨hn,AB (eM I.lt hb),I.XJ hb,.inr (oI I.sz hb),λx c e z=>?_,λp hp z=>?_⟩
 . obtain⟨v,q⟩:=I.cell x c e;exact absurd (eM q.lt (by rw[z];exact hb)) (qS _)
 . exact absurd (eM (d0 (I.pin p hp).1) (by rw[z];exact hb)) (qS _)
structure Turn(P:Program)(w:World)(K:Frag)(tg:Expr)(qqz:It)(fp:List Addr)(it:Addr)(tn:Nat->Heap->Prop):Prop where
 mem:it∈fp
 obj:∀i h,tn i h->∀b∈fp,∃o,h.get? b=some o/\∀v,o.data≠.cell v
 keep:∀i h h',tn i h->(∀b∈fp,∀o,h.get? b=some o->h'.get? b=some o)->tn i h'
 item:∀(X:Cx),X.prog=P->X.w=w->X.K=K->X.calm=true->∀(i:Nat) (ah: ~~~1) (s:Shared) (O:St) (H:Hp) (E:Value->Shared->Prop),Inv X ah O H s->(∀b∈fp,jK X ah H b)->tn i s.heap->qqz.go i H->
  wpAny (model P w) X.A (pyNext (.ref it)) (λr s1=>∃u,r=some u/\
   wpAny (model P w) X.A (letOwnedTupleGo tg (.ref it) u) (λ_ s2=>∃x H',Inv X ah O H' s2/\RelV x u/\qqz.WQ i H x H'/\tn (i+1) s2.heap/\∀b∈fp,H' b=none) E s1) E s
 done:∀(X:Cx),X.prog=P->X.w=w->X.K=K->X.calm=true->∀(i:Nat) (ah: ~~~1) (s:Shared) (O:St) (H:Hp) (E:Value->Shared->Prop),Inv X ah O H s->(∀b∈fp,jK X ah H b)->tn i s.heap->qqz.stop i H->
  wpAny (model P w) X.A (pyNext (.ref it)) (λr s1=>r=none/\Inv X ah O H s1) E s
 self:∀(A:Around) (i:Nat) (s:Shared) (Q:Value->Shared->Prop) (E:Value->Shared->Prop),tn i s.heap->Q (.ref it) s->wpAny (model P w) A (pyIter (.ref it)) Q E s
abbrev TI:=St->Hp->(It->Hp->Prop)->Prop
def PIE(X:Cx)(ah: ~~~1)(O:St)(tg:Expr)(R:It->Hp->Prop)(itv:Value)(s2:Shared):Prop:=
 ∃(it:Addr) (fp:List Addr) (tn:Nat->Heap->Prop) (qqz:It) (H':Hp),itv=.ref it/\Inv X ah O H' s2/\Turn X.prog X.w X.K tg qqz fp it tn/\tn 0 s2.heap/\(∀b∈fp,jK X ah H' b)/\R qqz H'
def PI(X:Cx)(tg iter:Expr)(wi:TI):Prop:=
 ∀(ah: ~~~1) (s:Shared) (O:St) (H:Hp) (R:It->Hp->Prop),Inv X ah O H s->wi O H R->
  wpAny (~~~2) X.A (eval iter X.env) (λv s1=>wpAny (~~~2) X.A (pyIter v) (PIE X ah O tg R) X.xe s1) X.xe s
theorem Ag(ho:s.heap.get? it=some o)(hc:o.cls=.type n)(hd:o.data=.fields vs)
  (hn:["enumerate", "zip", "dict_itemiterator", "dict_reverseitemiterator", "odict_iterator", "itertools.zip_longest", "itertools.pairwise"].contains n=false) (hQ:Q () s):wpAny M A (letOwnedTupleGo tg (.ref it) u) Q E s:=by
 unfold letOwnedTupleGo;cases tg <;> first
  |exact dS hQ
  | (cases u <;> first
    |exact dS hQ
    | (refine aS (wpAny_load ho ?_)
       rw[hc,hd];show wpAny M A (if (["enumerate", "zip", "dict_itemiterator", "dict_reverseitemiterator", "odict_iterator", "itertools.zip_longest", "itertools.pairwise"].contains n&&vs[0]?==some (rawInt _))=true then _ else _) Q E s
       rw[gN (by intro h;rw[hn,Bool.false_and]at h;symm)]
       exact dS hQ))
def Itl(K:Frag)(a:Addr):It:=
 ⟨λi H=>∃xs x,cG K H a xs/\xs[i]?=some x,λi H x H'=>H'=H/\∀xs,cG K H a xs->xs[i]?=some x,λi H=>∃xs,cG K H a xs/\xs.length<=i⟩
def Itt(K:Frag)(a:Addr):It:=
 ⟨λi H=>∃xs x,fX K H a xs/\xs[i]?=some x,λi H x H'=>H'=H/\∀xs,fX K H a xs->xs[i]?=some x,λi H=>∃xs,fX K H a xs/\xs.length<=i⟩
noncomputable def Mg(lo:Int)(n:Nat):It:=⟨λi _=>i<n,λi H x H'=>H'=H/\x=.int (lo+i),λi _=>n<=i⟩
theorem x6{P:Program}{w:World}{K:Frag}{tg:Expr}(a it:Addr):Turn P w K tg (Itl K a) [it] it (λi h=>h.IsListIter it a i) where
 mem:=by simp
 obj:=λi h st b hb=>by
  have e:b=it:=by simpa using hb
  subst e;obtain⟨o,e,c,d⟩:=st;exact⟨o,e,λv z=>by rw[d]at z;cases z⟩
 keep:=λi h h' st k=>st.at λo e=>k it ⋯ o e
 item:=by
  intro X hP hw hK hc i ah s O H E I hf st hg;subst hP hw hK;obtain⟨xs,x,hq,hx⟩:=hg;obtain⟨its,rv,p,hz⟩:=I.list hq;obtain⟨u,hu,ru⟩:=rv.get hx;obtain⟨f0,f1,f2,f3,f4,f5⟩:=hf it ⋯;refine wpAny_pyNext_list_item st p.isList (x:=u) (by simpa using hu) λh' st' sb=>?_
  have I1:Inv X ah O H { s with heap:=h'}:=I.turned (t':=s.toks) (λb o hb e=>(sb.2 b hb).trans e) f0 f1 f3 f4 f5
  obtain⟨o,e,c,d⟩:=id st';exact⟨u,rfl,Ag (s:={ s with heap:=h'}) e c d ⋯ ⟨x,H,I1,ru,⟨rfl,λys hy=>by rw[I.sy hy hq];exact hx⟩,st',λb hb=>(hf b hb).1⟩⟩
 done:=by intro X hP hw hK hc i ah s O H E I hf st hg;subst hP hw hK;obtain⟨xs,hq,hx⟩:=hg;obtain⟨its,rv,p,hz⟩:=I.list hq;obtain⟨f0,f1,f2,f3,f4,f5⟩:=hf it ⋯;have hl:=rv.length;exact wpAny_pyNext_list_end (I.ok.hd hc) st p.isList (by simp;lia) λh' eb=>⟨rfl,I.turned (t':=s.toks) (λb o hb e=>eb b o hb e) f0 f1 f3 f4 f5⟩
 self:=λ_ _ _ _ _ st h=>wpAny_pyIter_listiter st h
theorem uO{P:Program}{w:World}{K:Frag}{tg:Expr}(a it:Addr):Turn P w K tg (Itt K a) [it] it (λi h=>h.IsTupleIter it a i) where
 mem:=by simp
 obj:=λi h st b hb=>by
  have e:b=it:=by simpa using hb
  subst e;obtain⟨o,e,c,d⟩:=st;exact⟨o,e,λv z=>by rw[d]at z;cases z⟩
 keep:=λi h h' st k=>st.at λo e=>k it ⋯ o e
 item:=by
  intro X hP hw hK hc i ah s O H E I hf st hg;subst hP hw hK;obtain⟨xs,x,hq,hx⟩:=hg;obtain⟨its,rv,p,hz⟩:=I.tuple hq;obtain⟨u,hu,ru⟩:=rv.get hx;obtain⟨f0,f1,f2,f3,f4,f5⟩:=hf it ⋯;refine wpAny_pyNext_tuple_item st (show s.heap.IsTuple a its.toArray from p) (x:=u) (by simpa using hu) λh' st' sb=>?_
  have I1:Inv X ah O H { s with heap:=h'}:=I.turned (t':=s.toks) (λb o hb e=>(sb.2 b hb).trans e) f0 f1 f3 f4 f5
  obtain⟨o,e,c,d⟩:=id st';exact⟨u,rfl,Ag (s:={ s with heap:=h'}) e c d ⋯ ⟨x,H,I1,ru,⟨rfl,λys hy=>by rw[I.oN hy hq];exact hx⟩,st',λb hb=>(hf b hb).1⟩⟩
 done:=by intro X hP hw hK hc i ah s O H E I hf st hg;subst hP hw hK;obtain⟨xs,hq,hx⟩:=hg;obtain⟨its,rv,p,hz⟩:=I.tuple hq;obtain⟨f0,f1,f2,f3,f4,f5⟩:=hf it ⋯;have hl:=rv.length;exact wpAny_pyNext_tuple_end (I.ok.hd hc) st (show s.heap.IsTuple a its.toArray from p) (by simp;lia) λh' eb=>⟨rfl,I.turned (t':=s.toks) (λb o hb e=>eb b o hb e) f0 f1 f3 f4 f5⟩
 self:=λ_ _ _ _ _ st h=>wpAny_pyIter_tupleiter st h
theorem uP{P:Program}{w:World}{K:Frag}{tg:Expr}(it:Addr)(lo:Int)(n:Nat):Turn P w K tg (Mg lo n) [it] it (λi h=>IsRangeIter h it (lo+(i:Nat) * 1) ((n:Int) - (i:Nat)) 1) where
 mem:=by simp
 obj:=λi h st b hb=>by
  have e:b=it:=by simpa using hb
  subst e;exact⟨_,st,λv z=>by
   have z':Data.fields _=Data.cell v:=z;cases z'⟩
 keep:=λi h h' st k=>k it ⋯ _ st
 item:=by
  intro X hP hw hK hc i ah s O H E I hf st hg;subst hP hw hK;obtain⟨f0,f1,f2,f3,f4,f5⟩:=hf it ⋯;have W:=Walks.range (prog:=X.prog) (w:=X.w) (I.ok.hd hc) it lo 1 n;refine W.item i s _ _ hg st λv h' tk hv st' kk=>?_
  obtain⟨t,rfl⟩:=hv;have I1:Inv X ah O H { s with heap:=h',toks:=tk}:=I.turned (λb o hb e=>kk b o (by simpa using hb) e) f0 f1 f3 f4 f5
  refine⟨_,rfl,Ag (s:={ s with heap:=h',toks:=tk}) (n:= "range_iterator") st' rfl rfl ⋯ ⟨.int (lo+i),H,I1,⟨t,?_⟩,⟨rfl,rfl⟩,st',λb hb=>(hf b hb).1⟩⟩
  rw[Int.mul_one]
 done:=by intro X hP hw hK hc i ah s O H E I hf st hg;subst hP hw hK;obtain⟨f0,f1,f2,f3,f4,f5⟩:=hf it ⋯;exact wpAny_pyNext_range_end (I.ok.hd hc) st (by have:n<=i:=hg;lia) λh' eb=>⟨rfl,I.turned (t':=s.toks) (λb o hb e=>eb b o hb e) f0 f1 f3 f4 f5⟩
 self:=λ_ _ _ _ _ st h=>wpAny_pyIter_rangeiter st h
section
variable{X:Cx}{tg:Expr}
def Ks(K:Frag)(tl:TE):TI:=λO H R=>tl O H λx H1=>∃a,x=.ref a/\(∃xs,cG K H1 a xs)/\R (Itl K a) H1
def X7(K:Frag)(tl:TE):TI:=λO H R=>tl O H λx H1=>∃a,x=.ref a/\(∃xs,fX K H1 a xs)/\R (Itt K a) H1
theorem qk{l:Expr}{tl:TE}(hl:PE X l tl):PI X tg l (Ks X.K tl):=by
 intro ah s O H R I h;refine bR (hl ah s O H _ I h) λv s1 ⟨x,H1,I1,r1,q1⟩=>?_
 obtain⟨a,e,⟨xs,hq⟩,q⟩:=q1;subst e;cases r1;obtain⟨its,rv,p,hz⟩:=I1.list hq;refine AF p.isList ?_;refine⟨s1⁻¹,[s1⁻¹],_,_,H1,rfl,I1.kept (t':=s1.toks) λb o e=>bP _ e,x6 a _,⟨_,d6 _ rfl,rfl,rfl⟩,λb hb=>?_,q⟩
 have e:b=s1⁻¹:=by simpa using hb
 subst e;exact I1.Af (eA _) (I1.hok.fresh (eA _))
theorem Mh{l:Expr}{tl:TE}(hl:PE X l tl):PI X tg l (X7 X.K tl):=by
 intro ah s O H R I h;refine bR (hl ah s O H _ I h) λv s1 ⟨x,H1,I1,r1,q1⟩=>?_
 obtain⟨a,e,⟨xs,hq⟩,q⟩:=q1;subst e;cases r1;obtain⟨its,rv,p,hz⟩:=I1.tuple hq;refine At (show s1.heap.IsTuple a its.toArray from p) ?_
 refine⟨s1⁻¹,[s1⁻¹],_,_,H1,rfl,I1.kept (t':=s1.toks) λb o e=>bP _ e,uO a _,⟨_,d6 _ rfl,rfl,rfl⟩,λb hb=>?_,q⟩
 have e:b=s1⁻¹:=by simpa using hb
 subst e;exact I1.Af (eA _) (I1.hok.fresh (eA _))
theorem sA{ah: ~~~1}{O:St}{H:Hp}{s:Shared}{R:It->Hp->Prop}{E:Value->Shared->Prop}{lo hi:Int}{t u v:Tok}{tk:Nat}(I: ~~~7)(h1 : -(2 ^ 62)<=lo)(h2:lo<2 ^ 62)(h3 : -(2 ^ 62)<=hi)(h4:hi<2 ^ 62)
  (q:R (Mg lo (hi - lo).toNat) H):wpAny (~~~2) X.A (pyIter (.ref s⁻¹)) (PIE X ah O tg R) E { s with heap:=s.heap.push { cls:=.type "range",data:=.fields #[.int lo t,.int hi u,.int 1 v]},toks:=tk}:=by
 refine wpAny_pyIter_range (IsRange.new ..) (small_one h1 h2 h3 h4) ?_;have I1:Inv X ah O H { s with heap:=s.heap.push { cls:=.type "range",data:=.fields #[.int lo t,.int hi u,.int 1 v]},toks:=tk}:=I.kept λb o e=>bP _ e
 refine⟨(s.heap.push { cls:=.type "range",data:=.fields #[.int lo t,.int hi u,.int 1 v]}).objs.size,[(s.heap.push { cls:=.type "range",data:=.fields #[.int lo t,.int hi u,.int 1 v]}).objs.size],_,_,H,rfl,
  I1.kept (t':=tk) λb o e=>bP _ e,uP _ lo (hi - lo).toNat,?_,λb hb=>?_,q⟩
 .
  have e1:lo+((0:Nat):Int) * 1=lo:=by simp
  have e2:(((hi - lo).toNat:Nat):Int) - ((0:Nat):Int)=Builtin.Range.rangeSize lo hi 1:=by rw[rangeSize_one];split <;> lia
  show IsRangeIter _ _ (lo+((0:Nat):Int) * 1) ((((hi - lo).toNat:Nat):Int) - ((0:Nat):Int)) 1;rw[e1,e2];exact d6 _ rfl
 .
  have e:b=(s.heap.push { cls:=.type "range",data:=.fields #[.int lo t,.int hi u,.int 1 v]}).objs.size:=by simpa using hb
  subst e;exact I1.Af (eA _) (I1.hok.fresh (eA _))
def Tr(ta:TA):TI:=λO H R=>ta O H λvs H1=>∃j:Int,vs=[.int j]/\-(2 ^ 62)<=j/\j<2 ^ 62/\R (Mg 0 j.toNat) H1
def Tt(ta:TA):TI:=λO H R=>ta O H λvs H1=>∃i j:Int,vs=[.int i,.int j]/\(-(2 ^ 62)<=i/\i<2 ^ 62/\-(2 ^ 62)<=j/\j<2 ^ 62)/\R (Mg i (j - i).toNat) H1
theorem x8{a:Expr}{ta:TA}{p pos:Pos}(hg:Gl X "range")(hm:X.mg "range"=none)(ha:PA X [a] ta)(hs:starEach [a] X.env=[(false,eval a X.env)]:=by rfl):PI X tg (.Call (.Name "range" p) [a] [] pos) (Tr ta):=by
 intro ah s O H R I h;refine Call_ (iC I hg hm boot_range (wS (bR (ha pos ah s O H _ I h) λus s1 ⟨vs,H1,I1,r1,q1⟩=>?_) hs rfl))
 obtain⟨j,e,q1,q2,q⟩:=q1;subst e;cases r1 with
 |cons r rr=>cases rr;obtain⟨t,rfl⟩:=r;exact call_range_1 (sA I1 ⋯ ⋯ q1 q2 (by simpa using q))
theorem x9{a b:Expr}{ta:TA}{p pos:Pos}(hg:Gl X "range")(hm:X.mg "range"=none)(ha:PA X [a,b] ta)(hs:starEach [a,b] X.env=[(false,eval a X.env),(false,eval b X.env)]:=by rfl)(hs2:starEach [b] X.env=[(false,eval b X.env)]:=by rfl) :
  PI X tg (.Call (.Name "range" p) [a,b] [] pos) (Tt ta):=by
 intro ah s O H R I h;refine Call_ (iC I hg hm boot_range (wS (bR (ha pos ah s O H _ I h) λus s1 ⟨vs,H1,I1,r1,q1⟩=>?_) (by rw[hs,hs2]) (by rw[hs2];rfl)))
 obtain⟨i,j,e,⟨q1,q2,q3,q4⟩,q⟩:=q1;subst e;cases r1 with
 |cons r rr=>
  cases rr with
  |cons r' rr=>cases rr;obtain⟨t,rfl⟩:=r;obtain⟨t',rfl⟩:=r';exact call_range_2 (sA I1 q1 q2 q3 q4 q)
noncomputable def X8(wi:TI)(g:TG)(tb:TS):TS:=λD O H=>wi O H λqqz H1=>∃W:Nat->Nat->St->Hp->Prop,(∃m,W 0 m O H1)/\∀i m O H,W i m O H->
 (qqz.stop i H/\D.nx O H)\/(qqz.go i H/\∃N:St->Hp->Prop,(∀σ' H',N σ' H'->∃m',m'<m/\W (i+1) m' σ' H')/\∀x H',qqz.WQ i H x H'->g x O H' λσ2 H2=>tb { D with nx:=N,ct:=N,bk:=D.nx} σ2 H2)
noncomputable def lN(fp:List Addr)(h:Heap): ~~~1:=fp.filterMap λb=>(h.get? b).map λo=>(b,o)
theorem fy{fp:List Addr}{h:Heap}{b:Addr}{o:Obj}(hb:b∈fp)(e:h.get? b=some o):(b,o)∈lN fp h:=List.mem_filterMap.mpr ⟨b,hb,by rw[e];rfl⟩
theorem yc(hp:p∈lN fp h):p.1∈fp/\h.get? p.1=some p.2:=by
 obtain⟨b,hb,e⟩:=List.mem_filterMap.mp hp;cases q:h.get? b with
 |none=>rw[q]at e;cases e
 |some o=>rw[q]at e;have e':(b,o)=p:=oC e;subst e';exact⟨hb,q⟩
theorem Inv.pinned{ah: ~~~1}{O:St}{H:Hp}{s:Shared}{fp:List Addr}(I: ~~~7)(hf:∀b∈fp,jK X ah H b)(ho:∀b∈fp,∃o,s.heap.get? b=some o/\∀v,o.data≠.cell v):Inv X (ah++lN fp s.heap) O H s:=
 I.v7 λp hp=>(sB.mp hp).elim (λz=>I.pin p (kA _ z)) λz=>by
  obtain⟨hb,e⟩:=yc z;obtain⟨f0,f1,f2,_⟩:=hf p.1 hb;obtain⟨o,e',d⟩:=ho p.1 hb;rw[e]at e';cases e';exact⟨e,f0,f1,f2,d⟩
theorem Inv.iX{ah pl: ~~~1}{O:St}{H:Hp}{s:Shared}(I:Inv X (ah++pl) O H s):Inv X ah O H s:=I.v7 λp hp=>I.pin p (kA _ (AI _ hp))
theorem Mi{iter:Expr}{body:List Stmt}{wi:TI}{g:TG}{tb:TS}{pos:Pos}(hp:PassesOwn (~~~2) X.A X.env X.xe)(hc:X.calm=true)(hi:PI X tg iter wi)(hg:PG X tg g)(hb:qg X body tb)
  (hs:∀x,foldedSetIterable iter X.env x=pure x:=by intro _;rfl):PS X (.For tg iter body [] pos) (X8 wi g tb):=by
 intro ah s O H D I h;refine wpAny_For (bR (hi ah s O H _ I h) λv s1 h1=>bR h1 λitv s2 h2=>?_) hs
 obtain⟨it,fp,tn,qqz,H2,e,I2,T,aP,f2,W,⟨m0,w0⟩,turn⟩:=h2;subst e;have stat:∀{H':Hp},(∀b∈fp,H' b=none)->∀b∈fp,jK X ah H' b:=λhn b hb=>⟨hn b hb,(f2 b hb).2⟩
 refine codeAny_forLoop_any (λn s'=>∃i σ' H',Inv X ah σ' H' s'/\tn i s'.heap/\(∀b∈fp,H' b=none)/\W i n σ' H') ?_ m0 ⟨0,O,H2,I2,aP,λb hb=>(f2 b hb).1,w0⟩
 rintro n s3 ⟨i,σ3,H3,I3,gG,Tv,w3⟩;rcases turn i n σ3 H3 w3 with ⟨stop,qn⟩ |⟨go,N,hN,step⟩
 .
  refine y0 hp (bR (T.done X rfl rfl rfl hc i ah s3 σ3 H3 X.xe I3 (stat Tv) gG stop) λr s4 ⟨hr,I4⟩=>?_)
  subst hr;exact wpAny_execs_nil ⟨σ3,H3,I4,qn⟩
 .
  refine y0 hp (bR (T.item X rfl rfl rfl hc i ah s3 σ3 H3 X.xe I3 (stat Tv) gG go) λr s4 ⟨u,hr,h4⟩=>?_)
  subst hr;refine y0 hp (bR h4 λ_ s5 ⟨x,H5,I5,r5,y5,uQ,Yb⟩=>?_)
  have Yc:=I5.pinned (stat Yb) (T.obj _ _ uQ);refine y0 hp (bR (hg _ s5 σ3 H5 x u _ Yc r5 (step x H5 y5)) λ_ s6 ⟨σ6,H6,I6,q6⟩=>?_)
  refine y0 hp (bR (hb _ s6 σ6 H6 _ I6 q6) λf s7 q7=>?_)
  have again:∀{σ7:St}{H7:Hp},Inv X (ah++lN fp s5.heap) σ7 H7 s7->N σ7 H7->∃m,m<n/\∃i σ' H',Inv X ah σ' H' s7/\tn i s7.heap/\(∀b∈fp,H' b=none)/\W i m σ' H':=λ{σ7 H7} I7 n7=>by
   obtain⟨m',hm,w7⟩:=hN σ7 H7 n7;refine⟨m',hm,i+1,σ7,H7,I7.iX,T.keep _ _ _ uQ λb hb o e=>(I7.pin (b,o) (kA _ (kA _ (fy hb e)))).1,λb hb=>?_,w7⟩
   obtain⟨o,e,d⟩:=T.obj _ _ uQ b hb;exact (I7.pin (b,o) (kA _ (kA _ (fy hb e)))).2.1
  cases f with
  |next=>obtain⟨σ7,H7,I7,n7⟩:=q7;exact again I7 n7
  |cont=>obtain⟨σ7,H7,I7,n7⟩:=q7;exact again I7 n7
  |brk=>obtain⟨σ7,H7,I7,q7⟩:=q7;exact⟨σ7,H7,I7.iX,q7⟩
  |ret v=>obtain⟨x7,σ7,H7,I7,r7,q7⟩:=q7;exact⟨x7,σ7,H7,I7.iX,r7,q7⟩
end
abbrev R2:=V->V->Hp->VK->Prop
def j9(X:Cx)(f:Value->Value->Sem Value)(r:R2):Prop:=
 ∀(ah: ~~~1) (s:Shared) (O:St) (H:Hp) (x y:V) (v u:Value) (Q:VK),Inv X ah O H s->RelV x v->RelV y u->r x y H Q->
  wpAny (~~~2) X.A (f v u) (EP X ah O Q) X.xe s
def WR(X:Cx)(f:Value->Sem Value)(r:V->Hp->VK->Prop):Prop:=
 ∀(ah: ~~~1) (s:Shared) (O:St) (H:Hp) (x:V) (v:Value) (Q:VK),Inv X ah O H s->RelV x v->r x H Q->
  wpAny (~~~2) X.A (f v) (EP X ah O Q) X.xe s
def dX(X:Cx)(f:Value)(r:List V->Hp->VK->Prop):Prop:=
 ∀(ah: ~~~1) (s:Shared) (O:St) (H:Hp) (xs:List V) (us:List Value) (Q:VK),Inv X ah O H s->Vals xs us->r xs H Q->
  wpAny (~~~2) X.A (call f us) (EP X ah O Q) X.xe s
def Yd(X:Cx)(r:V->Hp->(Bool->Hp->Prop)->Prop):Prop:=
 ∀(ah: ~~~1) (s:Shared) (O:St) (H:Hp) (x:V) (v:Value) (Q:Bool->Hp->Prop),Inv X ah O H s->RelV x v->r x H Q->
  wpAny (~~~2) X.A (truthy v) (TP X ah O Q) X.xe s
noncomputable def WT(r:R2)(ta tb:TE):TE:=λO H Q=>ta O H λx H1=>tb O H1 λy H2=>r x y H2 Q
def tUn(r:V->Hp->VK->Prop)(ta:TE):TE:=λO H Q=>ta O H λx H1=>r x H1 Q
noncomputable def rI(C:Int->Int->Prop)(g:Int->Int->V):R2:=λx y H Q=>∃i j,x=.int i/\y=.int j/\C i j/\Q (g i j) H
noncomputable def Fy(g:Int->Int->V):R2:=λx y H Q=>∃i j,x=.int i/\y=.int j/\Q (g i j) H
def rU(g:Int->V):V->Hp->VK->Prop:=λx H Q=>∃i,x=.int i/\Q (g i) H
section
variable{X:Cx}{a b c:Expr}{ta tb tc:TE}{pos:Pos}
theorem Mj(ha:PE X a ta)(hb:PE X b tb){ah: ~~~1}{s:Shared}{O:St}{H:Hp}{R:V->V->Hp->Prop}(I: ~~~7)
  (h:ta O H λx H1=>tb O H1 λy H2=>R x y H2) {Q:Value->Shared->Prop}{f:Value->Value->Sem Value}
  (hf:∀v u s2 x y H2,Inv X ah O H2 s2->RelV x v->RelV y u->R x y H2->wpAny (~~~2) X.A (f v u) Q X.xe s2) :
  wpAny (~~~2) X.A (eval a X.env) (λv s₁=>wpAny (~~~2) X.A (eval b X.env) (λu s₂=>wpAny (~~~2) X.A (f v u) Q X.xe s₂) X.xe s₁) X.xe s:=by
 refine bR (ha ah s O H _ I h) λv s1 ⟨x,H1,I1,r1,q1⟩=>?_
 refine bR (hb ah s1 O H1 _ I1 q1) λu s2 ⟨y,H2,I2,r2,q2⟩=>?_
 exact hf v u s2 x y H2 I2 r1 r2 q2
theorem Tw{op:Operator}{r:R2}(ho:j9 X (binaryOp op) r)(ha:PE X a ta)(hb:PE X b tb):PE X (.BinOp a op b pos) (WT r ta tb):=by intro ah s O H Q I h;exact wpAny_BinOp (Mj ha hb I h λv u s2 x y H2 I2 rx ry q=>ho ah s2 O H2 x y v u Q I2 rx ry q)
theorem Ku{op:UnaryOp}{r:V->Hp->VK->Prop}(ho:WR X (unaryOp op) r)(ha:PE X a ta):PE X (.UnaryOp op a pos) (tUn r ta):=by intro ah s O H Q I h;exact UnaryOp_ (bR (ha ah s O H _ I h) λv s1 ⟨x,H1,I1,r1,q1⟩=>ho ah s1 O H1 x v Q I1 r1 q1)
theorem WW{f:Value->Value->Sem Value}{C:Int->Int->Prop}{g:Int->Int->Int}
  (rule:∀(i j:Int) (t u:Tok) (s:Shared) (Q:Value->Shared->Prop) (E:Value->Shared->Prop),C i j->Q (.int (g i j) s.toks) { s with toks:=s.toks+1}->wpAny (~~~2) X.A (f (.int i t) (.int j u)) Q E s) :
  j9 X f (rI C λi j=>.int (g i j)):=by
 intro ah s O H x y v u Q I rx ry h;obtain⟨i,j,rfl,rfl,hc,q⟩:=h;obtain⟨t,rfl⟩:=rx;obtain⟨t',rfl⟩:=ry;exact rule i j t t' s _ _ hc ⟨.int (g i j),H,I.tok _,⟨_,rfl⟩,q⟩
theorem Tz{f:Value->Value->Sem Value}{g:Int->Int->Int}
  (rule:∀(i j:Int) (t u:Tok) (s:Shared) (Q:Value->Shared->Prop) (E:Value->Shared->Prop),Q (.int (g i j) s.toks) { s with toks:=s.toks+1}->wpAny (~~~2) X.A (f (.int i t) (.int j u)) Q E s) :
  j9 X f (Fy λi j=>.int (g i j)):=by
 intro ah s O H x y v u Q I rx ry h;obtain⟨i,j,rfl,rfl,q⟩:=h;obtain⟨t,rfl⟩:=rx;obtain⟨t',rfl⟩:=ry;exact rule i j t t' s _ _ ⟨.int (g i j),H,I.tok _,⟨_,rfl⟩,q⟩
theorem Gr{f:Value->Value->Sem Value}{g:Int->Int->Bool}
  (rule:∀(i j:Int) (t u:Tok) (s:Shared) (Q:Value->Shared->Prop) (E:Value->Shared->Prop),Q (.bool (g i j)) s->wpAny (~~~2) X.A (f (.int i t) (.int j u)) Q E s) :
  j9 X f (Fy λi j=>.bl (g i j)):=by
 intro ah s O H x y v u Q I rx ry h;obtain⟨i,j,rfl,rfl,q⟩:=h;obtain⟨t,rfl⟩:=rx;obtain⟨t',rfl⟩:=ry;exact rule i j t t' s _ _ ⟨.bl (g i j),H,I,rfl,q⟩
def Ye(i j:Int):Prop:=0<j/\j<1073741824
def Yg(i j:Int):Prop:=0<=j/\j<=1000000/\i.natAbs<2 ^ 64
def Mk(i j:Int):Prop:=(-(2 ^ 64)<i/\i<2 ^ 64)\/(-(2 ^ 64)<j/\j<2 ^ 64)
theorem Mk.ok{i j:Int}(h:Mk i j):IntMulOk i j:=by
 rcases h with ⟨h1,h2⟩ |⟨h1,h2⟩
 . exact .of_left (intBits_le_64 h1 h2)
 . exact .of_right (intBits_le_64 h1 h2)
theorem Ml:j9 X (binaryOp .Add) (Fy λi j=>.int (i+j)):=Tz λ_ _ _ _ _ _ _ q=>add_int q
theorem Mm:j9 X (binaryOp .Sub) (Fy λi j=>.int (i - j)):=Tz λ_ _ _ _ _ _ _ q=>sub_int q
theorem Mp:j9 X (binaryOp .Mult) (rI Mk λi j=>.int (i * j)):=WW λ_ _ _ _ _ _ _ hc q=>mul_int q hc.ok
theorem Gs:j9 X (binaryOp .FloorDiv) (rI Ye λi j=>.int (i / j)):=WW λi j _ _ _ _ _ hc q=>by
 have h1:(0:Int)<j:=hc.1;have h2:j<1073741824:=hc.2;exact floordiv_int ⋯ (by rw[Int.fdiv_eq_ediv_of_nonneg i ⋯];exact q) (.inl (PyProof.noPylong_small ⋯))
theorem Mq:j9 X (binaryOp .Mod) (rI (λ_ j=>0<j) λi j=>.int (i % j)):=WW λi j _ _ _ _ _ hc q=>by
 have h1:(0:Int)<j:=hc;exact mod_int' ⋯ (by rw[Int.fmod_eq_emod_of_nonneg i ⋯];exact q)
theorem ql:j9 X (binaryOp .Pow) (rI Yg λi j=>.int (i ^ j.toNat)):=WW λ_ _ _ _ _ _ _ hc q=>pow_int_small hc.1 hc.2.1 hc.2.2 q
theorem unI{f:Value->Sem Value}{g:Int->Int}
  (rule:∀(i:Int) (t:Tok) (s:Shared) (Q:Value->Shared->Prop) (E:Value->Shared->Prop),Q (.int (g i) s.toks) { s with toks:=s.toks+1}->wpAny (~~~2) X.A (f (.int i t)) Q E s) :
  WR X f (rU λi=>.int (g i)):=by
 intro ah s O H x v Q I rx h;obtain⟨i,rfl,q⟩:=h;obtain⟨t,rfl⟩:=rx;exact rule i t s _ _ ⟨.int (g i),H,I.tok _,⟨_,rfl⟩,q⟩
theorem Ah:WR X (unaryOp .USub) (rU λi=>.int (-i)):=unI λ_ _ _ _ _ q=>neg_int q
end
section
variable{X:Cx}{a b c:Expr}{ta tb tc:TE}{pos:Pos}
theorem Mr(I: ~~~7)(q:Q (.bl k) H)(e:k=k'):EP X ah O Q (.bool k') s:=by subst e;exact⟨.bl k,H,I,rfl,q⟩
theorem TF:j9 X (compareOp .Lt) (Fy λi j=>.bl (decide (i<j))):=Gr λ_ _ _ _ _ _ _ q=>lt_int q
theorem TJ:j9 X (compareOp .LtE) (Fy λi j=>.bl (decide (i<=j))):=Gr λ_ _ _ _ _ _ _ q=>le_int q
theorem TL:j9 X (compareOp .Gt) (Fy λi j=>.bl (decide (j<i))):=Gr λ_ _ _ _ _ _ _ q=>gt_int q
theorem TQ:j9 X (compareOp .GtE) (Fy λi j=>.bl (decide (j<=i))):=Gr λ_ _ _ _ _ _ _ q=>ge_int q
theorem Ms:j9 X (compareOp .Is) (λx y H Q=>y=.non/\Q (.bl (decide (x=.non))) H):=by
 intro ah s O H x y v u Q I rx ry h;obtain⟨rfl,q⟩:=h;cases ry;refine is_none_gen (Mr I q ?_);cases x <;> first
  | (cases rx;rfl)
  | (obtain⟨t,rfl⟩:=rx;rfl)
theorem lu{op:CmpOp}{r:R2}(ho:j9 X (compareOp op) r)(ha:PE X a ta)(hb:PE X b tb)(hm:behindInMarks op b=false):PE X (.Compare a [op] [b] pos) (WT r ta tb):=by intro ah s O H Q I h;exact wpAny_Compare1 (Mj ha hb I h λv u s2 x y H2 I2 rx ry q=>ho ah s2 O H2 x y v u Q I2 rx ry q) hm
def TV(t:TE):TT:=λO H Q=>t O H λx H'=>∃k,x=.bl k/\Q k H'
theorem qm{op:CmpOp}{r:R2}(ho:j9 X (compareOp op) r)(ha:PE X a ta)(hb:PE X b tb)(hm:behindInMarks op b=false):PT X (.Compare a [op] [b] pos) (TV (WT r ta tb)):=by
 intro ah s O H Q I h;refine wpAny_isTrue_Compare1 (bR (ha ah s O H _ I h) λv s1 ⟨x,H1,I1,r1,q1⟩=>bR (hb ah s1 O H1 _ I1 q1) λu s2 ⟨y,H2,I2,r2,q2⟩=>
  bR (ho ah s2 O H2 x y v u _ I2 r1 r2 q2) λc s3 ⟨z,H3,I3,r3,k,e,q3⟩=>?_) hm
 subst e;cases r3;exact mE ⟨H3,I3,q3⟩
def TX(K:Frag)(x:V)(H:Hp)(k:Bool):Prop:=
 match x with
 |.non=>k=false
 |.bl b=>k=b
 |.int i=>k=(i != 0)
 |.str y=>y.length<=sizeLine/\k=((y.length:Int) != 0)
 |.Kp y=>y.size<=sizeLine/\k=((y.size:Int) != 0)
 |.ref p=>(∃xs,cG K H p xs/\k=!xs.isEmpty)\/(∃xs,fX K H p xs/\k=!xs.isEmpty)\/∃eW,H p=some (.dK eW)/\k=!eW.isEmpty
 |_=>False
theorem uR{κ:Type}{eW:List (κ×V)}{vs:List (κ×Value)}(r:KV eW vs):(!vs.isEmpty)=!eW.isEmpty:=by cases r <;> rfl
theorem lO{xs:List V}{its:List Value}(r:Vals xs its):(!its.toArray.isEmpty)=!xs.isEmpty:=by cases r <;> simp
theorem lP:(sizeLine:Nat)<2 ^ 63:=by rw[rV];decide
theorem Mt:Yd X (λx H Q=>∃k,TX X.K x H k/\Q k H):=by
 intro ah s O H x v Q I rx h;obtain⟨k,e,q⟩:=h;have hl:=lP;have hs:sizeLine=16777216:=rV;cases x with
 |non=>cases rx;have e':k=false:=e;subst e';exact truthy_none ⟨H,I,q⟩
 |bl b=>cases rx;have e':k=b:=e;subst e';exact mE ⟨H,I,q⟩
 |int i=>obtain⟨t,rfl⟩:=rx;have e':k=(i != 0):=e;subst e';exact PySem.P.truthy_int ⟨H,I,q⟩
 |str y=>obtain⟨t,rfl⟩:=rx;obtain⟨hy,e'⟩:y.length<=sizeLine/\k=((y.length:Int) != 0):=e;subst e';exact PySem.P.truthy_str ⋯ ⟨H,I.tok _,q⟩
 |Kp y=>obtain⟨t,rfl⟩:=rx;obtain⟨hy,e'⟩:y.size<=sizeLine/\k=((y.size:Int) != 0):=e;subst e';exact PySem.W.truthy_bytes ⋯ ⟨H,I.tok _,q⟩
 |ref p=>
  cases rx;have e':(∃xs,cG X.K H p xs/\k=!xs.isEmpty)\/(∃xs,fX X.K H p xs/\k=!xs.isEmpty)\/∃eW,H p=some (.dK eW)/\k=!eW.isEmpty:=e;rcases e' with ⟨xs,hx,e'⟩ |⟨xs,hx,e'⟩ |⟨eW,hx,e'⟩
  . subst e';obtain⟨its,r,pl,hz⟩:=I.list hx;have aV:=r.length;exact wpAny_truthy_list pl.isList (by simp only[dC];lia) ⟨H,I.tok _,by rw[lO r];exact q⟩
  . subst e';obtain⟨its,r,pl,hz⟩:=I.tuple hx;have aV:=r.length;exact truthy_tuple pl (by simp only[dC];lia) ⟨H,I.tok _,by rw[lO r];exact q⟩
  . subst e';obtain⟨hz,hS,vs,r,m⟩:eW.length<=sizeLine/\(p==sysModules)=false/\∃vs,KV eW vs/\s.heap.DictOf (fj X.prog X.w) p vs:=I.hok p _ hx;have aV:eW.length=vs.length:=Paired.length r;exact wpAny_truthy_dict hS m ⋯ ⟨H,I.tok _,by rw[uR r];exact q⟩
 |_=>exact (show False from e).elim
theorem Ai(ha:PE X a ta)(he:∀whole,isTrue a X.env whole=(do let v <- whole;standAt a.pos;holding [v] (truthy v))) :
  PT X a (λO H Q=>ta O H λx H'=>∃k,TX X.K x H' k/\Q k H'):=by
 intro ah s O H Q I h;exact isTrue_plain (bR (ha ah s O H _ I h) λv s1 ⟨x,H1,I1,r1,q1⟩=>Mt ah s1 O H1 x v Q I1 r1 q1) (he _)
theorem vals1(r:Vals [x] us):∃u,us=[u]/\RelV x u:=by
 cases r with
 |cons r1 r2=>cases r2;exact⟨_,rfl,r1⟩
theorem vals2(r:Vals [x,y] us):∃u w',us=[u,w']/\RelV x u/\RelV y w':=by
 cases r with
 |cons r1 r2=>
  cases r2 with
  |cons r3 r4=>cases r4;exact⟨_,_,rfl,r1,r3⟩
theorem yd(hc:X.calm=true):dX X (.builtin "max") (λxs H Q=>∃i j,xs=[.int i,.int j]/\Q (.int (if j > i then j else i)) H):=by
 intro ah s O H xs us Q I r h;obtain⟨i,j,rfl,q⟩:=h;obtain⟨u,w',rfl,⟨t,rfl⟩,⟨t',rfl⟩⟩:=vals2 r;refine max_two_ints (I.ok.hd hc) λh' tk k=>⟨_,H,I.kept k,?_,q⟩
 by_cases hj:j > i
 . rw[i5 hj,i5 hj];exact⟨_,rfl⟩
 . rw[gN hj,gN hj];exact⟨_,rfl⟩
theorem yf(hc:X.calm=true):dX X (.builtin "min") (λxs H Q=>∃i j,xs=[.int i,.int j]/\Q (.int (if j<i then j else i)) H):=by
 intro ah s O H xs us Q I r h;obtain⟨i,j,rfl,q⟩:=h;obtain⟨u,w',rfl,⟨t,rfl⟩,⟨t',rfl⟩⟩:=vals2 r;refine min_two_ints (I.ok.hd hc) λh' tk k=>⟨_,H,I.kept k,?_,q⟩
 by_cases hj:j<i
 . rw[i5 hj,i5 hj];exact⟨_,rfl⟩
 . rw[gN hj,gN hj];exact⟨_,rfl⟩
def Yh(K:Frag)(x:V)(H:Hp)(n:Nat):Prop:=
 match x with
 |.str y=>y.length<=sizeLine/\n=y.length
 |.Kp y=>y.size<=sizeLine/\n=y.size
 |.ref p=>(∃xs,cG K H p xs/\n=xs.length)\/∃xs,fX K H p xs/\n=xs.length
 |_=>False
theorem Aj:dX X (.builtin "len") (λxs H Q=>∃x n,xs=[x]/\Yh X.K x H n/\Q (.int n) H):=by
 intro ah s O H xs us Q I r h;obtain⟨x,n,rfl,e,q⟩:=h;obtain⟨u,rfl,rx⟩:=vals1 r;have hl:=lP;have hs:sizeLine=16777216:=rV;cases x with
 |str y=>obtain⟨t,rfl⟩:=rx;obtain⟨hy,e'⟩:y.length<=sizeLine/\n=y.length:=e;subst e';exact len_str ⋯ ⟨.int _,H,I.tok _,⟨_,rfl⟩,q⟩
 |Kp y=>obtain⟨t,rfl⟩:=rx;obtain⟨hy,e'⟩:y.size<=sizeLine/\n=y.size:=e;subst e';exact PySem.W.len_bytes ⋯ ⟨.int _,H,I.tok _,⟨_,rfl⟩,q⟩
 |ref p=>
  cases rx;have e':(∃xs,cG X.K H p xs/\n=xs.length)\/∃xs,fX X.K H p xs/\n=xs.length:=e;rcases e' with ⟨xs,hx,e'⟩ |⟨xs,hx,e'⟩
  . subst e';obtain⟨its,r',pl,hz⟩:=I.list hx;have aV:=r'.length;exact Calls.call_len_list pl.isList (by simp only[dC];lia) ⟨.int xs.length,H,I.tok _,⟨_,by simp only[dC];rw[aV]⟩,q⟩
  . subst e';obtain⟨its,r',pl,hz⟩:=I.tuple hx;have aV:=r'.length;exact len_tuple pl (by simp only[dC];lia) ⟨.int xs.length,H,I.tok _,⟨_,by simp only[dC];rw[aV]⟩,q⟩
 |_=>exact (show False from e).elim
end
structure bW(k:Nat)(A:Around):Prop where
 hd:A.handled=none
 dp:A.depth+3 * k+5<recursionLimit
 un:A.units+16 * k+200<cLine
theorem bW.mono{j k:Nat}{A:Around}(r:bW k A)(h:j<=k):bW j A:=⟨r.hd,by have:=r.dp;lia,by have:=r.un;lia⟩
theorem bW.deeper(r:bW (k+1) A)(env:Env):bW k (A.deeper env):=
 ⟨r.hd,by have:=r.dp;show A.depth+1+3 * k+5<_;lia,by have:=r.un;show A.units+3+16 * k+200<_;lia⟩
theorem bW.depth{k:Nat}{A:Around}(r:bW k A):A.depth<recursionLimit:=by have:=r.dp;lia
theorem bW.units{k:Nat}{A:Around}(r:bW k A):A.units+64<cLine:=by have:=r.un;lia
def Yi:TA:=λ_ H Q=>Q [] H
noncomputable def TY(ta:TE)(tr:TA):TA:=λO H Q=>ta O H λx H1=>tr O H1 λxs H2=>Q (x::xs) H2
section
variable{X:Cx}{e:Expr}{es:List Expr}{te:TE}{t:TA}{pos:Pos}
theorem fz:PA X [] Yi:=λ_ _ _ _ H Q I h=>Calls.spliced_nil ⟨[],H,I,.nil,h⟩
theorem bH(ha:PE X e te)(hr:PA X es t)(hs:starEach (e::es) X.env=(false,eval e X.env)::starEach es X.env:=by rfl):PA X (e::es) (TY te t):=by
 intro pos ah s O H Q I h;rw[hs];show wpAny _ _ (spliced ((false,eval e X.env)::backTo pos (starEach es X.env))) _ _ s;refine Calls.spliced_cons (bR (ha ah s O H _ I h) λu s1 ⟨x,H1,I1,r1,q1⟩=>?_)
 exact bR (hr pos ah s1 O H1 _ I1 q1) λus s2 ⟨xs,H2,I2,r2,q2⟩=>⟨x::xs,H2,I2,.cons r1 r2,q2⟩
def Yj(t:TA):TE:=λO H Q=>t O H λxs H1=>xs.length<=sizeLine/\∀p,H1 p=none->Q (.ref p) (upd H1 p (.tup xs))
def Yk(t:TA):TE:=λO H Q=>t O H λxs H1=>xs.length<=sizeLine/\∀p,H1 p=none->Q (.ref p) (upd H1 p (.lst xs))
theorem Ak{x1}(h:PA X es t):PE X (.Tuple es x1 pos) (Yj t):=by
 intro ah s O H Q I hq;refine wpAny_Tuple_spliced (bR (h pos ah s O H _ I hq) λus s1 ⟨xs,H1,I1,r,z,q⟩=>⟨by rw[<- r.length];exact z,?_⟩)
 have hf:H1 s1⁻¹=none:=I1.hok.fresh (eA _);refine⟨.ref s1⁻¹,upd H1 s1⁻¹ (.tup xs),I1.laid (t':=s1.toks) (λb u e=>bP _ e) (eA _) ?_,rfl,q _ hf⟩
 exact⟨z,us,r,⟨_,d6 _ rfl,⟨rfl,_,rfl⟩,rfl⟩⟩
theorem Al(h:PA X es t):PE X (.List es pos) (Yk t):=by
 intro ah s O H Q I hq;refine wpAny_List_spliced (bR (h pos ah s O H _ I hq) λus s1 ⟨xs,H1,I1,r,z,q⟩=>⟨by rw[<- r.length];exact z,?_⟩)
 have hf:H1 s1⁻¹=none:=I1.hok.fresh (eA _);refine⟨.ref s1⁻¹,upd H1 s1⁻¹ (.lst xs),I1.laid (t':=s1.toks) (λb u e=>bP _ e) (eA _) ?_,rfl,q _ hf⟩
 exact⟨z,us,0,r,d6 _ rfl⟩
end
abbrev Sp:=List V->Hp->VK->XK->Prop
abbrev yg:=List Env->Hp->Shared->XK->Value->Shared->Prop
structure Am(P:Program)(w:World)(K:Frag)(mg:Str->Option Value)(base:Heap)(A:Around)(outer:List Env)(s:Shared)(H:Hp):Prop where
 frames:A.frames=some outer
 mod:Mod K mg base
 bs:∀b o,base.get? b=some o->s.heap.get? b=some o/\H b=none
 z6:base.objs.size<=s⁻¹
 iW:s.heap.FunFrames base outer
 Gj:∀b∈frs outer,H b=none
 hok:jI P w H s.heap
 bare:AllBare s.gens
def CE(outer:List Env)(P:Program)(w:World)(H:Hp)(s:Shared)(Q:VK)(u:Value)(s':Shared):Prop:=
 ∃v H',s'.os=s.os/\AllBare s'.gens/\Un (frs outer) [] H H' s.heap s'.heap/\jI P w H' s'.heap/\RelV v u/\Q v H'
def CR(CX:yg)(outer:List Env)(P:Program)(w:World)(H:Hp)(s:Shared)(Q:VK)(E:XK)(r:Result)(s':Shared):Prop:=
 match r with
 |.ok (.ret u)=>CE outer P w H s Q u s'
 |.ok _=>False
 |.error e=>CX outer H s E e s'
structure gQ(P:Program)(w:World)(K:Frag)(mg:Str->Option Value)(base:Heap)(CX:yg)(k:Nat)(f:Addr)(fd:FuncData)(ps:List Str)(sp:Sp):Prop where
 len:∀vs H Q E,sp vs H Q E->vs.length=ps.length
 run:∀(A:Around) (outer:List Env) (s:Shared) (H:Hp) (args:Args) (us:List Value) (vs:List V) (Q:VK) (E:XK),bW k A->Am P w K mg base A outer s H->BindsTo s fd args (ps.zip us)->Vals vs us->sp vs H Q E->
  codeAny (model P w) A (.call (.ref f) args) (CR CX outer P w H s Q E) s
section
variable{X:Cx}{ah: ~~~1}{O:St}{H:Hp}{s s':Shared}
theorem Inv.Gu(I: ~~~7):Am X.prog X.w X.K X.mg X.base X.A X.stack s H:=
 ⟨I.ok.frames,I.ok.mod,I.bs,oI I.ok.z6 I.sz,I.stack,I.qe,I.hok,I.bare⟩
theorem Inv.after(I: ~~~7)(h:CE X.stack X.prog X.w H s Q u s'):EP X ah O Q u s':=by obtain⟨v,H',os,bare,un,hok,r,q⟩:=h;obtain⟨hh,g,d,t,os'⟩:=s';obtain rfl:os'=s.os:=os;exact⟨v,H',I.call (h':=hh) (g':=g) (d':=d) (t':=t) (ch:=[]) un hok bare (λb z=>absurd z ⋯),r,q⟩
end
noncomputable def T5(sp:Sp)(Kv:List V)(E:XK)(t:TA):TE:=λO H Q=>t O H λvs H1=>sp (vs++Kv) H1 Q E
def Binds(K:Frag)(fd:FuncData)(ps:List Str)(ds:List Value):Prop:=
 ∀(s:Shared) (us:List Value),K.In s.heap->(us++ds).length=ps.length->BindsTo s fd ⟨us,[]⟩ (ps.zip (us++ds))
theorem Binds.all{K:Frag}{fd:FuncData}{ps:List Str}(h:∀us:List Value,us.length=ps.length->bindArgs fd ⟨us,[]⟩=pure (ps.zip us)):Binds K fd ps []:=λs us _ hl=>by
 rw[mI]at hl ⊢
 exact .of_eq (h us hl)
def Passes(CX:yg)(X:Cx)(E:XK):Prop:=∀(ah: ~~~1) (O:St) (H:Hp) (s:Shared) (e:Value) (s':Shared),Inv X ah O H s->CX X.stack H s E e s'->X.xe e s'
section
variable{X:Cx}{CX:yg}{k:Nat}{f C:Addr}{fd:FuncData}{ps:List Str}{sp:Sp}{Kv:List V}{ds:List Value}{E:XK}{x m:Str}{p pos dw:Pos}{e o:Expr}{es:List Expr}{ta:TE}{t:TA}
theorem Mu{ah: ~~~1}{O:St}{H:Hp}{s:Shared}{Q:VK}{us:List Value}{vs:List V}(F:gQ X.prog X.w X.K X.mg X.base CX k f fd ps sp)(hr:bW k X.A)(hb:Binds X.K fd ps ds)(hd:Vals Kv ds)(hx:Passes CX X E)
  (I: ~~~7) (r:Vals vs us) (h:sp (vs++Kv) H Q E):wpAny (~~~2) X.A (call (.ref f) us) (EP X ah O Q) X.xe s:=by
 have r2:Vals (vs++Kv) (us++ds):=r.append hd;have hl:(us++ds).length=ps.length:=by rw[<- r2.length];exact F.len _ _ _ _ h
 refine CC (BD (F.run X.A X.stack s H ⟨us,[]⟩ (us++ds) (vs++Kv) Q E hr I.Gu (hb s us I.kP hl) r2 h) λr s' hq=>?_)
 cases r with
 |error e=>exact hx ah O H s e s' I hq
 |ok fl=>
  cases fl with
  |ret u=>exact I.after hq
  |next=>exact False.elim hq
  |brk=>exact False.elim hq
  |cont=>exact False.elim hq
theorem wc(F:gQ X.prog X.w X.K X.mg X.base CX k f fd ps sp)(hr:bW k X.A)(hg:Gl X x)(hm:X.mg x=some (.ref f))(hk:PySem.W.keepIn X.K (.ref f)=true)(hb:Binds X.K fd ps ds)(hd:Vals Kv ds)(hx:Passes CX X E)
  (ha:PA X (e::es) t) (iB:(x==(~~~3))=false:=by decide) (he:starEach (e::es) X.env=(false,eval e X.env)::starEach es X.env:=by rfl) (jG:(backTo pos (starEach es X.env)).any (·.1)=false:=by rfl) :
  PE X (.Call (.Name x p) (e::es) [] pos) (T5 sp Kv E t):=by
 intro ah s O H Q I h;refine pV (d9 I hg hm ?_ iB);refine AA (h₀:=X.base) I.ok.mod.zQ hk (bR (ha pos ah s O H _ I h) λus s1 ⟨vs,H1,I1,r,q⟩=>⟨I1.kP,?_⟩) he jG
 exact Mu F hr hb hd hx I1 r q
end
structure bT(N P:List Str)(sc:Scope):Prop where
 kind:sc.kind=.function
 co:sc.isCoroutine=false
 gen:sc.isGenerator=false
 nd:N.Nodup
 pre:N.take P.length=P
 par:∀x∈P,sc.names.lookup x=some .local\/sc.names.lookup x=some .cell
 Mv:∀y∈sc.names,y.2≠.free
theorem oO{kindOf:Str->Option NameKind}{x:Str}:∀{binds:List (Str×Value)}{m:Str->Option Value},(∀v,(x,v)∉binds)->bindL kindOf binds m x=m x
 | [],_,_=>rfl
 | (n,v)::r,m,h=>by
  unfold bindL;rw[oO λw hw=>h w (b0 _ hw)]
  split
  .
   have:x≠n:=by rintro rfl;exact h v dA
   simp[this]
  . rfl
theorem oR{kindOf:Str->Option NameKind}{x:Str}:∀{binds:List (Str×Value)}{m:Str->Option Value},(∀v,(x,v)∉binds)->bindC kindOf binds m x=m x
 | [],_,_=>rfl
 | (n,v)::r,m,h=>by
  unfold bindC;rw[oR λw hw=>h w (b0 _ hw)]
  split
  . rfl
  .
   have:x≠n:=by rintro rfl;exact h v dA
   simp[this]
theorem oU{kindOf:Str->Option NameKind}{x:Str}{v:Value}:∀{P:List Str}{vs:List Value}{i:Nat}{m:Str->Option Value},P.Nodup->P[i]?=some x->vs[i]?=some v->kindOf x=some .local->
  bindL kindOf (P.zip vs) m x=some v
 | [],_,_,_,_,h,_,_=>by simp at h
 |_::_,[],_,_,_,_,h,_=>by simp at h
 |p::P,w::vs,0,m,nd,h1,h2,hk=>by
  simp at h1 h2;subst h1;subst h2;show bindL kindOf ((p,w)::P.zip vs) m p=_;unfold bindL;rw[oO λv hv=>(fN.mp nd).1 (B3 hv).1,i5 hk]
  simp
 |p::P,w::vs,i+1,m,nd,h1,h2,hk=>by
  show bindL kindOf ((p,w)::P.zip vs) m x=_;unfold bindL;exact oU (i:=i) (fN.mp nd).2 (by simpa using h1) (by simpa using h2) hk
theorem oV{kindOf:Str->Option NameKind}{x:Str}{v:Value}:∀{P:List Str}{vs:List Value}{i:Nat}{m:Str->Option Value},P.Nodup->P[i]?=some x->vs[i]?=some v->kindOf x≠some .local->
  bindC kindOf (P.zip vs) m x=some v
 | [],_,_,_,_,h,_,_=>by simp at h
 |_::_,[],_,_,_,_,h,_=>by simp at h
 |p::P,w::vs,0,m,nd,h1,h2,hk=>by
  simp at h1 h2;subst h1;subst h2;show bindC kindOf ((p,w)::P.zip vs) m p=_;unfold bindC;rw[oR λv hv=>(fN.mp nd).1 (B3 hv).1,gN hk]
  simp
 |p::P,w::vs,i+1,m,nd,h1,h2,hk=>by
  show bindC kindOf ((p,w)::P.zip vs) m x=_;unfold bindC;exact oV (i:=i) (fN.mp nd).2 (by simpa using h1) (by simpa using h2) hk
noncomputable def start(N:List Str)(vs:List V):St:=vs.map some++List.replicate (N.length - vs.length) none
noncomputable def eF(CX:yg)(P:Program)(w:World)(K:Frag)(mg:Str->Option Value)(base:Heap)(N:List Str)(qual:Str)(scope:Scope)(f:Addr)(cd:Value)(A:Around)(outer:List Env)(s:Shared)(H:Hp)(E:XK):Cx where
 prog:=P
 w:=w
 K:=K
 mg:=mg
 base:=base
 A:=A.deeper (envOfC qual scope s⁻¹ f cd)
 N:=N
 s₀:=s
 H₀:=H
 env:=envOfC qual scope s⁻¹ f cd
 outer:=outer
 stack:=envOfC qual scope s⁻¹ f cd::outer
 ex:=[]
 calm:=true
 fn:=λ_=>true
 pn:=[]
 xe:=λe s'=>wpAny (model P w) (A.deeper (envOfC qual scope s⁻¹ f cd)) (leaving (envOfC qual scope s⁻¹ f cd) e) (λ_ s''=>CX outer H s E e s'') (λe' s''=>CX outer H s E e' s'') s'
theorem sD{sc:Scope}{n:Nat}{x:Str}(h:sc.names.lookup x=some .cell):∃c,(cellsFrom n sc.names []).lookup x=some c:=by have q:=AX sc.names n [] (.inl h);exact Option.isSome_iff_exists.mp q
theorem oW{CX:yg}{P:Program}{w:World}{K:Frag}{mg:Str->Option Value}{base:Heap}{N ps:List Str}{qual:Str}{scope:Scope}{f:Addr}{cd:Value}{A:Around}{outer:List Env}{s s1:Shared}{H:Hp}{E:XK}{us:List Value}{vs:List V}
  (S:bT N ps scope) (hd:A.handled=none) (e0:Am P w K mg base A outer s H) (hl:vs.length=ps.length) (r:Vals vs us)
  (x:InCallC s s⁻¹ (bindL (envOfC qual scope s⁻¹ f cd).kindOf (ps.zip us) λ_=>none) (cellsFrom (s⁻¹+1) scope.names []) (bindC (envOfC qual scope s⁻¹ f cd).kindOf (ps.zip us) λ_=>none) s1) :
  Inv (eF CX P w K mg base N qual scope f cd A outer s H E) [] (start N vs) H s1:=by
 have jG:ps.length<=N.length:=by have:=congrArg List.length S.pre;rw[u7]at this;lia
 obtain⟨h1,tk,rfl,hk⟩:=x.done;have T6:∀b:Addr,b∉(eF CX P w K mg base N qual scope f cd A outer s H E).ex:=λb z=>absurd (show b∈([]:List Addr)from z) ⋯
 refine⟨⟨e0.mod,S.kind,rfl,rfl,eA _,λy z c h1 h2=>?_,λy hy=>?_,λy c _ h=>?_,λ_=>hd,Around.frames_deeper e0.frames,.inr ⟨rfl,rfl⟩,λb z=>absurd z (T6 b),e0.bs,e0.z6,λb _ _=>T6 b,λb z=>absurd z (T6 b),e0.iW,e0.Gj⟩,
  rfl,e0.bare,Un.kept hk,⟨_,x.toInCall.ns,λi y v h1 h2 h3=>?_⟩,λy c h=>⟨_,x.cell y c h⟩,e0.hok.fresh (eA _),λy c h=>?_,λp hp=>absurd (show p∈([]: ~~~1)from hp) ⋯,e0.hok.kept hk,?_⟩
 . exact name_of_addr x.apart (Ap h1) (Ap h2)
 .
  have hy:scope.names.lookup y=some .cell\/scope.names.lookup y=some .free:=hy;rcases hy with hy |hy
  . exact sD hy
  . exact absurd rfl (S.Mv _ (Ap hy))
 . exact Nat.le_of_lt (x.above y c (Ap h))
 .
  have hi:i<vs.length:=by
   unfold start at h2;by_cases hi:i<vs.length
   . exact hi
   .
    rw[d5 (by simpa using hi)]at h2
    rw[AR]at h2;split at h2 <;> cases h2
  have ha:vs[i]?=some v:=by
   unfold start at h2;rw[eJ (by simpa using hi),t5]at h2
   cases e:vs[i]? with
   |none=>rw[e]at h2;cases h2
   |some a=>rw[e]at h2;cases h2;rfl
  obtain⟨u,hu,rv⟩:=r.get ha;have hp:ps[i]?=some y:=by rw[<- S.pre,y6 ⋯];exact h1
  have ndP:ps.Nodup:=by rw[<- S.pre];exact S.nd.sublist (List.take_sublist _ _)
  refine⟨u,rv,?_⟩;rcases S.par y (l7 hp)with k |k
  . exact .inl ⟨k,oU ndP hp hu k⟩
  .
   obtain⟨c,e⟩:=sD (n:=s⁻¹+1) k;refine .inr ⟨.inl k,c,e,?_⟩;have q:=x.cell y c e;rw[oV ndP hp hu (by show scope.names.lookup y≠_;rw[k];decide)]at q
   exact q
 . exact e0.hok.fresh (Nat.le_of_lt (x.above y c (Ap h)))
 . unfold start;show _=N.length;rw[i6,fR,fA];lia
theorem Kw{CX:yg}{P:Program}{w:World}{K:Frag}{mg:Str->Option Value}{base:Heap}{k:Nat}{f:Addr}{name qual:Str}{params:Arguments}{body:List Stmt}{scope:Scope}{dV kV doc pm bB ct oc:Value}{an od:Option Addr}
  {osl:Array (Option Value)}{N ps:List Str}{sp:Sp} (lk:K.lookup f=some ⟨oc,od,.func (PySem.W.fnOf name qual params body scope dV kV doc pm an bB ct),osl⟩) (bY:PySem.W.codeIn K bB qual=true) (S:bT N ps scope)
  (len:∀vs H Q E,sp vs H Q E->vs.length=ps.length)
  (hbody:∀(A:Around) (outer:List Env) (s:Shared) (H:Hp) (vs:List V) (Q:VK) (E:XK),bW k (A.deeper (envOfC qual scope s⁻¹ f bB))->sp vs H Q E->
   ∃t,qg (eF CX P w K mg base N qual scope f bB A outer s H E) body t/\t { nx:=λ_ H'=>Q .non H',rt:=Q} (start N vs) H) :
  gQ P w K mg base CX (k+1) f (PySem.W.fnOf name qual params body scope dV kV doc pm an bB ct) ps sp:=by
 refine⟨len,λA outer s H args us vs Q E hr e0 hb r RN=>?_⟩
 have hl:=len _ _ _ _ RN;have KX:K.In s.heap:=e0.mod.zQ.keeps λb o e=>(e0.bs b o e).1
 have lim:s.heap.NoLimit:=e0.mod.nolimit.keeps λb o e=>(e0.bs b o e).1
 have hkind:∀y∈ps.zip us,scope.names.lookup y.1=some .local\/(scope.names.lookup y.1=some .cell/\((cellsFrom (s⁻¹+1) scope.names []).lookup y.1).isSome=true):=λ⟨n,v⟩ hy=>by
  rcases S.par n (B3 hy).1 with q |q
  . exact .inl q
  . exact .inr ⟨q,AX _ _ _ (.inl q)⟩
 refine codeAny_call_function hr.depth (KX _ _ lk) rfl S.co S.gen rfl (PySem.W.codeRec_of KX bY) (hb _ _ _ _ ?_);refine wpAny_newFunctionEnv_cells S.kind hkind λenv he s1 x=>?_
 subst he;refine⟨lim.keeps x.toInCall.keep,codeAny_func ?_⟩;obtain⟨t,ht,hq⟩:=hbody A outer s H vs Q E (hr.deeper _) RN;have I:Inv (eF CX P w K mg base N qual scope f bB A outer s H E) [] (start N vs) H s1:=oW S hr.hd e0 hl r x;refine l8 (ht [] s1 (start N vs) H _ I hq) (λfl s' hs=>?_) λe s' hs=>hs
 have fin:∀{σ':St}{H':Hp}{v:V}{u:Value},Inv (eF CX P w K mg base N qual scope f bB A outer s H E) [] σ' H' s'->RelV v u->Q v H'->CE outer P w H s Q u s':=
  λ{σ' H' v u} qqz rv q=>⟨v,H',qqz.os,qqz.bare,qqz.base,qqz.hok,rv,q⟩
 cases fl with
 |ret u=>obtain⟨v,σ',H',qqz,rv,q⟩:=hs;exact fin qqz rv q
 |next=>obtain⟨σ',H',qqz,q⟩:=hs;exact fin (v:=V.non) (u:=Value.none) qqz rfl q
 |brk=>obtain⟨_,_,_,q⟩:=hs;exact False.elim q
 |cont=>obtain⟨_,_,_,q⟩:=hs;exact False.elim q
section
variable{X:Cx}{x:Str}{p pos:Pos}{e:Expr}{es:List Expr}{t:TA}{id T:String}{r:List V->Hp->VK->Prop}
noncomputable def tCB(r:List V->Hp->VK->Prop)(t:TA):TE:=λO H Q=>t O H λvs H1=>r vs H1 Q
theorem iY(hc:dX X (.builtin id) r)(hg:Gl X x)(hm:X.mg x=none)(hv:bootBuiltins x=some (.builtin id))(ha:PA X (e::es) t)(hn:x≠ "__name__" :=by decide)(iB:(x==(~~~3))=false:=by decide)
  (he:starEach (e::es) X.env=(false,eval e X.env)::starEach es X.env:=by rfl) (jG:(backTo pos (starEach es X.env)).any (·.1)=false:=by rfl):PE X (.Call (.Name x p) (e::es) [] pos) (tCB r t):=by
 intro ah s O H Q I h;refine pV (iC I hg hm hv ?_ hn iB);exact PyProof.Rows.callWith_builtin1 (bR (ha pos ah s O H _ I h) λus s1 ⟨vs,H1,I1,r1,q1⟩=>hc ah s1 O H1 vs us Q I1 r1 q1) he jG
theorem yh(hc:dX X (.type T) r)(hg:Gl X x)(hm:X.mg x=none)(hv:bootBuiltins x=some (.type T))(ha:PA X (e::es) t)(hn:x≠ "__name__" :=by decide)(iB:(x==(~~~3))=false:=by decide)
  (he:starEach (e::es) X.env=(false,eval e X.env)::starEach es X.env:=by rfl) (jG:(backTo pos (starEach es X.env)).any (·.1)=false:=by rfl):PE X (.Call (.Name x p) (e::es) [] pos) (tCB r t):=by
 intro ah s O H Q I h;refine pV (iC I hg hm hv ?_ hn iB);exact wS (bR (ha pos ah s O H _ I h) λus s1 ⟨vs,H1,I1,r1,q1⟩=>hc ah s1 O H1 vs us Q I1 r1 q1) he jG
end
end L2
namespace HT
open PySem PyProof.Rows
section
open PySem.SeqAt
open PySem.AutoSeq1 (wpAny_loadPart')
open PySem.MeetsSeq PySem.MeetsSeq2 PySem.MeetsSeq3
end
section
variable{prog:Program}{w:World}{A:Around}{E:Value->Shared->Prop}{s:Shared}
theorem Gv(ht:IsTup s.heap t vs.toArray)(hb:IsTup s.heap b ws.toArray)(hv:vs≠[])
  (h1:ws=[]->Q (.ref t) s) (h2:ws≠[]->Q (.ref s⁻¹) { s with heap:=s.heap.push { cls:=.type "tuple",data:=.seq (vs++ws).toArray}})
  (kO:vs.length+ws.length<=sizeLine):wpAny (model prog w) A (binaryOp .Add (.ref t) (.ref b)) Q E s:=by
 obtain⟨⟨cls,dd,data,sl⟩,ho,hc,n,hd⟩:=id ht;obtain⟨⟨Yl,dd2,data2,sl2⟩,ho2,hc2,n2,hd2⟩:=id hb;simp only at hc hd hc2 hd2;subst hc hd hc2 hd2;have e:vs.toArray++ws.toArray=(vs++ws).toArray:=by simp
 by_cases hw:ws=[]
 .
  exact concat_meets ⟨_,ho,rfl⟩ ⟨_,ho2,rfl⟩ noFill_tuple_add seq_tuple_add AY AS (AO _ _)
   (tuple_addW1 t b vs.toArray ws.toArray n n2 dd dd2 sl sl2 (by simpa using hv) (by simp[hw])) ⟨ho,ho2,h1 hw⟩
 .
  refine concat_meets ⟨_,ho,rfl⟩ ⟨_,ho2,rfl⟩ noFill_tuple_add seq_tuple_add AY AS (AO _ _)
   (tuple_addW2 t b vs.toArray ws.toArray n n2 dd dd2 sl sl2 (by simpa using hv) (by simpa using hw) (by rw[dC,dC];exact kO)) ⟨ho,ho2,?_⟩
  rw[e];exact h2 hw
noncomputable def bQ(n d:Nat):Option Int->Nat
 |none=>d
 |some v=>if v<0 then (v+(n:Int)).toNat else min v.toNat n
theorem sE(n d:Nat):bQ n d none=d:=rfl
theorem wg(n d k:Nat):bQ n d (some (k:Int))=min k n:=by
 show (if (k:Int)<0 then ((k:Int)+(n:Int)).toNat else min (k:Int).toNat n)=min k n
 rw[gN ⋯,mM]
theorem Mw(n d:Nat)(hd:d<=n)(o:Option Int):bQ n d o<=n:=by
 cases o with
 |none=>exact hd
 |some v=>
  show (if v<0 then (v+(n:Int)).toNat else min v.toNat n)<=n
  by_cases hv:v<0
  . rw[i5 hv];lia
  . rw[gN hv];exact Nat.min_le_right _ _
theorem wj(v:Int)(n d:Nat):(if v<0 then max (v+(n:Int)) 0 else min v (n:Int))=((bQ n d (some v):Nat):Int):=by
 show (if v<0 then max (v+(n:Int)) 0 else min v (n:Int))=(((if v<0 then (v+(n:Int)).toNat else min v.toNat n):Nat):Int)
 by_cases hv:v<0
 . simp only[i5 hv];lia
 . simp only[gN hv];lia
theorem uS(lo hi:Option Int)(n:Nat):Builtin.Slice.sliceAdjust lo hi 1 (n:Int)=(((bQ n 0 lo:Nat):Int),((bQ n n hi:Nat):Int)):=by
 have h1 : ¬ ((1:Int)<0):=by lia
 unfold Builtin.Slice.sliceAdjust;simp only[h1,CI];refine Prod.ext ?_ ?_
 .
  cases lo with
  |none=>rfl
  |some v=>exact wj v n 0
 .
  cases hi with
  |none=>rfl
  |some v=>exact wj v n n
theorem uT(i j:Nat):Builtin.Slice.slicePlaces (i:Int) (j:Int) 1=j - i:=by
 unfold Builtin.Slice.slicePlaces;have h1:(1:Int) > 0:=by lia
 simp only[h1,AT,Int.ediv_one];split <;> lia
theorem iD(p:IsPart v o)(h:Q o s):wpAny (model prog w) A (Builtin.Slice.slicePartIndex v) Q E s:=by
 cases p with
 |none=>exact slicePart_none h
 |int i t=>exact slicePart_int h
theorem eX{sl:Addr}{vl vu:Value}{lo hi:Option Int}{n:Nat}{Q:Int×Int×Nat->Shared->Prop}(hs:s.heap.IsSliceOf sl vl vu .none)(pl:IsPart vl lo)(pu:IsPart vu hi)
  (h:Q (((bQ n 0 lo:Nat):Int),1,bQ n n hi - bQ n 0 lo) s):wpAny (model prog w) A (Builtin.Slice.sliceApplied (.ref sl) (pure (n:Int))) Q E s:=by
 obtain⟨os,hos,hcs,hds⟩:=id hs;unfold Builtin.Slice.sliceApplied Builtin.Slice.sliceFields;refine aS (aS (l5 hos hds (x:=vl) rfl (aS (l5 hos hds (x:=vu) rfl (aS (l5 hos hds (x:=.none) rfl (dS ?_)))))));refine aS (slicePart_none ?_);show wpAny _ _ (if ((1:Int)==0)=true then _ else _) _ _ s
 rw[gN ⋯];refine aS (iD pl (aS (iD pu (aS (dS ?_)))));show wpAny _ _ (match Builtin.Slice.sliceAdjust lo hi 1 (n:Int)with | (lo,hi)=>pure (lo,(1:Int),Builtin.Slice.slicePlaces lo hi 1)) _ _ s
 rw[uS lo hi n];show wpAny _ _ (pure (((bQ n 0 lo:Nat):Int),(1:Int),Builtin.Slice.slicePlaces ((bQ n 0 lo:Nat):Int) ((bQ n n hi:Nat):Int) 1)) _ _ s;rw[uT];exact dS h
theorem Ao(xs:Array Value)(i k:Nat):((List.range k).filterMap λ(m:Nat)=>xs[((i:Int)+(m:Int) * 1).toNat]?).toArray=((xs.toList.drop i).take k).toArray:=by
 have e:(λ(m:Nat)=>xs[((i:Int)+(m:Int) * 1).toNat]?)=λm=>xs[i+m]?:=by
  funext m
  have:((i:Int)+(m:Int) * 1).toNat=i+m:=by lia
  rw[this]
 rw[e];have:=pick_run xs i k;rw[List.filterMap_map]at this;have e2:((λx=>xs[x]?) ∘ λx=>i+x)=λm=>xs[i+m]?:=rfl
 rw[e2]at this;rw[this]
theorem iZ{t sl:Addr}{items:Array Value}{vl vu:Value}{lo hi:Option Int}{Q:Value->Shared->Prop}(ht:IsTup s.heap t items)(hs:s.heap.IsSliceOf sl vl vu .none)(pl:IsPart vl lo)(pu:IsPart vu hi)
  (hw : ¬ (bQ items.size 0 lo=0/\bQ items.size items.size hi=items.size))
  (h:Q (.ref s⁻¹) { s with heap:=s.heap.push { cls:=.type "tuple",data:=.seq ((items.toList.drop (bQ items.size 0 lo)).take (bQ items.size items.size hi - bQ items.size 0 lo)).toArray}})
  (kO:items.size<=sizeLine):wpAny (model prog w) A (getItem (.ref t) (.ref sl)) Q E s:=by
 have jd:sizeOk (.seq ((items.toList.drop (bQ items.size 0 lo)).take (bQ items.size items.size hi - bQ items.size 0 lo)).toArray):=by show ((items.toList.drop (bQ items.size 0 lo)).take (bQ items.size items.size hi - bQ items.size 0 lo)).toArray.size<=sizeLine;rw[dC,u7,List.length_drop,tS];lia
 have hj:bQ items.size items.size hi<=items.size:=Mw _ _ (eA _) hi;obtain⟨os,hos,hcs,hds⟩:=id hs;have T7:s.TypeIs (.ref sl) "slice" :=⟨os,hos,hcs⟩;unfold getItem
 try with_reducible refine oP ?_
 first |refine aS (dS ?_) |skip
 refine aS (wpAny_sequenceKey ht.typeIs ⋯ ?_);refine aS (o6 (name:=Str.ofString "__getitem__") ht.typeIs mP
  (w8 mP ht.typeIs entry_tuple_getitem ?_ (args_tuple_getitem _ _)))
 show wpAny _ _ (Builtin.Tuple.tupleItemsOf (.ref t) >>= _) _ _ s;refine aS (tupleItemsOf_ ht ?_);refine aS (Cf T7 ?_);rw[i5 ⋯];refine aS (eX hs pl pu ?_);have hno : ¬ ((((bQ items.size 0 lo:Nat):Int)==0&&(1:Int)==1&&(bQ items.size items.size hi - bQ items.size 0 lo)==items.size)=true):=by intro q;rw[eP,eP]at q;have q1:((bQ items.size 0 lo:Nat):Int)=0:=eq_of_beq q.1.1;have q2:bQ items.size items.size hi - bQ items.size 0 lo=items.size:=eq_of_beq q.2;exact hw ⟨by lia,by lia⟩
 show wpAny _ _ (if (((bQ items.size 0 lo:Nat):Int)==0&&(1:Int)==1&&(bQ items.size items.size hi - bQ items.size 0 lo)==items.size)=true then _ else _) _ _ s
 rw[gN hno,Ao]
 first
  |exact aS (m:=Builtin.Tuple.tupleExact _) (lS (dS ⟨_,rfl,dS h⟩) jd)
  |exact aS (m:=Builtin.Tuple.tupleExact _) (lS (aS (dS (dS ⟨_,rfl,dS h⟩))) jd)
  |exact aS (aS (m:=Builtin.Tuple.tupleExact _) (lS (dS (dS ⟨_,rfl,dS h⟩)) jd))
  |exact aS (aS (m:=Builtin.Tuple.tupleExact _) (lS (dS ⟨_,rfl,dS h⟩) jd))
end
end HT
namespace L2
abbrev TO:=St->Hp->(Option Int->Hp->Prop)->Prop
def PO(X:Cx)(e:Option Expr)(t:TO):Prop:=
 ∀(ah: ~~~1) (s:Shared) (O:St) (H:Hp) (Q:Option Int->Hp->Prop),Inv X ah O H s->t O H Q->
  wpAny (~~~2) X.A (evalPart e X.env) (λu s'=>∃o H',Inv X ah O H' s'/\IsPart u o/\Q o H') X.xe s
def Gw:TO:=λ_ H Q=>Q none H
def T8(t:TE):TO:=λO H Q=>t O H λx H1=>∃i,x=.int i/\Q (some i) H1
theorem intsAre_of:∀{us:List Value},Vals (ns.map V.int) us->IntsAre us ns:=by
 induction ns with
 |nil=>intro us r;rw[List.map_nil]at r;cases r;exact .nil
 |cons n ns ih=>
  intro us r;rw[List.map_cons]at r;cases r with
  |cons r1 r2=>obtain⟨t,e⟩:=r1;subst e;exact .cons n t (ih r2)
section
variable{X:Cx}{e:Expr}{te:TE}{lo hi:Option Expr}{tl th:TO}{pos p2:Pos}
theorem Gx:PO X none Gw:=by intro ah s O H Q I h;rw[evalPart_none];exact dS ⟨none,H,I,.none,h⟩
theorem Gy(h:PE X e te):PO X (some e) (T8 te):=by
 intro ah s O H Q I hw;rw[evalPart_some];refine bR (h ah s O H _ I hw) λu s1 ⟨x,H1,I1,r1,q1⟩=>?_
 obtain⟨i,rfl,q⟩:=q1;obtain⟨t,rfl⟩:=r1;exact⟨some i,H1,I1,.int i t,q⟩
def WX(X:Cx)(r:V->Option Int->Option Int->Hp->VK->Prop):Prop:=
 ∀(ah: ~~~1) (s:Shared) (O:St) (H:Hp) (x:V) (v vl vu:Value) (lo hi:Option Int) (sl:Addr) (Q:VK),Inv X ah O H s->RelV x v->s.heap.IsSliceOf sl vl vu .none->IsPart vl lo->IsPart vu hi->r x lo hi H Q->
  ∃T id,typeLookup (.type T) "__getitem__"=pure (some (.builtin id))/\s.TypeIs v T/\wpAny (~~~2) X.A (getItem v (.ref sl)) (EP X ah O Q) X.xe s
noncomputable def tSl(r:V->Option Int->Option Int->Hp->VK->Prop)(te:TE)(tl th:TO):TE:=λO H Q=>te O H λx H1=>tl O H1 λl H2=>th O H2 λu H3=>r x l u H3 Q
theorem lQ{r:V->Option Int->Option Int->Hp->VK->Prop}(hr:WX X r)(he:PE X e te)(hl:PO X lo tl)(hu:PO X hi th):PE X (.Subscript e (.Slice lo hi none p2) pos) (tSl r te tl th):=by
 intro ah s O H Q I h;refine Subscript_ (bR (he ah s O H _ I h) λv s1 ⟨x,H1,I1,r1,q1⟩=>?_)
 refine wpAny_Slice (bR (hl ah s1 O H1 _ I1 q1) λvl s2 ⟨l,H2,I2,pl,q2⟩=>bR (hu ah s2 O H2 _ I2 q2) λvu s3 ⟨u,H3,I3,pu,q3⟩=>?_)
 rw[evalPart_none];refine dS ?_;have I4:Inv X ah O H3 { s3 with heap:=s3.heap.push { cls:=.type "slice",data:=.fields #[vl,vu,.none]}}:=I3.kept (t':=s3.toks) λb ob q=>bP _ q
 obtain⟨T,id,hT,ht,hg⟩:=hr ah { s3 with heap:=s3.heap.push { cls:=.type "slice",data:=.fields #[vl,vu,.none]}} O H3 x v vl vu l u s3⁻¹ Q I4 r1 (Heap.IsSliceOf.new ..) pl pu q3;show wpAny (~~~2) X.A (subscriptTail e (.Slice lo hi none p2) v (.ref s3⁻¹)) (EP X ah O Q) X.xe { s3 with heap:=s3.heap.push { cls:=.type "slice",data:=.fields #[vl,vu,.none]}};exact tail_any (ops:=[.ref s3⁻¹,v]) ht hT hg (by with_unfolding_all rfl)
def qo(xs:List V)(lo hi:Option Int):List V:=(xs.drop (HT.bQ xs.length 0 lo)).take (HT.bQ xs.length xs.length hi - HT.bQ xs.length 0 lo)
theorem ki(xs:List V)(lo hi:Option Int):(qo xs lo hi).length<=xs.length:=by unfold qo;rw[u7,List.length_drop];lia
def Ym(K:Frag):V->Option Int->Option Int->Hp->VK->Prop:=λx lo hi H Q=>∃a xs,x=.ref a/\fX K H a xs/\
 ¬ (HT.bQ xs.length 0 lo=0/\HT.bQ xs.length xs.length hi=xs.length)/\∀p,H p=none->Q (.ref p) (upd H p (.tup (qo xs lo hi)))
theorem Mx:WX X (Ym X.K):=by
 intro ah s O H x v vl vu lo hi sl Q I rx hs pl pu h;obtain⟨a,xs,rfl,hx,hw,q⟩:=h;cases rx;obtain⟨its,r,ht,hz⟩:=I.tuple hx;have aV:its.toArray.size=xs.length:=by rw[dC];exact r.length.symm
 refine⟨"tuple",_,PyProof.Rows.slot_tuple_getitem.lookup,ht.typeIs,?_⟩;refine HT.iZ ht hs pl pu (by rw[aV];exact hw) ?_ (by rw[aV];exact hz)
 rw[aV];refine⟨.ref s⁻¹,_,I.laid (t':=s.toks) (o:=.tup (qo xs lo hi)) (λb ob q=>bP _ q) (eA _) ?_,rfl,q _ (I.hok.fresh (eA _))⟩
 exact⟨oI (ki xs lo hi) hz,_,(r.drop (HT.bQ xs.length 0 lo)).take (HT.bQ xs.length xs.length hi - HT.bQ xs.length 0 lo),dR.new _ _⟩
def T9(K:Frag):R2:=λx y H Q=>∃a b xs ys,x=.ref a/\y=.ref b/\fX K H a xs/\fX K H b ys/\xs≠[]/\xs.length+ys.length<=sizeLine/\
 (ys=[]->Q (.ref a) H)/\(ys≠[]->∀p,H p=none->Q (.ref p) (upd H p (.tup (xs++ys))))
theorem Vals.qq(r:Vals xs us):us=[] ↔ xs=[]:=by
 cases r with
 |nil=>simp
 |cons _ _=>simp
theorem Gz:j9 X (binaryOp .Add) (T9 X.K):=by
 intro ah s O H x y v u Q I rx ry h;obtain⟨a,b,xs,ys,rfl,rfl,ha,hb,hx,hz,q1,q2⟩:=h;cases rx;cases ry;obtain⟨its,r1,p1,_⟩:=I.tuple ha;obtain⟨Fw,r2,p2,_⟩:=I.tuple hb;refine HT.Gv p1 p2 (λz=>hx (r1.qq.mp z)) (λz=>⟨.ref a,H,I,rfl,q1 (r2.qq.mp z)⟩) (λz=>?_) (by rw[<- r1.length,<- r2.length];exact hz)
 refine⟨.ref s⁻¹,_,I.laid (t':=s.toks) (o:=.tup (xs++ys)) (λb ob q=>bP _ q) (eA _) ?_,rfl,q2 (λw=>z (r2.qq.mpr w)) _ (I.hok.fresh (eA _))⟩
 exact⟨by rw[i6];exact hz,_,r1.append r2,dR.new _ _⟩
end
noncomputable def rT(n:Nat)(i:Int):Option Nat:=if 0<=i then (if i<n then some i.toNat else none)else if -(n:Int)<=i then some (i+n).toNat else none
def fM{α:Type}(xs:List α)(i:Int):Option α:=(rT xs.length i).bind λj=>xs[j]?
theorem wk(h:rT n i=some j):seqIndex? i n=some j/\j<n/\-(n:Int)<=i/\i<n:=by
 unfold rT at h;by_cases h0:0<=i
 .
  rw[i5 h0]at h;by_cases h1:i<n
  . rw[i5 h1]at h;have e:i.toNat=j:=oC h;exact⟨by rw[seqIndex_of h0 h1,e],by lia,by lia,h1⟩
  . rw[gN h1]at h;symm
 .
  rw[gN h0]at h;by_cases h1 : -(n:Int)<=i
  . rw[i5 h1]at h;have e:(i+n).toNat=j:=oC h;exact⟨by rw[seqIndex_neg ⋯ h1,e],by lia,h1,by lia⟩
  . rw[gN h1]at h;symm
theorem wm{α:Type}{xs:List α}{i:Int}{v:α}(h:fM xs i=some v):∃j,seqIndex? i xs.length=some j/\xs[j]?=some v/\j<xs.length/\-(xs.length:Int)<=i/\i<xs.length:=by
 unfold fM at h;cases e:rT xs.length i with
 |none=>rw[e]at h;symm
 |some j=>rw[e]at h;obtain⟨h1,h2,h3,h4⟩:=wk e;exact⟨j,h1,h,h2,h3,h4⟩
def qu(b:Expr):Prop:=∀o i,subscripted b false o i=operate [o,i] (getItem o i)
def Ua(X:Cx)(r:R2):Prop:=
 ∀(value slice:Expr) (ah: ~~~1) (s:Shared) (O:St) (H:Hp) (x y:V) (v u:Value) (Q:VK),Inv X ah O H s->RelV x v->RelV y u->r x y H Q->
  subscripted slice false v u=operate [v,u] (getItem v u)->wpAny (~~~2) X.A (subscriptTail value slice v u) (EP X ah O Q) X.xe s
def MtR(X:Cx)(id:String)(r:V->List V->Hp->VK->Prop):Prop:=
 ∀(ah: ~~~1) (s:Shared) (O:St) (H:Hp) (x:V) (xs:List V) (v:Value) (us:List Value) (Q:VK),Inv X ah O H s->RelV x v->Vals xs us->r x xs H Q->
  wpAny (~~~2) X.A (call (.builtin id) (v::us)) (EP X ah O Q) X.xe s
section
variable{X:Cx}{a b:Expr}{ta tb:TE}{pos:Pos}
theorem Ub{r:R2}(hr:Ua X r)(ha:PE X a ta)(hb:PE X b tb)(hs:qu b):PE X (.Subscript a b pos) (WT r ta tb):=by intro ah s O H Q I h;exact Subscript_ (Mj ha hb I h λv u s2 x y H2 I2 rx ry q=>hr a b ah s2 O H2 x y v u Q I2 rx ry q (hs _ _))
def Yn(K:Frag):R2:=λx y H Q=>∃p xs i v,x=.ref p/\y=.int i/\cG K H p xs/\fM xs i=some v/\Q v H
def Yo(K:Frag):R2:=λx y H Q=>∃p xs i v,x=.ref p/\y=.int i/\fX K H p xs/\fM xs i=some v/\Q v H
theorem wu:Ua X (Yn X.K):=by
 intro value slice ah s O H x y v u Q I rx ry h hs;obtain⟨p,xs,i,z,rfl,rfl,hq,he,q⟩:=h;cases rx;obtain⟨t,rfl⟩:=ry;obtain⟨its,r,pl,hz⟩:=I.list hq;obtain⟨j,h1,h2,h3,h4,h5⟩:=wm he;obtain⟨w,ew,rw'⟩:=r.get h2;have hl:=r.length;have hn:=lP;have fin:EP X ah O Q w s:=⟨z,H,I,rw',q⟩;by_cases h0:0<=i
 .
  have hj:i.toNat=j:=by rw[seqIndex_of h0 h5]at h1;exact oC h1
  exact item_listR pl.isList h0 ⋯ (by rw[hj];simpa using ew) fin hs
 .
  have hj:(i+(its.toArray.size:Int)).toNat=j:=by rw[seqIndex_neg ⋯ h4]at h1;rw[dC,<- hl];exact oC h1
  exact subscriptTail_builtinR (x:=w) pl.isList.typeIs slot_list_getitem.lookup
   (wpAny_getItem_list_neg (Q:=λr s'=>r=w/\EP X ah O Q r s') pl.isList ⋯ (by rw[dC] <;> lia) ⋯ (by rw[hj];simpa using ew) ⟨rfl,fin⟩) hs
theorem My:Ua X (Yo X.K):=by
 intro value slice ah s O H x y v u Q I rx ry h hs;obtain⟨p,xs,i,z,rfl,rfl,hq,he,q⟩:=h;cases rx;obtain⟨t,rfl⟩:=ry;obtain⟨its,r,pl,hz⟩:=I.tuple hq;obtain⟨j,h1,h2,h3,h4,h5⟩:=wm he;obtain⟨w,ew,rw'⟩:=r.get h2;have hl:=r.length;have hn:=lP;have fin:EP X ah O Q w s:=⟨z,H,I,rw',q⟩;exact subscriptTail_builtinR (x:=w) pl.typeIs slot_tuple_getitem.lookup
  (getItem_tuple (j:=j) (Q:=λr s'=>r=w/\EP X ah O Q r s') pl ⋯ ⋯ (by rw[dC,<- hl];exact h1) (by simpa using ew) ⟨rfl,fin⟩) hs
theorem uU(its:List Value)(n j:Nat)(u:Value):Obj.mapSeq (·.setIfInBounds j u) { cls:=.type "list",data:=.seq its.toArray n}={ cls:=.type "list",data:=.seq (its.set j u).toArray n}:=by simp[Obj.mapSeq]
theorem Inv.lst{ah: ~~~1}{O:St}{H:Hp}{s:Shared}{p:Addr}{xs:List V}(I: ~~~7)(h:H p=some (.lst xs)) :
  ∃(its:List Value) (n:Nat),Vals xs its/\s.heap.get? p=some { cls:=.type "list",data:=.seq its.toArray n}/\xs.length<=sizeLine:=by
 obtain⟨z,its,n,r,e⟩:=I.hok p _ h;exact⟨its,n,r,e,z⟩
theorem Inv.Mz{ah: ~~~1}{O:St}{H:Hp}{s:Shared}{p:Addr}{xs ys:List V}{its its':List Value}{n n':Nat}{f:Obj->Obj}(I: ~~~7)(h:H p=some (.lst xs))
  (ho:s.heap.get? p=some { cls:=.type "list",data:=.seq its.toArray n}) (hf:f { cls:=.type "list",data:=.seq its.toArray n}={ cls:=.type "list",data:=.seq its'.toArray n'}) (r:Vals ys its') (hz:ys.length<=sizeLine) (t:Nat) :
  Inv X ah O (upd H p (.lst ys)) { s with heap:=s.heap.update p f,toks:=t}:=by
 have e:(s.heap.update p f).get? p=some { cls:=.type "list",data:=.seq its'.toArray n'}:=by rw[t7 f ho (by rw[hf] <;> rfl),hf]
 refine I.write (x:=p) (e:=p) (by rw[h];trivial) (.inl rfl) (λb u hb q=>(l6 _ _ (oQ hb)).trans q) ⟨_,e⟩ ?_
 exact⟨hz,its',n',r,e⟩
def Uc:V->V->V->Hp->(Hp->Prop)->Prop:=λo i v H Q=>∃p xs k j,o=.ref p/\i=.int k/\H p=some (.lst xs)/\rT xs.length k=some j/\Q (upd H p (.lst (xs.set j v)))
theorem set_list:Tp X Uc:=by
 intro ah s O H o i v ov iv u Q I ro ri rv h;obtain⟨p,xs,k,j,rfl,rfl,hp,hj,q⟩:=h;cases ro;obtain⟨t,rfl⟩:=ri;obtain⟨its,n,r,ho,hz⟩:=I.lst hp;obtain⟨h1,h2,h3,h4⟩:=wk hj;have hl:=r.length;have hn:=lP;have I':Inv X ah O (upd H p (.lst (xs.set j v))) { s with heap:=s.heap.update p (Obj.mapSeq (·.setIfInBounds j u))}:=
  I.Mz hp ho (uU its n j u) (r.set rv j) (by rw[kS];exact hz) s.toks
 by_cases h0:0<=k
 .
  have hk:k.toNat=j:=by rw[seqIndex_of h0 h4]at h1;exact oC h1
  exact PySem.W.ki_setAt ho h0 ⋯ (by rw[dC,<- hl];exact h4) (by rw[hk];exact⟨_,I',q⟩)
 .
  have hk:(k+(its.toArray.size:Int)).toNat=j:=by rw[seqIndex_neg ⋯ h3]at h1;rw[dC,<- hl];exact oC h1
  exact PySem.W.ki_setBack ho ⋯ (by rw[dC,<- hl];exact h3) ⋯ (by rw[hk];exact⟨_,I',q⟩)
theorem qw(lo hi:Option Int)(n:Nat):(sliceBounds lo hi none n).1=((HT.bQ n 0 lo:Nat):Int)/\(sliceBounds lo hi none n).2.1=((HT.bQ n n hi:Nat):Int)/\(sliceBounds lo hi none n).2.2=1:=by
 refine⟨?_,?_,rfl⟩
 .
  cases lo with
  |none=>simp[sliceBounds,HT.bQ]
  |some i=>
   simp only[sliceBounds,HT.bQ,Option.getD_none,show (1:Int) > 0 by decide,AT]
   by_cases h:i<0
   . simp only[h,AT] <;> lia
   . simp only[h,CI] <;> lia
 .
  cases hi with
  |none=>simp[sliceBounds,HT.bQ]
  |some i=>
   simp only[sliceBounds,HT.bQ,Option.getD_none,show (1:Int) > 0 by decide,AT]
   by_cases h:i<0
   . simp only[h,AT] <;> lia
   . simp only[h,CI] <;> lia
theorem nU(its:List Value)(lo hi:Option Int):slicePick its.toArray lo hi none=((its.drop (HT.bQ its.length 0 lo)).take (HT.bQ its.length its.length hi - HT.bQ its.length 0 lo)).toArray:=by obtain⟨h1,h2,h3⟩:=qw lo hi its.toArray.size;unfold slicePick;rw[h1,h2,h3];simp only[sliceRange_one,pick_run,dC] <;> rfl
def Yp(K:Frag):V->Option Int->Option Int->Hp->VK->Prop:=λx lo hi H Q=>∃a xs,x=.ref a/\cG K H a xs/\∀p,H p=none->Q (.ref p) (upd H p (.lst (qo xs lo hi)))
theorem wz:WX X (Yp X.K):=by
 intro ah s O H x v vl vu lo hi sl Q I rx hs pl pu h;obtain⟨a,xs,rfl,hx,q⟩:=h;cases rx;obtain⟨its,r,ht,hz⟩:=I.list hx;have aV:=r.length;refine⟨"list",_,slot_list_getitem.lookup,ht.isList.typeIs,?_⟩;refine wpAny_getItem_list_slice ht.isList hs pl pu .none ⋯ ?_ (by rw[dC] <;> lia)
 rw[nU,<- aV];refine⟨.ref s⁻¹,_,I.laid (t':=s.toks) (o:=.lst (qo xs lo hi)) (λb ob q=>bP _ q) (eA _) ?_,rfl,q _ (I.hok.fresh (eA _))⟩
 exact⟨oI (ki xs lo hi) hz,_,0,(r.drop (HT.bQ xs.length 0 lo)).take (HT.bQ xs.length xs.length hi - HT.bQ xs.length 0 lo),d6 _ rfl⟩
theorem qz:dX X (.type "list") (λxs H Q=>∃p ys,xs=[.ref p]/\(cG X.K H p ys\/fX X.K H p ys)/\∀l,H l=none->Q (.ref l) (upd H l (.lst ys))):=by
 intro ah s O H xs us Q I r h;obtain⟨p,ys,rfl,hq,q⟩:=h;obtain⟨u,rfl,rx⟩:=vals1 r;cases rx;have fin:∀(its:List Value),Vals ys its->ys.length<=sizeLine->∀(h':Heap) (c':Nat),(∀b o',s.heap.get? b=some o'->h'.get? b=some o')->
   h'.get? s⁻¹=some { cls:=.type "list",dict:=none,data:=.seq its.toArray c',slots:=#[]}->EP X ah O Q (.ref s⁻¹) { s with heap:=h'}:=λits r' hz h' c' kp e=>
  ⟨.ref s⁻¹,_,I.laid (t':=s.toks) kp (eA _) (show cH X.prog X.w _ h' _ (.lst ys)from⟨hz,its,c',r',e⟩),rfl,q _ (I.hok.fresh (eA _))⟩
 rcases hq with hq |hq
 . obtain⟨its,r',pl,hz⟩:=I.list hq;have aV:=r'.length;obtain⟨o,ho,hc,n,hd⟩:=pl.isList;exact call_list_seq p (.inl rfl) ho hc hd (λh' c' kp e=>fin its r' hz h' c' kp e) (by simp only[dC] <;> lia)
 . obtain⟨its,r',pl,hz⟩:=I.tuple hq;have aV:=r'.length;obtain⟨o,ho,hc,n,hd⟩:=pl;exact call_list_seq p (.inr rfl) ho hc hd (λh' c' kp e=>fin its r' hz h' c' kp e) (by simp only[dC] <;> lia)
theorem nW:dX X (.type "tuple") (λxs H Q=>∃p ys,xs=[.ref p]/\((cG X.K H p ys/\∀l,H l=none->Q (.ref l) (upd H l (.tup ys)))\/(fX X.K H p ys/\Q (.ref p) H))):=by
 intro ah s O H xs us Q I r h;obtain⟨p,ys,rfl,h⟩:=h;obtain⟨u,rfl,rx⟩:=vals1 r;cases rx;rcases h with ⟨hq,q⟩ |⟨hq,q⟩
 .
  obtain⟨its,r',pl,hz⟩:=I.list hq;have aV:=r'.length;refine call_tuple_list pl.isList (λh' kp=>?_) (by simp only[dC] <;> lia)
  have I1:Inv X ah O H { s with heap:=h'}:=I.kept (t':=s.toks) kp;have I2:Inv X ah O (upd H h'.objs.size (.tup ys)) { s with heap:=h'.push { cls:=.type "tuple",data:=.seq its.toArray}}:=
   I1.laid (t':=s.toks) (λb o e=>bP _ e) (eA _) (show cH X.prog X.w _ _ _ (.tup ys)from⟨hz,its,r',dR.new _ _⟩)
  exact⟨.ref h'.objs.size,_,I2,rfl,q _ (I1.hok.fresh (eA _))⟩
 . obtain⟨its,r',pl,hz⟩:=I.tuple hq;exact call_tuple_same pl ⟨.ref p,H,I,rfl,q⟩
def tyV(K:Frag)(T:String)(x:V)(H:Hp):Prop:=match x with
 |.str _=>T = "str"
 |.int _=>T = "int"
 |.ref p=>(T = "list" /\∃xs,cG K H p xs)\/(T = "tuple" /\∃o,K.lookup p=some o/\o.cls=.type "tuple" /\o.dict=none)\/
   (T = "dict" /\((∃eW,H p=some (.dK eW))\/∃eW,H p=some (.dT eW)))\/(T = "set" /\∃S n,H p=some (.set S n))
 |_=>False
theorem MF{ah: ~~~1}{O:St}{H:Hp}{s:Shared}{T:String}{x:V}{v:Value}(I: ~~~7)(r:RelV x v)(ty:tyV X.K T x H) :
  s.TypeIs v T/\∀a,v=.ref a->∃ob,s.heap.get? a=some ob/\ob.dict=none:=by
 cases x with
 |str z=>
  obtain⟨t,rfl⟩:=r;cases (show T = "str" from ty)
  exact⟨typeIs_str s z t,λ_ e=>nomatch e⟩
 |int i=>
  obtain⟨t,rfl⟩:=r;cases (show T = "int" from ty)
  exact⟨typeIs_int s i t,λ_ e=>nomatch e⟩
 |ref p=>
  cases r;rcases ty with ⟨rfl,xs,hq⟩ |⟨rfl,o,hk,hc,hd⟩ |⟨rfl,hk⟩ |⟨rfl,S,n,hk⟩
  .
   obtain⟨its,_,pl,_⟩:=I.list hq;refine⟨pl.isList.typeIs,λa e=>?_⟩
   cases e;obtain⟨o,n,e,c,hd,_⟩:=pl;exact⟨o,e,hd⟩
  .
   refine⟨⟨o,I.kP p o hk,hc⟩,λa e=>?_⟩
   cases e;exact⟨o,I.kP _ o hk,hd⟩
  .
   have z:∃o,s.heap.get? p=some o/\o.ExactDict:=by
    rcases hk with ⟨eW,hk⟩ |⟨eW,hk⟩
    . obtain⟨_,_,_,_,o,_,_,e,ex,_⟩:=I.hok p _ hk;exact⟨o,e,ex⟩
    . obtain⟨_,_,_,_,o,_,_,e,ex,_⟩:=I.hok p _ hk;exact⟨o,e,ex⟩
   obtain⟨o,e,ex⟩:=z;refine⟨⟨o,e,ex.1⟩,λa e2=>?_⟩
   cases e2;exact⟨o,e,ex.2.1⟩
  .
   obtain⟨o,_,_,_,e,ex,_⟩:=I.hok p _ hk;refine⟨⟨o,e,ex.1⟩,λa e2=>?_⟩
   cases e2;exact⟨o,e,ex.2.1⟩
 |_=>exact False.elim ty
def tBM(K:Frag)(T:String)(r:V->List V->Hp->VK->Prop)(to:TE)(t:TA):TE:=λO H Q=>to O H λx H1=>tyV K T x H1/\t O H1 λxs H2=>r x xs H2 Q
variable{o e:Expr}{es:List Expr}{to:TE}{t:TA}{name:Str}{dw bM:Pos}{T id:String}{r:V->List V->Hp->VK->Prop}
theorem Ky(pa:PlainAttrs T)(slot:Slot T name id)(hty:typeOf (.builtin id)=pure (.type "method_descriptor"))(hm:MtR X id r)(ho:PE X o to)(ha:PA X (e::es) t)
  (hbase:attributeBase o name X.env (eval o X.env)=eval o X.env:=by rfl)
  (hfew:((backTo bM (starEach (e::es) X.env)).all (λx=>!x.1)&&(backToKw bM (keywordEach [] X.env)).all (λx=>x.1.isSome)
   && decide ((e::es).length+([]:List Keyword).length+(if ([]:List Keyword).isEmpty then 0 else 1)<30))=true:=by rfl)
  (hline:(dw.endLine==bM.line)=true:=by rfl) (hs:starEach (e::es) X.env=(false,eval e X.env)::starEach es X.env:=by rfl) (hplain:(backTo bM (starEach es X.env)).any (·.1)=false:=by rfl) :
  PE X (.Call (.Attribute o name dw) (e::es) [] bM) (tBM X.K T r to t):=by
 intro ah s O H Q I h;refine wpAny_Call_method_late hbase hfew hline rfl (bR (ho ah s O H _ I h) λv s1 ⟨x,H1,I1,r1,ty,q1⟩=>?_)
 obtain⟨h1,h2⟩:=MF I1 r1 ty;refine⟨T,id,pa,slot,hty,h1,h2,?_⟩;have hA:=ha bM ah s1 O H1 _ I1 q1;rw[hs]at hA ⊢
 refine Calls.callWith_builtin (by show (false||(backTo bM (starEach es X.env)).any (·.1))=false;rw[hplain] <;> rfl) (Calls.evalArgs_plain ?_)
 exact bR hA λus s2 ⟨vs,H2,I2,r2,q2⟩=>hm ah s2 O H2 x vs v us Q I2 r1 r2 q2
/- xs.append(e),list.index on a module's tuple .. are MtR facts of 06m -/
end
def MtM(X:Cx)(id:String)(r:V->List V->Hp->VK->Prop):Prop:=
 ∀(ah: ~~~1) (s:Shared) (O:St) (H:Hp) (x:V) (xs:List V) (v:Value) (us:List Value) (Q:VK),Inv X ah O H s->RelV x v->Vals xs us->r x xs H Q->
  wpAny (~~~2) X.A (call (.builtin id) (v::us)) (EP X ah O Q) X.xe s
theorem Vals.one:∀{x:V}{us:List Value},Vals [x] us->∃u,us=[u]/\RelV x u
 |_,_,.cons r .nil=>⟨_,rfl,r⟩
theorem Vals.reverse{xs:List V}{us:List Value}(h:Vals xs us):Vals xs.reverse us.reverse:=by
 induction h with
 |nil=>exact .nil
 |cons r t ih=>rw[Bi,Bi];exact Vals.append ih (.cons r .nil)
theorem Vals.rep(h:Vals xs us):∀k:Nat,Vals (List.replicate k xs).flatten (List.replicate k us).flatten
 | 0=>.nil
 |k+1=>by
  rw[l9,l9,t6,t6];exact Vals.append h (Vals.rep h k)
theorem foldl_rep(its:List Value):∀(k:Nat) (acc:List Value),
  List.foldl (λx1 x2=>x1++x2) acc.toArray (List.replicate k its.toArray)=(acc++(List.replicate k its).flatten).toArray
 | 0,acc=>by simp
 |k+1,acc=>by
  have e:acc.toArray++its.toArray=(acc++its).toArray:=by simp
  have e2:(acc++its)++(List.replicate k its).flatten=acc++(List.replicate (k+1) its).flatten:=by rw[l9,t6,List.append_assoc]
  rw[<- e2,<- foldl_rep its k (acc++its),<- e,l9,List.foldl_cons]
section
variable{X:Cx}{ah: ~~~1}{O:St}{H:Hp}{s:Shared}{l b:Addr}{xs ys zs:List V}
theorem Inv.Yq{its its':List Value}{n:Nat}{f:Array Value->Array Value}{t':Nat}(I: ~~~7)(hH:H l=some (.lst xs))
  (e:s.heap.get? l=some { cls:=.type "list",data:=.seq its.toArray n}) (hf:f its.toArray=its'.toArray) (hv:Vals ys its') (hz:ys.length<=sizeLine) :
  Inv X ah O (upd H l (.lst ys)) { s with heap:=s.heap.update l (Obj.mapSeq f),toks:=t'}:=by
 have q:=PySem.IsL.update e f;rw[hf]at q;refine I.write (x:=l) (e:=l) (by rw[hH];exact trivial) (.inl rfl) (λb' u hb hu=>(l6 s.heap (Obj.mapSeq f) (oQ hb)).trans hu) ⟨_,q⟩ ?_
 exact⟨hz,its',_,hv,q⟩
theorem Inv.Ud(I: ~~~7)(hv:Vals ys its)(hz:ys.length<=sizeLine) :
  Inv X ah O (upd H s⁻¹ (.lst ys)) { s with heap:=s.heap.push { cls:=.type "list",data:=.seq its.toArray},toks:=t'}:=
 I.laid (λ_ _ q=>bP _ q) (eA _) ⟨hz,its,0,hv,d6 _ rfl⟩
theorem Inv.fresh(I: ~~~7):H s⁻¹=none:=I.hok.fresh (eA _)
theorem Inv.GC(I: ~~~7)(hH:H l=some (.lst xs)):xs.length<=sizeLine/\∃(its:List Value) (n:Nat),Vals xs its/\xs.length=its.length/\s.heap.get? l=some { cls:=.type "list",data:=.seq its.toArray n}:=by obtain⟨z,its,n,r,e⟩:=I.hok l _ hH;exact⟨z,its,n,r,r.length,e⟩
theorem Aq(h:n<=sizeLine):Builtin.List.listTooLong n=false:=by unfold Builtin.List.listTooLong;exact mB ⋯
end
section
variable{X:Cx}
def GD:V->List V->Hp->VK->Prop:=λx vs H Q=>∃l xs y,x=.ref l/\vs=[y]/\H l=some (.lst xs)/\xs.length<sizeLine/\Q .non (upd H l (.lst (xs++[y])))
theorem jL:MtM X "list.append" GD:=by
 intro ah s O H x vs v us Q I rx rv h;obtain⟨l,xs,y,rfl,rfl,hH,hz,q⟩:=h;cases rx;obtain⟨u,rfl,ru⟩:=rv.one;obtain⟨z,its,n,r,hl,e⟩:=I.GC hH;refine CD F.slot_list_append ⟨_,e,rfl⟩ F.entry_list_append (F.args_list_append_2 _ _) (PySem.list_append l its.toArray n u (by rw[dC];lia)) ⟨e,?_⟩
 refine⟨.non,_,I.Yq (its':=its++[u]) hH e ⋯ (r.append (.cons ru .nil)) ?_,rfl,q⟩;rw[i6,BE];lia
def Yr:R2:=λx y H Q=>∃l b xs zs,x=.ref l/\y=.ref b/\H l=some (.lst xs)/\H b=some (.lst zs)/\xs.length+zs.length<=sizeLine/\∀p,H p=none->Q (.ref p) (upd H p (.lst (xs++zs)))
theorem MJ:j9 X (binaryOp .Add) Yr:=by
 intro ah s O H x y v u Q I rx ry h;obtain⟨l,b,xs,zs,rfl,rfl,hH,hB,hz,q⟩:=h;cases rx;cases ry;obtain⟨z,its,n,r,hl,e⟩:=I.GC hH;obtain⟨z2,Fw,n2,r2,hl2,e2⟩:=I.GC hB;refine PySem.P.add_list e e2 ?_ (by rw[dC,dC];lia)
 have ea:its.toArray++Fw.toArray=(its++Fw).toArray:=by simp
 rw[ea];exact⟨.ref _,_,I.Ud (t':=s.toks) (r.append r2) (by rw[i6];lia),rfl,q _ I.fresh⟩
def Ys:R2:=λx y H Q=>∃l k xs,x=.ref l/\y=.int k/\H l=some (.lst xs)/\-(2 ^ 63)<=k/\k<2 ^ 63/\xs.length * k.toNat<=sizeLine/\
 ∀p,H p=none->Q (.ref p) (upd H p (.lst (List.replicate k.toNat xs).flatten))
theorem len_rep{α:Type}(xs:List α)(k:Nat):(List.replicate k xs).flatten.length=k * xs.length:=by
 induction k with
 |zero=>simp
 |succ k ih=>rw[l9,t6,i6,ih,Nat.succ_mul,Nat.add_comm]
theorem MK:j9 X (binaryOp .Mult) Ys:=by
 intro ah s O H x y v u Q I rx ry h;obtain⟨l,k,xs,rfl,rfl,hH,h1,h2,hz,q⟩:=h;cases rx;obtain⟨t,rfl⟩:=ry;obtain⟨z,its,n,r,hl,e⟩:=I.GC hH;have aV:its.toArray.size * k.toNat<=sizeLine:=by rw[dC,<- hl];exact hz
 have hcap : ¬ its.toArray.size * k.toNat > (2 ^ 63 - 1) / 8:=by
  have:(sizeLine:Nat)<=(2 ^ 63 - 1) / 8:=by decide
  lia
 have hfit : ¬ (!Builtin.List.listFitsIndex k)=true:=by rw[fitsIndex_both h1 h2];exact pE
 have Ue : ¬ Builtin.List.listTooLong (its.toArray.size * k.toNat)=true:=by rw[Aq aV];exact pE
 have hnew:List.foldl (λx1 x2=>x1++x2) #[] (List.replicate (if its.toArray.isEmpty=true then 0 else k.toNat) its.toArray)=(List.replicate k.toNat its).flatten.toArray:=by
  have f0:∀m:Nat,List.foldl (λx1 x2=>x1++x2) #[] (List.replicate m its.toArray)=(List.replicate m its).flatten.toArray:=λm=>by
   have:=foldl_rep its m [];rw[y7]at this;exact this
  rw[f0];cases its with
  |nil=>simp
  |cons a r'=>rw[gN ⋯]
 refine wpAny_binaryOp_repeat_ref (T:= "list") (U:= "int") ⋯ ⟨_,e,rfl⟩ (λs'=>typeIs_int s' k t) noFill_list_mul F.fills_int_mul F.slot_int_rmul repeat_list F.slot_int_index.lookup
  (CD F.slot_int_rmul (typeIs_int s k t) F.entry_int_rmul (F.args_int_rmul_2 _ _) (int___rmul___int_list k t l its.toArray n)
   ⟨e,rfl,⟨_,e,rfl⟩,CD F.slot_list_mul ⟨_,e,rfl⟩ F.entry_list_mul (F.args_list_mul_2 _ _) (AutoListH.list___mul___list_int_3 l its.toArray n k t hfit hcap Ue) ⟨e,?_⟩⟩)
 rw[hnew];exact⟨.ref _,_,I.Ud (t':=s.toks) (r.rep k.toNat) (by rw[len_rep,Nat.mul_comm];exact hz),rfl,q _ I.fresh⟩
end
end L2
namespace Att
open PySem PySem.W PySem.Calls PyProof.Rows
theorem kU:∀(ns: ~~~0) (vs:List Value),WellAll P h vs (ns.map WData.int)->IntsAre vs ns:=by
 intro ns
 induction ns with
 |nil=>intro vs w;rw[List.map_nil]at w;cases w;exact .nil
 |cons n ns ih=>
  intro vs w;rw[List.map_cons]at w;cases w with
  |cons a b=>cases a;exact .cons _ _ (ih _ b)
theorem yi{l:OpenLaw}{n:Nat}(hn:l.most=some n){P:Params}{h:Heap}{args:List WData}{vals:List Value}
  (hpre:l.row.toRowW.claim.pre args=true) (hwl:WellAll P h vals args) :
  ∃a vs ns,vals=[Value.ref a]/\args=[WData.list (ns.map WData.int)]/\h.get? a=some { cls:=.type "list",data:=.seq vs.toArray}/\IntsAre vs ns/\ns.length<=n:=by
 have hsh:WShape.hasAll [] args [.list .int]=true:=(pre_splitW hpre).1;have hc:l.pre.holds [] { args:=args}=true:=(pre_splitW hpre).2;obtain⟨d,r,rfl,h1,h2⟩:=hasAllW_cons hsh;obtain rfl:=hasAllW_nil h2;obtain⟨xs,rfl,h3⟩:=hasW_list h1;obtain⟨ns,rfl⟩:=items_int h3;have aV:ns.length<=n:=by
  unfold OpenLaw.pre at hc;have h4:(WTm.not (.lt (.lit (.int (n:Int))) (.len (.arg 0)))).holds [] { args:=[.list (ns.map .int)]}=true:=by have h4:=(holds_andW hc).1;rw[hn]at h4;exact h4
  have h5:=condW_of h4 (w_not (w_lt w_lit (w_len_list (w_arg rfl))));rw[fR]at h5;refine Nat.le_of_not_lt λq=>?_
  have q':(n:Int)<((ns.length:Nat):Int):=by lia
  first
   | (rw[nK q']at h5;exact absurd h5 ⋯)
   | (simp at h5;lia)
 cases hwl with
 |cons w1 w2=>
  cases w2;cases w1 with
  |list ho hall=>exact⟨_,_,ns,rfl,rfl,ho,kU ns _ hall,aV⟩
theorem yj(l:OpenLaw)(args:List WData):l.row.toRowW.claim.post args (.bool true) args=true:=
 postW_of (r:=l.row.toRowW) (X:=(true==true))
  (show WShape.has [] (.bool true) .bool=true by first |rfl |decide |simp[WShape.has,WShape.arms,WShape.armsAll])
  (show (WTm.eq .res (.lit (.bool true))).value [] { args:=args,res:=some (.bool true),after:=args}=some (.bool (true==true))from w_eq_bool (w_res rfl) w_lit) rfl
theorem sF{l:OpenLaw}{n:Nat}{q:Program}{loose:List Str}{XP:(Str->Option Value)->Heap->Prop}{YP:World->Heap->Prop}{d:DefRec}
  (hn:l.most=some n) (fU:d.params.defaults=[])
  (call:∀(w:World) (s₀ s₁:Shared) (mg mb:Str->Option Value) (fa:Addr) (o:Obj) (pm cd doc:Value) (a:Addr) (vs:List Value) (ns: ~~~0),
   Ground q loose [] XP w s₀ mg mb s₁.heap->YP w s₁.heap->
   s₁.heap.get? fa=some o->o.data=.func (docDef d.name d.params d.body d.scope pm cd doc)->s₁.heap.CodeRec cd d.name->mg d.name=some (.ref fa)->
   s₁.heap.get? a=some { cls:=.type "list",data:=.seq vs.toArray}->IntsAre vs ns->ns.length<=n->s₁.gens = #[]->
   codeAny (model l.prog w) callerA (.call (.ref fa) ⟨[.ref a],[]⟩) (λr s'=>r=.ok (.ret (.bool true))/\OldK s₁.heap s'.heap/\s'.os=s₁.os/\AllBare s'.gens) s₁) :
  WalkO q loose XP YP l.row.toRowW d [] (λf vs=>PySem.call f vs):=by
 intro w s₀ s₁ mg mb G Y fa o pm cd doc dV kV ho hd bY hD hmg hg args vals as hpre hlay hrd hwl hlo;obtain rfl:dV=.none:=Dflts.none hD fU;obtain rfl:kV=.none:=Dflts.noKw hD;obtain⟨a,vs,ns,rfl,rfl,hobj,hints,aV⟩:=yi hn hpre hwl;refine enter_call (BD (call w s₀ s₁ mg mb fa o pm cd doc a vs ns G Y ho (fd_plain hd) bY hmg hobj hints aV hg) λr s' hq=>?_)
 obtain⟨rfl,h2,h3,h4⟩:=hq;exact⟨.inl ⟨.bool true,.bool true,[],rfl,λ_=>rfl,.bool true,yj l _,λ_=>⟨List.Pairwise.nil,λ_ hm=>(nomatch hm)⟩⟩,h2,h3,h4⟩
end Att
namespace L2
theorem jM:∀{vs:List Value}{ns: ~~~0},IntsAre vs ns->Vals (ns.map V.int) vs
 |_,_,.nil=>.nil
 |_,_,.cons n t h=>.cons ⟨t,rfl⟩ (jM h)
abbrev KOf{K:Frag}{h:Heap}(_:K.In h):Frag:=K
abbrev rW:yg:=λ_ _ _ _ _ _=>False
abbrev E0:XK:=λ_ _ _=>False
theorem Kz:Passes rW X E0:=λ_ _ _ _ _ _ _ h=>h.elim
structure Fz(K:Frag)(x qual:Str)(st:Stmt)(f:Addr)(fd:FuncData):Prop where
 ex:∃(oc:Value) (od:Option Addr) (kV doc pm:Value) (an:Option Addr) (bB ct:Value) (osl:Array (Option Value)),
  fd=PySem.W.fnOf x qual (gH st) (bz st) (aB st) .none kV doc pm an bB ct/\K.lookup f=some ⟨oc,od,.func fd,osl⟩/\PySem.W.codeIn K bB qual=true
 kp:PySem.W.keepIn K (.ref f)=true
section
variable{P:Program}{w:World}{K:Frag}{mg:Str->Option Value}{base:Heap}
theorem MN{x qual:Str}{st:Stmt}{f:Addr}{oc:Value}{od an:Option Addr}{osl:Array (Option Value)}{kV doc pm bB ct:Value}(l:K.lookup f=some ⟨oc,od,.func (PySem.W.fnOf x qual (gH st) (bz st) (aB st) .none kV doc pm an bB ct),osl⟩)
  (c:PySem.W.codeIn K bB qual=true) (k:PySem.W.keepIn K (.ref f)=true):Fz K x qual st f (PySem.W.fnOf x qual (gH st) (bz st) (aB st) .none kV doc pm an bB ct):=⟨⟨oc,od,kV,doc,pm,an,bB,ct,osl,rfl,l,c⟩,k⟩
end
theorem nX{A B:Prop}(h:B):if false=true then A else B:=by rw[gN pE];exact h
theorem jN{A B:Prop}(h:A):if true=true then A else B:=by rw[i5 rfl];exact h
noncomputable def Cx.block(X:Cx)(N:List Str)(scope:Scope)(cl:List (Str×Addr))(C:Addr)(s₀:Shared)(H₀:Hp)(fp:List Addr):Cx:=
 { X with N:=N,s₀:=s₀,H₀:=H₀,env:=compEnvC scope cl C X.env,outer:=X.stack,ex:=fp,fn:=λx=>scope.names.lookup x==some .local,pn:=[],xe:=λ_ _=>False}
structure Bk where
 cl:List (Str×Addr)
 C:Addr
 s₀:Shared
 H₀:Hp
 fp:List Addr
abbrev Cx.blk (X:Cx) (N:List Str) (scope:Scope) (b:Bk):Cx:=X.block N scope b.cl b.C b.s₀ b.H₀ b.fp
structure aN(sc scope:Scope):Prop where
 kind:scope.kind=.function
 qA:∀y∈scope.names,y.2≠.cell
 uniq:∀y∈scope.names,y.2=.local->scope.names.lookup y.1=some .local
 Ug:∀y∈scope.names,y.2=.free->scope.names.lookup y.1=some .free
 free:∀y∈scope.names,y.2=.free->sc.names.lookup y.1=some .cell\/sc.names.lookup y.1=some .free
theorem mem_of_lookup{α:Type}{x:Str}{v:α}:∀{l:List (Str×α)},l.lookup x=some v->(x,v)∈l
 | [],h=>by simp at h
 | (n,k)::r,h=>by
  cases hx:x==n with
  |true=>
   simp only[oS,hx]at h;symm;have e:x=n:=by simpa using hx
   subst e;exact dA
  |false=>simp only[oS,hx]at h;exact b0 _ (mem_of_lookup h)
theorem fY{env:Env}{x:Str}:∀{names:List (Str×NameKind)},
  (names.map λ(n,k)=>if (k==NameKind.free&&env.scope.kind==.function&&env.kindOf n==some .cell)then (n,NameKind.cell)else (n,k)).lookup x
   = (names.lookup x).map λk=>if (k==NameKind.free&&env.scope.kind==.function&&env.kindOf x==some .cell)then NameKind.cell else k
 | []=>rfl
 | (n,k)::r=>by
  have ih:=@fY env x r;show List.lookup x ((if (k==NameKind.free&&env.scope.kind==.function&&env.kindOf n==some .cell)=true then (n,NameKind.cell)else (n,k))::_)=_
  cases hx:x==n with
  |true=>
   have e:x=n:=by simpa using hx
   subst e;by_cases hc:(k==NameKind.free&&env.scope.kind==.function&&env.kindOf x==some .cell)=true
   . rw[i5 hc];simp only[oS,hx,AU,i5 hc]
   . rw[gN hc];simp only[oS,hx,AU,gN hc]
  |false=>
   by_cases hc:(k==NameKind.free&&env.scope.kind==.function&&env.kindOf n==some .cell)=true
   . rw[i5 hc];simp only[oS,hx];exact ih
   . rw[gN hc];simp only[oS,hx];exact ih
theorem lR(h:∀y∈scope.names,y.2=.free->∃c,env.cells.lookup y.1=some c) :
  ∃cl,closureFor scope env=pure cl/\(∀x c,cl.lookup x=some c->env.cells.lookup x=some c/\(x,NameKind.free)∈scope.names)/\∀y∈scope.names,y.2=.free->∃c,cl.lookup y.1=some c:=by
 have key:∀(names:List (Str×NameKind)) (acc:List (Str×Addr)),(∀y∈names,y.2=.free->∃c,env.cells.lookup y.1=some c)->
   ∃cl,(forIn names acc λ(x:Str×NameKind) (cs:List (Str×Addr))=>(match x with | (name,kind)=>if (kind==.free)=true then (do let c <- cellOf env name;pure (ForInStep.yield ((name,c)::cs)))else pure (ForInStep.yield cs):Sem (ForInStep (List (Str×Addr)))))=pure cl/\
    (∀x c,cl.lookup x=some c->acc.lookup x=some c\/(env.cells.lookup x=some c/\(x,NameKind.free)∈names))/\(∀y∈names,y.2=.free->∃c,cl.lookup y.1=some c)/\∀x c,acc.lookup x=some c->∃c',cl.lookup x=some c':=by
  intro names
  induction names with
  |nil=>intro acc _;exact⟨acc,rfl,λx c e=>.inl e,(λy hy=>nomatch hy),λx c e=>⟨c,e⟩⟩
  |cons y r ih=>
   intro acc hf;obtain⟨n,k⟩:=y;rw[List.forIn_cons];by_cases hk:(k==NameKind.free)=true
   .
    obtain⟨c,hc⟩:=hf (n,k) dA (by simpa using hk)
    have hc':env.cells.lookup n=some c:=hc;obtain⟨cl,e,h1,h2,h3⟩:=ih ((n,c)::acc) λy hy=>hf y (b0 _ hy)
    refine⟨cl,?_,λx c' q=>?_,λy hy WY=>?_,λx c' q=>?_⟩
    .
     have ec:cellOf env n=pure c:=by unfold cellOf;rw[hc']
     show ((if (k==NameKind.free)=true then (do let c <- cellOf env n;pure (ForInStep.yield ((n,c)::acc)))else pure (ForInStep.yield acc)) >>= _)=_
     rw[i5 hk,ec];exact e
    .
     rcases h1 x c' q with z |⟨z1,z2⟩
     .
      cases hx:x==n with
      |true=>
       simp only[oS,hx]at z;cases z;have e:x=n:=by simpa using hx
       subst e;have ek:k=NameKind.free:=by simpa using hk
       subst ek;exact .inr ⟨hc',dA⟩
      |false=>simp only[oS,hx]at z;exact .inl z
     . exact .inr ⟨z1,b0 _ z2⟩
    .
     rcases dL.mp hy with rfl |hy
     . exact h3 n c ⋯
     . exact h2 y hy WY
    .
     cases hx:x==n with
     |true=>
      have e:x=n:=by simpa using hx
      subst e;exact h3 x c ⋯
     |false=>exact h3 x c' (by simp only[oS,hx];exact q)
   .
    obtain⟨cl,e,h1,h2,h3⟩:=ih acc λy hy=>hf y (b0 _ hy)
    refine⟨cl,?_,λx c' q=>?_,λy hy WY=>?_,h3⟩
    .
     show ((if (k==NameKind.free)=true then (do let c <- cellOf env n;pure (ForInStep.yield ((n,c)::acc)))else pure (ForInStep.yield acc)) >>= _)=_
     rw[gN hk];exact e
    .
     rcases h1 x c' q with z |⟨z1,z2⟩
     . exact .inl z
     . exact .inr ⟨z1,b0 _ z2⟩
    .
     rcases dL.mp hy with rfl |hy
     . exact absurd WY (by simpa using hk)
     . exact h2 y hy WY
 obtain⟨cl,e,h1,h2,_⟩:=key scope.names [] h;refine⟨cl,?_,λx c q=>?_,h2⟩
 . exact (congrArg (λ(m:Sem (List (Str×Addr)))=>m >>= λcs=>pure cs) e:_)
 .
  rcases h1 x c q with z |z
  . simp at z
  . exact z
def sG(X:Cx)(ifs:List Expr)(t:TT):Prop:=
 ∀(ah: ~~~1) (s:Shared) (O:St) (H:Hp) (Q:Bool->Hp->Prop),Inv X ah O H s->t O H Q->
  wpAny (~~~2) X.A (forIn ifs true λc r=>if r=true then do let ok <- isTrue c X.env (eval c X.env);pure (ForInStep.yield ok)else pure (ForInStep.yield r)) (TP X ah O Q) X.xe s
def KC:TT:=λ_ H Q=>Q true H
theorem sH:sG X [] KC:=λ_ _ _ H _ I h=>wpAny_tests_nil ⟨H,I,h⟩
theorem Ar(h:PT X c t):sG X [c] t:=λah s O H Q I hw=>wpAny_tests_one (h ah s O H Q I hw)
noncomputable def uV(e target iter:Expr)(ifs:List Expr)(d:Nat)(it acc:Value)(env:Env)(em:Sem Unit):Sem Fin:=do
 standAt iter.pos
 match <- pyNext it with
 |none=>pure (.done .next)
 |some v=>
  letOwnedTupleGo target it v
  assign target env v
  let mut ok:=true
  for c in ifs do
   if ok then ok <- isTrue c env (eval c env)
  if ok then em
  again (.compLoop e d it acc env)
def Cu(ce:Expr):Prop:=∀(prog:Program) (w:World) (A:Around) (d:Nat) (it acc:Value) (env:Env),A.under (.compLoop ce d it acc env)=A/\(model prog w).den (.compLoop ce d it acc env)=(compTurn ce d it acc env).onRaise (λx=>do noteFrame x env;theTreesLotGoes x)
theorem qB{prog:Program}{w:World}{A:Around}{R:Result->Shared->Prop}{s:Shared}{ce target iter:Expr}{ifs:List Expr}{d:Nat}{it acc:Value}{env:Env}{em:Sem Unit}(hu:Cu ce)(ht:compTurn ce d it acc env=uV ce target iter ifs d it acc env em)(I:Nat->Shared->Prop)
  (turn:∀n s,I n s->wpAny (model prog w) A (pyNext it) (λr s₁=>match r with
   |none=>R (.ok .next) s₁
   |some v=>wpAny (model prog w) A (letOwnedTupleGo target it v) (λ_ s₁'=>wpAny (model prog w) A (assign target env v) (λ_ s₂=>
     wpAny (model prog w) A (forIn ifs true λc r=>if r=true then do let ok <- isTrue c env (eval c env);pure (ForInStep.yield ok)else pure (ForInStep.yield r)) (λok s₃=>
      if ok=true then wpAny (model prog w) A em (λ_ s₅=>∃m,m<n/\I m s₅) (λ_ _=>False) s₃
      else ∃m,m<n/\I m s₃) (λ_ _=>False) s₂) (λ_ _=>False) s₁') (λ_ _=>False) s₁) (λ_ _=>False) s)
  (n:Nat) (h:I n s) :
  codeAny (model prog w) A (.compLoop ce d it acc env) R s:=by
 refine codeAny_loop rfl I (λn s hI=>?_) n h
 rw[(hu prog w A d it acc env).1,(hu prog w A d it acc env).2];refine wpAny_noted ?_;rw[ht];refine aS (BU (aS (l8 (turn n s hI) (λr s₁ h₁=>?_) λ_ _ h'=>h'.elim)))
 cases r with
 |none=>exact dS h₁
 |some v=>
  refine aS (l8 h₁ (λ_ s₁' h₁'=>?_) λ_ _ h'=>h'.elim)
  refine aS (l8 h₁' (λ_ s₂ h₂=>aS (l8 h₂ (λok s₃ h₃=>?_) λ_ _ h'=>h'.elim)) λ_ _ h'=>h'.elim)
  cases ok with
  |false=>exact dS ⟨rfl,h₃⟩
  |true=>exact aS (l8 h₃ (λ_ s₅ h₅=>dS ⟨rfl,h₅⟩) λ_ _ h'=>h'.elim)
abbrev TU:=St->Hp->(St->Hp->Prop)->Prop
def PU(X:Cx)(m:Sem Unit)(t:TU):Prop:=
 ∀(ah: ~~~1) (s:Shared) (O:St) (H:Hp) (Q:St->Hp->Prop),Inv X ah O H s->t O H Q->wpAny (~~~2) X.A m (λ_ s'=>∃σ' H',Inv X ah σ' H' s'/\Q σ' H') (λ_ _=>False) s
def GF(D:Addr)(te:TE):TU:=λO H Q=>te O H λv H5=>∃ys,H5 D=some (.lst ys)/\ys.length<sizeLine/\Q O (upd H5 D (.lst (ys++[v])))
theorem Au(he:PE X gP te)(hx:X.xe=λ_ _=>False):PU X (do let _ <- call (.builtin "list.append") [.ref D,<- eval gP X.env]) (GF D te):=by
 intro ah s O H Q I h;have he:=he ah s O H _ I h;rw[hx]at he;refine aS (l8 he (λy s8 ⟨v,H8,I8,r8,ys,hD8,hz8,q8⟩=>?_) λ_ _ z=>z)
 have ma:=jL ah s8 O H8 (.ref D) [v] (.ref D) [y] (λ_ H9=>Q O H9) I8 rfl (.cons r8 .nil) ⟨_,ys,v,rfl,rfl,hD8,hz8,q8⟩
 rw[hx]at ma;exact aS (l8 ma (λ_ s9 ⟨_,H9,I9,_,q9⟩=>dS ⟨O,H9,I9,q9⟩) λ_ _ z=>z)
noncomputable def σC(k:Nat)(D:Addr)(O:St):St:=O++(List.replicate k none++[some (.ref D)])
def Uh(X:Cx)(O:St)(b:Bk):Prop:=∃ah,Inv X ah O b.H₀ b.s₀/\∀a∈b.fp,jK X ah b.H₀ a
def GJ(u0:HO)(X:Cx)(k:Nat)(g:Bk->TG)(tt:Bk->TT)(te:Addr->Bk->TU)(qqz:It)(D:Addr)(O:St)(H1:Hp)(Q:VK):Prop:=
 ∃W:Nat->Nat->St->Hp->Prop,(∃m,W 0 m (σC k D O) (upd H1 D u0))/\∀i m σ' H',W i m σ' H'->
  (qqz.stop i H'/\Q (.ref D) H')\/(qqz.go i H'/\∃Nn:St->Hp->Prop,(∀W0 W2,Nn W0 W2->∃m',m'<m/\W (i+1) m' W0 W2)/\∀x H2,qqz.WQ i H' x H2->∀bk:Bk,Uh X O bk->g bk x σ' H2 λσ2 H3=>tt bk σ2 H3 λb H4=>
   if b=true then te D bk σ2 H4 Nn else Nn σ2 H4)
noncomputable def Av(u0:HO)(X:Cx)(k:Nat)(wi:TI)(g:Bk->TG)(tt:Bk->TT)(te:Addr->Bk->TU):TE:=λO H Q=>wi O H λqqz H1=>∀D,H1 D=none->GJ u0 X k g tt te qqz D O H1 Q
abbrev Aw:=Av (.lst [])
structure Ck(X:Cx)(ce tg iter:Expr)(ifs:List Expr)(rest:List Comprehension)(new:Sem Value)(u0:HO)(em:Value->Env->Sem Unit):Prop where
 cls:clausesOf ce=⟨tg,iter,ifs,0⟩::rest
 und:Cu ce
 turn:∀it D env,compTurn ce 0 it (.ref D) env=uV ce tg iter ifs 0 it (.ref D) env (em (.ref D) env)
 new:∃o0:Obj,o0.isFreed=false/\(∀{A:Around}{E Q:Value->Shared->Prop}{s:Shared},Q (.ref s⁻¹) { s with heap:=s.heap.push o0}->wpAny (~~~2) A new Q E s)/\
  ∀(H:Hp) (h:Heap) (a:Addr),h.get? a=some o0->(a==sysModules)=false->cH X.prog X.w H h a u0
 start:∀{A:Around}{R:Result->Shared->Prop}{s:Shared}{it acc:Value}{env:Env},codeAny (~~~2) A (.compLoop ce 0 it acc env) R s->
  wpAny (~~~2) A (pyIter it) (λit' s'=>codeAny (~~~2) A (.compLoop ce 0 it' acc env) R s') (notedBy (~~~2) A env λx s'=>R (.error x) s') s->codeAny (~~~2) A (.compStart ce 0 it acc env) R s
theorem wA{X:Cx}{gP tg iter:Expr}{ifs:List Expr}{rest:List Comprehension}{scope:Scope}{pos:Pos}{em:Value->Env->Sem Unit}(h:∀it acc env,compTurn (.ListComp gP (⟨tg,iter,ifs,0⟩::rest) scope pos) 0 it acc env=uV (.ListComp gP (⟨tg,iter,ifs,0⟩::rest) scope pos) tg iter ifs 0 it acc env (em acc env)) :
  Ck X (.ListComp gP (⟨tg,iter,ifs,0⟩::rest) scope pos) tg iter ifs rest (newList []) (.lst []) em where
 cls:=rfl
 und:=λ_ _ _ _ _ _ _=>⟨rfl,rfl⟩
 turn:=λit D env=>h it (.ref D) env
 new:=⟨_,rfl,λh=>lS h,λ_ _ _ e _=>⟨AM _,[],_,.nil,e⟩⟩
 start:=codeAny_compStart_list
structure Names(N N':List Str)(scope:Scope)(k:Nat):Prop where
 len:N'.length=N.length+(k+1)
 last:∀x,N'[N.length+k]?=some x->scope.names.lookup x=none
 old:∀i x,N'[i]?=some x->i<N.length->scope.names.lookup x=none\/(N[i]?=some x/\scope.names.lookup x≠some .local)
theorem dz:(relabel scope env).names.lookup x=(scope.names.lookup x).map λk=>if (k==NameKind.free&&env.scope.kind==.function&&env.kindOf x==some .cell)then NameKind.cell else k:=fY
section
variable{X:Cx}
theorem lT(B:aN X.env.scope scope)(h:(compEnvC scope cl C X.env).kindOf x=some .cell\/(compEnvC scope cl C X.env).kindOf x=some .free) :
  (x,NameKind.free)∈scope.names:=by
 have e:(compEnvC scope cl C X.env).kindOf x=(scope.names.lookup x).map λk=>if (k==NameKind.free&&X.env.scope.kind==.function&&X.env.kindOf x==some .cell)then NameKind.cell else k:=dz
 rw[e]at h;cases q:scope.names.lookup x with
 |none=>rw[q]at h;rcases h with h |h <;> symm
 |some k=>
  have hm:=mem_of_lookup q;cases k with
  |free=>exact hm
  |cell=>exact absurd rfl (B.qA _ hm)
  |_=>rw[q]at h;rcases h with h |h <;> (simp at h)
theorem Ax(B:aN X.env.scope scope)(I: ~~~7)(hC:s⁻¹<=C)
  (hf:∀b∈fp,jK X ah H b) (hfs:∀b∈fp,b<s⁻¹)
  (hcl:∀x c,cl.lookup x=some c->X.env.cells.lookup x=some c/\(x,NameKind.free)∈scope.names) (GK:∀y∈scope.names,y.2=.free->∃c,cl.lookup y.1=some c):(X.block N' scope cl C s H fp).Ok where
 mod:=I.ok.mod
 kind:=B.kind
 glob:=I.ok.glob
 blt:=I.ok.blt
 above:=hC
 inj:=λx y c h1 h2=>I.ok.inj x y c (hcl x c h1).1 (hcl y c h2).1
 has:=λx h=>GK _ (lT (cl:=cl) (C:=C) B h) rfl
 Ly:=λx c h1 h2=>by
  have e:scope.names.lookup x=some .local:=by have:(scope.names.lookup x==some NameKind.local)=true:=h1;simpa using this
  have h3:=(hcl x c h2).2;have q:=B.Ug _ h3 rfl;rw[e]at q;cases q
 hd:=I.ok.hd
 frames:=I.ok.frames
 stk:=.inl rfl
 RL:=λb hb=>⟨gL (eM (hfs b hb) hC),λx c e=>(hf b hb).2.2.2.2.1 x c (hcl x c e).1⟩
 bs:=I.bs
 z6:=oI I.ok.z6 I.sz
 sr:=λb o e hb=>by
  obtain⟨_,_,_,h3,_⟩:=hf b hb;rcases h3 with h3 |h3
  . exact I.ok.sr b o e h3
  . exact absurd (eM (d0 e) (oI I.ok.z6 h3)) (qS _)
 uL:=λb hb hm=>by
  rcases dL.mp (I.uM b hm)with e |e
  . exact (hf b hb).2.1 e
  . exact (hf b hb).2.2.1 e
 iW:=I.stack
 Gj:=I.qe
theorem oX{ah: ~~~1}{O:St}{H:Hp}{s:Shared}{N':List Str}{k:Nat}{wi:TI}{g:Bk->TG}{tt:Bk->TT}{tu:Addr->Bk->TU}{ce:Expr}{rest:List Comprehension}{new:Sem Value}{u0:HO}{cp:Pos}{em:Value->Env->Sem Unit}{use:Option (Value->Sem Unit)}{Q:Value->Shared->Prop}{Q0:VK}
  (B:aN X.env.scope scope) (hc:X.calm=true) (hN:Names X.N N' scope k) (hi:PI X tg iter wi) (ck:Ck X ce tg iter ifs rest new u0 em)
  (hin:∀(b:Bk) (D:Addr),PG (X.blk N' scope b) tg (g b)/\sG (X.blk N' scope b) ifs (tt b)/\PU (X.blk N' scope b) (em (.ref D) (X.blk N' scope b).env) (tu D b))
  (hs:∀x,foldedSetIterable iter X.env x=pure x) (I: ~~~7) (h:Av u0 X k wi g tt tu O H Q0)
  (fin:∀s' H' D C m,Inv X ah O H' s'->jK X ah H' C->s'.heap.Ns C m->Q0 (.ref D) H'->compPost (~~~2) X.A X.xe use Q (.ref D) C (.ok .next) s') :
  wpAny (~~~2) X.A (comprehension ce scope X.env cp new false (eval iter X.env) use) Q X.xe s:=by
 obtain⟨cl,hclos,hcl,GK⟩:=lR (scope:=scope) (env:=X.env) λy hy hf=>I.ok.has y.1 (B.free y hy hf)
 refine wpAny_comprehension_free ck.cls hs hclos B.kind B.uniq (bR (hi ah s O H _ I h) λxv s₁ h₁=>bR h₁ λitv s₂ h₂=>?_)
 obtain⟨it,fp,tn,qqz,H2,rfl,I2,T,aP,f2,hW⟩:=h₂;obtain⟨o0,fr0,Yt,ok0⟩:=ck.new;refine Yt (wpAny_newFunctionEnv B.qA (by intro y hy;simp at hy) (λh₁ MP GL=>?_) B.kind)
 dsimp only at MP GL ⊢
 generalize Yu:s₂.heap.push o0=P2 at MP GL ⊢
 have hC:P2.objs.size=s₂⁻¹+1:=by rw[<- Yu,nN]
 have hDC:s₂⁻¹≠P2.objs.size:=by rw[hC];exact gL (w9 _)
 have MT:s₂⁻¹<=P2.objs.size:=by rw[hC];exact Nat.le_succ _
 have old:∀b o,s₂.heap.get? b=some o->h₁.get? b=some o:=λb o e=>GL.extBut b o (gL (by rw[hC];exact AG (d0 e))) (bP _ (Yu▸bP _ e))
 have hD0:H2 s₂⁻¹=none:=I2.hok.fresh (eA _);have hC0:H2 P2.objs.size=none:=I2.hok.fresh MT;have Yv:(s₂⁻¹==sysModules)=false:=by
  have h1:mainGlobals<s₂⁻¹:=(I2.ok.mod.glob.keeps I2.bk).lt;refine Bool.eq_false_iff.mpr λq=>?_
  have q:=eq_of_beq q;rw[q]at h1;exact absurd h1 ⋯
 have fps:∀b∈fp,b<s₂⁻¹:=λb hb=>by
  obtain⟨o,e,_⟩:=T.obj _ _ aP b hb;exact d0 e
 have ok':=Ax (N':=N') (cl:=cl) B I2 MT f2 fps hcl GK;obtain⟨W,⟨m0,w0⟩,turn⟩:=hW s₂⁻¹ hD0;have Yw:∀b∈fp,b∉frs X.stack:=λb hb=>ok'.uL b hb
 obtain⟨hg,ht,he⟩:=hin ⟨cl,P2.objs.size,s₂,H2,fp⟩ s₂⁻¹;have I0:Inv (X.block N' scope cl P2.objs.size s₂ H2 fp) [] (σC k s₂⁻¹ O) (upd H2 s₂⁻¹ u0) { s₂ with heap:=h₁,toks:=s₂.toks+([]:List (Str×Value)).length}:=by
  refine⟨ok',rfl,I2.bare,Un.laid old (eA _) hD0,⟨_,MP,λi x v e1 e2 e3=>?_⟩,λx c e=>?_,?_,λx c e=>?_,λp hp=>?_,I2.hok.laid old (eA _) ?_,?_⟩
  .
   have Ui:(compEnvC scope cl P2.objs.size X.env).kindOf x=some .local\/(compEnvC scope cl P2.objs.size X.env).kindOf x=some .cell\/(compEnvC scope cl P2.objs.size X.env).kindOf x=some .free:=e3;have ek:(compEnvC scope cl P2.objs.size X.env).kindOf x=(scope.names.lookup x).map λk=>if (k==NameKind.free&&X.env.scope.kind==.function&&X.env.kindOf x==some .cell)then NameKind.cell else k:=dz
   have S9:i<O.length:=by
    rcases AQ i O.length with z |z
    . exact z
    .
     exfalso;unfold σC at e2;rw[d5 z]at e2;rcases AQ (i - O.length) k with z2 |z2
     .
      rw[eJ (by rw[fA];exact z2)]at e2
      have:=l7 e2;rw[xL]at this;exact absurd this.2 ⋯
     .
      rw[d5 (by rw[fA];exact z2),fA]at e2
      have z3:i - O.length - k=0:=by
       rcases Nat.eq_zero_or_pos (i - O.length - k)with q |q
       . exact q
       . rw[t8 (Nat.succ_le_of_lt q)]at e2;cases e2
      have z4:i=X.N.length+k:=by rw[<- I2.len];lia
      have hn:=hN.last x (by rw[<- z4];exact e1)
      rw[ek,hn]at Ui;rcases Ui with q |q |q <;> cases q
   have KD:O[i]?=some (some v):=by unfold σC at e2;rw[eJ S9]at e2;exact e2
   have hiN:i<X.N.length:=by rw[<- I2.len];exact S9
   rcases hN.old i x e1 hiN with z |⟨z,z2⟩
   . rw[ek,z]at Ui;rcases Ui with q |q |q <;> cases q
   .
    have hfree:(compEnvC scope cl P2.objs.size X.env).kindOf x=some .cell\/(compEnvC scope cl P2.objs.size X.env).kindOf x=some .free:=by
     rcases Ui with q |q
     .
      exfalso;rw[ek]at q;cases hq:scope.names.lookup x with
      |none=>rw[hq]at q;cases q
      |some kk=>
       rw[hq]at q;cases kk with
       | «local»=>exact z2 hq
       |free=>simp only[AU,Option.some.injEq]at q;split at q <;> cases q
       |_=>simp at q
     . exact q
    have hm:=lT (cl:=cl) (C:=P2.objs.size) B hfree;obtain⟨c,hc1⟩:=GK _ hm rfl;have Uj:cl.lookup x=some c:=hc1;have hc2:=(hcl x c Uj).1;obtain⟨m2,hn2,hl2⟩:=I2.loc;have Yx:oK X.env.scope x:=(B.free _ hm rfl).elim (λa=>.inr (.inl a)) λa=>.inr (.inr a)
    obtain⟨u,ru,lk⟩:=hl2 i x v z KD Yx;refine⟨u,ru,.inr ⟨hfree,c,Uj,?_⟩⟩;rcases lk with ⟨q1,_⟩ |⟨_,c',q1,q2⟩
    .
     exfalso;have nY:X.env.scope.names.lookup x=some .local:=q1;rcases B.free _ hm rfl with y |y
     . have y':X.env.scope.names.lookup x=some .cell:=y;rw[nY]at y';cases y'
     . have y':X.env.scope.names.lookup x=some .free:=y;rw[nY]at y';cases y'
    . rw[hc2]at q1;cases q1;obtain⟨o,ho,hd⟩:=q2;exact⟨o,old _ _ ho,hd⟩
  . obtain⟨v,o,ho,hd⟩:=I2.cell x c (hcl x c e).1;exact⟨v,o,old _ _ ho,hd⟩
  . show upd H2 s₂⁻¹ u0 P2.objs.size=none;rw[ao (oQ hDC)];exact hC0
  . have q:=I2.dg x c (hcl x c e).1;obtain⟨v,z⟩:=I2.cell x c (hcl x c e).1;rw[ao (gL z.lt)];exact q
  . exact absurd (show p∈([]: ~~~1)from hp) ⋯
  . exact ok0 _ _ _ (GL.extBut _ _ hDC (bP _ (Yu▸d6 _ fr0))) Yv
  . show (σC k s₂⁻¹ O).length=N'.length;unfold σC;rw[i6,i6,fA,hN.len,I2.len];rfl
 have stat:∀{H':Hp},(∀b∈fp,H' b=none)->∀b∈fp,jK (X.block N' scope cl P2.objs.size s₂ H2 fp) [] H' b:=λhn b hb=>
  ⟨hn b hb,(ok'.RL b hb).1,Yw b hb,.inl hb,λx c e=>(ok'.RL b hb).2 x c e,λp hp=>absurd (show p∈([]: ~~~1)from hp) ⋯⟩
 have loop:∀s₃:Shared,s₃={ s₂ with heap:=h₁,toks:=s₂.toks+([]:List (Str×Value)).length}->
   codeAny (~~~2) X.A (.compLoop ce 0 (.ref it) (.ref s₂⁻¹) (compEnvC scope cl P2.objs.size X.env))
    (compPost (~~~2) X.A X.xe use Q (.ref s₂⁻¹) P2.objs.size) s₃:=by
  rintro s₃ rfl;refine qB ck.und (ck.turn _ _ _) (λn s'=>∃i σ' H',Inv (X.block N' scope cl P2.objs.size s₂ H2 fp) [] σ' H' s'/\tn i s'.heap/\(∀b∈fp,H' b=none)/\W i n σ' H') ?_ m0
   ⟨0,_,_,I0,T.keep _ _ _ aP λb hb o e=>old b o e,λb hb=>?_,w0⟩
  .
   rintro n s3 ⟨i,σ3,H3,I3,gG,Tv,w3⟩;rcases turn i n σ3 H3 w3 with ⟨stop,qn⟩ |⟨go,Nn,hNn,step⟩
   .
    refine bR (T.done (X.block N' scope cl P2.objs.size s₂ H2 fp) rfl rfl rfl hc i [] s3 σ3 H3 (λ_ _=>False) I3 (stat Tv) gG stop) λr s4 ⟨hr,I4⟩=>?_
    subst hr;obtain⟨m,hm,_⟩:=id I4.loc;have I5:Inv X ah O H3 s4:=I2.call' (ch:=fp) I4.os I4.base I4.hok I4.bare λb hb=>⟨(f2 b hb).2.2.2.1,(f2 b hb).2.1,(f2 b hb).2.2.2.2.1,(f2 b hb).2.2.2.2.2⟩
    exact fin s4 H3 _ _ m I5 (I2.Af MT I4.free) hm qn
   .
    refine bR (T.item (X.block N' scope cl P2.objs.size s₂ H2 fp) rfl rfl rfl hc i [] s3 σ3 H3 (λ_ _=>False) I3 (stat Tv) gG go) λr s4 ⟨u,hr,h4⟩=>?_
    subst hr;refine bR h4 λ_ s5 ⟨x,H5,I5,r5,y5,uQ,Yb⟩=>?_
    have Yc:=I5.pinned (stat Yb) (T.obj _ _ uQ);have again:∀{σ7:St}{H7:Hp}{s7:Shared},Inv (X.block N' scope cl P2.objs.size s₂ H2 fp) ([]++lN fp s5.heap) σ7 H7 s7->Nn σ7 H7->∃m,m<n/\∃i σ' H',Inv (X.block N' scope cl P2.objs.size s₂ H2 fp) [] σ' H' s7/\tn i s7.heap/\(∀b∈fp,H' b=none)/\W i m σ' H':=λ{σ7 H7 s7} I7 n7=>by
     obtain⟨m',hm,w7⟩:=hNn σ7 H7 n7;refine⟨m',hm,i+1,σ7,H7,I7.iX,T.keep _ _ _ uQ λb hb o e=>(I7.pin (b,o) (kA _ (kA _ (fy hb e)))).1,λb hb=>?_,w7⟩
     obtain⟨o,e,d⟩:=T.obj _ _ uQ b hb;exact (I7.pin (b,o) (kA _ (kA _ (fy hb e)))).2.1
    refine bR (hg _ s5 σ3 H5 x u _ Yc r5 (step x H5 y5 ⟨cl,P2.objs.size,s₂,H2,fp⟩ ⟨ah,I2,f2⟩)) λ_ s6 ⟨σ6,H6,I6,q6⟩=>?_
    refine bR (ht _ s6 σ6 H6 _ I6 q6) λb s7 ⟨H7,I7,q7⟩=>?_
    cases b with
    |false=>
     rw[gN pE]at q7 ⊢
     exact again I7 q7
    |true=>
     rw[i5 rfl]at q7 ⊢
     exact l8 (he _ s7 σ6 H7 _ I7 q7) (λ_ s9 ⟨σ9,H9,I9,q9⟩=>again I9 q9) λ_ _ z=>z
  . show upd H2 s₂⁻¹ u0 b=none;rw[ao (gL (fps b hb))];exact (f2 b hb).1
 refine ck.start (loop _ rfl) (T.self _ 0 _ _ _ ?_ (loop _ rfl));exact T.keep _ _ _ aP λb hb o e=>old b o e
theorem wB{N':List Str}{k:Nat}{wi:TI}{g:Bk->TG}{tt:Bk->TT}{te:Bk->TE}(B:aN X.env.scope scope)(hc:X.calm=true)(hN:Names X.N N' scope k)(hi:PI X tg iter wi)
  (hin:∀b:Bk,PG (X.blk N' scope b) tg (g b)/\sG (X.blk N' scope b) ifs (tt b)/\PE (X.blk N' scope b) gP (te b))
  (hs:∀x,foldedSetIterable iter X.env x=pure x:=by intro _;rfl):PE X (.ListComp gP [⟨tg,iter,ifs,0⟩] scope pos) (Aw X k wi g tt λD b=>GF D (te b)):=by
 intro ah s O H Q I h;rw[eval_ListComp];refine oX (use:=none) B hc hN hi (wA (rest:=[]) (em:=λacc env=>do let _ <- call (.builtin "list.append") [acc,<- eval gP env]) λ_ _ _=>rfl) (λb D=>⟨(hin b).1,(hin b).2.1,Au (hin b).2.2 rfl⟩) hs I h λs' H' D C m I' f' hn q=>?_
 refine⟨m,hn,λh' sb=>⟨.ref D,H',?_,rfl,q⟩⟩
 obtain⟨f0,f1,f2,f3,f4,f5⟩:=f';exact I'.turned (t':=s'.toks) (λb o hb e=>(sb.2 b hb).trans e) f0 f1 f3 f4 f5
theorem GP{N':List Str}{k:Nat}{wi:TI}{g:Bk->TG}{tt:Bk->TT}{te:Bk->TE}{i:Nat}{y:Str}{py g7:Pos}(B:aN X.env.scope scope)(hc:X.calm=true)(hN:Names X.N N' scope k)(hi:PI X tg iter wi)
  (hin:∀b:Bk,PG (X.blk N' scope b) tg (g b)/\sG (X.blk N' scope b) ifs (tt b)/\PE (X.blk N' scope b) gP (te b))
  (Uk:X.N.Nodup) (hy:X.N[i]?=some y) (hl:X.env.scope.names.lookup y=some .local)
  (hsw:swapsWith (.ListComp gP [⟨tg,iter,ifs,0⟩] scope pos) (some (.Name y py)) g7.line X.env=pure true)
  (hs:∀x,foldedSetIterable iter X.env x=pure x:=by intro _;rfl):PS X (.Assign [.Name y py] (.ListComp gP [⟨tg,iter,ifs,0⟩] scope pos) g7) (L7 (Aw X k wi g tt λD b=>GF D (te b)) (v9 i)):=by
 intro ah s O H D0 I h;rw[exec_Assign_Name_used _ _ _ _ hsw];refine aS (BU (aS ?_));show wpAny _ X.A (do let _ <- comprehension (.ListComp gP [⟨tg,iter,ifs,0⟩] scope pos) scope X.env _ (newList []) false (eval iter X.env) (some (assign (.Name y py) X.env))) _ _ s
 refine aS (l8 (oX (use:=some (assign (.Name y py) X.env)) (Q:=λ_ s'=>SP X ah D0 .next s') B hc hN hi (wA (rest:=[]) (em:=λacc env=>do let _ <- call (.builtin "list.append") [acc,<- eval gP env]) λ_ _ _=>rfl) (λb D=>⟨(hin b).1,(hin b).2.1,Au (hin b).2.2 rfl⟩) hs I h λs' H' D C m I' f' hn q=>?_) (λ_ s' hq=>dS (dS hq)) λ_ _ e=>e)
 refine wpAny_assign_Name (oM I' Uk hy (.inl hl) (v:=.ref D) rfl (λs2 I2 hsb=>?_) (.inr hl))
 obtain⟨f0,f1,f2,f3,f4,f5⟩:=f';obtain⟨a,sb,ha⟩:=hsb;have nC:C≠a:=by
  rcases ha with e |e
  . rw[e];exact f1
  . exact oQ (f4 _ _ e)
 refine⟨m,hn.sameBut sb nC,λh' sb'=>⟨_,H',?_,q⟩⟩
 exact I2.turned (t':=s2.toks) (λb o hb e=>(sb'.2 b hb).trans e) f0 f1 f3 f4 f5
end
section
variable{X:Cx}{ah: ~~~1}{O:St}{H:Hp}{s:Shared}
abbrev Yy (X:Cx):=tupleKind (fj X.prog X.w)
theorem jO:∀{ks:List Key}{its:List Value},Vals (ks.map kV) its->PySem.ItemsAre (fj X.prog X.w) ks its
 | [],_,.nil=>.nil
 |.inl i::ks,_,.cons h r=>by obtain⟨t,rfl⟩:=h;exact .cons (se _ _ _ _) (jO r)
 |.inr x::ks,_,.cons h r=>by obtain⟨t,rfl⟩:=h;exact .cons (sf _ _ _ _) (jO r)
theorem Inv.Ay{a:Addr}{ks:List Key}(I: ~~~7)(h:fX X.K H a (ks.map kV)):(Yy X).is s.heap ks a:=by obtain⟨its,r,⟨o,e,c,n,d⟩,_⟩:=I.tuple h;exact⟨o,its.toArray,n,e,c,d,by simpa using jO r⟩
theorem lU{α β:Type}{F:α->β->Prop}:∀{l:List α}{m:List β},Paired F l m->∀b∈m,∃a∈l,F a b
 |_,_,.cons h r,b,hb=>(dL.mp hb).elim (λe=>⟨_,dA,e▸h⟩) λe=>let ⟨a,h1,h2⟩:=lU r b e;⟨a,b0 _ h1,h2⟩
noncomputable def atK{α:Type}(l:List (List Key×α))(ks:List Key):Option α:=(l.find? λp=>decide (p.1=ks)).map (·.2)
theorem kj{F:List Key×V->List Key×Addr×Value->Prop}(hF:∀p q,F p q->p.1=q.1/\RelV p.2 q.2.2){ks:List Key}{v:V}:∀{l:List (List Key×V)}{m:List (List Key×Addr×Value)},Paired F l m->atK l ks=some v->∃p,atKey m ks=some p/\RelV v p.2
 | (k,x)::l,(k',a,u)::m,.cons h r,e=>by
  obtain⟨e1,e2⟩:=hF _ _ h;have e1:k=k':=e1;subst e1;unfold atK at e;unfold atKey;rw[AC]at e ⊢
  by_cases hk:k=ks
  .
   rw[show decide (k=ks)=true from nK hk]at e ⊢
   cases e;exact⟨(a,u),rfl,e2⟩
  .
   rw[show decide (k=ks)=false from mB hk]at e ⊢
   exact kj hF r e
theorem Inv.Ul{d:Addr}{eW:List (List Key×V)}(I: ~~~7)(h:H d=some (.dT eW)):∃xs,s.heap.DictOfH (Yy X) d xs/\Paired (λ(p:List Key×V) (q:List Key×Addr×Value)=>p.1=q.1/\H q.2.1=some (.tup (p.1.map kV))/\RelV p.2 q.2.2) eW xs/\eW.length<=sizeLine/\(d==sysModules)=false:=by
 obtain⟨hz,hs,xs,pr,o,es,ep,e1,e2,e3,e4,e5⟩:=(show cH X.prog X.w H s.heap d (.dT eW)from I.hok d _ h);refine⟨xs,⟨o,es,ep,e1,e2,e3,e4,λx hx=>?_,e5⟩,pr,hz,hs⟩
 obtain⟨p,_,q1,q2,_⟩:=lU pr x hx;rw[<- q1];exact I.Ay (.inl (.inl q2))
def Yz(K:Frag):R2:=λx y H Q=>∃p a eW ks v,x=.ref p/\y=.ref a/\H p=some (.dT eW)/\fX K H a (ks.map kV)/\atK eW ks=some v/\Q v H
theorem GQ(hu:X.A.units+1<cLine):Ua X (Yz X.K):=by
 intro value slice ah s O H x y v u Q I rx ry h hs;obtain⟨p,a,eW,ks,z,rfl,rfl,hp,ha,he,q⟩:=h;cases rx;cases ry;obtain⟨xs,dh,pr,hz,hy⟩:=I.Ul hp;obtain⟨w,w1,w2⟩:=kj (λ_ _ h=>⟨h.1,h.2.2⟩) pr he
 have fin:EP X ah O Q w.2 { s with toks:=s.toks+(Yy X).draws ks}:=⟨z,H,I.tok _,w2,q⟩;exact subscriptTail_builtinR (x:=w.2) dh.typeIs slot_dict_getitem.lookup (wpAny_getItem_heap (Q:=λr s'=>r=w.2/\EP X ah O Q r s') (tupleKind_room_in1 hu) (I.Ay ha) dh w1 ⟨rfl,fin⟩) hs
end
end L2
namespace Ev
open L2
inductive D where
 |non |bl (b:Bool) |int (i:Int) |str (x:Str) |tup (l:List D) |lst (l:List D) |fix (l:List D) |emp |kr (C:Addr) |ym (ks: ~~~5) (ds:List D)
 deriving Inhabited
inductive Slot where
 |no |dat (d:D) |own (l:List D)
 deriving Inhabited
inductive R where
 |dat (d:D) |new (l:List D) |var (i:Nat)
 deriving Inhabited
abbrev G:=List Slot
abbrev Sg:=L2.St
abbrev K0:Hp:=λ_=>none
def LstAt(M:List Addr)(H:Hp)(a:Addr)(xs:List V):Prop:=a∉M/\H a=some (.lst xs)
def lV(K:Frag)(M:List Addr)(H:Hp)(a:Addr)(xs:List V):Prop:=(a∉M/\∃o,H a=some (.jE o (.lst xs)))\/cG K K0 a xs
def TupAt(K:Frag)(M:List Addr)(H:Hp)(a:Addr)(xs:List V):Prop:=(a∉M/\Rd H a (.tup xs))\/(fX K K0 a xs/\∃o,K.lookup a=some o/\o.dict=none)
theorem rd0(h:Rd K0 a u):False:=by rcases h with h |⟨o,h⟩ <;> symm
theorem lV.sq{K:Frag}{M:List Addr}{H:Hp}{a:Addr}{xs:List V}(h:lV K M H a xs):cG K H a xs:=by
 rcases h with ⟨_,o,h⟩ |h |h
 . exact .inl (.inr ⟨o,h⟩)
 . exact (rd0 h).elim
 . exact .inr h
theorem TupAt.sq{K:Frag}{M:List Addr}{H:Hp}{a:Addr}{xs:List V}(h:TupAt K M H a xs):fX K H a xs:=by
 rcases h with ⟨_,h⟩ |⟨h |h,_⟩
 . exact .inl h
 . exact (rd0 h).elim
 . exact .inr h
noncomputable abbrev uW(C a:Addr):HO:=.ext λh=>∃o,h.get? a=some o/\o.cls=.ref C/\PySem.W.notCls o=true/\o.dict=none
structure FG(K:Frag)(C:Addr):Prop where
 gga:PySem.W.findIn K (.ref C) "__getattribute__"=some (some (.builtin "BaseException.__getattribute__"))
 gat:PySem.W.findIn K (.ref C) "__getattr__"=some none
 bas:PySem.W.mroIn K C (.type "BaseException")=some true
 dct:PySem.W.hasDictIn K C=true
 cls:PySem.W.findIn K (.ref C) "__class__"=some (some (.builtin "object.__class__"))
 spc:PySem.W.specialIn K (.builtin "object.__class__") "__get__"=some (some (.builtin "getset_descriptor.__get__"))
 tks:PySem.W.takesIn K (.builtin "object.__class__")=some true
 mro:PySem.W.mroIn K C (.type "object")=some true
 kit:∀n∈["int", "bool", "str", "tuple", "list", "dict"],PySem.W.kitOne K (.ref C) (.type n)=some false
noncomputable abbrev YB(ks: ~~~5)(vs:List V):HO:=.dT ((ks.map (List.map Sum.inl)).zip vs)
def Um:HO->Prop
 |.lst _ |.dT _=>True
 |_=>False
mutual
inductive Rep(K:Frag)(M:List Addr)(H:Hp):D->V->Prop
 |non:Rep K M H .non .non
 |bl (b:Bool):Rep K M H (.bl b) (.bl b)
 |int (i:Int):Rep K M H (.int i) (.int i)
 |str (x:Str):Rep K M H (.str x) (.str x)
 |tup {l:List D}{a:Addr}{xs:List V}:TupAt K M H a xs->aJ K M H l xs->Rep K M H (.tup l) (.ref a)
 |lst {l:List D}{a:Addr}{xs:List V}:LstAt M H a xs->aJ K M H l xs->Rep K M H (.lst l) (.ref a)
 |fix {l:List D}{a:Addr}{xs:List V}:lV K M H a xs->aJ K M H l xs->Rep K M H (.fix l) (.ref a)
 |emp:a∉M->H a=some (.dK [])->Rep K M H .emp (.ref a)
 |kr:FG K C->a∉M->H a=some (uW C a)->Rep K M H (.kr C) (.ref a)
 |ym {ks: ~~~5}{ds:List D}{a:Addr}{vs:List V}:a∉M->H a=some (YB ks vs)->ks.length=vs.length->aJ K M H ds vs->Rep K M H (.ym ks ds) (.ref a)
inductive aJ(K:Frag)(M:List Addr)(H:Hp):List D->List V->Prop
 |nil:aJ K M H [] []
 |cons {d:D}{ds:List D}{x:V}{xs:List V}:Rep K M H d x->aJ K M H ds xs->aJ K M H (d::ds) (x::xs)
end
def ak(M:List Addr)(H:Hp)(M':List Addr)(H':Hp):Prop:=∀b o,H b=some o->b∉M->H' b=some o/\b∉M'
theorem ak.rd(h:ak M H M' H')(n:a∉M)(r:Rd H a u):a∉M'/\Rd H' a u:=by
 rcases r with r |⟨o,r⟩
 . exact⟨(h _ _ r n).2,.inl (h _ _ r n).1⟩
 . exact⟨(h _ _ r n).2,.inr ⟨o,(h _ _ r n).1⟩⟩
theorem Rep.stay{K:Frag}{M M':List Addr}{H H':Hp}(h:ak M H M' H'){d:D}{v:V}(r:Rep K M H d v):Rep K M' H' d v:=by
 refine Rep.rec (motive_1:=λd v _=>Rep K M' H' d v) (motive_2:=λds vs _=>aJ K M' H' ds vs) .non .bl .int .str (λt _ q=>?_) (λt _ q=>?_) (λt _ q=>?_) (λn r=>.emp (h _ _ r n).2 (h _ _ r n).1) (λx n r=>.kr x (h _ _ r n).2 (h _ _ r n).1) (λn r l _ q=>.ym (h _ _ r n).2 (h _ _ r n).1 l q) .nil (λ_ _ a b=>.cons a b) r
 .
  rcases t with t |t
  . exact .tup (.inl (h.rd t.1 t.2)) q
  . exact .tup (.inr t) q
 . exact .lst ⟨(h _ _ t.2 t.1).2,(h _ _ t.2 t.1).1⟩ q
 .
  rcases t with ⟨n,o,r⟩ |t
  . exact .fix (.inl ⟨(h _ _ r n).2,o,(h _ _ r n).1⟩) q
  . exact .fix (.inr t) q
theorem aJ.stay{K:Frag}{M M':List Addr}{H H':Hp}(h:ak M H M' H'):∀{ds:List D}{vs:List V},aJ K M H ds vs->aJ K M' H' ds vs:=by
 intro ds
 induction ds with
 |nil=>intro vs q;cases q;exact .nil
 |cons d ds ih=>intro vs q;cases q with |cons a b=>exact .cons (a.stay h) (ih b)
theorem ak.refl(M:List Addr)(H:Hp):ak M H M H:=λ_ _ e n=>⟨e,n⟩
theorem ak.trans(a:ak M H M1 H1)(b:ak M1 H1 M2 H2):ak M H M2 H2:=λc o e n=>b c o (a c o e n).1 (a c o e n).2
theorem ak.less(h:∀m∈M',m∈M):ak M H M' H:=λ_ _ e n=>⟨e,λz=>n (h _ z)⟩
theorem ak.laid(hp:H p=none):ak M H M (upd H p o):=λb u e n=>⟨by rw[ao (aH e hp)];exact e,n⟩
theorem ak.bf(hp:H p=none):ak M H (p::M) (upd H p o):=λb u e n=>
 ⟨by rw[ao (aH e hp)];exact e,λz=>(dL.mp z).elim (λq=>aH e hp q) n⟩
theorem ak.write(hp:p∈M):ak M H M (upd H p o):=λb u e n=>⟨by rw[ao (λq=>n (by rw[q];exact hp))];exact e,n⟩
theorem aJ.length{K:Frag}{M:List Addr}{H:Hp}{ds:List D}{vs:List V}(r:aJ K M H ds vs):ds.length=vs.length:=by
 induction ds generalizing vs with
 |nil=>cases r;rfl
 |cons d ds ih=>cases r with |cons a b=>exact congrArg (· + 1) (ih b)
theorem aJ.append{K:Frag}{M:List Addr}{H:Hp}{ds es:List D}{vs ws:List V}(r:aJ K M H ds vs)(s:aJ K M H es ws):aJ K M H (ds++es) (vs++ws):=by
 induction ds generalizing vs with
 |nil=>cases r;exact s
 |cons d ds ih=>cases r with |cons a b=>exact .cons a (ih b)
theorem aJ.get{K:Frag}{M:List Addr}{H:Hp}{ds:List D}{vs:List V}{i:Nat}{d:D}(r:aJ K M H ds vs)(e:ds[i]?=some d):∃v,vs[i]?=some v/\Rep K M H d v:=by
 induction ds generalizing vs i with
 |nil=>exact nomatch (show none=some d from e)
 |cons d' ds ih=>cases r with |cons a b=>cases i with
  |zero=>cases (show some d'=some d from e);exact⟨_,rfl,a⟩
  |succ i=>obtain⟨v,h⟩:=ih (i:=i) b e;exact⟨v,h⟩
theorem aJ.set{K:Frag}{M:List Addr}{H:Hp}{d:D}{v:V}(r:Rep K M H d v){ds:List D}{vs:List V}(i:Nat)(q:aJ K M H ds vs):aJ K M H (ds.set i d) (vs.set i v):=by
 induction ds generalizing vs i with
 |nil=>cases q;exact .nil
 |cons d' ds ih=>cases q with |cons a b=>cases i with
  |zero=>exact .cons r b
  |succ i=>exact .cons a (ih i b)
theorem aJ.take{K:Frag}{M:List Addr}{H:Hp}{ds:List D}{vs:List V}(n:Nat)(q:aJ K M H ds vs):aJ K M H (ds.take n) (vs.take n):=by
 induction ds generalizing vs n with
 |nil=>cases q;rw[List.take_nil,List.take_nil];exact .nil
 |cons d' ds ih=>cases q with |cons a b=>cases n with
  |zero=>exact .nil
  |succ n=>exact .cons a (ih n b)
theorem aJ.drop{K:Frag}{M:List Addr}{H:Hp}{ds:List D}{vs:List V}(n:Nat)(q:aJ K M H ds vs):aJ K M H (ds.drop n) (vs.drop n):=by
 induction ds generalizing vs n with
 |nil=>cases q;rw[List.drop_nil,List.drop_nil];exact .nil
 |cons d' ds ih=>cases q with |cons a b=>cases n with
  |zero=>exact .cons a b
  |succ n=>exact ih n b
theorem aJ.reverse{K:Frag}{M:List Addr}{H:Hp}{ds:List D}{vs:List V}(q:aJ K M H ds vs):aJ K M H ds.reverse vs.reverse:=by
 induction ds generalizing vs with
 |nil=>cases q;exact .nil
 |cons d ds ih=>cases q with |cons a b=>rw[Bi,Bi];exact (ih b).append (.cons a .nil)
inductive Slots(K:Frag)(M:List Addr)(H:Hp):G->Sg->List Addr->Prop
 |nil:Slots K M H [] [] []
 |no:Slots K M H g O J->Slots K M H (.no::g) (v::O) J
 |dat {g:G}{O:Sg}{J:List Addr}{v:V}{d:D}:Rep K M H d v->Slots K M H g O J->Slots K M H (.dat d::g) (some v::O) J
 |own {g:G}{O:Sg}{J:List Addr}{a:Addr}{xs:List V}{ds:List D}:H a=some (.lst xs)->aJ K M H ds xs->Slots K M H g O J->Slots K M H (.own ds::g) (some (.ref a)::O) (a::J)
theorem Slots.stay{K:Frag}{M M':List Addr}{H H':Hp}(h:ak M H M' H'){g:G}{O:Sg}{J:List Addr}(k:∀a∈J,∀o,H a=some o->H' a=some o)(q:Slots K M H g O J):Slots K M' H' g O J:=by
 induction q with
 |nil=>exact .nil
 |no q ih=>exact .no (ih k)
 |dat r q ih=>exact .dat (r.stay h) (ih k)
 |own e r q ih=>exact .own (k _ dA _ e) (r.stay h) (ih λa ha=>k a (b0 _ ha))
noncomputable def cF(K:Frag):List (Addr×Str):=K.filterMap λp=>match p.2.data with
 |.fields vs=>(match vs.toList with
  |_::.str n _::_=>if (n==("law":Str))=true then (match vs.toList[11]? with
   |some (Value.ref q)=>if (K.lookup q).isNone=true then some (q,("law.<locals>.<lambda>":Str))else none
   |_=>none)else none
  |_=>none)
 |_=>none
theorem yp{K:Frag}{p:Addr×Str}(h:p∈cF K):p.2 = "law.<locals>.<lambda>" :=by
 unfold cF at h;obtain⟨q,_,e⟩:=List.mem_filterMap.mp h;split at e
 .
  split at e
  .
   split at e
   .
    split at e
    .
     split at e
     . cases e;rfl
     . cases e
    . cases e
   . cases e
  . cases e
 . cases e
structure Z where
 K:Frag
 H0:Hp
 M0:List Addr
 lent:List (Nat×Addr)
 T:List (Addr×Str)
abbrev fP(q:Str)(c:Addr):HO:=.ext λh=>h.CodeRec (.ref c) q
def TabOk(H:Hp)(p:Addr×Str):Prop:=∃ps:Array Value,H p.1=some (.jH ps)/\TriplesOk ps.toList/\∀pos cv,codeAmong pos ps.toList=some cv->∃c,cv=.ref c/\H c=some (fP p.2 c)
noncomputable abbrev Z.TA(z:Z):List Addr:=z.T.map (·.1)
theorem TabOk.keep{H H':Hp}{p:Addr×Str}(t:TabOk H p)(k:∀b o,H b=some o->¬ Um o->H' b=some o):TabOk H' p:=by obtain⟨ps,h1,h2,h3⟩:=t;exact⟨ps,k _ _ h1 id,h2,λpos cv e=>let ⟨c,e1,e2⟩:=h3 pos cv e;⟨c,e1,k _ _ e2 id⟩⟩
noncomputable abbrev Z.B(z:Z):List Addr:=z.lent.map (·.2)
noncomputable abbrev Z.bor(z:Z):List Nat:=z.lent.map (·.1)
structure S(z:Z)(g:G)(O:Sg)(J M:List Addr)(H:Hp):Prop where
 sl:Slots z.K M H g O J
 nd:J.Nodup
 sub:∀a∈J,a∈M
 own:∀(i:Nat) (a:Addr) (l:List D),g[i]?=some (.own l)->O[i]?=some (some (.ref a))->(i∈z.bor/\a∈z.B)\/z.H0 a=none
 live:∀m∈M,(∃o,H m=some o/\Um o)\/m∈z.TA
 keep:∀b o,z.H0 b=some o->b∉z.B->b∉z.TA->H b=some o
 gR:∀m∈z.M0,m∈M
 m0:∀m∈z.M0,z.H0 m≠none
 bm:∀b∈z.B,b∈z.M0
 iR:∀p∈z.lent,O[p.1]?=some (some (.ref p.2))/\∃l,g[p.1]?=some (.own l)
 tab:∀p∈z.T,TabOk H p
 tm:∀p∈z.T,p.1∈z.M0
 tt:z.T=cF z.K
section
variable{g:G}
theorem S.fresh(s:S z g O J M H)(hp:H p=none):p∉M:=λhm=>by
 rcases s.live p hm with ⟨o,e,_⟩ |e
 . rw[hp]at e;cases e
 . obtain⟨q,hq,rfl⟩:=i7.mp e;obtain⟨ps,h1,_⟩:=s.tab q hq;rw[hp]at h1;cases h1
theorem S.KH(s:S z g O J M H)(hp:H p=some (.lst xs)):p∉z.TA:=λe=>by
 obtain⟨q,hq,rfl⟩:=i7.mp e;obtain⟨ps,h1,_⟩:=s.tab q hq;rw[hp]at h1;cases h1
theorem S.dB(s:S z g O J M H)(hp:H p=none):z.H0 p=none:=by
 cases e:z.H0 p with
 |none=>rfl
 |some o=>
  by_cases hb:p∈z.B
  . exact absurd (s.gR _ (s.bm _ hb)) (s.fresh hp)
  .
   by_cases ht:p∈z.TA
   . obtain⟨q,hq,rfl⟩:=i7.mp ht;exact absurd (s.gR _ (s.tm q hq)) (s.fresh hp)
   . rw[s.keep p o e hb ht]at hp;cases hp
theorem S.laid(s:S z g O J M H){p:Addr}{o:HO}(hp:H p=none):S z g O J M (upd H p o) where
 sl:=s.sl.stay (ak.laid hp) λa _ u e=>by rw[ao (aH e hp)];exact e
 nd:=s.nd
 sub:=s.sub
 own:=s.own
 live:=λm hm=>by
  rcases s.live m hm with ⟨o,e,gr⟩ |e
  . exact .inl ⟨o,by rw[ao (aH e hp)];exact e,gr⟩
  . exact .inr e
 keep:=λb u e hb ht=>by rw[ao (aH (s.keep b u e hb ht) hp)];exact s.keep b u e hb ht
 gR:=s.gR
 m0:=s.m0
 bm:=s.bm
 iR:=s.iR
 tab:=λp h=>(s.tab p h).keep λb u e _=>by rw[ao (aH e hp)];exact e
 tm:=s.tm
 tt:=s.tt
theorem S.Uo(s:S z g O J M H){p:Addr}{u0:HO}(gu:Um u0)(hp:H p=none):S z g O J (p::M) (upd H p u0) where
 sl:=s.sl.stay (ak.bf hp) λa _ u e=>by rw[ao (aH e hp)];exact e
 nd:=s.nd
 sub:=λa ha=>b0 _ (s.sub a ha)
 own:=s.own
 live:=λm hm=>by
  rcases dL.mp hm with rfl |hm
  . exact .inl ⟨_,aC,gu⟩
  .
   rcases s.live m hm with ⟨o,e,gr⟩ |e
   . exact .inl ⟨o,by rw[ao (aH e hp)];exact e,gr⟩
   . exact .inr e
 keep:=λb u e hb ht=>by rw[ao (aH (s.keep b u e hb ht) hp)];exact s.keep b u e hb ht
 gR:=λm hm=>b0 _ (s.gR m hm)
 m0:=s.m0
 bm:=s.bm
 iR:=s.iR
 tab:=λp h=>(s.tab p h).keep λb u e _=>by rw[ao (aH e hp)];exact e
 tm:=s.tm
 tt:=s.tt
theorem S.bf(s:S z g O J M H){p:Addr}{xs:List V}(hp:H p=none):S z g O J (p::M) (upd H p (.lst xs)):=s.Uo trivial hp
theorem S.M7(s:S z g O J M H){a:Addr}{u0 u1:HO}(hm:a∈M)(hA:a∉J)(h0:z.H0 a=none)(h:H a=some u0)(g0:Um u0)(g1:Um u1):S z g O J M (upd H a u1) where
 sl:=s.sl.stay (ak.write hm) λb hb u e=>by rw[ao (show b≠a from λq=>hA (by rw[<- q];exact hb))];exact e
 nd:=s.nd
 sub:=s.sub
 own:=s.own
 live:=λm hm=>by
  by_cases e:m=a
  . subst e;exact .inl ⟨_,aC,g1⟩
  .
   rcases s.live m hm with ⟨o,q,gr⟩ |q
   . exact .inl ⟨o,by rw[ao e];exact q,gr⟩
   . exact .inr q
 keep:=λb o e hb ht=>by rw[ao (λq=>by rw[q,h0]at e;cases e)];exact s.keep b o e hb ht
 gR:=s.gR
 m0:=s.m0
 bm:=s.bm
 iR:=s.iR
 tab:=λp hp=>(s.tab p hp).keep λb o e n=>by rw[ao (λq=>by rw[q,h]at e;cases e;exact n g0)];exact e
 tm:=s.tm
 tt:=s.tt
theorem S.drop(s:S z g O J M H)(h0:z.H0 p=none)(hA:p∉J):S z g O J (M.filter λm=>decide (m≠p)) H where
 sl:=s.sl.stay (ak.less λm hm=>(hV.mp hm).1) λ_ _ _ e=>e
 nd:=s.nd
 sub:=λa ha=>hV.mpr ⟨s.sub a ha,by have:a≠p:=λe=>hA (e▸ha);simpa using this⟩
 own:=s.own
 live:=λm hm=>s.live m (hV.mp hm).1
 keep:=s.keep
 gR:=λm hm=>hV.mpr ⟨s.gR m hm,by have:m≠p:=λe=>s.m0 m hm (e▸h0);simpa using this⟩
 m0:=s.m0
 bm:=s.bm
 iR:=s.iR
 tab:=s.tab
 tm:=s.tm
 tt:=s.tt
end
def cN(z:Z)(g:G)(O:Sg)(J M:List Addr)(H:Hp):R->V->Prop
 |.dat d,v=>Rep z.K M H d v
 |.new l,v=>∃a xs,v=.ref a/\a∈M/\a∉J/\z.H0 a=none/\H a=some (.lst xs)/\aJ z.K M H l xs
 |.var i,v=>∃l,g[i]?=some (.own l)/\O[i]?=some (some v)
inductive Pk(K:Frag)(M:List Addr)(H:Hp):D->V->Prop
 |of:Rep K M H d v->Pk K M H d v
 |lst {l:List D}{a:Addr}{xs:List V}:H a=some (.lst xs)->aJ K M H l xs->Pk K M H (.lst l) (.ref a)
theorem Pk.list{K:Frag}{M:List Addr}{H:Hp}{l:List D}{v:V}(h:Pk K M H (.lst l) v):∃a xs,v=.ref a/\H a=some (.lst xs)/\aJ K M H l xs:=by
 cases h with
 |of r=>cases r with |lst h1 h2=>exact⟨_,_,rfl,h1.2,h2⟩
 |lst h1 h2=>exact⟨_,_,rfl,h1,h2⟩
theorem Slots.at{K:Frag}{M:List Addr}{H:Hp}{g:G}{O:Sg}{J:List Addr}{i:Nat}{l:List D}(q:Slots K M H g O J)(e:g[i]?=some (.own l)):∃a xs,O[i]?=some (some (.ref a))/\a∈J/\H a=some (.lst xs)/\aJ K M H l xs:=by
 induction q generalizing i with
 |nil=>exact nomatch (show none=some (Slot.own l)from e)
 |no q ih=>cases i with
  |zero=>exact nomatch (show some Slot.no=some (Slot.own l)from e)
  |succ i=>exact ih e
 |dat r q ih=>cases i with
  |zero=>exact nomatch (show some (Slot.dat _)=some (Slot.own l)from e)
  |succ i=>exact ih e
 |own h r q ih=>cases i with
  |zero=>cases (show some (Slot.own _)=some (Slot.own l)from e);exact⟨_,_,rfl,dA,h,r⟩
  |succ i=>obtain⟨a,xs,h1,h2,h3⟩:=ih e;exact⟨a,xs,h1,b0 _ h2,h3⟩
theorem Slots.wC{K:Frag}{M:List Addr}{H:Hp}{g:G}{O:Sg}{J:List Addr}{i:Nat}{d:D}(q:Slots K M H g O J)(e:g[i]?=some (.dat d)):∃v,O[i]?=some (some v)/\Rep K M H d v:=by
 induction q generalizing i with
 |nil=>exact nomatch (show none=some (Slot.dat d)from e)
 |no q ih=>cases i with
  |zero=>exact nomatch (show some Slot.no=some (Slot.dat d)from e)
  |succ i=>exact ih e
 |dat r q ih=>cases i with
  |zero=>cases (show some (Slot.dat _)=some (Slot.dat d)from e);exact⟨_,rfl,r⟩
  |succ i=>exact ih e
 |own h r q ih=>cases i with
  |zero=>exact nomatch (show some (Slot.own _)=some (Slot.dat d)from e)
  |succ i=>exact ih e
theorem Slots.length{K:Frag}{M:List Addr}{H:Hp}{g:G}{O:Sg}{J:List Addr}(q:Slots K M H g O J):g.length=O.length:=by
 induction q with
 |nil=>rfl
 |no q ih=>exact congrArg (· + 1) ih
 |dat r q ih=>exact congrArg (· + 1) ih
 |own h r q ih=>exact congrArg (· + 1) ih
theorem Slots.fB{K:Frag}{M:List Addr}{H:Hp}{d:D}{v:V}(r:Rep K M H d v){g:G}{O:Sg}{J:List Addr}(i:Nat)(q:Slots K M H g O J):∃aA,Slots K M H (g.set i (.dat d)) (O.set i (some v)) aA/\aA.Sublist J:=by
 induction q generalizing i with
 |nil=>exact⟨[],.nil,.slnil⟩
 |no q ih=>cases i with
  |zero=>exact⟨_,.dat r q,List.Sublist.refl _⟩
  |succ i=>obtain⟨aA,h1,h2⟩:=ih i;exact⟨aA,.no h1,h2⟩
 |dat r' q ih=>cases i with
  |zero=>exact⟨_,.dat r q,List.Sublist.refl _⟩
  |succ i=>obtain⟨aA,h1,h2⟩:=ih i;exact⟨aA,.dat r' h1,h2⟩
 |own e r' q ih=>cases i with
  |zero=>exact⟨_,.dat r q,List.sublist_cons_self _ _⟩
  |succ i=>obtain⟨aA,h1,h2⟩:=ih i;exact⟨_::aA,.own e r' h1,h2.cons₂ _⟩
theorem Slots.freeze{K:Frag}{M M':List Addr}{H:Hp}(hM:∀m∈M',m∈M){g:G}{O:Sg}{J:List Addr}{i:Nat}{l:List D}{a:Addr}(q:Slots K M H g O J)(e:g[i]?=some (.own l))(e2:O[i]?=some (some (.ref a)))(na:a∉M')(nd:J.Nodup) :
  ∃aA,Slots K M' H (g.set i (.dat (.lst l))) O aA/\aA.Sublist J/\a∉aA:=by
 induction q generalizing i with
 |nil=>exact nomatch (show none=some (Slot.own l)from e)
 |no q ih=>cases i with
  |zero=>exact nomatch (show some Slot.no=some (Slot.own l)from e)
  |succ i=>obtain⟨aA,h1,h2,h3⟩:=ih e e2 nd;exact⟨aA,.no h1,h2,h3⟩
 |dat r q ih=>cases i with
  |zero=>exact nomatch (show some (Slot.dat _)=some (Slot.own l)from e)
  |succ i=>obtain⟨aA,h1,h2,h3⟩:=ih e e2 nd;exact⟨aA,.dat (r.stay (ak.less hM)) h1,h2,h3⟩
 |@own g O J b xs ds h r q ih=>cases i with
  |zero=>
   cases (show some (Slot.own _)=some (Slot.own l)from e)
   cases (show some (some (V.ref b))=some (some (V.ref a))from e2)
   exact⟨_,.dat (.lst ⟨na,h⟩ (r.stay (ak.less hM))) (q.stay (ak.less hM) λ_ _ _ e=>e),List.sublist_cons_self _ _,(fN.mp nd).1⟩
  |succ i=>
   obtain⟨aA,h1,h2,h3⟩:=ih e e2 (fN.mp nd).2;refine⟨b::aA,.own h (r.stay (ak.less hM)) h1,h2.cons₂ _,λhm=>?_⟩
   rcases dL.mp hm with z |z
   .
    obtain⟨c,xs,z1,z2,_⟩:=q.at (i:=i) e;cases (show some (some (V.ref c))=some (some (V.ref a))from z1.symm.trans e2)
    exact (fN.mp nd).1 (by rw[<- z];exact z2)
   . exact h3 z
theorem Slots.change{K:Frag}{M:List Addr}{H H':Hp}{l':List D}{a:Addr}{xs':List V}(st:ak M H M H')(ha:H' a=some (.lst xs'))(r':aJ K M H' l' xs'){g:G}{O:Sg}{J:List Addr}{i:Nat}{l:List D}(q:Slots K M H g O J)(e:g[i]?=some (.own l))(e2:O[i]?=some (some (.ref a)))(nd:J.Nodup)
  (k:∀b∈J,b≠a->∀o,H b=some o->H' b=some o):Slots K M H' (g.set i (.own l')) O J:=by
 induction q generalizing i with
 |nil=>exact nomatch (show none=some (Slot.own l)from e)
 |no q ih=>cases i with
  |zero=>exact nomatch (show some Slot.no=some (Slot.own l)from e)
  |succ i=>exact .no (ih e e2 nd k)
 |dat r q ih=>cases i with
  |zero=>exact nomatch (show some (Slot.dat _)=some (Slot.own l)from e)
  |succ i=>exact .dat (r.stay st) (ih e e2 nd k)
 |@own g O J b xs ds h r q ih=>cases i with
  |zero=>
   cases (show some (some (V.ref b))=some (some (V.ref a))from e2)
   exact .own ha r' (q.stay st λc hc o e=>k c (b0 _ hc) (λz=>(fN.mp nd).1 (by rw[<- z];exact hc)) o e)
  |succ i=>
   refine .own (k b dA (λz=>?_) _ h) (r.stay st) (ih e e2 (fN.mp nd).2 λc hc=>k c (b0 _ hc))
   obtain⟨c,xs,z1,z2,_⟩:=q.at (i:=i) e;cases (show some (some (V.ref c))=some (some (V.ref a))from z1.symm.trans e2)
   exact (fN.mp nd).1 (by rw[z];exact z2)
section
variable{g:G}
theorem eY(h:(g.set i (.dat d))[j]?=some (.own l)):g[j]?=some (.own l)/\j≠i:=by
 by_cases e:i=j
 .
  subst e;by_cases hi:i<g.length
  . rw[fI hi]at h;symm
  . rw[yB.mpr (by rw[kS];lia)]at h;symm
 . rw[eD e]at h;exact⟨h,oQ e⟩
theorem S.freeze(s:S z g O J M H){i:Nat}{l:List D}(hg:g[i]?=some (.own l))(hb:i∉z.bor):∃aA M',S z (g.set i (.dat (.lst l))) O aA M' H/\ak M H M' H:=by
 obtain⟨a,xs,e1,e2,e3,e4⟩:=s.sl.at hg;have h0:z.H0 a=none:=(s.own i a l hg e1).elim (λq=>absurd q.1 hb) id
 have hM:∀m∈(M.filter λm=>decide (m≠a)),m∈M:=λm hm=>(hV.mp hm).1
 have na:a∉(M.filter λm=>decide (m≠a)):=λhm=>by
  have:=(hV.mp hm).2;simp at this
 obtain⟨aA,q1,q2,q3⟩:=s.sl.freeze hM hg e1 na s.nd;refine⟨aA,_,⟨q1,s.nd.sublist q2,λb hb=>hV.mpr ⟨s.sub b (q2.subset hb),?_⟩,λj b l' h1 h2=>s.own j b l' (eY h1).1 h2,λm hm=>s.live m (hM m hm),s.keep,λm hm=>hV.mpr ⟨s.gR m hm,?_⟩,s.m0,s.bm,λp hp=>⟨(s.iR p hp).1,?_⟩,s.tab,s.tm,s.tt⟩,ak.less hM⟩
 rotate_left 2
 .
  have:i≠p.1:=λe=>hb (by rw[e];exact r6 (f:=(·.1)) hp)
  rw[eD this];exact (s.iR p hp).2
 .
  have:b≠a:=λe=>q3 (e▸hb)
  simpa using this
 .
  have:m≠a:=λe=>s.m0 m hm (e▸h0)
  simpa using this
theorem S.write(s:S z g O J M H){i:Nat}{l l':List D}{a:Addr}{xs':List V}(hg:g[i]?=some (.own l))(e1:O[i]?=some (some (.ref a)))(r:aJ z.K M H l' xs'):S z (g.set i (.own l')) O J M (upd H a (.lst xs'))/\ak M H M (upd H a (.lst xs')):=by
 obtain⟨b,xs,e2,e3,e4,e5⟩:=s.sl.at hg;rw[e1]at e2;injection e2 with e2;injection e2 with e2;injection e2 with e2;subst e2;have st:ak M H M (upd H a (.lst xs')):=ak.write (s.sub a e3);refine⟨⟨s.sl.change st aC (r.stay st) hg e1 s.nd (λb _ ne o e=>by rw[ao ne];exact e),s.nd,s.sub,λj b l2 h1 h2=>?_,λm hm=>?_,λb o e hb ht=>?_,s.gR,s.m0,s.bm,λp hp=>⟨(s.iR p hp).1,?_⟩,λp h=>(s.tab p h).keep λb u e nl=>?_,s.tm,s.tt⟩,st⟩
 rotate_left 3
 .
  by_cases hj:i=p.1
  . rw[<- hj];exact⟨l',fI (dE.mp hg).1⟩
  . rw[eD hj];exact (s.iR p hp).2
 .
  have:b≠a:=λz2=>by subst z2;rw[e4]at e;cases e;exact nl trivial
  rw[ao this];exact e
 .
  by_cases hj:i=j
  . subst hj;exact s.own i b l hg h2
  . rw[eD hj]at h1;exact s.own j b l2 h1 h2
 .
  by_cases hm2:m=a
  . subst hm2;exact .inl ⟨_,aC,trivial⟩
  .
   rcases s.live m hm with ⟨o,e,gr⟩ |e
   . exact .inl ⟨o,by rw[ao hm2];exact e,gr⟩
   . exact .inr e
 .
  have q:=s.keep b o e hb ht;have:b≠a:=λz2=>by
   subst z2;rcases s.own i b l hg e1 with w |w
   . exact hb w.2
   . rw[w]at e;cases e
  rw[ao this];exact q
theorem S.fB(s:S z g O J M H)(hb:i∉z.bor)(r:Rep z.K M H d v):∃aA,S z (g.set i (.dat d)) (O.set i (some v)) aA M H:=by
 obtain⟨aA,h1,h2⟩:=s.sl.fB r i;refine⟨aA,h1,s.nd.sublist h2,λa ha=>s.sub a (h2.subset ha),λj b l h3 h4=>?_,s.live,s.keep,s.gR,s.m0,s.bm,λp hp=>?_,s.tab,s.tm,s.tt⟩
 rotate_left
 .
  have:i≠p.1:=λe=>hb (by rw[e];exact r6 (f:=(·.1)) hp)
  rw[eD this,eD this];exact s.iR p hp
 obtain⟨h5,h6⟩:=eY h3;rw[eD (oQ h6)]at h4;exact s.own j b l h5 h4
theorem Slots.qE{K:Frag}{a:Addr}{xs:List V}{l:List D}(h:H a=some (.lst xs))(r:aJ K M H l xs){g:G}{O:Sg}{J:List Addr}(i:Nat)(q:Slots K M H g O J)(hi:i<g.length):∃aA,Slots K M H (g.set i (.own l)) (O.set i (some (.ref a))) aA/\(∀b∈aA,b=a\/b∈J)/\(J.Nodup->a∉J->aA.Nodup):=by
 induction q generalizing i with
 |nil=>exact absurd hi (Nat.not_lt_zero _)
 |no q ih=>cases i with
  |zero=>exact⟨_,.own h r q,λb hb=>dL.mp hb,λnd na=>fN.mpr ⟨na,nd⟩⟩
  |succ i=>obtain⟨aA,h1,h2,h3⟩:=ih i (A7 hi);exact⟨aA,.no h1,h2,h3⟩
 |dat r' q ih=>cases i with
  |zero=>exact⟨_,.own h r q,λb hb=>dL.mp hb,λnd na=>fN.mpr ⟨na,nd⟩⟩
  |succ i=>obtain⟨aA,h1,h2,h3⟩:=ih i (A7 hi);exact⟨aA,.dat r' h1,h2,h3⟩
 |@own g O J c ys ds e r' q ih=>cases i with
  |zero=>exact⟨_,.own h r q,λb hb=>(dL.mp hb).imp id (b0 _),λnd na=>fN.mpr ⟨λz=>na (b0 _ z),(fN.mp nd).2⟩⟩
  |succ i=>obtain⟨aA,h1,h2,h3⟩:=ih i (A7 hi);exact⟨c::aA,.own e r' h1,λb hb=>(dL.mp hb).elim (λz=>.inr (z▸dA)) λz=>(h2 b z).imp id (b0 _),λnd na=>fN.mpr ⟨λz=>(h2 c z).elim (λw=>na (w▸dA)) (fN.mp nd).1,h3 (fN.mp nd).2 λw=>na (b0 _ w)⟩⟩
theorem S.qE(s:S z g O J M H){i:Nat}{l:List D}{a:Addr}{xs:List V}(hb:i∉z.bor)(hi:i<g.length)(hm:a∈M)(hA:a∉J)(h0:z.H0 a=none)(h:H a=some (.lst xs))(r:aJ z.K M H l xs):∃aA,S z (g.set i (.own l)) (O.set i (some (.ref a))) aA M H:=by
 obtain⟨aA,h1,h2,h3⟩:=s.sl.qE h r i hi;refine⟨aA,h1,h3 s.nd hA,λb hb=>(h2 b hb).elim (λe=>e▸hm) (s.sub b),λj b l2 h4 h5=>?_,s.live,s.keep,s.gR,s.m0,s.bm,λp hp=>?_,s.tab,s.tm,s.tt⟩
 rotate_left
 .
  have:i≠p.1:=λe=>hb (by rw[e];exact r6 (f:=(·.1)) hp)
  rw[eD this,eD this];exact s.iR p hp
 by_cases hj:i=j
 .
  subst hj;rw[fI (by rw[<- s.sl.length];exact hi)]at h5
  injection h5 with h5;injection h5 with h5;injection h5 with h5;subst h5;exact .inr h0
 . rw[eD hj]at h4 h5;exact s.own j b l2 h4 h5
end
abbrev Kn (z:Z) (g':G) (O:Sg) (M:List Addr) (H:Hp) (r:R) (Q:VK):Prop:=
 ∀v H' aA M',S z g' O aA M' H'->ak M H M' H'->cN z g' O aA M' H' r v->Q v H'
def az(X:Cx)(z:Z)(e:Expr)(g:G)(r:R)(g':G):Prop:=
 ∃t,PE X e t/\∀O J M H Q,S z g O J M H->Kn z g' O M H r Q->t O H Q
def bZ(X:Cx)(z:Z)(e:Expr)(g:G)(b:Bool)(g':G):Prop:=
 ∃t,PT X e t/\∀O J M H (Q:Bool->Hp->Prop),S z g O J M H->(∀H' aA M',S z g' O aA M' H'->ak M H M' H'->Q b H')->t O H Q
def ku(X:Cx)(z:Z)(f:Value->Value->Sem Value)(d1 d2:D)(res:R):Prop:=
 ∃r:R2,j9 X f r/\∀g O J M H v1 v2 Q,S z g O J M H->Pk z.K M H d1 v1->Pk z.K M H d2 v2->Kn z g O M H res Q->r v1 v2 H Q
def RP(X:Cx)(z:Z)(d1 d2:D)(res:R):Prop:=
 ∃r:R2,Ua X r/\∀g O J M H v1 v2 Q,S z g O J M H->Pk z.K M H d1 v1->Pk z.K M H d2 v2->Kn z g O M H res Q->r v1 v2 H Q
def UnD(X:Cx)(z:Z)(f:Value->Sem Value)(d:D)(res:R):Prop:=
 ∃r:V->Hp->VK->Prop,WR X f r/\∀g O J M H v Q,S z g O J M H->Pk z.K M H d v->Kn z g O M H res Q->r v H Q
noncomputable def pk:R->G->Option D
 |.dat d,_=>some d
 |.new _,_=>none
 |.var i,g=>match g[i]? with |some (.own l)=>some (.lst l) |some (.dat (.lst l))=>some (.lst l) |_=>none
section
theorem S.pk(s:S z g2 O J M2 H2)(st:ak M1 H1 M2 H2)(q:cN z g1 O aO M1 H1 r v)(h:pk r g2=some d):Pk z.K M2 H2 d v:=by
 cases r with
 |dat d'=>have e:d'=d:=oC h;subst e;exact .of (Rep.stay st q)
 |new l=>symm
 |var i=>
  obtain⟨l,h1,h2⟩:=q;unfold Ev.pk at h;dsimp only at h;split at h
  . rename_i l' hg;have e:=oC h;subst e;obtain⟨a,xs,e1,e2,e3,e4⟩:=s.sl.at hg;rw[h2]at e1;injection e1 with e1;injection e1 with e1;subst e1;exact .lst e3 e4
  . rename_i l' hg;have e:=oC h;subst e;obtain⟨w,e1,e2⟩:=s.sl.wC hg;rw[h2]at e1;injection e1 with e1;injection e1 with e1;exact .of (e1▸e2)
  . symm
theorem M8{i j}:az X z (.Constant (.int i) j pos) g ‹i› g:=⟨_,z7,λO J M H Q s k=>k _ _ _ _ s (ak.refl _ _) (.int i)⟩
theorem Up{i j}:az X z (.Constant (.bool i) j pos) g (.dat (.bl i)) g:=⟨_,Td,λO J M H Q s k=>k _ _ _ _ s (ak.refl _ _) (.bl i)⟩
theorem M9{j}:az X z (.Constant .none j pos) g (.dat .non) g:=⟨_,z8,λO J M H Q s k=>k _ _ _ _ s (ak.refl _ _) .non⟩
theorem Nb{x j}:az X z (.Constant (.str x) j pos) g (.dat (.str x)) g:=⟨_,LC,λO J M H Q s k=>k _ _ _ _ s (ak.refl _ _) (.str x)⟩
theorem Nc{i:Nat}{x:Str}(hN:X.N[i]?=some x)(hv:oK X.env.scope x)(hd:(x==(~~~3))=false)(bY:(x==("__classdict__":Str))=false)(hg:g[i]?=some (.dat d)):az X z (.Name x pos) g (.dat d) g:=
 ⟨_,fW hN hv hd bY,λO J M H Q s k=>let ⟨v,e,r⟩:=s.sl.wC hg;⟨v,e,k v H J M s (ak.refl _ _) r⟩⟩
theorem GR(hN:X.N[i]?=some x)(hv:oK X.env.scope x)(hd:(x==(~~~3))=false)(bY:(x==("__classdict__":Str))=false)(hg:g[i]?=some (.own l)):az X z (.Name x pos) g (.var i) g:=
 ⟨_,fW hN hv hd bY,λO J M H Q s k=>let ⟨a,xs,e,r⟩:=s.sl.at hg;⟨_,e,k _ H J M s (ak.refl _ _) ⟨l,hg,e⟩⟩⟩
theorem GX(hg:Gl X x)(hm:X.mg x=some u)(r:RelV v u)(hr:∀M H,Rep z.K M H d v)(hd:(x==(~~~3))=false):az X z (.Name x pos) g (.dat d) g:=
 ⟨_,v8 hg hm r hd,λO J M H Q s k=>k _ H J M s (ak.refl _ _) (hr M H)⟩
theorem lW(h:az X z e g (.new l) g'):az X z e g (.dat (.lst l)) g':=by
 obtain⟨t,p,q⟩:=h;refine⟨t,p,λO J M H Q s k=>q O J M H Q s λv H' aA M' s' st r=>?_⟩
 obtain⟨a,xs,rfl,hm,hA,h0,ha,rr⟩:=r;have hM:∀m∈(M'.filter λm=>decide (m≠a)),m∈M':=λm hm=>(hV.mp hm).1
 have na:a∉(M'.filter λm=>decide (m≠a)):=λhm=>by
  have:=(hV.mp hm).2;simp at this
 exact k _ H' aA _ (s'.drop h0 hA) (st.trans (ak.less hM)) (.lst ⟨na,ha⟩ (rr.stay (ak.less hM)))
theorem yq(h:az X z e g (.var i) g1)(hg:g1[i]?=some (.own l))(hb:i∉z.bor):az X z e g (.dat (.lst l)) (g1.set i (.dat (.lst l))):=by
 obtain⟨t,p,q⟩:=h;refine⟨t,p,λO J M H Q s k=>q O J M H Q s λv H' aA M' s' st r=>?_⟩
 obtain⟨l',h1,h2⟩:=r;obtain⟨bx,M2,s2,aP⟩:=s'.freeze hg hb;have hi:i<g1.length:=(dE.mp hg).1;obtain⟨v',e1,e2⟩:=s2.sl.wC (i:=i) (d:=.lst l) (by rw[fI hi])
 rw[h2]at e1;injection e1 with e1;injection e1 with e1;subst e1;exact k _ H' bx M2 s2 (st.trans aP) e2
theorem Ng(h1:az X z a g r1 g1)(h2:az X z b g1 r2 g2)(p1:pk r1 g2=some d1)(p2:pk r2 g2=some d2)(ho:ku X z (binaryOp op) d1 d2 r):az X z (.BinOp a op b pos) g r g2:=by
 obtain⟨t1,q1,k1⟩:=h1;obtain⟨t2,q2,k2⟩:=h2;obtain⟨rr,o,ko⟩:=ho;exact⟨_,Tw o q1 q2,λO J M H Q s k=>k1 O J M H _ s λv1 H1 aO M1 s1 cU R1=>k2 O aO M1 H1 _ s1 λv2 H2 bx M2 s2 aP R2=>
  ko g2 O bx M2 H2 v1 v2 Q s2 (s2.pk aP R1 p1) (s2.pk (ak.refl _ _) R2 p2) λv H' aA M' s' st' R'=>k v H' aA M' s' (cU.trans (aP.trans st')) R'⟩
theorem Nh(h1:az X z a g r1 g1)(h2:az X z b g1 r2 g2)(p1:pk r1 g2=some d1)(p2:pk r2 g2=some d2)(ho:ku X z (compareOp op) d1 d2 r)(hm:behindInMarks op b=false):az X z (.Compare a [op] [b] pos) g r g2:=by
 obtain⟨t1,q1,k1⟩:=h1;obtain⟨t2,q2,k2⟩:=h2;obtain⟨rr,o,ko⟩:=ho;exact⟨_,lu o q1 q2 hm,λO J M H Q s k=>k1 O J M H _ s λv1 H1 aO M1 s1 cU R1=>k2 O aO M1 H1 _ s1 λv2 H2 bx M2 s2 aP R2=>
  ko g2 O bx M2 H2 v1 v2 Q s2 (s2.pk aP R1 p1) (s2.pk (ak.refl _ _) R2 p2) λv H' aA M' s' st' R'=>k v H' aA M' s' (cU.trans (aP.trans st')) R'⟩
theorem Uq(h1:az X z a g r1 g1)(h2:az X z b g1 r2 g2)(p1:pk r1 g2=some d1)(p2:pk r2 g2=some d2)(ho:RP X z d1 d2 r)(hs:qu b):az X z (.Subscript a b pos) g r g2:=by
 obtain⟨t1,q1,k1⟩:=h1;obtain⟨t2,q2,k2⟩:=h2;obtain⟨rr,o,ko⟩:=ho;exact⟨_,Ub o q1 q2 hs,λO J M H Q s k=>k1 O J M H _ s λv1 H1 aO M1 s1 cU R1=>k2 O aO M1 H1 _ s1 λv2 H2 bx M2 s2 aP R2=>
  ko g2 O bx M2 H2 v1 v2 Q s2 (s2.pk aP R1 p1) (s2.pk (ak.refl _ _) R2 p2) λv H' aA M' s' st' R'=>k v H' aA M' s' (cU.trans (aP.trans st')) R'⟩
theorem Ur(h1:az X z a g r1 g1)(p1:pk r1 g1=some d1)(ho:UnD X z (unaryOp op) d1 r):az X z (.UnaryOp op a pos) g r g1:=by obtain⟨t1,q1,k1⟩:=h1;obtain⟨rr,o,ko⟩:=ho;exact⟨_,Ku o q1,λO J M H Q s k=>k1 O J M H _ s λv1 H1 aO M1 s1 cU R1=>ko g1 O aO M1 H1 v1 Q s1 (s1.pk (ak.refl _ _) R1 p1) λv H' aA M' s' st' R'=>k v H' aA M' s' (cU.trans st') R'⟩
theorem eu(q:cN z g O J M H (.dat (.bl c)) v):v=.bl c:=by have q':Rep z.K M H (.bl c) v:=q;cases q';rfl
theorem Ni(h1:az X z a g r1 g1)(h2:az X z b g1 r2 g2)(p1:pk r1 g2=some d1)(p2:pk r2 g2=some d2)(ho:ku X z (compareOp op) d1 d2 (.dat (.bl c)))(hm:behindInMarks op b=false):bZ X z (.Compare a [op] [b] pos) g c g2:=by
 obtain⟨t1,q1,k1⟩:=h1;obtain⟨t2,q2,k2⟩:=h2;obtain⟨rr,o,ko⟩:=ho;exact⟨_,qm o q1 q2 hm,λO J M H Q s k=>k1 O J M H _ s λv1 H1 aO M1 s1 cU R1=>k2 O aO M1 H1 _ s1 λv2 H2 bx M2 s2 aP R2=>
  ko g2 O bx M2 H2 v1 v2 _ s2 (s2.pk aP R1 p1) (s2.pk (ak.refl _ _) R2 p2) λv H' aA M' s' st' R'=>⟨c,eu R',k H' aA M' s' (cU.trans (aP.trans st'))⟩⟩
theorem Nj(h:bZ X z a g c g'):bZ X z (.UnaryOp .Not a pos) g (!c) g':=by obtain⟨t,q,k⟩:=h;exact⟨_,z9 q,λO J M H Q s kk=>k O J M H _ s λH' aA M' s' st=>kk H' aA M' s' st⟩
def kW(X:Cx)(z:Z)(e:Expr)(g:G)(b:Bool)(g':G):Prop:=
 ∃t,PW X e t/\∀O J M H (Q:Bool->Hp->Prop),S z g O J M H->(∀H' aA M',S z g' O aA M' H'->ak M H M' H'->Q b H')->t O H Q
theorem kW.tr(h:kW X z e g c g'):bZ X z e g c g':=let ⟨t,q,k⟩:=h;⟨t,q.pt,k⟩
theorem GZ(h:bZ X z a g c g'):kW X z (.BoolOp .And [a] pos) g c g':=let ⟨t,q,k⟩:=h;⟨t,pw_and1 q,k⟩
theorem Nk(h:bZ X z a g c g'):kW X z (.BoolOp .Or [a] pos) g c g':=let ⟨t,q,k⟩:=h;⟨t,pw_or1 q,k⟩
def tNo:TT:=λ_ _ _=>False
theorem pw_never:PW X e tNo:=λ_ _ _ _ _ _ _ h=>h.elim
theorem fZ:PE X e (λ_ _ _=>False):=λ_ _ _ _ _ _ h=>h.elim
theorem G0{rest:List Expr}(h:bZ X z a g false g1):kW X z (.BoolOp .And (a::b::rest) pos) g false g1:=by obtain⟨t,q,k⟩:=h;exact⟨_,pw_and q pw_never,λO J M H Q s kk=>k O J M H _ s λH' aA M' s' st=>nX (kk H' aA M' s' st)⟩
theorem G3{rest:List Expr}{c:Bool}(h:bZ X z a g true g1)(h2:kW X z (.BoolOp .And (b::rest) pos) g1 c g2):kW X z (.BoolOp .And (a::b::rest) pos) g c g2:=by obtain⟨t,q,k⟩:=h;obtain⟨t2,q2,k2⟩:=h2;exact⟨_,pw_and q q2,λO J M H Q s kk=>k O J M H _ s λH' aA M' s' st=>jN (k2 O aA M' H' Q s' λH2 bx M2 s2 aP=>kk H2 bx M2 s2 (st.trans aP))⟩
theorem Nm{rest:List Expr}(h:bZ X z a g true g1):kW X z (.BoolOp .Or (a::b::rest) pos) g true g1:=by obtain⟨t,q,k⟩:=h;exact⟨_,pw_or q pw_never,λO J M H Q s kk=>k O J M H _ s λH' aA M' s' st=>jN (kk H' aA M' s' st)⟩
theorem Np{rest:List Expr}{c:Bool}(h:bZ X z a g false g1)(h2:kW X z (.BoolOp .Or (b::rest) pos) g1 c g2):kW X z (.BoolOp .Or (a::b::rest) pos) g c g2:=by obtain⟨t,q,k⟩:=h;obtain⟨t2,q2,k2⟩:=h2;exact⟨_,pw_or q q2,λO J M H Q s kk=>k O J M H _ s λH' aA M' s' st=>nX (k2 O aA M' H' Q s' λH2 bx M2 s2 aP=>kk H2 bx M2 s2 (st.trans aP))⟩
theorem Az(h:az X z a g r g'):az X z (.BoolOp op [a] pos) g r g':=let ⟨t,q,k⟩:=h;⟨t,LQ q,k⟩
theorem G4{rest:List Expr}(h:az X z a g (.dat (.bl false)) g1):az X z (.BoolOp .And (a::b::rest) pos) g (.dat (.bl false)) g1:=by obtain⟨t,q,k⟩:=h;exact⟨_,Aa q fZ,λO J M H Q s kk=>k O J M H _ s λv H' aA M' s' st R=>⟨false,eu R,nX (kk _ H' aA M' s' st (.bl false))⟩⟩
theorem G5{rest:List Expr}(h:az X z a g (.dat (.bl true)) g1)(h2:az X z (.BoolOp .And (b::rest) pos) g1 r g2):az X z (.BoolOp .And (a::b::rest) pos) g r g2:=by obtain⟨t,q,k⟩:=h;obtain⟨t2,q2,k2⟩:=h2;exact⟨_,Aa q q2,λO J M H Q s kk=>k O J M H _ s λv H' aA M' s' st R=>⟨true,eu R,jN (k2 O aA M' H' Q s' λv2 H2 bx M2 s2 aP=>kk v2 H2 bx M2 s2 (st.trans aP))⟩⟩
theorem Nq{rest:List Expr}(h:az X z a g (.dat (.bl true)) g1):az X z (.BoolOp .Or (a::b::rest) pos) g (.dat (.bl true)) g1:=by obtain⟨t,q,k⟩:=h;exact⟨_,Kq q fZ,λO J M H Q s kk=>k O J M H _ s λv H' aA M' s' st R=>⟨true,eu R,jN (kk _ H' aA M' s' st (.bl true))⟩⟩
theorem Nr{rest:List Expr}(h:az X z a g (.dat (.bl false)) g1)(h2:az X z (.BoolOp .Or (b::rest) pos) g1 r g2):az X z (.BoolOp .Or (a::b::rest) pos) g r g2:=by obtain⟨t,q,k⟩:=h;obtain⟨t2,q2,k2⟩:=h2;exact⟨_,Kq q q2,λO J M H Q s kk=>k O J M H _ s λv H' aA M' s' st R=>⟨false,eu R,nX (k2 O aA M' H' Q s' λv2 H2 bx M2 s2 aP=>kk v2 H2 bx M2 s2 (st.trans aP))⟩⟩
theorem Nt(h:az X z a g (.dat (.bl c)) g1):az X z (.UnaryOp .Not a pos) g (.dat (.bl (!c))) g1:=by obtain⟨t,q,k⟩:=h;exact⟨_,LR q,λO J M H Q s kk=>k O J M H _ s λv H' aA M' s' st R=>⟨c,eu R,kk _ H' aA M' s' st (.bl _)⟩⟩
theorem Nu(h:bZ X z c g true g1)(h2:az X z a g1 r g2):az X z (.IfExp c a b pos) g r g2:=by obtain⟨t,q,k⟩:=h;obtain⟨t2,q2,k2⟩:=h2;exact⟨_,su q q2 fZ,λO J M H Q s kk=>k O J M H _ s λH' aA M' s' st=>jN (k2 O aA M' H' Q s' λv2 H2 bx M2 s2 aP=>kk v2 H2 bx M2 s2 (st.trans aP))⟩
theorem Nv(h:bZ X z c g false g1)(h2:az X z b g1 r g2):az X z (.IfExp c a b pos) g r g2:=by obtain⟨t,q,k⟩:=h;obtain⟨t2,q2,k2⟩:=h2;exact⟨_,su q fZ q2,λO J M H Q s kk=>k O J M H _ s λH' aA M' s' st=>nX (k2 O aA M' H' Q s' λv2 H2 bx M2 s2 aP=>kk v2 H2 bx M2 s2 (st.trans aP))⟩
inductive iE(z:Z)(O:Sg)(M:List Addr)(H:Hp):List R->List V->Prop
 |nil:iE z O M H [] []
 |dat {d:D}{v:V}{rs:List R}{vs:List V}:Rep z.K M H d v->iE z O M H rs vs->iE z O M H (.dat d::rs) (v::vs)
 |var {i:Nat}{v:V}{rs:List R}{vs:List V}:O[i]?=some (some v)->iE z O M H rs vs->iE z O M H (.var i::rs) (v::vs)
def cV(X:Cx)(z:Z)(es:List Expr)(g:G)(rs:List R)(g':G):Prop:=
 ∃t,PA X es t/\∀O J M H (Q:List V->Hp->Prop),S z g O J M H->(∀vs H' aA M',S z g' O aA M' H'->ak M H M' H'->iE z O M' H' rs vs->Q vs H')->t O H Q
theorem gi:cV X z [] g [] g:=⟨_,fz,λO J M H Q s k=>k [] H J M s (ak.refl _ _) .nil⟩
theorem fD(h:az X z e g (.dat d) g1)(h2:cV X z es g1 rs g2)(hs:starEach (e::es) X.env=(false,eval e X.env)::starEach es X.env):cV X z (e::es) g (.dat d::rs) g2:=by obtain⟨t,q,k⟩:=h;obtain⟨t2,q2,k2⟩:=h2;exact⟨_,bH q q2 hs,λO J M H Q s kk=>k O J M H _ s λv H' aA M' s' st R=>k2 O aA M' H' _ s' λvs H2 bx M2 s2 aP R2=>kk _ H2 bx M2 s2 (st.trans aP) (.dat (Rep.stay aP R) R2)⟩
theorem Ba(h:az X z e g (.var i) g1)(h2:cV X z es g1 rs g2)(hs:starEach (e::es) X.env=(false,eval e X.env)::starEach es X.env):cV X z (e::es) g (.var i::rs) g2:=by obtain⟨t,q,k⟩:=h;obtain⟨t2,q2,k2⟩:=h2;exact⟨_,bH q q2 hs,λO J M H Q s kk=>k O J M H _ s λv H' aA M' s' st ⟨_,_,R⟩=>k2 O aA M' H' _ s' λvs H2 bx M2 s2 aP R2=>kk _ H2 bx M2 s2 (st.trans aP) (.var R R2)⟩
inductive G6(K:Frag)(M:List Addr)(H:Hp):List D->List V->Prop
 |nil:G6 K M H [] []
 |cons {d:D}{v:V}{ds:List D}{vs:List V}:Pk K M H d v->G6 K M H ds vs->G6 K M H (d::ds) (v::vs)
def sI:List R->G->Option (List D)
 | [],_=>some []
 |r::rs,g=>match pk r g,sI rs g with
  |some d,some ds=>some (d::ds)
  |_,_=>none
theorem S.sI(s:S z g O J M H)(q:iE z O M H rs vs)(e:sI rs g=some ds):G6 z.K M H ds vs:=by
 induction q generalizing ds with
 |nil=>cases e;exact .nil
 |@dat d v rs vs r q ih=>
  unfold Ev.sI at e;cases e2:Ev.sI rs g with
  |none=>rw[e2]at e;cases e
  |some ds=>rw[e2]at e;cases e;exact .cons (.of r) (ih e2)
 |@var i v rs vs r q ih=>
  unfold Ev.sI at e;cases e1:Ev.pk (.var i) g with
  |none=>rw[e1]at e;cases e
  |some d=>
   cases e2:Ev.sI rs g with
   |none=>rw[e1,e2]at e;cases e
   |some ds=>
    rw[e1,e2]at e;cases e;unfold Ev.pk at e1;dsimp only at e1;split at e1
    . rename_i l hg;cases e1;obtain⟨a,xs,h1,h2,h3,h4⟩:=s.sl.at hg;rw[r]at h1;injection h1 with h1;injection h1 with h1;subst h1;exact .cons (.lst h3 h4) (ih e2)
    . rename_i l hg;cases e1;obtain⟨w,h1,h2⟩:=s.sl.wC hg;rw[r]at h1;injection h1 with h1;injection h1 with h1;exact .cons (.of (h1▸h2)) (ih e2)
    . cases e1
noncomputable def sJ:List R->Option (List D)
 | []=>some []
 |.dat d::rs=>match sJ rs with |some ds=>some (d::ds) |none=>none
 |_::_=>none
theorem wD(q:iE z O M H rs vs)(e:sJ rs=some ds):aJ z.K M H ds vs:=by
 induction q generalizing ds with
 |nil=>cases e;exact .nil
 |@dat d v rs vs r q ih=>
  unfold sJ at e;cases e2:sJ rs with
  |none=>rw[e2]at e;cases e
  |some ds=>rw[e2]at e;cases e;exact .cons r (ih e2)
 |var _ _ _=>cases e
theorem oY(h:n<=16777216):n<=sizeLine:=by rw[rV];exact h
theorem Nx{x1}(h:cV X z es g rs g')(hd:sJ rs=some ds)(hl:ds.length<=16777216):az X z (.Tuple es x1 pos) g (.dat (.tup ds)) g':=by
 obtain⟨t,q,k⟩:=h;refine⟨_,Ak q,λO J M H Q s kk=>k O J M H _ s λvs H' aA M' s' st R=>?_⟩
 have rr:=wD R hd;refine⟨by rw[<- rr.length];exact oY hl,λp hp=>kk _ _ aA M' (s'.laid hp) (st.trans (ak.laid hp)) (.tup (.inl ⟨s'.fresh hp,.inl aC⟩) (rr.stay (ak.laid hp)))⟩
theorem Ny(h:cV X z es g rs g')(hd:sJ rs=some ds)(hl:ds.length<=16777216):az X z (.List es pos) g (.new ds) g':=by
 obtain⟨t,q,k⟩:=h;refine⟨_,Al q,λO J M H Q s kk=>k O J M H _ s λvs H' aA M' s' st R=>?_⟩
 have rr:=wD R hd;refine⟨by rw[<- rr.length];exact oY hl,λp hp=>kk _ _ aA (p::M') (s'.bf hp) (st.trans (ak.bf hp)) ⟨p,vs,rfl,dA,λhA=>s'.fresh hp (s'.sub p hA),s'.dB hp,aC,rr.stay (ak.bf hp)⟩⟩
def CallD(X:Cx)(z:Z)(f:Value)(ds:List D)(res:R):Prop:=
 ∃r,dX X f r/\∀g O J M H vs Q,S z g O J M H->G6 z.K M H ds vs->Kn z g O M H res Q->r vs H Q
theorem Bb{x:Str}{id:String}{p:Pos}{es:List Expr}{rs:List R}{ds:List D}(h:cV X z (e::es) g rs g')(hp:sI rs g'=some ds)(hc:CallD X z (.builtin id) ds r)(hg:Gl X x)(hm:X.mg x=none)(hv:bootBuiltins x=some (.builtin id))(hn:x≠ "__name__")(iB:(x==(~~~3))=false)
  (he:starEach (e::es) X.env=(false,eval e X.env)::starEach es X.env) (jG:(backTo pos (starEach es X.env)).any (·.1)=false):az X z (.Call (.Name x p) (e::es) [] pos) g r g':=by
 obtain⟨t,q,k⟩:=h;obtain⟨rr,c,kc⟩:=hc;exact⟨_,iY c hg hm hv q hn iB he jG,λO J M H Q s kk=>k O J M H _ s λvs H' aA M' s' st R=>kc g' O aA M' H' vs Q s' (s'.sI R hp) λv H2 bx M2 s2 aP R2=>kk v H2 bx M2 s2 (st.trans aP) R2⟩
theorem yr(h:cV X z (e::es) g rs g')(hp:sI rs g'=some ds)(hc:CallD X z (.type T) ds r)(hg:Gl X x)(hm:X.mg x=none)(hv:bootBuiltins x=some (.type T))(hn:x≠ "__name__")(iB:(x==(~~~3))=false)
  (he:starEach (e::es) X.env=(false,eval e X.env)::starEach es X.env) (jG:(backTo pos (starEach es X.env)).any (·.1)=false):az X z (.Call (.Name x p) (e::es) [] pos) g r g':=by
 obtain⟨t,q,k⟩:=h;obtain⟨rr,c,kc⟩:=hc;exact⟨_,yh c hg hm hv q hn iB he jG,λO J M H Q s kk=>k O J M H _ s λvs H' aA M' s' st R=>kc g' O aA M' H' vs Q s' (s'.sI R hp) λv H2 bx M2 s2 aP R2=>kk v H2 bx M2 s2 (st.trans aP) R2⟩
end
mutual
noncomputable def eG:D->D->Bool
 |.non,.non=>true
 |.bl a,.bl b=>a==b
 |.bl a,.int j=>(if a then 1 else 0)==j
 |.int i,.bl b=>i==(if b then 1 else 0)
 |.int i,.int j=>i==j
 |.str x,.str y=>x==y
 |.tup l,.tup m=>dI l m
 |.lst l,.lst m=>dI l m
 |.lst l,.fix m=>dI l m
 |.fix l,.lst m=>dI l m
 |.fix l,.fix m=>dI l m
 |_,_=>false
noncomputable def dI:List D->List D->Bool
 | [],[]=>true
 |a::l,b::m=>eG a b&&dI l m
 |_,_=>false
end
mutual
noncomputable def dep:D->Nat
 |.tup l=>deps l+1
 |.lst l=>deps l+1
 |.fix l=>deps l+1
 |_=>0
noncomputable def deps:List D->Nat
 | []=>0
 |d::l=>max (dep d) (deps l)
end
mutual
noncomputable def lz:D->Bool
 |.tup l=>lX l
 |.lst l=>lX l
 |.fix l=>lX l
 |.emp=>false
 |.kr _=>false
 |.ym ..=>false
 |_=>true
noncomputable def lX:List D->Bool
 | []=>true
 |d::l=>lz d&&lX l
end
mutual
inductive Dv(h:Heap):D->Value->Prop
 |non:Dv h .non .none
 |bl (b:Bool):Dv h (.bl b) (.bool b)
 |int (i:Int) (t:Tok):Dv h (.int i) (.int i t)
 |str (x:Str) (t:Tok):Dv h (.str x) (.str x t)
 |tup {l:List D}{a:Addr}{us:List Value}:IsTup h a us.toArray->nZ h l us->Dv h (.tup l) (.ref a)
 |lst {l:List D}{a:Addr}{us:List Value}:h.IsList a us.toArray->nZ h l us->Dv h (.lst l) (.ref a)
 |fix {l:List D}{a:Addr}{us:List Value}:h.IsList a us.toArray->nZ h l us->Dv h (.fix l) (.ref a)
inductive nZ(h:Heap):List D->List Value->Prop
 |nil:nZ h [] []
 |cons {d:D}{ds:List D}{u:Value}{us:List Value}:Dv h d u->nZ h ds us->nZ h (d::ds) (u::us)
end
section
theorem Rep.dv2(I: ~~~7)(q:Rep X.K M H d v):∀u,RelV v u->lz d=true->Dv s.heap d u:=by
 refine Rep.rec (motive_1:=λd v _=>∀u,RelV v u->lz d=true->Dv s.heap d u) (motive_2:=λds vs _=>∀us,Vals vs us->lX ds=true->nZ s.heap ds us) ?_ ?_ ?_ ?_ ?_ ?_ ?_ ?_ ?_ ?_ ?_ ?_ q
 . intro u r _;cases r;exact .non
 . intro b u r _;cases r;exact .bl b
 . intro i u r _;obtain⟨t,rfl⟩:=r;exact .int i t
 . intro x u r _;obtain⟨t,rfl⟩:=r;exact .str x t
 . intro l a xs h _ ih u r p;cases r;obtain⟨its,rv,ht,hz⟩:=I.tuple h.sq;exact .tup ht (ih _ rv p)
 . intro l a xs h _ ih u r p;cases r;obtain⟨its,rv,ht,hz⟩:=I.list (cG.of h.2);exact .lst ht.isList (ih _ rv p)
 . intro l a xs h _ ih u r p;cases r;obtain⟨its,rv,ht,hz⟩:=I.list h.sq;exact .fix ht.isList (ih _ rv p)
 . intro a _ _ u _ p;exact Bool.noConfusion (show false=true from p)
 . intro C a _ _ _ u _ p;exact Bool.noConfusion (show false=true from p)
 . intro ks ds a vs _ _ _ _ _ u _ p;exact Bool.noConfusion (show false=true from p)
 . intro us r _;cases r;exact .nil
 .
  intro d ds x xs _ _ i1 i2 us r p;cases r with
  |cons r1 r2=>have p:(lz d&&lX ds)=true:=p;rw[eP]at p;exact .cons (i1 _ r1 p.1) (i2 _ r2 p.2)
theorem Rep.dv(I: ~~~7)(q:Rep X.K M H d v)(r:RelV v u)(p:lz d=true):Dv s.heap d u:=q.dv2 I u r p
theorem aJ.dv(I: ~~~7)(q:aJ X.K M H ds vs)(r:Vals vs us)(p:lX ds=true):nZ s.heap ds us:=by
 induction ds generalizing vs us with
 |nil=>cases q;cases r;exact .nil
 |cons d ds ih=>cases q with |cons q1 q2=>cases r with |cons r1 r2=>have p:(lz d&&lX ds)=true:=p;rw[eP]at p;exact .cons (q1.dv I r1 p.1) (ih q2 r2 p.2)
theorem Pk.dv(I: ~~~7)(h:Pk X.K M H d v)(r:RelV v u)(p:lz d=true):Dv s.heap d u:=by
 cases h with
 |of q=>exact q.dv I r p
 |lst h q=>cases r;obtain⟨its,rv,ht,hz⟩:=I.list (cG.of h);exact .lst ht.isList (aJ.dv I q rv (by simpa [lz]using p))
end
theorem nZ.length(q:nZ h l us):l.length=us.length:=by
 induction l generalizing us with
 |nil=>cases q;rfl
 |cons d l ih=>cases q with |cons a b=>exact congrArg (· + 1) (ih b)
theorem yt{h:Heap}{a:Addr}{us ws:List Value}(x:IsTup h a us.toArray)(y:IsTup h a ws.toArray):us=ws:=by obtain⟨o,e,_,n,d⟩:=x;obtain⟨o',e',_,n',d'⟩:=y;rw[e]at e';cases e';rw[d]at d';injection d' with d1 _;simpa using congrArg Array.toList d1
theorem fE{h:Heap}{a:Addr}{us ws:List Value}(x:h.IsList a us.toArray)(y:h.IsList a ws.toArray):us=ws:=by obtain⟨o,e,_,n,d⟩:=x;obtain⟨o',e',_,n',d'⟩:=y;rw[e]at e';cases e';rw[d]at d';injection d' with d1 _;simpa using congrArg Array.toList d1
theorem je(x:IsTup h a us)(y:h.IsList a ws):False:=by obtain⟨o,e,c,_⟩:=x;obtain⟨o',e',c',_⟩:=y;rw[e]at e';cases e';rw[c]at c';injection c' with c';exact absurd c' ⋯
theorem Bc{h:Heap}{d1:D}{u:Value}(q:Dv h d1 u):∀d2,Dv h d2 u->eG d1 d2=true:=by
 refine Dv.rec (motive_1:=λd1 u _=>∀d2,Dv h d2 u->eG d1 d2=true) (motive_2:=λl us _=>∀m,nZ h m us->dI l m=true) ?_ ?_ ?_ ?_ ?_ ?_ ?_ ?_ ?_ q
 . intro d2 q;cases q;rfl
 . intro b d2 q;cases q;exact beq_self_eq_true b
 . intro i t d2 q;cases q;exact beq_self_eq_true i
 . intro x t d2 q;cases q;exact beq_self_eq_true x
 .
  intro l a us x _ ih d2 q;cases q with
  |tup y q'=>cases yt x y;exact ih _ q'
  |lst y _=>exact (je x y).elim
  |fix y _=>exact (je x y).elim
 .
  intro l a us x _ ih d2 q;cases q with
  |tup y _=>exact (je y x).elim
  |lst y q'=>cases fE x y;exact ih _ q'
  |fix y q'=>cases fE x y;exact ih _ q'
 .
  intro l a us x _ ih d2 q;cases q with
  |tup y _=>exact (je y x).elim
  |lst y q'=>cases fE x y;exact ih _ q'
  |fix y q'=>cases fE x y;exact ih _ q'
 . intro m q;cases q;rfl
 .
  intro d ds u us _ _ i1 i2 m q;cases q with
  |@cons d' m _ _ b q'=>show (eG d d'&&dI ds m)=true;rw[i1 _ b,i2 _ q'];rfl
theorem G7(q:Dv h d1 u)(q':Dv h d2 u):eG d1 d2=true:=Bc q d2 q'
def KJ(l m:List D)(j:Nat):Bool:=match l[j]?,m[j]? with |some a,some b=>eG a b |_,_=>false
theorem lY(l m:List D)(h:l.length=m.length):(List.range l.length).all (KJ l m)=dI l m:=by
 induction l generalizing m with
 |nil=>cases m with
  |nil=>rfl
  |cons _ _=>symm
 |cons a l ih=>cases m with
  |nil=>symm
  |cons b m=>rw[i3,List.range_succ_eq_map,List.all_cons,Cn];have e:(KJ (a::l) (b::m) ∘ Nat.succ)=KJ l m:=rfl;rw[e,ih m (BF h)];rfl
theorem lZ(l m:List D)(h:l.length≠m.length):dI l m=false:=by
 induction l generalizing m with
 |nil=>cases m with
  |nil=>exact absurd rfl h
  |cons _ _=>rfl
 |cons a l ih=>cases m with
  |nil=>rfl
  |cons b m=>show (eG a b&&dI l m)=false;rw[ih m (λe=>h (congrArg (· + 1) e)),CA]
theorem sL(l m:List D):((List.range (min l.length m.length)).all (KJ l m)&&l.length==m.length)=dI l m:=by
 by_cases h:l.length=m.length
 . rw[h,Nat.min_self,<- h,lY l m h];simp
 .
  rw[lZ l m h];have:(l.length==m.length)=false:=by simpa using h
  rw[this,CA]
theorem sM{l:List D}{j:Nat}{d:D}(e:l[j]?=some d):dep d<=deps l:=by
 induction l generalizing j with
 |nil=>exact nomatch (show none=some d from e)
 |cons d' l ih=>cases j with
  |zero=>cases (show some d'=some d from e);exact Nat.le_max_left _ _
  |succ j=>exact oI (ih (show l[j]?=some d from e)) (Nat.le_max_right _ _)
theorem nZ.get{h:Heap}{l:List D}{us:List Value}{j:Nat}{u:Value}(q:nZ h l us)(e:us[j]?=some u):∃d,l[j]?=some d/\Dv h d u:=by
 induction l generalizing us j with
 |nil=>cases q;exact nomatch (show none=some u from e)
 |cons d' l ih=>cases q with |@cons _ _ u' us a b=>cases j with
  |zero=>cases (show some u'=some u from e);exact⟨_,rfl,a⟩
  |succ j=>obtain⟨d,h⟩:=ih (j:=j) b e;exact⟨d,h⟩
theorem in1_units(A:Around):A.in1.units=A.units+1:=rfl
section
theorem jf(hl:s.heap.IsList l us.toArray)(hb:s.heap.IsList b ws.toArray)(q:nZ s.heap ls us)(q':nZ s.heap ms ws)(hu:A.units<cLine)
  (he:∀(j:Nat) d1 d2 u1 u2,ls[j]?=some d1->Dv s.heap d1 u1->Dv s.heap d2 u2->SeqAt.EqAt A.in1 s u1 u2 (eG d1 d2)):SeqAt.RcAt A s (.ref l) (.ref b) (dI ls ms):=by
 have h1:=q.length;have h2:=q'.length;by_cases h:ls.length=ms.length
 .
  rw[<- lY ls ms h];have e:us.toArray.size=ls.length:=by rw[dC,h1]
  rw[<- e];refine SeqAt.RcAt.lists hl hb (by rw[dC,dC];lia) hu λj g1 g2=>?_
  rw[dC]at g1 g2;obtain⟨d1,e1,v1⟩:=q.get (j:=j) (u:=us[j]) (by simp[g1])
  obtain⟨d2,e2,v2⟩:=q'.get (j:=j) (u:=ws[j]) (by simp[g2])
  have:=he j d1 d2 us[j] ws[j] e1 v1 v2;simpa [KJ,e1,e2]using this
 . rw[lZ ls ms h];refine SeqAt.RcAt.lists_lengths hl hb ?_ hu;rw[dC,dC];simp only[bne_iff_ne];lia
theorem yu(hl:IsTup s.heap l us.toArray)(hb:IsTup s.heap b ws.toArray)(q:nZ s.heap ls us)(q':nZ s.heap ms ws)(hu:A.units<cLine)
  (he:∀(j:Nat) d1 d2 u1 u2,ls[j]?=some d1->Dv s.heap d1 u1->Dv s.heap d2 u2->SeqAt.EqAt A.in1 s u1 u2 (eG d1 d2)):SeqAt.RcAt A s (.ref l) (.ref b) (dI ls ms):=by
 have h1:=q.length;have h2:=q'.length;have e:us.toArray.size=ls.length:=by rw[dC,h1]
 have e':ws.toArray.size=ms.length:=by rw[dC,h2]
 rw[<- sL,<- e,<- e'];refine SeqAt.RcAt.tuples hl hb hu λj g1 g2=>?_
 rw[dC]at g1 g2;obtain⟨d1,e1,v1⟩:=q.get (j:=j) (u:=us[j]) (by simp[g1])
 obtain⟨d2,e2,v2⟩:=q'.get (j:=j) (u:=ws[j]) (by simp[g2])
 have:=he j d1 d2 us[j] ws[j] e1 v1 v2;simpa [KJ,e1,e2]using this
theorem gj(x:Dv s.heap d1 (.ref l))(y:Dv s.heap d2 (.ref b))(h:SeqAt.RcAt A s (.ref l) (.ref b) (eG d1 d2)):SeqAt.EqAt A s (.ref l) (.ref b) (eG d1 d2):=by
 by_cases e:l=b
 . subst e;rw[G7 x y];exact .same _
 . exact .of_refs e h
end
theorem KN{s:Shared}:∀(n:Nat) {d1 d2:D}{u1 u2:Value}{A:Around},dep d1<=n->Dv s.heap d1 u1->Dv s.heap d2 u2->A.units+n<cLine->SeqAt.EqAt A s u1 u2 (eG d1 d2)/\SeqAt.RcAt A s u1 u2 (eG d1 d2):=by
 intro n
 induction n with
 |zero=>
  intro d1 d2 u1 u2 A hn x y hu;have aM:A.units<cLine:=by lia
  cases x with
  |tup h q=>exact absurd hn (AJ _)
  |lst h q=>exact absurd hn (AJ _)
  |fix h q=>exact absurd hn (AJ _)
  |non=>
   cases y with
   |non=>exact⟨.same _,.none_none⟩
   |bl c'=>exact⟨.none_bool c',.none_bool c'⟩
   |int c' t'=>exact⟨.none_int c' t',.none_int c' t'⟩
   |str c' t'=>exact⟨.none_str c' t',.none_str c' t'⟩
   |tup h' q'=>exact⟨.none_tuple h' aM,.none_tuple h' aM⟩
   |lst h' q'=>exact⟨.none_list h' aM,.none_list h' aM⟩
   |fix h' q'=>exact⟨.none_list h' aM,.none_list h' aM⟩
  |bl c=>
   cases y with
   |non=>exact⟨.bool_none c,.bool_none c⟩
   |bl c'=>exact⟨.bool_bool c c',.bool_bool c c'⟩
   |int c' t'=>exact⟨.bool_int c c' t',.bool_int c c' t'⟩
   |str c' t'=>exact⟨.bool_str c c' t',.bool_str c c' t'⟩
   |tup h' q'=>exact⟨.bool_tuple c h' aM,.bool_tuple c h' aM⟩
   |lst h' q'=>exact⟨.bool_list c h' aM,.bool_list c h' aM⟩
   |fix h' q'=>exact⟨.bool_list c h' aM,.bool_list c h' aM⟩
  |int c t=>
   cases y with
   |non=>exact⟨.int_none c t,.int_none c t⟩
   |bl c'=>exact⟨.int_bool c t c',.int_bool c t c'⟩
   |int c' t'=>exact⟨.int_int c t c' t',.int_int c t c' t'⟩
   |str c' t'=>exact⟨.int_str c t c' t',.int_str c t c' t'⟩
   |tup h' q'=>exact⟨.int_tuple c t h' aM,.int_tuple c t h' aM⟩
   |lst h' q'=>exact⟨.int_list c t h' aM,.int_list c t h' aM⟩
   |fix h' q'=>exact⟨.int_list c t h' aM,.int_list c t h' aM⟩
  |str c t=>
   cases y with
   |non=>exact⟨.str_none c t,.str_none c t⟩
   |bl c'=>exact⟨.str_bool c t c',.str_bool c t c'⟩
   |int c' t'=>exact⟨.str_int c t c' t',.str_int c t c' t'⟩
   |str c' t'=>exact⟨.str_str c t c' t',.str_str c t c' t'⟩
   |tup h' q'=>exact⟨.str_tuple c t h' aM,.str_tuple c t h' aM⟩
   |lst h' q'=>exact⟨.str_list c t h' aM,.str_list c t h' aM⟩
   |fix h' q'=>exact⟨.str_list c t h' aM,.str_list c t h' aM⟩
 |succ n ih=>
  intro d1 d2 u1 u2 A hn x y hu;have aM:A.units<cLine:=by lia
  have el:∀{l:List D},deps l<=n->∀(j:Nat) d1 d2 u1 u2,l[j]?=some d1->Dv s.heap d1 u1->Dv s.heap d2 u2->SeqAt.EqAt A.in1 s u1 u2 (eG d1 d2):=λhl j d1 d2 u1 u2 e v1 v2=>
   (ih (oI (sM e) hl) v1 v2 (by rw[in1_units];lia)).1
  cases x with
  |@tup l0 a0 us0 h q=>
   have hn':deps l0<=n:=A8 hn;have x:=Dv.tup h q;cases y with
   |tup h' q'=>have r:=yu h h' q q' aM (el hn');exact⟨gj x (.tup h' q') r,r⟩
   |lst h' q'=>exact⟨.tuple_list h h' aM,.tuple_list h h' aM⟩
   |fix h' q'=>exact⟨.tuple_list h h' aM,.tuple_list h h' aM⟩
   |non=>exact⟨.tuple_none h aM,.tuple_none h aM⟩
   |bl b=>exact⟨.tuple_bool b h aM,.tuple_bool b h aM⟩
   |int b t=>exact⟨.tuple_int b t h aM,.tuple_int b t h aM⟩
   |str b t=>exact⟨.tuple_str b t h aM,.tuple_str b t h aM⟩
  |@lst l0 a0 us0 h q=>
   have hn':deps l0<=n:=A8 hn;have x:=Dv.lst h q;cases y with
   |tup h' q'=>exact⟨.list_tuple h h' aM,.list_tuple h h' aM⟩
   |lst h' q'=>have r:=jf h h' q q' aM (el hn');exact⟨gj x (.lst h' q') r,r⟩
   |fix h' q'=>have r:=jf h h' q q' aM (el hn');exact⟨gj x (.fix h' q') r,r⟩
   |non=>exact⟨.list_none h aM,.list_none h aM⟩
   |bl b=>exact⟨.list_bool b h aM,.list_bool b h aM⟩
   |int b t=>exact⟨.list_int b t h aM,.list_int b t h aM⟩
   |str b t=>exact⟨.list_str b t h aM,.list_str b t h aM⟩
  |@fix l0 a0 us0 h q=>
   have hn':deps l0<=n:=A8 hn;have x:=Dv.fix h q;cases y with
   |tup h' q'=>exact⟨.list_tuple h h' aM,.list_tuple h h' aM⟩
   |lst h' q'=>have r:=jf h h' q q' aM (el hn');exact⟨gj x (.lst h' q') r,r⟩
   |fix h' q'=>have r:=jf h h' q q' aM (el hn');exact⟨gj x (.fix h' q') r,r⟩
   |non=>exact⟨.list_none h aM,.list_none h aM⟩
   |bl b=>exact⟨.list_bool b h aM,.list_bool b h aM⟩
   |int b t=>exact⟨.list_int b t h aM,.list_int b t h aM⟩
   |str b t=>exact⟨.list_str b t h aM,.list_str b t h aM⟩
  |non=>
   cases y with
   |non=>exact⟨.same _,.none_none⟩
   |bl c'=>exact⟨.none_bool c',.none_bool c'⟩
   |int c' t'=>exact⟨.none_int c' t',.none_int c' t'⟩
   |str c' t'=>exact⟨.none_str c' t',.none_str c' t'⟩
   |tup h' q'=>exact⟨.none_tuple h' aM,.none_tuple h' aM⟩
   |lst h' q'=>exact⟨.none_list h' aM,.none_list h' aM⟩
   |fix h' q'=>exact⟨.none_list h' aM,.none_list h' aM⟩
  |bl c=>
   cases y with
   |non=>exact⟨.bool_none c,.bool_none c⟩
   |bl c'=>exact⟨.bool_bool c c',.bool_bool c c'⟩
   |int c' t'=>exact⟨.bool_int c c' t',.bool_int c c' t'⟩
   |str c' t'=>exact⟨.bool_str c c' t',.bool_str c c' t'⟩
   |tup h' q'=>exact⟨.bool_tuple c h' aM,.bool_tuple c h' aM⟩
   |lst h' q'=>exact⟨.bool_list c h' aM,.bool_list c h' aM⟩
   |fix h' q'=>exact⟨.bool_list c h' aM,.bool_list c h' aM⟩
  |int c t=>
   cases y with
   |non=>exact⟨.int_none c t,.int_none c t⟩
   |bl c'=>exact⟨.int_bool c t c',.int_bool c t c'⟩
   |int c' t'=>exact⟨.int_int c t c' t',.int_int c t c' t'⟩
   |str c' t'=>exact⟨.int_str c t c' t',.int_str c t c' t'⟩
   |tup h' q'=>exact⟨.int_tuple c t h' aM,.int_tuple c t h' aM⟩
   |lst h' q'=>exact⟨.int_list c t h' aM,.int_list c t h' aM⟩
   |fix h' q'=>exact⟨.int_list c t h' aM,.int_list c t h' aM⟩
  |str c t=>
   cases y with
   |non=>exact⟨.str_none c t,.str_none c t⟩
   |bl c'=>exact⟨.str_bool c t c',.str_bool c t c'⟩
   |int c' t'=>exact⟨.str_int c t c' t',.str_int c t c' t'⟩
   |str c' t'=>exact⟨.str_str c t c' t',.str_str c t c' t'⟩
   |tup h' q'=>exact⟨.str_tuple c t h' aM,.str_tuple c t h' aM⟩
   |lst h' q'=>exact⟨.str_list c t h' aM,.str_list c t h' aM⟩
   |fix h' q'=>exact⟨.str_list c t h' aM,.str_list c t h' aM⟩
section
variable{K:Frag}
theorem Pk.int{i:Int}(h:Pk K M H (.int i) v):v=.int i:=by cases h with |of r=>cases r;rfl
theorem Pk.bl(h:Pk K M H (.bl i) v):v=.bl i:=by cases h with |of r=>cases r;rfl
theorem Pk.str(h:Pk K M H (.str i) v):v=.str i:=by cases h with |of r=>cases r;rfl
theorem Pk.non(h:Pk K M H .non v):v=.non:=by cases h with |of r=>cases r;rfl
theorem Pk.tup{l:List D}(h:Pk K M H (.tup l) v):∃a xs,v=.ref a/\TupAt K M H a xs/\aJ K M H l xs:=by cases h with |of r=>cases r with |tup h1 h2=>exact⟨_,_,rfl,h1,h2⟩
theorem Pk.fix{l:List D}(h:Pk K M H (.fix l) v):∃a xs,v=.ref a/\lV K M H a xs/\aJ K M H l xs:=by cases h with |of r=>cases r with |fix h1 h2=>exact⟨_,_,rfl,h1,h2⟩
end
section
theorem wF{f:Value->Value->Sem Value}{k:Int->Int->Int}{i j:Int}(h:j9 X f (Fy λi j=>.int (k i j))):ku X z f (.int i) (.int j) (.dat (.int (k i j))):=
 ⟨_,h,λg O J M H v1 v2 Q s p1 p2 kk=>⟨i,j,p1.int,p2.int,kk _ H J M s (ak.refl _ _) (.int _)⟩⟩
theorem qF{f:Value->Value->Sem Value}{C:Int->Int->Prop}{k:Int->Int->Int}{i j:Int}(h:j9 X f (rI C λi j=>.int (k i j)))(hc:C i j):ku X z f (.int i) (.int j) (.dat (.int (k i j))):=
 ⟨_,h,λg O J M H v1 v2 Q s p1 p2 kk=>⟨i,j,p1.int,p2.int,hc,kk _ H J M s (ak.refl _ _) (.int _)⟩⟩
theorem qG{f:Value->Value->Sem Value}{k:Int->Int->Bool}{i j:Int}(h:j9 X f (Fy λi j=>.bl (k i j))):ku X z f (.int i) (.int j) (.dat (.bl (k i j))):=
 ⟨_,h,λg O J M H v1 v2 Q s p1 p2 kk=>⟨i,j,p1.int,p2.int,kk _ H J M s (ak.refl _ _) (.bl _)⟩⟩
def Nz(z:Z)(d1 d2:D)(b:Bool):R2:=λx y H Q=>(∃M,Pk z.K M H d1 x/\Pk z.K M H d2 y)/\Q (.bl b) H
theorem Us(hK:z.K=X.K)(p1:lz d1=true)(p2:lz d2=true)(hd:X.A.units+dep d1<cLine):ku X z (compareOp .Eq) d1 d2 (.dat (.bl (eG d1 d2))):=by
 refine⟨Nz z d1 d2 (eG d1 d2),?_,λg O J M H v1 v2 Q s q1 q2 kk=>⟨⟨M,q1,q2⟩,kk _ H J M s (ak.refl _ _) (.bl _)⟩⟩
 intro ah s O H x y v u Q I rx ry h;obtain⟨⟨M,q1,q2⟩,q⟩:=h;rw[hK]at q1 q2;exact (KN (dep d1) (eA _) (q1.dv I rx p1) (q2.dv I ry p2) hd).2 X.prog X.w X.xe _ ⟨.bl _,H,I,rfl,q⟩
section
theorem jg(hl:s.heap.IsList l us.toArray)(hb:s.heap.IsList b ws.toArray)(q:nZ s.heap ls us)(q':nZ s.heap ms ws)(hu:A.units<cLine)
  (he:∀(j:Nat) d1 d2 u1 u2,ls[j]?=some d1->Dv s.heap d1 u1->Dv s.heap d2 u2->SeqAt.EqAt A.in1 s u1 u2 (eG d1 d2)):SeqAt.RcNeAt A s (.ref l) (.ref b) (!dI ls ms):=by
 have h1:=q.length;have h2:=q'.length;by_cases h:ls.length=ms.length
 .
  rw[<- lY ls ms h];have e:us.toArray.size=ls.length:=by rw[dC,h1]
  rw[<- e];refine SeqAt.RcNeAt.lists hl hb (by rw[dC,dC];lia) hu λj g1 g2=>?_
  rw[dC]at g1 g2;obtain⟨d1,e1,v1⟩:=q.get (j:=j) (u:=us[j]) (by simp[g1])
  obtain⟨d2,e2,v2⟩:=q'.get (j:=j) (u:=ws[j]) (by simp[g2])
  have:=he j d1 d2 us[j] ws[j] e1 v1 v2;simpa [KJ,e1,e2]using this
 . rw[lZ ls ms h];refine SeqAt.RcNeAt.lists_lengths hl hb ?_ hu;rw[dC,dC];simp only[bne_iff_ne];lia
theorem yw(hl:IsTup s.heap l us.toArray)(hb:IsTup s.heap b ws.toArray)(q:nZ s.heap ls us)(q':nZ s.heap ms ws)(hu:A.units<cLine)
  (he:∀(j:Nat) d1 d2 u1 u2,ls[j]?=some d1->Dv s.heap d1 u1->Dv s.heap d2 u2->SeqAt.EqAt A.in1 s u1 u2 (eG d1 d2)):SeqAt.RcNeAt A s (.ref l) (.ref b) (!dI ls ms):=by
 have h1:=q.length;have h2:=q'.length;have e:us.toArray.size=ls.length:=by rw[dC,h1]
 have e':ws.toArray.size=ms.length:=by rw[dC,h2]
 rw[<- sL,<- e,<- e'];refine SeqAt.RcNeAt.tuples hl hb hu λj g1 g2=>?_
 rw[dC]at g1 g2;obtain⟨d1,e1,v1⟩:=q.get (j:=j) (u:=us[j]) (by simp[g1])
 obtain⟨d2,e2,v2⟩:=q'.get (j:=j) (u:=ws[j]) (by simp[g2])
 have:=he j d1 d2 us[j] ws[j] e1 v1 v2;simpa [KJ,e1,e2]using this
end
theorem Ut(x:Dv s.heap d1 u1)(y:Dv s.heap d2 u2)(hu:A.units+dep d1<cLine):SeqAt.RcNeAt A s u1 u2 (!eG d1 d2):=by
 have aM:A.units<cLine:=by lia
 have el:∀{l:List D},deps l+1<=dep d1->∀(j:Nat) d1 d2 u1 u2,l[j]?=some d1->Dv s.heap d1 u1->Dv s.heap d2 u2->SeqAt.EqAt A.in1 s u1 u2 (eG d1 d2):=λhl j e1 e2 u1 u2 e v1 v2=>
  (KN (dep e1) (eA _) v1 v2 (by rw[in1_units];have:=sM e;lia)).1
 cases x with
 |tup h q=>
  cases y with
  |tup h' q'=>exact yw h h' q q' aM (el (by simp[dep]))
  |lst h' q'=>exact .tuple_list h h' aM
  |fix h' q'=>exact .tuple_list h h' aM
  |non=>exact .tuple_none h aM
  |bl b=>exact .tuple_bool b h aM
  |int b t=>exact .tuple_int b t h aM
  |str b t=>exact .tuple_str b t h aM
 |lst h q=>
  cases y with
  |tup h' q'=>exact .list_tuple h h' aM
  |lst h' q'=>exact jg h h' q q' aM (el (by simp[dep]))
  |fix h' q'=>exact jg h h' q q' aM (el (by simp[dep]))
  |non=>exact .list_none h aM
  |bl b=>exact .list_bool b h aM
  |int b t=>exact .list_int b t h aM
  |str b t=>exact .list_str b t h aM
 |fix h q=>
  cases y with
  |tup h' q'=>exact .list_tuple h h' aM
  |lst h' q'=>exact jg h h' q q' aM (el (by simp[dep]))
  |fix h' q'=>exact jg h h' q q' aM (el (by simp[dep]))
  |non=>exact .list_none h aM
  |bl b=>exact .list_bool b h aM
  |int b t=>exact .list_int b t h aM
  |str b t=>exact .list_str b t h aM
 |non=>
  cases y with
  |non=>exact .none_none
  |bl c'=>exact .none_bool c'
  |int c' t'=>exact .none_int c' t'
  |str c' t'=>exact .none_str c' t'
  |tup h' q'=>exact .none_tuple h' aM
  |lst h' q'=>exact .none_list h' aM
  |fix h' q'=>exact .none_list h' aM
 |bl c=>
  cases y with
  |non=>exact .bool_none c
  |bl c'=>exact .bool_bool c c'
  |int c' t'=>exact .bool_int c c' t'
  |str c' t'=>exact .bool_str c c' t'
  |tup h' q'=>exact .bool_tuple c h' aM
  |lst h' q'=>exact .bool_list c h' aM
  |fix h' q'=>exact .bool_list c h' aM
 |int c t=>
  cases y with
  |non=>exact .int_none c t
  |bl c'=>exact .int_bool c t c'
  |int c' t'=>exact .int_int c t c' t'
  |str c' t'=>exact .int_str c t c' t'
  |tup h' q'=>exact .int_tuple c t h' aM
  |lst h' q'=>exact .int_list c t h' aM
  |fix h' q'=>exact .int_list c t h' aM
 |str c t=>
  cases y with
  |non=>exact .str_none c t
  |bl c'=>exact .str_bool c t c'
  |int c' t'=>exact .str_int c t c' t'
  |str c' t'=>exact .str_str c t c' t'
  |tup h' q'=>exact .str_tuple c t h' aM
  |lst h' q'=>exact .str_list c t h' aM
  |fix h' q'=>exact .str_list c t h' aM
theorem Uu(hK:z.K=X.K)(p1:lz d1=true)(p2:lz d2=true)(hd:X.A.units+dep d1<cLine):ku X z (compareOp .NotEq) d1 d2 (.dat (.bl (!eG d1 d2))):=by
 refine⟨Nz z d1 d2 (!eG d1 d2),?_,λg O J M H v1 v2 Q s q1 q2 kk=>⟨⟨M,q1,q2⟩,kk _ H J M s (ak.refl _ _) (.bl _)⟩⟩
 intro ah s O H x y v u Q I rx ry h;obtain⟨⟨M,q1,q2⟩,q⟩:=h;rw[hK]at q1 q2;exact Ut (q1.dv I rx p1) (q2.dv I ry p2) hd X.prog X.w X.xe _ ⟨.bl _,H,I,rfl,q⟩
noncomputable def dD:D->Option (List D)
 |.lst l=>some l
 |.tup l=>some l
 |.fix l=>some l
 |_=>none
theorem Be(b:Bool)(r:RelV x v):plainIs v (.bool b)=true/\(v==Value.bool b)=decide (x=V.bl b):=by
 cases x with
 |non=>cases r;exact⟨rfl,rfl⟩
 |bl c=>cases r;exact⟨rfl,by cases c <;> cases b <;> rfl⟩
 |int _=>obtain⟨t,rfl⟩:=r;exact⟨rfl,rfl⟩
 |str _=>obtain⟨t,rfl⟩:=r;exact⟨rfl,rfl⟩
 |Kp _=>obtain⟨t,rfl⟩:=r;exact⟨rfl,rfl⟩
 |flt _=>obtain⟨t,rfl⟩:=r;exact⟨rfl,rfl⟩
 |ref _=>cases r;exact⟨rfl,rfl⟩
 |ty _=>cases r;exact⟨rfl,rfl⟩
def Uv(d:D)(b:Bool):Bool:=match d with |.bl c=>c==b |_=>false
theorem NB{K:Frag}{M:List Addr}{H:Hp}{d:D}{x:V}{b:Bool}(h:Pk K M H d x):decide (x=V.bl b)=Uv d b:=by
 cases h with
 |of r=>
  cases r with
  |bl c=>cases c <;> cases b <;> rfl
  |_=>rfl
 |lst _ _=>rfl
theorem Uw{d1:D}{b:Bool}:ku X z (compareOp .Is) d1 (.bl b) (.dat (.bl (Uv d1 b))):=by
 refine⟨Nz z d1 (.bl b) (Uv d1 b),?_,λg O J M H v1 v2 Q s q1 q2 kk=>⟨⟨M,q1,q2⟩,kk _ H J M s (ak.refl _ _) (.bl _)⟩⟩
 intro ah s O H x y v u Q I rx ry h;obtain⟨⟨M,q1,q2⟩,q⟩:=h;have e:=q2.bl;subst e;cases ry;obtain⟨h1,h2⟩:=Be b rx;refine wpAny_is_plain h1 ⟨.bl (Uv d1 b),H,I,?_,q⟩;rw[h2,NB q1];rfl
def n5(d:D):Bool:=match d with |.non=>true |_=>false
theorem NC{K:Frag}{M:List Addr}{H:Hp}{d:D}{x:V}(h:Pk K M H d x):decide (x=V.non)=n5 d:=by
 cases h with
 |of r=>cases r <;> rfl
 |lst _ _=>rfl
theorem NK{d1:D}:ku X z (compareOp .Is) d1 .non (.dat (.bl (n5 d1))):=
 ⟨_,Ms,λg O J M H v1 v2 Q s q1 q2 kk=>⟨q2.non,by rw[NC q1];exact kk _ H J M s (ak.refl _ _) (.bl _)⟩⟩
theorem NP(h:l.length+m.length<=16777216):ku X z (binaryOp .Add) (.lst l) (.lst m) (.new (l++m)):=by
 refine⟨_,MJ,λg O J M H v1 v2 Q s q1 q2 kk=>?_⟩
 obtain⟨a,xs,rfl,ha,ra⟩:=q1.list;obtain⟨b,ys,rfl,hb,rb⟩:=q2.list;refine⟨a,b,xs,ys,rfl,rfl,ha,hb,by rw[<- ra.length,<- rb.length];exact oY h,λp hp=>?_⟩
 exact kk _ _ J (p::M) (s.bf hp) (ak.bf hp) ⟨p,_,rfl,dA,λhA=>s.fresh hp (s.sub p hA),s.dB hp,aC,(ra.append rb).stay (ak.bf hp)⟩
theorem NQ(h1 : -(2 ^ 63)<=k)(h2:k<2 ^ 63)(h:l.length * k.toNat<=16777216):ku X z (binaryOp .Mult) (.lst l) (.int k) (.new (List.replicate k.toNat l).flatten):=by
 refine⟨_,MK,λg O J M H v1 v2 Q s q1 q2 kk=>?_⟩
 obtain⟨a,xs,rfl,ha,ra⟩:=q1.list;have rr:∀n,aJ z.K M H (List.replicate n l).flatten (List.replicate n xs).flatten:=λn=>by
  induction n with
  |zero=>simp;exact .nil
  |succ n ih=>rw[l9,l9,t6,t6];exact ra.append ih
 refine⟨a,k,xs,rfl,q2.int,ha,h1,h2,by rw[<- ra.length];exact oY h,λp hp=>?_⟩
 exact kk _ _ J (p::M) (s.bf hp) (ak.bf hp) ⟨p,_,rfl,dA,λhA=>s.fresh hp (s.sub p hA),s.dB hp,aC,(rr _).stay (ak.bf hp)⟩
def NR(K:Frag):R2:=λx y H Q=>∃a b xs ys,x=.ref a/\y=.ref b/\fX K H a xs/\fX K H b ys/\xs.length+ys.length<=sizeLine/\
 (xs=[]->Q (.ref b) H)/\(xs≠[]->ys=[]->Q (.ref a) H)/\(xs≠[]->ys≠[]->∀p,H p=none->Q (.ref p) (upd H p (.tup (xs++ys))))
theorem Bf:j9 X (binaryOp .Add) (NR X.K):=by
 intro ah s O H x y v u Q I rx ry h;obtain⟨a,b,xs,ys,rfl,rfl,ha,hb,hz,q0,q1,q2⟩:=h;by_cases hx:xs=[]
 .
  subst hx;cases rx;cases ry;obtain⟨its,r1,p1,_⟩:=I.tuple ha;obtain⟨Fw,r2,p2,_⟩:=I.tuple hb;cases r1;obtain⟨⟨cls,dd,data,sl⟩,ho,hc,n,hd⟩:=id p1;obtain⟨⟨Yl,dd2,data2,sl2⟩,ho2,hc2,n2,hd2⟩:=id p2;simp only at hc hd hc2 hd2;subst hc hd hc2 hd2;exact concat_meets ⟨_,ho,rfl⟩ ⟨_,ho2,rfl⟩ noFill_tuple_add seq_tuple_add AY AS (AO _ _)
   (tuple_addW0 a b #[] Fw.toArray n n2 dd dd2 sl sl2 ⋯) ⟨ho,ho2,⟨.ref b,H,I,rfl,q0 rfl⟩⟩
 . exact Gz ah s O H (.ref a) (.ref b) v u Q I rx ry ⟨a,b,xs,ys,rfl,rfl,ha,hb,hx,hz,q1 hx,q2 hx⟩
theorem G8(hK:z.K=X.K)(h:l.length+m.length<=16777216):ku X z (binaryOp .Add) (.tup l) (.tup m) (.dat (.tup (l++m))):=by
 refine⟨_,Bf,λg O J M H v1 v2 Q s q1 q2 kk=>?_⟩
 obtain⟨a,xs,rfl,ha,ra⟩:=q1.tup;obtain⟨b,ys,rfl,hb,rb⟩:=q2.tup;have la:=ra.length;have lb:=rb.length;refine⟨a,b,xs,ys,rfl,rfl,hK▸ha.sq,hK▸hb.sq,by rw[<- la,<- lb];exact oY h,λe=>?_,λe1 e2=>?_,λe1 e2 p hp=>?_⟩
 .
  subst e;cases l with
  |nil=>exact kk _ H J M s (ak.refl _ _) (.tup hb rb)
  |cons _ _=>simp at la
 .
  subst e2;cases m with
  |nil=>rw[mI]at kk;exact kk _ H J M s (ak.refl _ _) (.tup ha ra)
  |cons _ _=>simp at lb
 . exact kk _ _ J M (s.laid hp) (ak.laid hp) (.tup (.inl ⟨s.fresh hp,.inl aC⟩) ((ra.append rb).stay (ak.laid hp)))
theorem mh{K:Frag}{M:List Addr}{H:Hp}{l:List D}{xs:List V}{i:Int}{d:D}(r:aJ K M H l xs)(h:fM l i=some d):∃v,fM xs i=some v/\Rep K M H d v:=by
 unfold fM at h ⊢
 rw[<- r.length];cases e:rT l.length i with
 |none=>rw[e]at h;symm
 |some j=>rw[e]at h;have h':l[j]?=some d:=h;obtain⟨v,h1,h2⟩:=r.get h';exact⟨v,h1,h2⟩
theorem NT{l:List D}{i:Int}{d:D}(hK:z.K=X.K)(h:fM l i=some d):RP X z (.lst l) (.int i) (.dat d):=by
 refine⟨_,wu,λg O J M H v1 v2 Q s q1 q2 kk=>?_⟩
 obtain⟨a,xs,rfl,ha,ra⟩:=q1.list;obtain⟨v,e,r⟩:=mh ra h;exact⟨a,xs,i,v,rfl,q2.int,cG.of ha,e,kk _ H J M s (ak.refl _ _) r⟩
theorem NX{l:List D}{i:Int}{d:D}(hK:z.K=X.K)(h:fM l i=some d):RP X z (.fix l) (.int i) (.dat d):=by
 refine⟨_,wu,λg O J M H v1 v2 Q s q1 q2 kk=>?_⟩
 obtain⟨a,xs,rfl,ha,ra⟩:=q1.fix;obtain⟨v,e,r⟩:=mh ra h;exact⟨a,xs,i,v,rfl,q2.int,hK▸ha.sq,e,kk _ H J M s (ak.refl _ _) r⟩
theorem G9{l:List D}{i:Int}{d:D}(hK:z.K=X.K)(h:fM l i=some d):RP X z (.tup l) (.int i) (.dat d):=by
 refine⟨_,My,λg O J M H v1 v2 Q s q1 q2 kk=>?_⟩
 obtain⟨a,xs,rfl,ha,ra⟩:=q1.tup;obtain⟨v,e,r⟩:=mh ra h;exact⟨a,xs,i,v,rfl,q2.int,hK▸ha.sq,e,kk _ H J M s (ak.refl _ _) r⟩
noncomputable def cO:List D->Option (~~~0)
 | []=>some []
 |.int i::l=>match cO l with |some ns=>some (i::ns) |none=>none
 |_::_=>none
theorem bL{K:Frag}{M:List Addr}{H:Hp}{l:List D}{xs:List V}{ns: ~~~0}(q:aJ K M H l xs)(e:cO l=some ns):xs=ns.map V.int:=by
 induction l generalizing xs ns with
 |nil=>cases q;cases e;rfl
 |cons d l ih=>cases q with |cons r q=>cases d with
  |int i=>
   have e:(match cO l with |some ns=>some (i::ns) |none=>none)=some ns:=e
   cases e2:cO l with
   |none=>rw[e2]at e;cases e
   |some ns=>rw[e2]at e;cases e;cases r;rw[List.map_cons,ih q e2]
  |_=>cases e
theorem NZ:UnD X z (unaryOp .USub) (.int i) (.dat (.int (-i))):=⟨_,Ah,λg O J M H v Q s p k=>⟨i,p.int,k _ H J M s (ak.refl _ _) (.int _)⟩⟩
end
section
theorem G6.one{K:Frag}{M:List Addr}{H:Hp}{d:D}{vs:List V}(h:G6 K M H [d] vs):∃v,vs=[v]/\Pk K M H d v:=by cases h with |cons p q=>cases q;exact⟨_,rfl,p⟩
theorem G6.two{K:Frag}{M:List Addr}{H:Hp}{d e:D}{vs:List V}(h:G6 K M H [d,e] vs):∃v w,vs=[v,w]/\Pk K M H d v/\Pk K M H e w:=by cases h with |cons p q=>cases q with |cons p' q'=>cases q';exact⟨_,_,rfl,p,p'⟩
noncomputable def Ux:D->Option Nat
 |.lst l=>some l.length
 |.tup l=>some l.length
 |.fix l=>some l.length
 |_=>none
theorem N1{d:D}{n:Nat}(hK:z.K=X.K)(h:Ux d=some n):CallD X z (.builtin "len") [d] ‹n›:=by
 refine⟨_,Aj,λg O J M H vs Q s p k=>?_⟩
 obtain⟨v,rfl,pv⟩:=p.one;refine⟨v,n,rfl,?_,k _ H J M s (ak.refl _ _) (.int _)⟩;cases d with
 |lst l=>symm;obtain⟨a,xs,rfl,ha,r⟩:=pv.list;exact .inl ⟨xs,cG.of ha,r.length⟩
 |fix l=>symm;obtain⟨a,xs,rfl,ha,r⟩:=pv.fix;exact .inl ⟨xs,hK▸ha.sq,r.length⟩
 |tup l=>symm;obtain⟨a,xs,rfl,ha,r⟩:=pv.tup;exact .inr ⟨xs,hK▸ha.sq,r.length⟩
 |_=>symm
theorem Hf{d:D}{l:List D}(hK:z.K=X.K)(h:dD d=some l):CallD X z (.type "list") [d] (.new l):=by
 refine⟨_,qz,λg O J M H vs Q s p k=>?_⟩
 obtain⟨v,rfl,pv⟩:=p.one;have fin:∀xs,aJ z.K M H l xs->∀p,H p=none->Q (.ref p) (upd H p (.lst xs)):=λxs r p hp=>
  k _ _ J (p::M) (s.bf hp) (ak.bf hp) ⟨p,xs,rfl,dA,λhA=>s.fresh hp (s.sub p hA),s.dB hp,aC,r.stay (ak.bf hp)⟩
 cases d with
 |lst m=>symm;obtain⟨a,xs,rfl,ha,r⟩:=pv.list;exact⟨a,xs,rfl,.inl (cG.of ha),fin xs r⟩
 |fix m=>symm;obtain⟨a,xs,rfl,ha,r⟩:=pv.fix;exact⟨a,xs,rfl,.inl (hK▸ha.sq),fin xs r⟩
 |tup m=>symm;obtain⟨a,xs,rfl,ha,r⟩:=pv.tup;exact⟨a,xs,rfl,.inr (hK▸ha.sq),fin xs r⟩
 |_=>symm
theorem Bg{d:D}{l:List D}(hK:z.K=X.K)(h:dD d=some l):CallD X z (.type "tuple") [d] (.dat (.tup l)):=by
 refine⟨_,nW,λg O J M H vs Q s p k=>?_⟩
 obtain⟨v,rfl,pv⟩:=p.one;have fin:∀xs,aJ z.K M H l xs->∀p,H p=none->Q (.ref p) (upd H p (.tup xs)):=λxs r p hp=>
  k _ _ J M (s.laid hp) (ak.laid hp) (.tup (.inl ⟨s.fresh hp,.inl aC⟩) (r.stay (ak.laid hp)))
 cases d with
 |lst m=>symm;obtain⟨a,xs,rfl,ha,r⟩:=pv.list;exact⟨a,xs,rfl,.inl ⟨cG.of ha,fin xs r⟩⟩
 |fix m=>symm;obtain⟨a,xs,rfl,ha,r⟩:=pv.fix;exact⟨a,xs,rfl,.inl ⟨hK▸ha.sq,fin xs r⟩⟩
 |tup m=>symm;obtain⟨a,xs,rfl,ha,r⟩:=pv.tup;exact⟨a,xs,rfl,.inr ⟨hK▸ha.sq,k _ H J M s (ak.refl _ _) (.tup ha r)⟩⟩
 |_=>symm
theorem N2{i j:Int}(hc:X.calm=true):CallD X z (.builtin "max") [.int i,.int j] (.dat (.int (if j > i then j else i))):=by
 refine⟨_,yd hc,λg O J M H vs Q s p k=>?_⟩
 obtain⟨v,w,rfl,p1,p2⟩:=p.two;exact⟨i,j,by rw[p1.int,p2.int],k _ H J M s (ak.refl _ _) (.int _)⟩
theorem N3{i j:Int}(hc:X.calm=true):CallD X z (.builtin "min") [.int i,.int j] (.dat (.int (if j<i then j else i))):=by
 refine⟨_,yf hc,λg O J M H vs Q s p k=>?_⟩
 obtain⟨v,w,rfl,p1,p2⟩:=p.two;exact⟨i,j,by rw[p1.int,p2.int],k _ H J M s (ak.refl _ _) (.int _)⟩
end
section
theorem mj(hc:X.calm=true):dX X (.builtin "all") (λxs H Q=>∃(p:Addr) (bs:List Bool),xs=[.ref p]/\cG X.K H p (bs.map V.bl)/\Q (.bl (bs.all id)) H):=by
 intro ah s O H xs us Q I r h;obtain⟨p,bs,rfl,hp,q⟩:=h;obtain⟨u,rfl,rx⟩:=vals1 r;cases rx;obtain⟨its,rv,pl,hz⟩:=I.list hp;have jC:p<s⁻¹:=by obtain⟨_,e,_⟩:=pl.isList;exact d0 e
 have aV:its.length=bs.length:=by rw[<- rv.length,fR]
 have up:∀b o,s.heap.get? b=some o->(s.heap.push { cls:=.type "list_iterator",data:=.fields #[.ref p,.int 0 0]}).get? b=some o:=λb o e=>bP _ e
 refine call_all_walk (AF pl.isList ?_);refine⟨s⁻¹,_,_,_,_,_,λi=>bs.getD i true,rfl,Walks.list (A:=X.A.in1) (show X.A.in1.handled=none from I.ok.hd hc) s⁻¹ p (gL jC) its.toArray,⟨⟨_,d6 _ rfl,rfl,rfl⟩,pl.isList.push _⟩,?_,λh' tk hk=>?_⟩
 .
  intro i v s' Q' E' hv hq;have hv':its[i]?=some v:=by simpa using hv
  have hi:i<bs.length:=by rw[<- aV];exact (dE.mp hv').1
  obtain⟨w,e1,e2⟩:=rv.get (i:=i) (x:=V.bl bs[i]) (by simp[hi])
  rw[hv']at e1;cases e1;cases e2;refine mE ?_;have:bs.getD i true=bs[i]:=by simp[List.getD,hi]
  rw[<- this];exact hq
 .
  have I1:L2.Inv X ah O H { s with heap:=h',toks:=tk}:=I.kept λb o e=>hk b o (λhm=>by
   have:b=s⁻¹:=by simpa using hm
   exact absurd (d0 e) (by rw[this];exact qS _)) (up b o e)
  refine⟨.bl (bs.all id),H,I1,?_,q⟩;have e:(List.range its.toArray.size).all (λi=>bs.getD i true)=bs.all id:=by
   rw[dC,aV];rw[B6];simp only[oD,v6,id];constructor
   . intro h b hb;obtain⟨j,hj⟩:=List.getElem?_of_mem hb;have hj':=(dE.mp hj).1;have:=h j hj';simpa [List.getD,hj]using this
   . intro h i hi;have:=h bs[i] (BN hi);simpa [List.getD,hi]using this
  rw[e];rfl
noncomputable def sN:List D->Option (List Bool)
 | []=>some []
 |.bl b::l=>match sN l with |some bs=>some (b::bs) |none=>none
 |_::_=>none
theorem Bh{K:Frag}{M:List Addr}{H:Hp}{l:List D}{xs:List V}{ns:List Bool}(q:aJ K M H l xs)(e:sN l=some ns):xs=ns.map V.bl:=by
 induction l generalizing xs ns with
 |nil=>cases q;cases e;rfl
 |cons d l ih=>cases q with |cons r q=>cases d with
  |bl i=>
   have e:(match sN l with |some ns=>some (i::ns) |none=>none)=some ns:=e
   cases e2:sN l with
   |none=>rw[e2]at e;cases e
   |some ns=>rw[e2]at e;cases e;cases r;rw[List.map_cons,ih q e2]
  |_=>cases e
theorem N4{l:List D}{bs:List Bool}(hc:X.calm=true)(h:sN l=some bs):CallD X z (.builtin "all") [.lst l] (.dat (.bl (bs.all id))):=by
 refine⟨_,mj hc,λg O J M H vs Q s p k=>?_⟩
 obtain⟨v,rfl,pv⟩:=p.one;obtain⟨a,xs,rfl,ha,r⟩:=pv.list;have e:=Bh r h;subst e;exact⟨a,bs,rfl,cG.of ha,k _ H J M s (ak.refl _ _) (.bl _)⟩
end
noncomputable def kX:D->String
 |.non=> "NoneType" |.bl _=> "bool" |.int _=> "int" |.str _=> "str" |.tup _=> "tuple" |.lst _=> "list" |.fix _=> "list" |.emp=> "dict" |.kr _=> "" |.ym ..=> "dict"
def zR:D->Value
 |.kr C=>.ref C
 |d=>.type (kX d)
theorem yx{M:Model}{A:Around}{E:Value->Shared->Prop}{K:Frag}{x C:Addr}{ox:Obj}{nv:Value}{Q:Unit->Shared->Prop}{s:Shared}(X:K.In s.heap)(I:PySem.W.InstAt s.heap x ox C none)(hb:PySem.W.mroIn K C (.type "BaseException")=some true)(hq:Q () s) :
  wpAny M A (checkBuiltinCall "BaseException.__getattribute__" ⟨[.ref x,nv],[]⟩) Q E s:=by
 have kd:builtinKind "BaseException.__getattribute__"=some .slot:=by decide +kernel
 have sd:splitId "BaseException.__getattribute__"=some ("BaseException", "__getattribute__"):=by decide +kernel
 have ha:=F.args_bexc_ga (.ref x) nv;obtain⟨hv,ge,dr,tk,o'⟩:=s;have l0:=I.type (M:=M);have l1:=PySem.W.looks_mroIn (M:=M) X hb;simp only[checkBuiltinCall,kd,sd];unfold isInstance;refine aS (aS (l0.at (l1.at ?_)))
 repeat (any_goals (first |assumption |wp_step))
theorem Bj{prog:Program}{w:World}{A:Around}{E:Value->Shared->Prop}{K:Frag}{x C:Addr}{ox:Obj}{name:Str}{g a:Value}{Q:Option Value->Shared->Prop}{s:Shared}(X:K.In s.heap)(I:PySem.W.InstAt s.heap x ox C none)
  (hga:PySem.W.findIn K (.ref C) "__getattribute__"=some (some (.builtin "BaseException.__getattribute__"))) (hk:PySem.W.findIn K (.ref C) "__getattr__"=some none) (hb:PySem.W.mroIn K C (.type "BaseException")=some true) (hf:PySem.W.findObj K C none name=some (.bind g a))
  (h:wpAny (model prog w) A.in1 (call g [a,.ref x,.ref C]) (λv s'=>wpAny (model prog w) A (handedOut v) (λv s''=>Q (some v) s'') (λ_ _=>False) s') (λ_ _=>False) { s with toks:=s.toks+1}) :
  wpAny (model prog w) A (getAttr? (.ref x) name) Q E s:=by
 obtain⟨hv,ge,dr,tk,o'⟩:=s;have l0:=I.type (M:=model prog w);have l1:=PySem.W.looks_findIn (M:=model prog w) X hga;have l2:=PySem.W.looks_findIn (M:=model prog w) X hk;have l3:=PySem.W.looks_find (M:=model prog w) X I hf;have f3:=F.excAttr_ValueError.ga.bind (.ref x);unfold getAttr? getAttrBy? getAttrBy;refine aS (wpAny_mkText (aS (wpAny_attempt (oP (aS (l0.at (aS (l1.at ?_))))))));show wpAny _ _ (getAttrByItsOwn _ _ _ _ _ _) _ _ _;unfold getAttrByItsOwn;refine aS (l2.at (aS (wpAny_attempt (oP ?_))));show wpAny _ _ (boundAndCalled _ _ _) _ _ _;unfold boundAndCalled;rw[f3];refine aS (dS (CC (codeAny_call_builtin F.excAttr_ValueError.ga.plain F.entry_bexc_ga (yx X I hb ?_))));refine aS (dS (aS (dS (aS (l0.at (aS (l3.at ?_)))))));show wpAny _ _ (Builtin.ObjectAttr.bindTo _ _ _ _) _ _ _;show wpAny _ _ (holding [a] (call g [a,.ref x,.ref C]) >>= ret) _ _ _;refine aS (oP (l8 h (λv s' z=>dS ?_) λ_ _ z=>z.elim))
 exact l8 z (λv s'' hv=>dS hv) (λ_ _ z=>z.elim)
theorem jP{K:Frag}{C:Addr}(k:FG K C):∃c d cd sl,K.lookup C=some ⟨c,d,.cls cd,sl⟩/\PySem.W.clsIn K C=some cd:=by
 obtain⟨cd,hc,_⟩:=PySem.W.any_some k.dct;have hc':=hc;unfold PySem.W.clsIn at hc;split at hc
 . rename_i c d cd' sl ho;cases hc;exact⟨c,d,cd,sl,ho,hc'⟩
 . cases hc
theorem sO{K:Frag}{x C:Addr}(k:FG K C):PySem.W.KitX K (.ref x) (.ref C) (λh=>∃ox,PySem.W.InstAt h x ox C none) where
 ty:=λ_ _ _ ⟨_,I⟩=>I.type
 it:=λ_ _ X _=>by
  obtain⟨c,d,cd,sl,ho,_⟩:=jP k;intro A' Q' E' s' kp q;unfold isType loadHead;refine aS ?_;refine wpAny_loadPart (kp _ _ (X _ _ ho)) ?_;exact dS q
 ne:=λh tp dd its n sl X htp=>by
  obtain⟨c,d,cd,WM,ho,_⟩:=jP k;cases q:(Value.ref C==Value.ref tp)with
  |false=>rfl
  |true=>have e:C=tp:=Value.ref.inj (beq_iff_eq.mp q);subst e;have y:=(X _ _ ho).symm.trans htp;cases y
 ca:=λ{prog w A E Q s} X ⟨ox,I⟩ h=>by
  obtain⟨_,_,cd,_,_,hc⟩:=jP k;have hf:PySem.W.findObj K C none "__class__"=some (.bind (.builtin "getset_descriptor.__get__") (.builtin "object.__class__")):=by unfold PySem.W.findObj;rw[hc,Option.bind_some,k.cls,Option.bind_some];simp[k.spc,k.tks]
  refine Bj X I k.gga k.gat k.bas hf (CC ?_);exact PySem.W.class_get (s:={ s with toks:=s.toks+1}) (ox:=ox) (od:=none) X I k.mro (PySem.W.handed_on rfl h)
section
theorem Bm(I:L2.Inv X ah O H s)(p:Pk X.K M H d v)(r:RelV v u)
  (e:PySem.W.kitOne X.K (zR d) c=some b) (h:∀tk,Q (.bool b) { s with toks:=tk}):wpAny (~~~2) A (call (.builtin "isinstance") [u,c]) Q E s:=by
 cases d with
 |non=>have q:=p.non;subst q;cases r;exact sK PySem.W.kitx_none I.kP True.intro e (λz=>nomatch z) h
 |bl y=>have q:=p.bl;subst q;cases r;exact sK PySem.W.kitx_bool I.kP True.intro e (λz=>nomatch z) h
 |int i=>have q:=p.int;subst q;obtain⟨t,rfl⟩:=r;exact sK PySem.W.kitx_int I.kP True.intro e (λz=>nomatch z) h
 |str y=>have q:=p.str;subst q;obtain⟨t,rfl⟩:=r;exact sK PySem.W.kitx_str I.kP True.intro e (λz=>nomatch z) h
 |tup l=>obtain⟨a,xs,rfl,ha,_⟩:=p.tup;cases r;obtain⟨its,_,⟨o,h1,h2,_⟩,_⟩:=I.tuple ha.sq;exact sK PySem.W.kitx_tuple I.kP ⟨o,h1,h2⟩ e (λz=>nomatch z) h
 |lst l=>obtain⟨a,xs,rfl,ha,_⟩:=p.list;cases r;obtain⟨its,_,pl,_⟩:=I.list (cG.of ha);obtain⟨o,h1,h2,_⟩:=pl.isList;exact sK Bz I.kP ⟨o,h1,h2⟩ e (λz=>nomatch z) h
 |fix l=>obtain⟨a,xs,rfl,ha,_⟩:=p.fix;cases r;obtain⟨its,_,pl,_⟩:=I.list ha.sq;obtain⟨o,h1,h2,_⟩:=pl.isList;exact sK Bz I.kP ⟨o,h1,h2⟩ e (λz=>nomatch z) h
 |emp=>
  cases p with
  |of q=>
   cases q with
   |emp _ ha=>cases r;obtain⟨_,_,vs,_,o,es,ep,h1,h2,_⟩:=I.hok _ _ ha;exact sK BA I.kP ⟨o,h1,h2.1⟩ e (λz=>nomatch z) h
 |kr C=>
  cases p with
  |of q=>
   cases q with
   |kr k _ ha=>cases r;obtain⟨⟨o,h1,h2,h3,h4⟩,_⟩:=I.hok _ _ ha;exact sK (sO k) I.kP ⟨o,h1,h2,h3,by rw[h4];trivial⟩ e (λz=>nomatch z) h
 |ym ks ds=>
  cases p with
  |of q=>
   cases q with
   |ym _ ha _ _=>cases r;obtain⟨_,_,vs,_,o,es,ep,h1,h2,_⟩:=I.hok _ _ ha;exact sK BA I.kP ⟨o,h1,h2.1⟩ e (λz=>nomatch z) h
theorem Bo:dX X (.builtin "isinstance") (λxs H Q=>∃x n M d b,xs=[x,.ty n]/\Pk X.K M H d x/\PySem.W.kitOne X.K (zR d) (.type n)=some b/\Q (.bl b) H):=by intro ah s O H xs us Q I r h;obtain⟨x,n,M,d,b,rfl,p,e,q⟩:=h;obtain⟨u,w',rfl,r1,r2⟩:=vals2 r;cases r2;exact Bm I p r1 e λtk=>⟨.bl b,H,I.tok tk,rfl,q⟩
theorem N5(hK:z.K=X.K)(h:az X z a g r1 g1)(hp:pk r1 g1=some d)(he:∀M H v,Pk X.K M H d v->PySem.W.kitOne X.K (zR d) (.type n)=some b)
  (hg:Gl X "isinstance") (hm:X.mg "isinstance"=none) (hv:bootBuiltins "isinstance"=some (.builtin "isinstance")) (gT:Gl X T) (mT:X.mg T=none) (vT:bootBuiltins T=some (.type n)) (nT:T≠ "__name__") (dT:(T==(~~~3))=false)
  (hs:starEach [a,.Name T pT] X.env=(false,eval a X.env)::starEach [.Name T pT] X.env):az X z (.Call (.Name "isinstance" p) [a,.Name T pT] [] pos) g (.dat (.bl b)) g1:=by
 obtain⟨t,q,k⟩:=h;have YC:PE X (.Name T pT) (tC (.ty n)):=qh gT mT vT rfl nT dT;refine⟨_,iY Bo hg hm hv (bH q (bH YC fz) hs) ⋯ ⋯ hs,λO J M H Q s kk=>k O J M H _ s λv H' aA M' s' st R=>?_⟩
 have p:=hK▸s'.pk (ak.refl _ _) R hp;exact⟨v,n,M',d,b,rfl,p,he _ _ _ p,kk _ H' aA M' s' st (.bl b)⟩
end
inductive Fl where
 |nx |rt (r:R) |bk |ct
def kB(z:Z)(M:List Addr)(H:Hp)(E:Ends)(g':G):Fl->Prop
 |.nx=>∀σ' aA M' H',S z g' σ' aA M' H'->ak M H M' H'->E.nx σ' H'
 |.bk=>∀σ' aA M' H',S z g' σ' aA M' H'->ak M H M' H'->E.bk σ' H'
 |.ct=>∀σ' aA M' H',S z g' σ' aA M' H'->ak M H M' H'->E.ct σ' H'
 |.rt r=>∀v σ' aA M' H',S z g' σ' aA M' H'->ak M H M' H'->cN z g' σ' aA M' H' r v->E.rt v H'
def fF(X:Cx)(z:Z)(st:Stmt)(g:G)(f:Fl)(g':G):Prop:=
 ∃t,PS X st t/\∀O J M H E,S z g O J M H->kB z M H E g' f->t E O H
def dF(X:Cx)(z:Z)(iT:List Stmt)(g:G)(f:Fl)(g':G):Prop:=
 ∃t,qg X iT t/\∀O J M H E,S z g O J M H->kB z M H E g' f->t E O H
section
variable{st:Stmt}
theorem kB.trans(st:ak M H M1 H1)(h:kB z M H E g' f):kB z M1 H1 E g' f:=by
 cases f with
 |nx=>exact λσ' aA M' H' s' st'=>h σ' aA M' H' s' (st.trans st')
 |bk=>exact λσ' aA M' H' s' st'=>h σ' aA M' H' s' (st.trans st')
 |ct=>exact λσ' aA M' H' s' st'=>h σ' aA M' H' s' (st.trans st')
 |rt r=>exact λv σ' aA M' H' s' st' R=>h v σ' aA M' H' s' (st.trans st') R
theorem Bp:dF X z [] g .nx g:=⟨_,Gm,λO J M H E s k=>k O J M H s (ak.refl _ _)⟩
theorem Hg(h1:fF X z st g .nx g1)(h2:dF X z iT g1 f g2):dF X z (st::iT) g f g2:=by obtain⟨t1,q1,k1⟩:=h1;obtain⟨t2,q2,k2⟩:=h2;exact⟨_,dU q1 q2,λO J M H E s k=>k1 O J M H _ s λσ' aA M' H' s' st'=>k2 σ' aA M' H' E s' (k.trans st')⟩
theorem N6(h1:fF X z st g (.rt r) g1):dF X z (st::iT) g (.rt r) g1:=by obtain⟨t1,q1,k1⟩:=h1;exact⟨_,dU q1 aY,λO J M H E s k=>k1 O J M H _ s k⟩
theorem N7(h1:fF X z st g .bk g1):dF X z (st::iT) g .bk g1:=by obtain⟨t1,q1,k1⟩:=h1;exact⟨_,dU q1 aY,λO J M H E s k=>k1 O J M H _ s k⟩
theorem N8(h1:fF X z st g .ct g1):dF X z (st::iT) g .ct g1:=by obtain⟨t1,q1,k1⟩:=h1;exact⟨_,dU q1 aY,λO J M H E s k=>k1 O J M H _ s k⟩
theorem N9(h:az X z e g r g1):fF X z (.Return (some e) pos) g (.rt r) g1:=by obtain⟨t,q,k⟩:=h;exact⟨_,uN q,λO J M H E s kk=>k O J M H _ s λv H' aA M' s' st R=>kk v O aA M' H' s' st R⟩
theorem Hi(h:az X z e g r g1)(hs:swapsWith e none pos.line X.env=pure false):fF X z (.Expr e pos) g .nx g1:=by obtain⟨t,q,k⟩:=h;exact⟨_,qi q hs,λO J M H E s kk=>k O J M H _ s λv H' aA M' s' st R=>kk O aA M' H' s' st⟩
theorem KQ(h:bZ X z c g v g1)(h2:dF X z (if v then a else b) g1 f g2):fF X z (.If c a b pos) g f g2:=by
 obtain⟨t,q,k⟩:=h;obtain⟨t2,q2,k2⟩:=h2;cases v with
 |true=>exact⟨_,lK q q2 aY,λO J M H E s kk=>k O J M H _ s λH' aA M' s' st=>jN (k2 O aA M' H' E s' (kk.trans st))⟩
 |false=>exact⟨_,lK q aY q2,λO J M H E s kk=>k O J M H _ s λH' aA M' s' st=>nX (k2 O aA M' H' E s' (kk.trans st))⟩
theorem Hj(hN:X.N.Nodup)(hi:X.N[i]?=some x)(hx:Loc X.env.scope x)(h:az X z e g (.dat d) g1)(hs:swapsWith e (some (.Name x pos')) pos.line X.env=pure false)(hf:X.fn x=true\/X.env.scope.names.lookup x=some .local)(hb:i∉z.bor) :
  fF X z (.Assign [.Name x pos'] e pos) g .nx (g1.set i (.dat d)):=by
 obtain⟨t,q,k⟩:=h;refine⟨_,lM hN hi hx q hs hf,λO J M H E s kk=>k O J M H _ s λv H' aA M' s' st R=>?_⟩
 obtain⟨bx,s2⟩:=s'.fB (i:=i) hb R;exact kk _ bx M' H' s2 st
theorem Hl(hN:X.N.Nodup)(hi:X.N[i]?=some x)(hx:Loc X.env.scope x)(h:az X z e g (.new l) g1)(hl:i<g1.length)(hs:swapsWith e (some (.Name x pos')) pos.line X.env=pure false)(hf:X.fn x=true\/X.env.scope.names.lookup x=some .local)(hb:i∉z.bor) :
  fF X z (.Assign [.Name x pos'] e pos) g .nx (g1.set i (.own l)):=by
 obtain⟨t,q,k⟩:=h;refine⟨_,lM hN hi hx q hs hf,λO J M H E s kk=>k O J M H _ s λv H' aA M' s' st R=>?_⟩
 obtain⟨a,xs,rfl,hm,hA,h0,ha,rr⟩:=R;obtain⟨bx,s2⟩:=s'.qE hb hl hm hA h0 ha rr;exact kk _ bx M' H' s2 st
end
def YD(X:Cx)(iT:List Stmt):TS:=λE O H=>∃t,qg X iT t/\t E O H
theorem wG{X:Cx}{iT:List Stmt}:qg X iT (YD X iT):=λah s O H E I h=>let ⟨t,q,k⟩:=h;q ah s O H E I k
section
theorem drop_cons{α:Type}{l:List α}{n:Nat}{a:α}(h:l[n]?=some a):l.drop n=a::l.drop (n+1):=by obtain⟨h1,h2⟩:=dE.mp h;rw[List.drop_eq_getElem_cons h1,h2]
end
noncomputable def fG(lo:Int)(n:Nat):List D:=(List.range n).map λ(k:Nat)=>D.int (lo+(k:Int))
section
theorem Bq{lo:Int}{n k:Nat}(h:k<n):(fG lo n)[k]?=some (.int (lo+(k:Int))):=by unfold fG;rw[t5,List.getElem?_range h];rfl
theorem sP{lo:Int}{n:Nat}:(fG lo n).length=n:=by unfold fG;simp
theorem yy(h:cV X z [a] g [‹j›] g1)(hg:Gl X "range")(hm:X.mg "range"=none)(hs:starEach [a] X.env=[(false,eval a X.env)])(h1 : -(2 ^ 62)<=j)(h2:j<2 ^ 62) :
  ∃wi,PI X tg (.Call (.Name "range" p) [a] [] rp) wi/\∀O J M H (Q:It->Hp->Prop),S z g O J M H->(∀H' aA M',S z g1 O aA M' H'->ak M H M' H'->Q (Mg 0 j.toNat) H')->wi O H Q:=by
 obtain⟨t,q,k⟩:=h;refine⟨_,x8 hg hm q hs,λO J M H Q s kk=>k O J M H _ s λvs H' aA M' s' st R=>?_⟩
 cases R with
 |dat r R=>cases R;cases r;exact⟨j,rfl,h1,h2,kk H' aA M' s' st⟩
theorem yz(h:cV X z [a,b] g [‹c›,‹j›] g1)(hg:Gl X "range")(hm:X.mg "range"=none)(hs:starEach [a,b] X.env=[(false,eval a X.env),(false,eval b X.env)])(hs2:starEach [b] X.env=[(false,eval b X.env)])
  (h1 : -(2 ^ 62)<=c/\c<2 ^ 62/\-(2 ^ 62)<=j/\j<2 ^ 62) {tg:Expr} :
  ∃wi,PI X tg (.Call (.Name "range" p) [a,b] [] rp) wi/\∀O J M H (Q:It->Hp->Prop),S z g O J M H->(∀H' aA M',S z g1 O aA M' H'->ak M H M' H'->Q (Mg c (j - c).toNat) H')->wi O H Q:=by
 obtain⟨t,q,k⟩:=h;refine⟨_,x9 hg hm q hs hs2,λO J M H Q s kk=>k O J M H _ s λvs H' aA M' s' st R=>?_⟩
 cases R with
 |dat r R=>cases R with |dat r2 R=>cases R;cases r;cases r2;exact⟨c,j,rfl,h1,kk H' aA M' s' st⟩
end
section
theorem yC(hN:X.N[i]?=some x)(hv:oK X.env.scope x)(hd:(x==(~~~3))=false)(bY:(x==("__classdict__":Str))=false)(hg:g[i]?=some (.own l0))(h:cV X z [e] g [.dat d] g1)(FH:g1[i]?=some (.own l))(hl:l.length<16777216)
  (hbase:attributeBase (.Name x pn) "append" X.env (eval (.Name x pn) X.env)=eval (.Name x pn) X.env)
  (hfew:((backTo bM (starEach [e] X.env)).all (λx=>!x.1)&&(backToKw bM (keywordEach [] X.env)).all (λx=>x.1.isSome)
   && decide ([e].length+([]:List Keyword).length+(if ([]:List Keyword).isEmpty then 0 else 1)<30))=true)
  (hline:(dw.endLine==bM.line)=true) (hs:starEach [e] X.env=(false,eval e X.env)::starEach [] X.env):az X z (.Call (.Attribute (.Name x pn) "append" dw) [e] [] bM) g (.dat .non) (g1.set i (.own (l++[d]))):=by
 obtain⟨t,q,k⟩:=h;refine⟨_,Ky PySem.F.plainAttrs_list PySem.F.slot_list_append PySem.F.type_list_append jL (fW hN hv hd bY) q hbase hfew hline hs rfl,λO J M H Q s kk=>?_⟩
 obtain⟨a,xs,e1,e2,e3,e4⟩:=s.sl.at hg;refine⟨.ref a,e1,.inl ⟨rfl,xs,cG.of e3⟩,k O J M H _ s λvs H' aA M' s' st R=>?_⟩
 obtain⟨b,ys,f1,f2,f3,f4⟩:=s'.sl.at FH;rw[e1]at f1;injection f1 with f1;injection f1 with f1;injection f1 with f1;subst f1;cases R with
 |dat r R=>
  cases R;refine⟨a,ys,_,rfl,rfl,f3,by rw[<- f4.length,rV];exact hl,?_⟩
  obtain⟨s2,aP⟩:=s'.write FH e1 (f4.append (.cons r .nil));exact kk _ _ aA M' s2 (st.trans aP) .non
end
section
theorem Ho(hN:X.N[i]?=some x)(hv:oK X.env.scope x)(hd:(x==(~~~3))=false)(bY:(x==("__classdict__":Str))=false)(h:az X z e g (.dat d) g1)(FH:g1[i]?=some (.own l0))(h2:az X z ix g1 ‹k› g2)(hg2:g2[i]?=some (.own l))(hj:rT l.length k=some j)
  (ha:∀v,assign (.Subscript (.Name x pn) ix g7) X.env v=(do
   let ov <- holding [v] (eval (.Name x pn) X.env)
   let iv <- holding [v,ov] (eval ix X.env)
   standAt g7
   holding [v,ov,iv] (setItem ov iv v)
   release [v,ov,iv] []))
  (hs:swapsWithSole [.Subscript (.Name x pn) ix g7] e pos.line X.env=pure false) (hw:swappedStores [.Subscript (.Name x pn) ix g7] e X.env=pure none)
  (h1:(assignEach [.Subscript (.Name x pn) ix g7] X.env).map (·.2)=[assign (.Subscript (.Name x pn) ix g7) X.env]) :
  fF X z (.Assign [.Subscript (.Name x pn) ix g7] e pos) g .nx (g2.set i (.own (l.set j d))):=by
 obtain⟨t,q,kk⟩:=h;obtain⟨t2,q2,k2⟩:=h2;refine⟨_,L8 q (L5 (fW hN hv hd bY) q2 set_list ha) hs hw h1,λO J M H E s kE=>kk O J M H _ s λv H1 aO M1 s1 cU R1=>?_⟩
 obtain⟨a,xs,e1,e2,e3,e4⟩:=s1.sl.at FH;refine⟨.ref a,e1,k2 O aO M1 H1 _ s1 λw H2 bx M2 s2 aP R2=>?_⟩
 obtain⟨b,ys,f1,f2,f3,f4⟩:=s2.sl.at hg2;rw[e1]at f1;injection f1 with f1;injection f1 with f1;injection f1 with f1;subst f1;have R2':Rep z.K M2 H2 (.int k) w:=R2;cases R2';refine⟨a,ys,k,j,rfl,rfl,f3,by rw[<- f4.length];exact hj,?_⟩
 obtain⟨s3,gG⟩:=s2.write hg2 e1 (aJ.set (Rep.stay aP R1) j f4);exact kE O bx M2 _ s3 (cU.trans (aP.trans gG))
end
noncomputable def cS:List R->G->Option G
 | [],_=>some []
 |.dat d::rs,g=>match cS rs g with |some gs=>some (.dat d::gs) |none=>none
 |.var i::rs,g=>match g[i]? with
  |some (.own l)=>match cS rs g with |some gs=>some (.own l::gs) |none=>none
  |_=>none
 |.new _::_,_=>none
noncomputable def vars:Nat->List R->List (Nat×Nat)
 |_,[]=>[]
 |j,.var i::rs=>(j,i)::vars (j+1) rs
 |j,.dat _::rs=>vars (j+1) rs
 |j,.new _::rs=>vars (j+1) rs
noncomputable def back:List (Nat×Nat)->G->G->Option G
 | [],_,g=>some g
 | (j,i)::ps,gc,g=>match gc[j]? with
  |some (.own l)=>back ps gc (g.set i (.own l))
  |_=>none
def cW(bor:List Nat)(g':G):R->Option R
 |.dat d=>some (.dat d)
 |.new l=>some (.new l)
 |.var j=>if j∈bor then none else match g'[j]? with |some (.own l)=>some (.new l) |_=>none
noncomputable def adr(O:Sg)(i:Nat):Addr:=match O[i]? with |some (some (.ref a))=>a |_=>0
theorem iF(h:O[i]?=some (some (.ref a))):adr O i=a:=by unfold adr;rw[h]
def bX(O:Sg)(ps:List (Nat×Nat)):List (Nat×Addr):=ps.map λp=>(p.1,adr O p.2)
noncomputable def cP(n:Nat)(gs:G):G:=gs++List.replicate (n - gs.length) .no
theorem Slots.append{K:Frag}{M:List Addr}{H:Hp}{g1 g2:G}{σ1 σ2:Sg}{A1 A2:List Addr}(p:Slots K M H g1 σ1 A1)(q:Slots K M H g2 σ2 A2):Slots K M H (g1++g2) (σ1++σ2) (A1++A2):=by
 induction p with
 |nil=>exact q
 |no p ih=>exact .no ih
 |dat r p ih=>exact .dat r ih
 |own e r p ih=>exact .own e r ih
theorem Slots.W3{K:Frag}{M:List Addr}{H:Hp}:∀(n:Nat),Slots K M H (List.replicate n .no) (List.replicate n none) []
 | 0=>.nil
 |n+1=>by rw[l9,l9];exact .no (Slots.W3 n)
section
theorem Slots.wH{K:Frag}{g:G}{O:Sg}{J:List Addr}{i j:Nat}{a:Addr}{l l':List D}(q:Slots K M H g O J)(nd:J.Nodup)(e1:g[i]?=some (.own l))(e2:g[j]?=some (.own l'))(e3:O[i]?=some (some (.ref a)))(e4:O[j]?=some (some (.ref a))):i=j:=by
 induction q generalizing i j with
 |nil=>exact nomatch (show none=some (Slot.own l)from e1)
 |no q ih=>cases i with
  |zero=>exact nomatch (show some Slot.no=some (Slot.own l)from e1)
  |succ i=>cases j with
   |zero=>exact nomatch (show some Slot.no=some (Slot.own l')from e2)
   |succ j=>exact congrArg (· + 1) (ih nd e1 e2 e3 e4)
 |dat r q ih=>cases i with
  |zero=>exact nomatch (show some (Slot.dat _)=some (Slot.own l)from e1)
  |succ i=>cases j with
   |zero=>exact nomatch (show some (Slot.dat _)=some (Slot.own l')from e2)
   |succ j=>exact congrArg (· + 1) (ih nd e1 e2 e3 e4)
 |@own g O J b xs ds h r q ih=>
  have no:∀{i:Nat}{l:List D},g[i]?=some (.own l)->O[i]?=some (some (.ref a))->b=a->False:=λ{i l} e1 e3 e=>by
   obtain⟨c,xs,h1,h2,_⟩:=q.at e1;cases (show some (some (V.ref c))=some (some (V.ref a))from h1.symm.trans e3)
   exact (fN.mp nd).1 (e▸h2)
  cases i with
  |zero=>cases j with
   |zero=>rfl
   |succ j=>cases (show some (some (V.ref b))=some (some (V.ref a))from e3);exact (no e2 e4 rfl).elim
  |succ i=>cases j with
   |zero=>cases (show some (some (V.ref b))=some (some (V.ref a))from e4);exact (no e1 e3 rfl).elim
   |succ j=>exact congrArg (· + 1) (ih (fN.mp nd).2 e1 e2 e3 e4)
theorem mq(s:S z g O J M H)(j:Nat)(q:iE z O M H rs vs)(e:cS rs g=some gs) :
  gs.length=vs.length/\Slots z.K M H gs (vs.map some) ((bX O (vars j rs)).map (·.2))/\
  (∀p∈bX O (vars j rs),∃n l,p.1=j+n/\gs[n]?=some (.own l)/\vs[n]?=some (.ref p.2))/\
  (∀n l a,gs[n]?=some (.own l)->vs[n]?=some (.ref a)->(j+n,a)∈bX O (vars j rs))/\
  (∀p∈vars j rs,∃l a,g[p.2]?=some (.own l)/\O[p.2]?=some (some (.ref a))/\a∈J):=by
 induction q generalizing gs j with
 |nil=>cases e;exact⟨rfl,.nil,(λp hp=>nomatch hp),(λn l a h=>by simp at h),(λp hp=>nomatch hp)⟩
 |@dat d v rs vs r q ih=>
  unfold cS at e;cases e2:cS rs g with
  |none=>rw[e2]at e;cases e
  |some gs=>
   rw[e2]at e;cases e;obtain⟨h1,h2,h3,h4,h5⟩:=ih (j+1) e2;refine⟨by simp[h1],.dat r h2,λp hp=>?_,λn l a e1 e3=>?_,h5⟩
   . obtain⟨n,l,q1,q2,q3⟩:=h3 p hp;exact⟨n+1,l,by lia,by simpa using q2,by simpa using q3⟩
   .
    cases n with
    |zero=>simp at e1
    |succ n=>
     have:=h4 n l a (by simpa using e1) (by simpa using e3)
     rw[show j+(n+1)=j+1+n by lia]
     exact this
 |@var i v rs vs r q ih=>
  unfold cS at e;split at e
  .
   rename_i l hg;cases e2:cS rs g with
   |none=>rw[e2]at e;cases e
   |some gs=>
    rw[e2]at e;cases e;obtain⟨h1,h2,h3,h4,h5⟩:=ih (j+1) e2;obtain⟨a,xs,f1,f2,f3,f4⟩:=s.sl.at hg;have ea:adr O i=a:=iF f1;rw[r]at f1;injection f1 with f1;injection f1 with f1;subst f1;have el:bX O (vars j (.var i::rs))=(j,a)::bX O (vars (j+1) rs):=by show (j,adr O i)::bX O (vars (j+1) rs)=_;rw[ea]
    rw[el];refine⟨by simp[h1],.own f3 f4 h2,λp hp=>?_,λn l' b e1 e3=>?_,λp hp=>?_⟩
    .
     rcases dL.mp hp with rfl |hp
     . exact⟨0,l,rfl,rfl,rfl⟩
     . obtain⟨n,l,q1,q2,q3⟩:=h3 p hp;exact⟨n+1,l,by lia,by simpa using q2,by simpa using q3⟩
    .
     cases n with
     |zero=>
      have e4:a=b:=by simpa using e3
      subst e4;exact dA
     |succ n=>
      have:=h4 n l' b (by simpa using e1) (by simpa using e3)
      rw[show j+(n+1)=j+1+n by lia]
      exact b0 _ this
    .
     rcases dL.mp (show p∈(j,i)::vars (j+1) rs from hp)with rfl |hp
     . exact⟨l,a,hg,r,f2⟩
     . exact h5 p hp
  . cases e
theorem oZ{α β:Type}{f:α->β}:∀{l:List α},l.Nodup->(∀a∈l,∀b∈l,f a=f b->a=b)->(l.map f).Nodup
 | [],_,_=>wE
 |x::l,nd,h=>by
  rw[List.map_cons];refine fN.mpr ⟨λhm=>?_,oZ (fN.mp nd).2 λa ha b hb=>h a (b0 _ ha) b (b0 _ hb)⟩
  obtain⟨y,hy,e⟩:=i7.mp hm;have:=h y (b0 _ hy) x dA e;exact (fN.mp nd).1 (this▸hy)
def o7(z:Z)(O:Sg)(M:List Addr)(H:Hp)(rs:List R):Z:=⟨z.K,H,M,bX O (vars 0 rs),z.T⟩
theorem jQ:(o7 z O M H rs).bor=(vars 0 rs).map (·.1):=by show (bX O (vars 0 rs)).map (·.1)=_;unfold bX;rw[List.map_map];rfl
theorem S.enter(s:S z g O J M H){rs:List R}{vs:List V}{gs:G}{N:List Str}(r:iE z O M H rs vs)(e:cS rs g=some gs)(nd:((vars 0 rs).map (·.2)).Nodup) :
  S (o7 z O M H rs) (cP N.length gs) (start N vs) ((bX O (vars 0 rs)).map (·.2)) M H:=by
 obtain⟨h1,h2,h3,h4,h5⟩:=mq s 0 r e;have eB:(bX O (vars 0 rs)).map (·.2)=((vars 0 rs).map (·.2)).map (adr O):=by unfold bX;rw[List.map_map,List.map_map];rfl
 have mem:∀b∈(bX O (vars 0 rs)).map (·.2),b∈J:=λb hb=>by
  rw[eB]at hb;obtain⟨i,hi,e⟩:=i7.mp hb;obtain⟨p,hp,e'⟩:=i7.mp hi;obtain⟨l,a,q1,q2,q3⟩:=h5 p hp;subst e';rw[iF q2]at e;subst e;exact q3
 have pre:∀{n:Nat}{o:Slot},gs[n]?=some o->(cP N.length gs)[n]?=some o:=λ{n o} q=>by
  unfold cP;rw[eJ (dE.mp q).1];exact q
 have YF:∀(n:Nat) (l:List D),(cP N.length gs)[n]?=some (.own l)->gs[n]?=some (.own l):=λn l q=>by
  unfold cP at q;rcases AQ n gs.length with h |h
  . rw[eJ h]at q;exact q
  . rw[d5 h]at q;have:=l7 q;rw[xL]at this;exact absurd this.2 ⋯
 have st:∀{n:Nat}{v:V},vs[n]?=some v->(start N vs)[n]?=some (some v):=λ{n v} q=>by
  unfold L2.start;rw[eJ (by rw[fR];exact (dE.mp q).1),t5,q]
  rfl
 have st':∀{n:Nat}{v:V},(start N vs)[n]?=some (some v)->vs[n]?=some v:=λ{n v} q=>by
  unfold L2.start at q;rcases AQ n vs.length with h |h
  .
   rw[eJ (by rw[fR];exact h),t5]at q
   cases e:vs[n]? with
   |none=>rw[e]at q;cases q
   |some w=>rw[e]at q;injection q with q
  .
   rw[d5 (by rw[fR];exact h)]at q
   have:=l7 q;rw[xL]at this;exact absurd this.2 ⋯
 refine⟨?_,?_,λa ha=>s.sub a (mem a ha),λn a l q1 q2=>.inl ?_,s.live,λb o e _ _=>e,λm hm=>hm,λm hm=>?_,λb hb=>s.sub b (mem b hb),λp hp=>?_,s.tab,λp hp=>s.gR _ (s.tm p hp),s.tt⟩
 .
  have q:=h2.append (Slots.W3 (K:=z.K) (M:=M) (H:=H) (N.length - gs.length));rw[mI]at q;have e':start N vs=vs.map some++List.replicate (N.length - gs.length) none:=by unfold L2.start;rw[h1]
  rw[e'];exact q
 .
  rw[eB];refine oZ nd λi hi j hj e=>?_
  obtain⟨p,hp,rfl⟩:=i7.mp hi;obtain⟨p',zS,rfl⟩:=i7.mp hj;obtain⟨l,a,q1,q2,q3⟩:=h5 p hp;obtain⟨l',a',nY,yD,FJ⟩:=h5 p' zS;rw[iF q2,iF yD]at e;subst e;exact s.sl.wH s.nd q1 nY q2 yD
 . have hm:=h4 n l a (YF n l q1) (st' q2);rw[Nat.zero_add]at hm;exact⟨r6 (f:=(·.1)) hm,r6 (f:=(·.2)) hm⟩
 . exact λe=>s.fresh e hm
 . obtain⟨n,l,q1,q2,q3⟩:=h3 p hp;rw[Nat.zero_add]at q1;rw[q1];exact⟨st q3,l,pre q2⟩
theorem Slots.transfer{K:Frag}{M M2:List Addr}{H H':Hp}(st:ak M H M2 H'){g g2:G}{O:Sg}{J:List Addr}(q:Slots K M H g O J)(hl:g2.length=g.length)
  (h1:∀(i:Nat) (l:List D) (a:Addr),g[i]?=some (.own l)->O[i]?=some (some (.ref a))->∃l' xs',g2[i]?=some (.own l')/\H' a=some (.lst xs')/\aJ K M2 H' l' xs')
  (h2:∀(i:Nat) (o:Slot),g[i]?=some o->(∀l,o≠.own l)->g2[i]?=some o):Slots K M2 H' g2 O J:=by
 induction q generalizing g2 with
 |nil=>cases g2 with
  |nil=>exact .nil
  |cons a b=>cases hl
 |no q ih=>cases g2 with
  |nil=>cases hl
  |cons a b=>
   cases (show some a=some Slot.no from h2 0 .no rfl (λl z=>nomatch z))
   exact .no (ih (BF hl) (λi l a e1 e2=>h1 (i+1) l a e1 e2) λi o e1 e2=>h2 (i+1) o e1 e2)
 |@dat g O J v d r q ih=>cases g2 with
  |nil=>cases hl
  |cons a b=>
   cases (show some a=some (Slot.dat d)from h2 0 (.dat d) rfl (λl z=>nomatch z))
   exact .dat (r.stay st) (ih (BF hl) (λi l a e1 e2=>h1 (i+1) l a e1 e2) λi o e1 e2=>h2 (i+1) o e1 e2)
 |@own g O J a0 xs ds e0 r q ih=>cases g2 with
  |nil=>cases hl
  |cons a b=>
   obtain⟨l',xs',e1,e2,e3⟩:=h1 0 _ a0 rfl rfl;cases (show some a=some (Slot.own l')from e1)
   exact .own e2 e3 (ih (BF hl) (λi l a e1 e2=>h1 (i+1) l a e1 e2) λi o e1 e2=>h2 (i+1) o e1 e2)
theorem o8:∀{ps:List (Nat×Nat)}{g gO:G},back ps gc g=some gO->(ps.map (·.2)).Nodup->gO.length=g.length/\
  (∀i,i∉ps.map (·.2)->gO[i]?=g[i]?)/\∀p∈ps,p.2<g.length->∃l,gc[p.1]?=some (.own l)/\gO[p.2]?=some (.own l)
 | [],g,gO,e,_=>by cases e;exact⟨rfl,λ_ _=>rfl,λp hp=>nomatch hp⟩
 | (j,i)::ps,g,gO,e,nd=>by
  unfold back at e;split at e
  .
   rename_i l hg;obtain⟨h1,h2,h3⟩:=o8 e (fN.mp nd).2;refine⟨by rw[h1,kS],λk hk=>?_,λp hp jC=>?_⟩
   .
    have n1:k∉ps.map (·.2):=λz=>hk (b0 _ z)
    have n2:i≠k:=λz=>hk (z▸dA)
    rw[h2 k n1,eD n2]
   .
    rcases dL.mp hp with rfl |hp
    . refine⟨l,hg,?_⟩;have hlt':i<g.length:=jC;rw[h2 i (fN.mp nd).1,fI hlt']
    . exact h3 p hp (by rw[kS];exact jC)
  . cases e
theorem S.leave(s:S z g O J M H){rs:List R}{vs:List V}{gs gc gO:G}{σc:Sg}{Ac Mc:List Addr}{Hc:Hp}{r r':R}{v:V}(rw':iE z O M H rs vs)(e:cS rs g=some gs)(nd:((vars 0 rs).map (·.2)).Nodup)
  (sc:S (o7 z O M H rs) gc σc Ac Mc Hc) (st:ak M H Mc Hc) (q:cN (o7 z O M H rs) gc σc Ac Mc Hc r v) (hb:back (vars 0 rs) gc g=some gO) (hr:cW ((vars 0 rs).map (·.1)) gc r=some r') :
  ∃M2,S z gO O J M2 Hc/\ak M H M2 Hc/\cN z gO O J M2 Hc r' v:=by
 obtain⟨h1,h2,h3,h4,h5⟩:=mq s 0 rw' e;obtain⟨b1,b2,b3⟩:=o8 hb nd;have hM:∀m∈M,m∈Mc:=sc.gR;have core:∀M2:List Addr,(∀m∈M,m∈M2)->(∀m∈M2,m∈Mc)->ak M H M2 Hc->S z gO O J M2 Hc:=by
  intro M2 m1 m2 aP;refine⟨s.sl.transfer aP b1 (λi l a e1 e2=>?_) (λi o e1 e2=>?_),s.nd,λa ha=>m1 a (s.sub a ha),λi a l e1 e2=>?_,λm hm=>sc.live m (m2 m hm),λb o e1 e2 et=>?_,λm hm=>m1 m (s.gR m hm),s.m0,s.bm,λp hp=>⟨(s.iR p hp).1,?_⟩,sc.tab,s.tm,s.tt⟩
  .
   by_cases hi:i∈(vars 0 rs).map (·.2)
   .
    obtain⟨p,hp,rfl⟩:=i7.mp hi;obtain⟨l',q1,q2⟩:=b3 p hp (dE.mp e1).1;have hl:(p.1,adr O p.2)∈bX O (vars 0 rs):=r6 (f:=λp:Nat×Nat=>(p.1,adr O p.2)) hp
    obtain⟨c1,c2⟩:=sc.iR _ hl;obtain⟨a',xs,d1,d2,d3,d4⟩:=sc.sl.at q1;rw[c1]at d1;injection d1 with d1;injection d1 with d1;injection d1 with d1;rw[iF e2]at d1;subst d1;exact⟨l',xs,q2,d3,aJ.stay (ak.less m2) d4⟩
   .
    obtain⟨a',xs,d1,d2,d3,d4⟩:=s.sl.at e1;rw[e2]at d1;injection d1 with d1;injection d1 with d1;injection d1 with d1;subst d1;refine⟨l,xs,by rw[b2 i hi];exact e1,sc.keep a _ d3 (λhB=>?_) (s.KH d3),d4.stay aP⟩
    obtain⟨p,hp,ep⟩:=i7.mp (show a∈(bX O (vars 0 rs)).map (·.2)from hB);obtain⟨p',zS,rfl⟩:=i7.mp hp;obtain⟨l2,a2,q1,q2,q3⟩:=h5 p' zS;have Gk:adr O p'.2=a:=ep;rw[iF q2]at Gk;subst Gk;have:=s.sl.wH s.nd e1 q1 e2 q2;exact hi (this▸r6 (f:=(·.2)) zS)
  .
   refine (b2 i λhi=>?_).trans e1
   obtain⟨p,hp,rfl⟩:=i7.mp hi;obtain⟨l2,a2,q1,q2,q3⟩:=h5 p hp;rw[e1]at q1;injection q1 with q1;exact e2 l2 q1
  .
   by_cases hi:i∈(vars 0 rs).map (·.2)
   . obtain⟨p,hp,rfl⟩:=i7.mp hi;obtain⟨l2,a2,q1,q2,q3⟩:=h5 p hp;exact s.own p.2 a l2 q1 e2
   . rw[b2 i hi]at e1;exact s.own i a l e1 e2
  .
   have e3:=s.keep b o e1 e2 et;refine sc.keep b o e3 (λhB=>?_) et
   obtain⟨p,hp,ep⟩:=i7.mp (show b∈(bX O (vars 0 rs)).map (·.2)from hB);obtain⟨p',zS,rfl⟩:=i7.mp hp;obtain⟨l2,a2,q1,q2,q3⟩:=h5 p' zS;have Gk:adr O p'.2=b:=ep;rw[iF q2]at Gk;subst Gk;rcases s.own p'.2 a2 l2 q1 q2 with w |w
   . exact e2 w.2
   . rw[w]at e1;cases e1
  .
   by_cases hi:p.1∈(vars 0 rs).map (·.2)
   . obtain⟨p',zS,e'⟩:=i7.mp hi;have e'':p'.2=p.1:=e';obtain⟨l2,a2,q1,q2,q3⟩:=h5 p' zS;obtain⟨l',nY,yD⟩:=b3 p' zS (dE.mp q1).1;exact⟨l',by rw[<- e''];exact yD⟩
   . rw[b2 p.1 hi];exact (s.iR p hp).2
 have new:∀(a:Addr) (xs:List V) (l:List D),v=.ref a->a∈Mc->H a=none->Hc a=some (.lst xs)->aJ z.K Mc Hc l xs->∃M2,S z gO O J M2 Hc/\ak M H M2 Hc/\cN z gO O J M2 Hc (.new l) v:=by
  intro a xs l ev hm h0 hx rr;have m2:∀m∈a::M,m∈Mc:=λm hm'=>(dL.mp hm').elim (λe=>e▸hm) (hM m)
  have aP:ak M H (a::M) Hc:=st.trans (ak.less m2);refine⟨a::M,core _ (λm hm'=>b0 _ hm') m2 aP,aP,a,xs,ev,dA,λhA=>?_,s.dB h0,hx,rr.stay (ak.less m2)⟩
  exact s.fresh h0 (s.sub a hA)
 cases r with
 |dat d=>cases hr;have aP:ak M H M Hc:=st.trans (ak.less hM);exact⟨M,core M (λm h=>h) hM aP,aP,Rep.stay (ak.less hM) q⟩
 |new l=>cases hr;obtain⟨a,xs,rfl,c1,c2,c3,c4,c5⟩:=q;exact new a xs l rfl c1 c3 c4 c5
 |var j=>
  obtain⟨l,q1,q2⟩:=q;have hr:(if j∈(vars 0 rs).map (·.1)then none else match gc[j]? with |some (.own l)=>some (R.new l) |_=>none)=some r':=hr
  split at hr
  . cases hr
  .
   rename_i hj;rw[q1]at hr;cases hr;obtain⟨a,xs,d1,d2,d3,d4⟩:=sc.sl.at q1;rw[q2]at d1;injection d1 with d1;injection d1 with d1;subst d1;refine new a xs l rfl (sc.sub a d2) ?_ d3 d4;rcases sc.own j a l q1 q2 with w |w
   . have w':=w.1;rw[jQ]at w';exact absurd w' hj
   . exact w
end
theorem iE.length(q:iE z O M H rs vs):vs.length=rs.length:=by
 induction q with
 |nil=>rfl
 |dat r q ih=>exact congrArg (· + 1) ih
 |var r q ih=>exact congrArg (· + 1) ih
def Hq(K:Frag)(N:List Str)(np:Nat)(run:List Nat->G->R->G->Prop):Sp:=λvs H Q _=>
 vs.length=np/\∃(z:Z) (g g':G) (J M:List Addr) (r:R),z.K=K/\S z g (start N vs) J M H/\run z.bor g r g'/\
  ∀v σ' aA M' H',S z g' σ' aA M' H'->ak M H M' H'->cN z g' σ' aA M' H' r v->Q v H'
section
variable{run:List Nat->G->R->G->Prop}
theorem wI(F:gQ X.prog X.w X.K X.mg X.base rW k f fd ps (Hq X.K N ps.length run))(hK:z.K=X.K)(hr:bW k X.A)(hg:Gl X x)(hm:X.mg x=some (.ref f))(hk:PySem.W.keepIn X.K (.ref f)=true)(hb:Binds X.K fd ps [])
  (ha:cV X z (e::es) g rs g1) (aV:rs.length=ps.length) (hl:cS rs g1=some gs) (nd:((vars 0 rs).map (·.2)).Nodup) (hrun:run ((vars 0 rs).map (·.1)) (cP N.length gs) r gc) (Br:back (vars 0 rs) gc g1=some gO) (ho:cW ((vars 0 rs).map (·.1)) gc r=some r')
  (iB:(x==(~~~3))=false) (he:starEach (e::es) X.env=(false,eval e X.env)::starEach es X.env) (jG:(backTo pos (starEach es X.env)).any (·.1)=false) :
  az X z (.Call (.Name x p) (e::es) [] pos) g r' gO:=by
 obtain⟨t,q,kk⟩:=ha;refine⟨_,wc F hr hg hm hk hb .nil Kz q iB he jG,λO J M H Q s kq=>kk O J M H _ s λvs H1 aO M1 s1 cU R1=>?_⟩
 have hv:vs.length=rs.length:=R1.length;have ee:=s1.enter (N:=N) R1 hl nd;refine⟨by rw[mI,hv];exact aV,o7 z O M1 H1 rs,cP N.length gs,gc,_,M1,r,hK,by rw[mI];exact ee,by rw[jQ];exact hrun,λv σ' aA M' H' s' st' R'=>?_⟩
 obtain⟨M2,s2,aP,R2⟩:=s1.leave R1 hl nd s' st' R' Br ho;exact kq v H' aO M2 s2 (cU.trans aP) R2
theorem wJ{P:Program}{w:World}{K:Frag}{mg:Str->Option Value}{base:Heap}{qual:Str}{st:Stmt}(F:Fz K x qual st f fd)(Sc:bT N ps (aB st))
  (h:∀(bB:Value) (A:Around) (outer:List Env) (s:Shared) (H:Hp) (E:XK),PySem.W.codeIn K bB qual=true->bW k (A.deeper (envOfC qual (aB st) s⁻¹ f bB))->
   ∀(z:Z) (g:G) (r:R) (g':G),z.K=K->run z.bor g r g'->∃fl,dF (eF rW P w K mg base N qual (aB st) f bB A outer s H E).jJ z (bz st) g fl g'/\(fl=.rt r\/(fl=.nx/\r=.dat .non))) :
  gQ P w K mg base rW (k+1) f fd ps (Hq K N ps.length run):=by
 obtain⟨oc,od,kV,doc,pm,an,bB,ct,osl,rfl,lk,bY⟩:=F.ex;refine Kw lk bY Sc (λvs H Q E q=>q.1) λA outer s H vs Q E hr ⟨_,z,g,g',J,M,r,hK,hs,hrun,hQ⟩=>?_
 obtain⟨fl,⟨t,q,kk⟩,hfl⟩:=h bB A outer s H E bY hr z g r g' hK hrun;refine⟨t,q.jJ,kk _ J M H _ hs ?_⟩;rcases hfl with rfl |⟨rfl,rfl⟩
 . exact λv σ' aA M' H' s' st' R'=>hQ v σ' aA M' H' s' st' R'
 . exact λσ' aA M' H' s' st'=>hQ .non σ' aA M' H' s' st' .non
end
inductive Tg where
 |nm (i:Nat) |tp (is:List Nat)
noncomputable def jR:List Nat->List D->G->G
 |i::is,d::ds,g=>jR is ds (g.set i (.dat d))
 | [],_,g=>g
 |_::_,[],g=>g
noncomputable def Tg.ix:Tg->List Nat
 |.nm i=>[i]
 |.tp is=>is
def Tg.set:Tg->D->G->Option G
 |.nm i,d,g=>some (g.set i (.dat d))
 |.tp is,.tup ds,g=>if ds.length=is.length then some (jR is ds g)else none
 |.tp is,.lst ds,g=>if ds.length=is.length then some (jR is ds g)else none
 |.tp _,_,_=>none
def wK(is:List Nat)(O σ':Sg):Prop:=σ'.length=O.length/\∀j,j∉is->σ'[j]?=O[j]?
theorem wK.refl(is:List Nat)(O:Sg):wK is O O:=⟨rfl,λ_ _=>rfl⟩
theorem wK.trans{is:List Nat}{O σ1 σ2:Sg}(a:wK is O σ1)(b:wK is σ1 σ2):wK is O σ2:=⟨b.1.trans a.1,λj h=>(b.2 j h).trans (a.2 j h)⟩
theorem wK.mono(h:∀i∈is,i∈js)(a:wK is O σ'):wK js O σ':=⟨a.1,λj hj=>a.2 j λz=>hj (h j z)⟩
def sQ(X:Cx)(z:Z)(tg:Expr)(T:Tg):Prop:=∃t,PG X tg t/\∀d g g',T.set d g=some g'->∀v O J M H (Q:Sg->Hp->Prop),S z g O J M H->Rep z.K M H d v->(∀σ' aA,S z g' σ' aA M H->wK T.ix O σ'->Q σ' H)->t v O H Q
structure Bs(X:Cx)(x:Str)(i:Nat):Prop where
 nd:X.N.Nodup
 ix:X.N[i]?=some x
 lc:Loc X.env.scope x
 fn:X.fn x=true\/X.env.scope.names.lookup x=some .local
section
theorem Uy(h:Bs X x i)(hb:i∉z.bor):sQ X z (.Name x pos) (.nm i):=
 ⟨_,qj h.nd h.ix h.lc h.fn,λd g g' e v O J M H Q s r k=>by
  cases e;obtain⟨aA,s'⟩:=s.fB (i:=i) hb r;exact k _ aA s' ⟨by rw[kS],λj hj=>by rw[eD (λe=>hj (by rw[<- e];exact hU.mpr rfl))]⟩⟩
inductive jh(X:Cx):List Expr->List Nat->Prop
 |nil:jh X [] []
 |cons {x:Str}{p:Pos}{i:Nat}{es:List Expr}{is:List Nat}:Bs X x i->jh X es is->jh X (.Name x p::es) (i::is)
theorem jh.plain(h:jh X es is):(assignEach es X.env).length=is.length/\(assignEach es X.env).findIdx? (·.1)=none:=by
 induction h with
 |nil=>exact⟨rfl,rfl⟩
 |cons _ _ ih=>
  refine⟨?_,?_⟩
  . show (assignEach _ X.env).length+1=_;rw[ih.1];rfl
  . show List.findIdx? _ ((false,assign _ X.env)::assignEach _ X.env)=none;rw[List.findIdx?_cons,ih.2];rfl
theorem jh.pgs(h:jh X es is)(hb:∀i∈is,i∉z.bor):∃t,RM X es t/\∀ds vs g O J M H (Q:Sg->Hp->Prop),ds.length=is.length->S z g O J M H->aJ z.K M H ds vs->(∀σ' aA,S z (jR is ds g) σ' aA M H->wK is O σ'->Q σ' H)->t vs O H Q:=by
 induction h with
 |nil=>
  refine⟨_,Gp,λds vs g O J M H Q hl s r k=>?_⟩
  cases r with
  |nil=>exact⟨rfl,k O J s (wK.refl _ _)⟩
  |cons _ _=>simp at hl
 |@cons x p i es is hn hs ih=>
  obtain⟨t,q,kk⟩:=ih λj hj=>hb j (b0 _ hj)
  refine⟨_,Ad (qj hn.nd hn.ix hn.lc hn.fn) q rfl,λds vs g O J M H Q hl s r k=>?_⟩
  cases r with
  |nil=>simp at hl
  |@cons d ds v vs r rs=>
   obtain⟨aO,s1⟩:=s.fB (i:=i) (hb i dA) r;refine⟨v,vs,rfl,kk ds vs _ _ aO M H Q (by simpa using hl) s1 rs λσ' aA s' a=>k σ' aA s' ?_⟩
   refine wK.trans ⟨by rw[kS],λj hj=>?_⟩ (a.mono λj hj=>b0 _ hj)
   rw[eD (λe=>hj (by rw[<- e];exact dA))]
theorem uX{prog:Program}{w:World}{A:Around}{E:Value->Shared->Prop}{it l:Addr}{xs:Array Value}(ne:l≠it)(n:Nat):∀(i:Nat) (s:Shared) (Q:List Value->Shared->Prop),s.heap.IsListIter it l i->s.heap.IsList l xs->i+n=xs.size->
  (∀h',h'.IsListIter it l xs.size->Heap.SameBut it s.heap h'->Q (xs.toList.drop i) { s with heap:=h'})->wpAny (model prog w) A (draw (.ref it) n) Q E s:=by
 induction n with
 |zero=>
  intro i s Q hit _ hi k;have e:xs.toList.drop i=[]:=List.drop_eq_nil_of_le (by rw[tS];lia)
  have q:=k s.heap (by rw[<- hi];exact hit) (Heap.SameBut.refl ..)
  rw[e]at q;exact dS q
 |succ n ih=>
  intro i s Q hit hl hi k;have jC:i<xs.size:=by lia
  refine aS (wpAny_pyNext_list_item hit hl (x:=xs[i]) (by simp[jC]) λh1 b1 c1=>?_)
  refine aS (oP (ih (i+1) _ _ b1 (hl.extBut c1.extBut ne) ⋯ λh2 b2 c2=>dS ?_))
  have q:=k h2 b2 (c1.trans c2);rw[List.drop_eq_getElem_cons (by rw[tS];exact jC)]at q
  exact q
theorem sU{prog:Program}{w:World}{A:Around}{E:Value->Shared->Prop}{s:Shared}{l:Addr}{xs:Array Value}{Q:List Value->Shared->Prop}(hh:A.handled=none)(hl:s.heap.IsList l xs)
  (k:∀h',Heap.ExtBut s⁻¹ s.heap h'->Q xs.toList { s with heap:=h'}):wpAny (model prog w) A (unpackItems (.ref l) xs.size none) Q E s:=by
 have ne:l≠s⁻¹:=by obtain⟨o,ho,_⟩:=hl;exact gL (d0 ho)
 unfold unpackItems;refine aS ?_;unfold notIterableAtAll;refine aS (wpAny_specialOf hl.typeIs slot_list_iter.lookup ?_);refine dS ?_;simp only[AV,CI];refine aS (oP (AF hl ?_));refine aS (oP (uX ne xs.size 0 _ _ ⟨_,d6 _ rfl,rfl,rfl⟩ (hl.push _) (Nat.zero_add _) λh1 b1 c1=>?_))
 rw[BC,gN ⋯];refine aS (oP (wpAny_pyNext_list_end hh b1 ((hl.push _).extBut c1.extBut ne) ⋯ λh2 e2=>?_))
 simp only[Option.isSome_none,AV,CI];exact dS (k h2 λb o nb e=>e2 b o nb (c1.extBut b o nb (bP _ e)))
def YG(K:Frag)(n:Nat)(t:Kr):TG:=λv O H Q=>∃a xs,v=.ref a/\(fX K H a xs\/cG K H a xs)/\xs.length=n/\t xs O H Q
theorem Oa{es:List Expr}{k:Nat}{t:Kr}{n:Nat}(hc:X.calm=true)(h:RM X es t)(hn:(assignEach es X.env).length=n)(d8:(assignEach es X.env).findIdx? (·.1)=none):PG X (.Tuple es k pos) (YG X.K n t):=by
 intro ah s O H v u Q I r hw;obtain⟨a,xs,e1,hq,hl,hw⟩:=hw;rcases hq with hq |hq
 . exact L1 hc h hn d8 ah s O H v u Q I r ⟨a,xs,e1,hq,hl,hw⟩
 .
  subst e1;cases r;obtain⟨its,rv,pl,hz⟩:=I.list hq;rw[assign_Tuple];refine aS (BU ?_);unfold unpack;rw[d8,show (assignEach es X.env).length=its.toArray.size by rw[hn,<- hl,rv.length,dC]]
  refine aS (oP (sU (I.ok.hd hc) pl.isList λh' hx=>?_))
  have I1:L2.Inv X ah O H { s with heap:=h'}:=I.kept (t':=s.toks) λb o e=>hx b o (gL (d0 e)) e
  exact h ah _ O H xs _ Q I1 (by simpa using rv) hw
theorem Uz(hc:X.calm=true)(hK:z.K=X.K)(h:jh X es is)(hb:∀i∈is,i∉z.bor):sQ X z (.Tuple es k pos) (.tp is):=by
 obtain⟨t,q,kk⟩:=h.pgs (z:=z) hb;refine⟨_,Oa (n:=is.length) hc q h.plain.1 h.plain.2,λd g g' e v O J M H Q s r k=>?_⟩
 cases d with
 |tup ds=>
  have e:(if ds.length=is.length then some (jR is ds g)else none)=some g':=e
  by_cases hl:ds.length=is.length
  .
   rw[i5 hl]at e;cases e;cases r with
   |@tup _ a xs ha rr=>exact⟨a,xs,rfl,.inl (hK▸ha.sq),by rw[<- rr.length];exact hl,kk ds xs g O J M H Q hl s rr k⟩
  . rw[gN hl]at e;cases e
 |lst ds=>
  have e:(if ds.length=is.length then some (jR is ds g)else none)=some g':=e
  by_cases hl:ds.length=is.length
  .
   rw[i5 hl]at e;cases e;cases r with
   |@lst _ a xs ha rr=>exact⟨a,xs,rfl,.inr (cG.of ha.2),by rw[<- rr.length];exact hl,kk ds xs g O J M H Q hl s rr k⟩
  . rw[gN hl]at e;cases e
 |_=>cases e
def Jt(qqz:It)(items:List D)(K:Frag)(M1:List Addr)(H1:Hp):Prop:=
 ∀M2 H2,ak M1 H1 M2 H2->(∀n d,items[n]?=some d->qqz.go n H2/\∀x H',qqz.WQ n H2 x H'->∀(z:Z) g O J,z.K=K->S z g O J M2 H2->S z g O J M2 H'/\ak M2 H2 M2 H'/\Rep K M2 H' d x)/\qqz.stop items.length H2
def iG(X:Cx)(z:Z)(tg iter:Expr)(g:G)(items:List D)(g1:G):Prop:=
 ∃wi,PI X tg iter wi/\∀O J M H (R:It->Hp->Prop),S z g O J M H->(∀qqz H' aA M',S z g1 O aA M' H'->ak M H M' H'->Jt qqz items z.K M' H'->R qqz H')->wi O H R
theorem Ob(hK:z.K=X.K)(h:az X z iter g (.dat (.tup l)) g1):iG X z tg iter g l g1:=by
 obtain⟨t,q,k⟩:=h;refine⟨_,Mh q,λO J M H R s kk=>k O J M H _ s λv H1 aO M1 s1 cU r=>?_⟩
 have r':Rep z.K M1 H1 (.tup l) v:=r;cases r' with
 |@tup _ a xs ha rr=>
  refine⟨a,rfl,⟨xs,hK▸ha.sq⟩,kk _ H1 aO M1 s1 cU λM2 H2 aP=>?_⟩
  have r2:=Rep.stay aP (Rep.tup ha rr);have ha2:TupAt z.K M2 H2 a xs:=by
   rcases ha with ⟨na,hr⟩ |hk
   . exact .inl (aP.rd na hr)
   . exact .inr hk
  have KR:=rr.stay aP;refine⟨λn d hd=>?_,xs,hK▸ha2.sq,by rw[rr.length];exact eA _⟩
  obtain⟨x,e1,e2⟩:=KR.get hd;refine⟨⟨xs,x,hK▸ha2.sq,e1⟩,λy H' hy z' g' σ' aA _ s'=>?_⟩
  obtain⟨rfl,hy⟩:=hy;have:=hy xs (hK▸ha2.sq);rw[e1]at this;cases this;exact⟨s',ak.refl _ _,e2⟩
theorem Oc(h:az X z iter g (.dat (.lst l)) g1):iG X z tg iter g l g1:=by
 obtain⟨t,q,k⟩:=h;refine⟨_,qk q,λO J M H R s kk=>k O J M H _ s λv H1 aO M1 s1 cU r=>?_⟩
 have r':Rep z.K M1 H1 (.lst l) v:=r;cases r' with
 |@lst _ a xs ha rr=>
  refine⟨a,rfl,⟨xs,cG.of ha.2⟩,kk _ H1 aO M1 s1 cU λM2 H2 aP=>?_⟩
  have ha2:=(aP _ _ ha.2 ha.1).1;have KR:=rr.stay aP;refine⟨λn d hd=>?_,xs,cG.of ha2,by rw[rr.length];exact eA _⟩
  obtain⟨x,e1,e2⟩:=KR.get hd;refine⟨⟨xs,x,cG.of ha2,e1⟩,λy H' hy z' g' σ' aA _ s'=>?_⟩
  obtain⟨rfl,hy⟩:=hy;have:=hy xs (cG.of ha2);rw[e1]at this;cases this;exact⟨s',ak.refl _ _,e2⟩
theorem Od(hK:z.K=X.K)(h:az X z iter g (.dat (.fix l)) g1):iG X z tg iter g l g1:=by
 obtain⟨t,q,k⟩:=h;refine⟨_,qk q,λO J M H R s kk=>k O J M H _ s λv H1 aO M1 s1 cU r=>?_⟩
 have r':Rep z.K M1 H1 (.fix l) v:=r;cases r' with
 |@fix _ a xs ha rr=>
  refine⟨a,rfl,⟨xs,hK▸ha.sq⟩,kk _ H1 aO M1 s1 cU λM2 H2 aP=>?_⟩
  have ha2:lV z.K M2 H2 a xs:=by
   rcases ha with ⟨na,o,hr⟩ |hk
   . exact .inl ⟨(aP _ _ hr na).2,o,(aP _ _ hr na).1⟩
   . exact .inr hk
  have KR:=rr.stay aP;refine⟨λn d hd=>?_,xs,hK▸ha2.sq,by rw[rr.length];exact eA _⟩
  obtain⟨x,e1,e2⟩:=KR.get hd;refine⟨⟨xs,x,hK▸ha2.sq,e1⟩,λy H' hy z' g' σ' aA _ s'=>?_⟩
  obtain⟨rfl,hy⟩:=hy;have:=hy xs (hK▸ha2.sq);rw[e1]at this;cases this;exact⟨s',ak.refl _ _,e2⟩
theorem Bt{lo:Int}{n:Nat}{K:Frag}{M:List Addr}{H:Hp}:Jt (Mg lo n) (fG lo n) K M H:=λM2 H2 _=>by
 refine⟨λk d hd=>?_,?_⟩
 .
  have hk:k<n:=by have:=(dE.mp hd).1;rw[sP]at this;exact this
  rw[Bq hk]at hd;cases hd;refine⟨hk,λx H' hx z' g' σ' aA _ s'=>?_⟩
  obtain⟨rfl,rfl⟩:=hx;exact⟨s',ak.refl _ _,.int _⟩
 . show n<=(fG lo n).length;rw[sP];exact eA _
theorem Hr(h:cV X z [a] g [‹j›] g1)(hg:Gl X "range")(hm:X.mg "range"=none)(hs:starEach [a] X.env=[(false,eval a X.env)])(h1 : -(2 ^ 62)<=j)(h2:j<2 ^ 62) :
  iG X z tg (.Call (.Name "range" p) [a] [] rp) g (fG 0 j.toNat) g1:=by
 obtain⟨wi,q,k⟩:=yy (p:=p) (rp:=rp) h hg hm hs h1 h2 (tg:=tg);exact⟨wi,q,λO J M H R s kk=>k O J M H _ s λH' aA M' s' st=>kk _ H' aA M' s' st Bt⟩
theorem Hs(h:cV X z [a,b] g [‹c›,‹j›] g1)(hg:Gl X "range")(hm:X.mg "range"=none)(hs:starEach [a,b] X.env=[(false,eval a X.env),(false,eval b X.env)])(hs2:starEach [b] X.env=[(false,eval b X.env)])
  (h1 : -(2 ^ 62)<=c/\c<2 ^ 62/\-(2 ^ 62)<=j/\j<2 ^ 62):iG X z tg (.Call (.Name "range" p) [a,b] [] rp) g (fG c (j - c).toNat) g1:=by
 obtain⟨wi,q,k⟩:=yz (p:=p) (rp:=rp) h hg hm hs hs2 h1 (tg:=tg);exact⟨wi,q,λO J M H R s kk=>k O J M H _ s λH' aA M' s' st=>kk _ H' aA M' s' st Bt⟩
inductive dY(X:Cx)(z:Z)(body:List Stmt)(T:Tg):List D->G->Fl->G->Prop
 |nil {g:G}:dY X z body T [] g .nx g
 |next {d:D}{l:List D}{g g0 g1 g2:G}{f:Fl}:T.set d g=some g0->dF X z body g0 .nx g1->dY X z body T l g1 f g2->dY X z body T (d::l) g f g2
 |cont {d:D}{l:List D}{g g0 g1 g2:G}{f:Fl}:T.set d g=some g0->dF X z body g0 .ct g1->dY X z body T l g1 f g2->dY X z body T (d::l) g f g2
 |brk {d:D}{l:List D}{g g0 g1:G}:T.set d g=some g0->dF X z body g0 .bk g1->dY X z body T (d::l) g .nx g1
 |ret {d:D}{l:List D}{g g0 g1:G}{r:R}:T.set d g=some g0->dF X z body g0 (.rt r) g1->dY X z body T (d::l) g (.rt r) g1
theorem Oe(hp:PassesOwn (~~~2) X.A X.env X.xe)(hc:X.calm=true)(hw:iG X z tg iter g items g1)(ht:sQ X z tg T)(hb:dY X z body T items g1 f g')(hs:∀y,foldedSetIterable iter X.env y=pure y) :
  fF X z (.For tg iter body [] pos) g f g':=by
 obtain⟨wi,q,k⟩:=hw;obtain⟨t,qt,kt⟩:=ht;refine⟨_,Mi hp hc q qt wG hs,λO J M H E s kk=>k O J M H _ s λqqz H1 aO M1 s1 cU hJ=>?_⟩
 refine⟨λi m σ2 H2=>i+m=items.length/\∃g2 bx M2,S z g2 σ2 bx M2 H2/\ak M1 H1 M2 H2/\dY X z body T (items.drop i) g2 f g',⟨items.length,by lia,g1,aO,M1,s1,ak.refl _ _,by simpa using hb⟩,?_⟩
 rintro i m σ2 H2 ⟨him,g2,bx,M2,s2,aP,lo⟩;obtain⟨hgo,hstop⟩:=hJ M2 H2 aP;cases e:items[i]? with
 |none=>
  have hi:i=items.length:=by have:=yB.mp e;lia
  subst hi;rw[List.drop_length]at lo;refine .inl ⟨hstop,?_⟩;cases lo;exact kk σ2 bx M2 H2 s2 (cU.trans aP)
 |some d=>
  obtain⟨go,yl⟩:=hgo i d e;rw[drop_cons e]at lo;have hi:i<items.length:=(dE.mp e).1;refine .inr ⟨go,λσ' H'=>∃g3 jF M3,S z g3 σ' jF M3 H'/\ak M1 H1 M3 H'/\dY X z body T (items.drop (i+1)) g3 f g',λσ' H' ⟨g3,jF,M3,w1,w2,w3⟩=>⟨m - 1,by lia,by lia,g3,jF,M3,w1,w2,w3⟩,λx H' hx=>?_⟩
  obtain⟨s3,gG,rx⟩:=yl x H' hx z g2 σ2 bx rfl s2;have kk':=(kk.trans cU).trans (aP.trans gG);have UG:=aP.trans gG;cases lo with
  |next e0 b h=>
   refine kt d g2 _ e0 x σ2 bx M2 H' _ s3 rx λσ' aA s' _=>?_
   obtain⟨t,q,kb⟩:=b;exact⟨t,q,kb _ aA M2 H' _ s' λσ4 mz M4 H4 s4 sV=>⟨_,mz,M4,s4,UG.trans sV,h⟩⟩
  |cont e0 b h=>
   refine kt d g2 _ e0 x σ2 bx M2 H' _ s3 rx λσ' aA s' _=>?_
   obtain⟨t,q,kb⟩:=b;exact⟨t,q,kb _ aA M2 H' _ s' λσ4 mz M4 H4 s4 sV=>⟨_,mz,M4,s4,UG.trans sV,h⟩⟩
  |brk e0 b=>
   refine kt d g2 _ e0 x σ2 bx M2 H' _ s3 rx λσ' aA s' _=>?_
   obtain⟨t,q,kb⟩:=b;exact⟨t,q,kb _ aA M2 H' _ s' λσ4 mz M4 H4 s4 sV=>kk' σ4 mz M4 H4 s4 sV⟩
  |ret e0 b=>
   refine kt d g2 _ e0 x σ2 bx M2 H' _ s3 rx λσ' aA s' _=>?_
   obtain⟨t,q,kb⟩:=b;exact⟨t,q,kb _ aA M2 H' _ s' λv σ4 mz M4 H4 s4 sV R=>kk' v σ4 mz M4 H4 s4 sV R⟩
end
noncomputable def gC(k:Nat)(g:G):G:=g++(List.replicate k .no++[.own []])
def g8(X:Cx)(z:Z)(ifs:List Expr)(g:G)(b:Bool)(g':G):Prop:=
 ∃t,sG X ifs t/\∀O J M H (Q:Bool->Hp->Prop),S z g O J M H->(∀H' aA M',S z g' O aA M' H'->ak M H M' H'->Q b H')->t O H Q
theorem Ht:g8 X z [] g true g:=⟨_,sH,λO J M H Q s k=>k H J M s (ak.refl _ _)⟩
theorem Hu(h:bZ X z c g b g'):g8 X z [c] g b g':=let ⟨t,q,k⟩:=h;⟨t,Ar q,k⟩
inductive kY(T:Tg)(last:Nat)(Og:G->Bool->G->Prop)(RQ:G->D->G->Prop):List D->G->G->Prop
 |nil {g:G}:kY T last Og RQ [] g g
 |skip:T.set d g=some g1->Og g1 false g2->kY T last Og RQ l g2 g'->kY T last Og RQ (d::l) g g'
 |take:T.set d g=some g1->Og g1 true g2->RQ g2 e g3->g3[last]?=some (.own acc)->acc.length<16777216->kY T last Og RQ l (g3.set last (.own (acc++[e]))) g'->kY T last Og RQ (d::l) g g'
section
theorem S.extend(s:S z g O J M H)(hm:a∈M)(hA:a∉J)(h0:z.H0 a=none)(h:H a=some (.lst xs))(r:aJ z.K M H l xs) :
  S z (g++(List.replicate k .no++[.own l])) (O++(List.replicate k none++[some (.ref a)])) (J++([]++[a])) M H:=by
 have hl:=s.sl.length;refine⟨s.sl.append ((Slots.W3 k).append (.own h r .nil)),?_,λb hb=>?_,λi b l' e1 e2=>?_,s.live,s.keep,s.gR,s.m0,s.bm,λp hp=>?_,s.tab,s.tm,s.tt⟩
 .
  rw[y7];refine List.nodup_append.mpr ⟨s.nd,fN.mpr ⟨by simp,wE⟩,λx hx y hy e=>?_⟩
  rw[hU.mp hy]at e;exact hA (e▸hx)
 .
  rcases sB.mp hb with q |q
  . exact s.sub b q
  . rw[y7]at q;rw[hU.mp q];exact hm
 .
  rcases AQ i g.length with hi |hi
  . rw[eJ hi]at e1;rw[eJ ⋯]at e2;exact s.own i b l' e1 e2
  .
   rw[d5 hi]at e1;rw[d5 ⋯]at e2;rcases AQ (i - g.length) k with hk |hk
   .
    rw[eJ (by rw[fA];exact hk)]at e1
    have:=l7 e1;rw[xL]at this;exact absurd this.2 ⋯
   .
    rw[d5 (by rw[fA];lia),fA]at e2
    have e3:i - O.length - k=0:=by
     rcases Nat.eq_zero_or_pos (i - O.length - k)with q |q
     . exact q
     . rw[t8 (Nat.succ_le_of_lt q)]at e2;cases e2
    rw[e3]at e2;have e4:some (some (V.ref a))=some (some (V.ref b)):=e2;injection e4 with e4;injection e4 with e4;injection e4 with e4;exact .inr (e4▸h0)
 . obtain⟨q1,l',q2⟩:=s.iR p hp;exact⟨by rw[eJ (dE.mp q1).1];exact q1,l',by rw[eJ (dE.mp q2).1];exact q2⟩
theorem Slots.split{K:Frag}{g1 g2:G}{O:Sg}{J:List Addr}(q:Slots K M H (g1++g2) O J):∃σ1 σ2 A1 A2,O=σ1++σ2/\J=A1++A2/\Slots K M H g1 σ1 A1/\Slots K M H g2 σ2 A2:=by
 induction g1 generalizing O J with
 |nil=>exact⟨[],_,[],_,rfl,rfl,.nil,q⟩
 |cons o g1 ih=>cases q with
  |no q=>obtain⟨s1,s2,a1,a2,rfl,rfl,h1,h2⟩:=ih q;exact⟨_::s1,s2,a1,a2,rfl,rfl,.no h1,h2⟩
  |dat r q=>obtain⟨s1,s2,a1,a2,rfl,rfl,h1,h2⟩:=ih q;exact⟨_::s1,s2,a1,a2,rfl,rfl,.dat r h1,h2⟩
  |own e r q=>obtain⟨s1,s2,a1,a2,rfl,rfl,h1,h2⟩:=ih q;exact⟨_::s1,s2,_::a1,a2,rfl,rfl,.own e r h1,h2⟩
theorem S.shrink{gb:G}{τ:Sg}{l:List D}{i:Nat}{a:Addr}(s:S z gb (O++τ) J M H)(hz:∀p∈z.lent,p.1<O.length)(hi:O.length<=i)(e1:gb[i]?=some (.own l))(e2:(O++τ)[i]?=some (some (.ref a))) :
  ∃A1,S z (gb.take O.length) O A1 M H/\a∈M/\a∉A1:=by
 have hl:=s.sl.length;rw[i6]at hl;have q:=s.sl;rw[<- BH O.length gb]at q;obtain⟨σ1,σ2,A1,A2,h1,h2,h3,h4⟩:=q.split;have l1:=h3.length;rw[u7,Nat.min_eq_left ⋯]at l1;obtain⟨rfl,rfl⟩:=List.append_inj h1 l1;subst h2;have hA2:a∈A2:=by
  obtain⟨b,xs,f1,f2,_⟩:=h4.at (i:=i - O.length) (l:=l) (by rw[List.getElem?_drop,Nat.add_sub_cancel' hi];exact e1)
  rw[d5 hi]at e2;rw[e2]at f1;injection f1 with f1;injection f1 with f1;injection f1 with f1;exact f1▸f2
 have tk:∀(j:Nat) (o:Slot),(gb.take O.length)[j]?=some o->gb[j]?=some o/\j<O.length:=λj o e=>by
  have hj:=(dE.mp e).1;rw[u7]at hj;have hj':j<O.length:=eM hj (Nat.min_le_left _ _);rw[y6 hj']at e;exact⟨e,hj'⟩
 refine⟨A1,⟨h3,(List.nodup_append.mp s.nd).1,λb hb=>s.sub b (AI _ hb),λj b l' c1 c2=>?_,s.live,s.keep,s.gR,s.m0,s.bm,λp hp=>?_,s.tab,s.tm,s.tt⟩,s.sub a (kA _ hA2),λhA=>(List.nodup_append.mp s.nd).2.2 a hA a hA2 rfl⟩
 . obtain⟨c3,c4⟩:=tk j _ c1;exact s.own j b l' c3 (by rw[eJ c4];exact c2)
 . obtain⟨c1,l',c2⟩:=s.iR p hp;have zS:=hz p hp;rw[eJ zS]at c1;exact⟨c1,l',by rw[y6 zS];exact c2⟩
theorem mC(h:wK is (O++τ) σ')(hi:∀i∈is,O.length<=i):∃τ',σ'=O++τ':=by
 refine⟨σ'.drop O.length,?_⟩;have e:σ'.take O.length=O:=by
  apply List.ext_getElem?;intro j;rcases AQ j O.length with hj |hj
  . rw[y6 hj,h.2 j (λz=>Nat.not_lt.mpr (hi j z) hj),eJ hj]
  . rw[t8 (by rw[u7];exact oI (Nat.min_le_left _ _) hj),t8 hj]
 have:=(BH O.length σ').symm;rw[e]at this;exact this
end
section
def UJ(X:Cx)(tg:Expr):TG:=λv O H Q=>∃t,PG X tg t/\t v O H Q
theorem Bu:PG X tg (UJ X tg):=λah s O H v u Q I r h=>let ⟨t,q,k⟩:=h;q ah s O H v u Q I r k
def UL(X:Cx)(ifs:List Expr):TT:=λO H Q=>∃t,sG X ifs t/\t O H Q
theorem Bv:sG X ifs (UL X ifs):=λah s O H Q I h=>let ⟨t,q,k⟩:=h;q ah s O H Q I k
def Hv(X:Cx)(e:Expr):TE:=λO H Q=>∃t,PE X e t/\t O H Q
theorem uY:PE X e (Hv X e):=λah s O H Q I h=>let ⟨t,q,k⟩:=h;q ah s O H Q I k
theorem mF(hw:iG X z tg iter g items g1)(ht:∀b:Bk,sQ (X.blk N' scope b) z tg T)(hT:∀i∈T.ix,g1.length<=i/\i<g1.length+k)
  (hcp:kY T (g1.length+k) (λg b g'=>∀bk:Bk,g8 (X.blk N' scope bk) z ifs g b g') (λg d g'=>∀bk:Bk,az (X.blk N' scope bk) z gP g (.dat d) g') items (gC k g1) gE) (hacc:gE[g1.length+k]?=some (.own acc)) :
  ∃wi,PI X tg iter wi/\∀O J M H Q,S z g O J M H->Kn z (gE.take g1.length) O M H (.new acc) Q->Aw X k wi (λb=>UJ (X.blk N' scope b) tg) (λb=>UL (X.blk N' scope b) ifs) (λD b=>GF D (Hv (X.blk N' scope b) gP)) O H Q:=by
 obtain⟨wi,q,kw⟩:=hw;refine⟨wi,q,λO J M H Q s kq=>kw O J M H _ s λqqz H1 aO M1 s1 cU hJ D hD=>?_⟩
 have hl:g1.length=O.length:=s1.sl.length;have hz:∀p∈z.lent,p.1<O.length:=λp hp=>(dE.mp (s1.iR p hp).1).1
 have UT:∀i∈T.ix,O.length<=i:=λi hi=>by rw[<- hl];exact (hT i hi).1
 have gq:g1.length+k∉T.ix:=λh=>qS _ (hT _ h).2
 have s1':=s1.bf (xs:=[]) hD;have h0:z.H0 D=none:=s1.dB hD;have nA:D∉aO:=λh=>s1.fresh hD (s1.sub D h)
 have sb:=s1'.extend (k:=k) (l:=[]) dA nA h0 aC .nil;have o9:(O++(List.replicate k none++[some (V.ref D)]))[g1.length+k]?=some (some (V.ref D)):=by
  rw[hl,d5 (xI _ _),i9,d5 (by rw[fA];exact eA _),fA,BI]
  rfl
 refine⟨λi m σ' H'=>i+m=items.length/\∃gb Ab Mb τ,S z gb σ' Ab Mb H'/\ak M1 H1 Mb H'/\σ'=O++τ/\σ'[g1.length+k]?=some (some (.ref D))/\kY T (g1.length+k) (λg b g'=>∀bk:Bk,g8 (X.blk N' scope bk) z ifs g b g') (λg d g'=>∀bk:Bk,az (X.blk N' scope bk) z gP g (.dat d) g') (items.drop i) gb gE,
  ⟨items.length,by lia,_,_,_,_,sb,ak.bf hD,rfl,o9,hcp⟩,?_⟩
 rintro i m σ' H' ⟨him,gb,Ab,Mb,τ,s2,aP,rfl,W4,cp⟩;obtain⟨hgo,hstop⟩:=hJ Mb H' aP;cases e:items[i]? with
 |none=>
  have hi:i=items.length:=by have:=yB.mp e;lia
  subst hi;rw[List.drop_length]at cp;cases cp;refine .inl ⟨hstop,?_⟩;obtain⟨a,xs,f1,f2,f3,f4⟩:=s2.sl.at hacc;rw[W4]at f1;injection f1 with f1;injection f1 with f1;injection f1 with f1;subst f1;obtain⟨A1,s3,m3,n3⟩:=s2.shrink hz ⋯ hacc W4;rw[<- hl]at s3;exact kq _ H' A1 Mb s3 (cU.trans aP) ⟨D,xs,rfl,m3,n3,h0,f3,f4⟩
 |some d=>
  obtain⟨go,yl⟩:=hgo i d e;rw[drop_cons e]at cp;have hi:i<items.length:=(dE.mp e).1;refine .inr ⟨go,λσ' H'=>∃gb Ab Mb τ,S z gb σ' Ab Mb H'/\ak M1 H1 Mb H'/\σ'=O++τ/\σ'[g1.length+k]?=some (some (.ref D))/\kY T (g1.length+k) (λg b g'=>∀bk:Bk,g8 (X.blk N' scope bk) z ifs g b g') (λg d g'=>∀bk:Bk,az (X.blk N' scope bk) z gP g (.dat d) g') (items.drop (i+1)) gb gE,
   λW0 W2 hN=>⟨m - 1,by lia,by lia,hN⟩,λx H2 hx bk _=>?_⟩
  obtain⟨s3,gG,rx⟩:=yl x H2 hx z gb (O++τ) Ab rfl s2;obtain⟨t,qt,kt⟩:=ht bk;cases cp with
  |skip e0 hc rest=>
   refine⟨t,qt,kt d gb _ e0 x _ Ab Mb H2 _ s3 rx λσ4 mz s4 ag=>?_⟩
   obtain⟨τ',rfl⟩:=mC ag UT;obtain⟨t2,q2,k2⟩:=hc bk;refine⟨t2,q2,k2 _ mz Mb H2 _ s4 λH5 Oh M5 s5 uQ=>?_⟩
   refine nX ⟨_,Oh,M5,τ',s5,(aP.trans gG).trans uQ,rfl,?_,rest⟩;rw[ag.2 _ gq];exact W4
  |take e0 hc he ha hz' rest=>
   refine⟨t,qt,kt d gb _ e0 x _ Ab Mb H2 _ s3 rx λσ4 mz s4 ag=>?_⟩
   obtain⟨τ',rfl⟩:=mC ag UT;obtain⟨t2,q2,k2⟩:=hc bk;obtain⟨t3,q3,k3⟩:=he bk;have YH:(O++τ')[g1.length+k]?=some (some (V.ref D)):=by rw[ag.2 _ gq];exact W4
   refine⟨t2,q2,k2 _ mz Mb H2 _ s4 λH5 Oh M5 s5 uQ=>jN ⟨t3,q3,k3 _ Oh M5 H5 _ s5 λv H6 As6 M6 s6 YJ R6=>?_⟩⟩
   obtain⟨a,xs,f1,f2,f3,f4⟩:=s6.sl.at ha;rw[YH]at f1;injection f1 with f1;injection f1 with f1;injection f1 with f1;subst f1;obtain⟨s7,YK⟩:=s6.write ha YH (f4.append (.cons R6 .nil));refine⟨xs,f3,by rw[<- f4.length,rV];exact hz',_,As6,M6,τ',s7,(((aP.trans gG).trans uQ).trans YJ).trans YK,rfl,YH,rest⟩
theorem Hw(B:aN X.env.scope scope)(hc:X.calm=true)(hN:Names X.N N' scope k)(hw:iG X z tg iter g items g1)(ht:∀b:Bk,sQ (X.blk N' scope b) z tg T)(hT:∀i∈T.ix,g1.length<=i/\i<g1.length+k)
  (hcp:kY T (g1.length+k) (λg b g'=>∀bk:Bk,g8 (X.blk N' scope bk) z ifs g b g') (λg d g'=>∀bk:Bk,az (X.blk N' scope bk) z gP g (.dat d) g') items (gC k g1) gE) (hacc:gE[g1.length+k]?=some (.own acc))
  (hs:∀x,foldedSetIterable iter X.env x=pure x):az X z (.ListComp gP [⟨tg,iter,ifs,0⟩] scope pos) g (.new acc) (gE.take g1.length):=by
 obtain⟨wi,q,kk⟩:=mF hw ht hT hcp hacc;exact⟨_,wB B hc hN q (λb=>⟨Bu,Bv,uY⟩) hs,kk⟩
theorem Hx(B:aN X.env.scope scope)(hc:X.calm=true)(hN:Names X.N N' scope k)(hw:iG X z tg iter g items g1)(ht:∀b:Bk,sQ (X.blk N' scope b) z tg T)(hT:∀i∈T.ix,g1.length<=i/\i<g1.length+k)
  (hcp:kY T (g1.length+k) (λg b g'=>∀bk:Bk,g8 (X.blk N' scope bk) z ifs g b g') (λg d g'=>∀bk:Bk,az (X.blk N' scope bk) z gP g (.dat d) g') items (gC k g1) gE) (hacc:gE[g1.length+k]?=some (.own acc))
  (Uk:X.N.Nodup) (hy:X.N[i]?=some y) (hl:X.env.scope.names.lookup y=some .local) (hb:i∉z.bor) (hi:i<(gE.take g1.length).length)
  (hsw:swapsWith (.ListComp gP [⟨tg,iter,ifs,0⟩] scope pos) (some (.Name y py)) g7.line X.env=pure true)
  (hs:∀x,foldedSetIterable iter X.env x=pure x):fF X z (.Assign [.Name y py] (.ListComp gP [⟨tg,iter,ifs,0⟩] scope pos) g7) g .nx ((gE.take g1.length).set i (.own acc)):=by
 obtain⟨wi,q,kk⟩:=mF hw ht hT hcp hacc;refine⟨_,GP B hc hN q (λb=>⟨Bu,Bv,uY⟩) Uk hy hl hsw hs,λO J M H E s kE=>kk O J M H _ s λv H' aA M' s' st R=>?_⟩
 obtain⟨a,xs,rfl,hm,hA,h0,ha,rr⟩:=R;obtain⟨bx,s2⟩:=s'.qE hb hi hm hA h0 ha rr;exact kE _ bx M' H' s2 st
end
section
theorem az.run(he:az X z e g r g1)(I:L2.Inv X ah O H s)(st:S z g O J M H)
  (k:∀v u s1 H1 aO M1,L2.Inv X ah O H1 s1->RelV v u->S z g1 O aO M1 H1->ak M H M1 H1->cN z g1 O aO M1 H1 r v->Post u s1):wpAny (~~~2) X.A (eval e X.env) Post X.xe s:=by
 obtain⟨t,q,kt⟩:=he;exact bR (q ah s O H (λv H1=>∃aO M1,S z g1 O aO M1 H1/\ak M H M1 H1/\cN z g1 O aO M1 H1 r v) I (kt O J M H _ st λv H1 aO M1 s1 cU R=>⟨aO,M1,s1,cU,R⟩)) λu s1 ⟨v,H1,I1,r1,aO,M1,q1,q2,q3⟩=>k v u s1 H1 aO M1 I1 r1 q1 q2 q3
theorem ku.run(ho:ku X z f d1 d2 r)(I:L2.Inv X ah O H s)(st:S z g O J M H)(p1:Pk z.K M H d1 v1)(p2:Pk z.K M H d2 v2)(r1:RelV v1 u1)(r2:RelV v2 u2)
  (k:∀v u s1 H1 aO M1,L2.Inv X ah O H1 s1->RelV v u->S z g O aO M1 H1->ak M H M1 H1->cN z g O aO M1 H1 r v->Post u s1):wpAny (~~~2) X.A (f u1 u2) Post X.xe s:=by
 obtain⟨rr,o,ko⟩:=ho;exact bR (o ah s O H v1 v2 u1 u2 (λv H1=>∃aO M1,S z g O aO M1 H1/\ak M H M1 H1/\cN z g O aO M1 H1 r v) I r1 r2 (ko g O J M H v1 v2 _ st p1 p2 λv H1 aO M1 s1 cU R=>⟨aO,M1,s1,cU,R⟩)) λu s1 ⟨v,H1,I1,r1,aO,M1,q1,q2,q3⟩=>k v u s1 H1 aO M1 I1 r1 q1 q2 q3
theorem az.of (h:∀(ah: ~~~1) (s:Shared) (O:Sg) (J M:List Addr) (H:Hp) (Post:Value->Shared->Prop),L2.Inv X ah O H s->S z g O J M H->
  (∀v u s1 H1 aO M1,L2.Inv X ah O H1 s1->RelV v u->S z g1 O aO M1 H1->ak M H M1 H1->cN z g1 O aO M1 H1 r v->Post u s1)->wpAny (~~~2) X.A (eval e X.env) Post X.xe s):az X z e g r g1:=
 ⟨λO H Q=>∃J M,S z g O J M H/\Kn z g1 O M H r Q,λah s O H Q I ⟨J,M,st,k⟩=>h ah s O J M H _ I st λv u s1 H1 aO M1 I1 r1 q1 q2 q3=>⟨v,H1,I1,r1,k v H1 aO M1 q1 q2 q3⟩,λO J M H Q s k=>⟨J,M,s,k⟩⟩
theorem bZ.of (h:∀(ah: ~~~1) (s:Shared) (O:Sg) (J M:List Addr) (H:Hp) (Post:Bool->Shared->Prop),L2.Inv X ah O H s->S z g O J M H->
  (∀s1 H1 aO M1,L2.Inv X ah O H1 s1->S z g1 O aO M1 H1->ak M H M1 H1->Post b s1)->wpAny (~~~2) X.A (isTrue e X.env (eval e X.env)) Post X.xe s):bZ X z e g b g1:=
 ⟨λO H Q=>∃J M,S z g O J M H/\(∀H' aA M',S z g1 O aA M' H'->ak M H M' H'->Q b H'),λah s O H Q I ⟨J,M,st,k⟩=>h ah s O J M H _ I st λs1 H1 aO M1 I1 q1 q2=>⟨H1,I1,k H1 aO M1 q1 q2⟩,λO J M H Q s k=>⟨J,M,s,k⟩⟩
inductive qH(X:Cx)(z:Z):D->List CmpOp->List Expr->G->Bool->G->Prop
 |last {d1 d2:D}{op:CmpOp}{b:Expr}{g g1:G}{c:Bool}:az X z b g (.dat d2) g1->ku X z (compareOp op) d1 d2 (.dat (.bl c))->qH X z d1 [op] [b] g c g1
 |stop {d1 d2:D}{op op':CmpOp}{ops:List CmpOp}{b b':Expr}{bs:List Expr}{g g1:G}:az X z b g (.dat d2) g1->ku X z (compareOp op) d1 d2 (.dat (.bl false))->qH X z d1 (op::op'::ops) (b::b'::bs) g false g1
 |link {d1 d2:D}{op op':CmpOp}{ops:List CmpOp}{b b':Expr}{bs:List Expr}{g g1 g2:G}{c:Bool}:az X z b g (.dat d2) g1->ku X z (compareOp op) d1 d2 (.dat (.bl true))->qH X z d2 (op'::ops) (b'::bs) g1 c g2->qH X z d1 (op::op'::ops) (b::b'::bs) g c g2
theorem Oi(h:qH X z d1 ops bs g c g'):∀(ah: ~~~1) (s:Shared) (O:Sg) (H:Hp) (J M:List Addr) (Post:Value->Shared->Prop) (v1:V) (u1:Value),L2.Inv X ah O H s->S z g O J M H->Rep z.K M H d1 v1->RelV v1 u1->
  (∀s1 H' aA M',L2.Inv X ah O H' s1->S z g' O aA M' H'->ak M H M' H'->Post (.bool c) s1)->wpAny (~~~2) X.A (compareChain pos u1 ops (evalEach bs X.env)) Post X.xe s:=by
 induction h with
 |@last d1 d2 op b g g1 c he ho=>
  intro ah s O H J M Post v1 u1 I st r rv k;show wpAny _ X.A (compareChain pos u1 [op] [eval b X.env]) _ _ s;refine chain_last (he.run I st λv u s1 H1 aO M1 I1 r1 q1 q2 q3=>ho.run I1 q1 (.of (r.stay q2)) (.of q3) rv r1 λv' u' s2 H2 bx M2 I2 r2 p1 p2 p3=>?_)
  rw[eu p3]at r2;cases r2;exact k s2 H2 bx M2 I2 p1 (q2.trans p2)
 |@stop d1 d2 op op' ops b b' bs g g1 he ho=>
  intro ah s O H J M Post v1 u1 I st r rv k;show wpAny _ X.A (compareChain pos u1 (op::op'::ops) (eval b X.env::eval b' X.env::evalEach bs X.env)) _ _ s;refine chain_link (he.run I st λv u s1 H1 aO M1 I1 r1 q1 q2 q3=>ho.run I1 q1 (.of (r.stay q2)) (.of q3) rv r1 λv' u' s2 H2 bx M2 I2 r2 p1 p2 p3=>?_)
  rw[eu p3]at r2;cases r2;exact mE (ite_ff (k s2 H2 bx M2 I2 p1 (q2.trans p2)))
 |@link d1 d2 op op' ops b b' bs g g1 g2 c he ho hch ih=>
  intro ah s O H J M Post v1 u1 I st r rv k;show wpAny _ X.A (compareChain pos u1 (op::op'::ops) (eval b X.env::eval b' X.env::evalEach bs X.env)) _ _ s;refine chain_link (he.run I st λv u s1 H1 aO M1 I1 r1 q1 q2 q3=>ho.run I1 q1 (.of (r.stay q2)) (.of q3) rv r1 λv' u' s2 H2 bx M2 I2 r2 p1 p2 p3=>?_)
  rw[eu p3]at r2;cases r2;exact mE (ite_tt (ih ah s2 O H2 bx M2 Post v u I2 p1 (Rep.stay p2 q3) r1 λs3 H3 jF M3 I3 w1 w2=>k s3 H3 jF M3 I3 w1 ((q2.trans p2).trans w2)))
theorem Hy(h:qH X z d1 ops bs g c g'):∀(ah: ~~~1) (s:Shared) (O:Sg) (H:Hp) (J M:List Addr) (Post:Bool->Shared->Prop) (v1:V) (u1:Value),L2.Inv X ah O H s->S z g O J M H->Rep z.K M H d1 v1->RelV v1 u1->
  (∀s1 H' aA M',L2.Inv X ah O H' s1->S z g' O aA M' H'->ak M H M' H'->Post c s1)->wpAny (~~~2) X.A (testChain pos u1 ops (evalEach bs X.env)) Post X.xe s:=by
 induction h with
 |@last d1 d2 op b g g1 c he ho=>
  intro ah s O H J M Post v1 u1 I st r rv k;show wpAny _ X.A (testChain pos u1 [op] [eval b X.env]) _ _ s;refine test_last (he.run I st λv u s1 H1 aO M1 I1 r1 q1 q2 q3=>ho.run I1 q1 (.of (r.stay q2)) (.of q3) rv r1 λv' u' s2 H2 bx M2 I2 r2 p1 p2 p3=>?_)
  rw[eu p3]at r2;cases r2;exact mE (k s2 H2 bx M2 I2 p1 (q2.trans p2))
 |@stop d1 d2 op op' ops b b' bs g g1 he ho=>
  intro ah s O H J M Post v1 u1 I st r rv k;show wpAny _ X.A (testChain pos u1 (op::op'::ops) (eval b X.env::eval b' X.env::evalEach bs X.env)) _ _ s;refine test_link (he.run I st λv u s1 H1 aO M1 I1 r1 q1 q2 q3=>ho.run I1 q1 (.of (r.stay q2)) (.of q3) rv r1 λv' u' s2 H2 bx M2 I2 r2 p1 p2 p3=>?_)
  rw[eu p3]at r2;cases r2;exact mE (ite_ff (k s2 H2 bx M2 I2 p1 (q2.trans p2)))
 |@link d1 d2 op op' ops b b' bs g g1 g2 c he ho hch ih=>
  intro ah s O H J M Post v1 u1 I st r rv k;show wpAny _ X.A (testChain pos u1 (op::op'::ops) (eval b X.env::eval b' X.env::evalEach bs X.env)) _ _ s;refine test_link (he.run I st λv u s1 H1 aO M1 I1 r1 q1 q2 q3=>ho.run I1 q1 (.of (r.stay q2)) (.of q3) rv r1 λv' u' s2 H2 bx M2 I2 r2 p1 p2 p3=>?_)
  rw[eu p3]at r2;cases r2;exact mE (ite_tt (ih ah s2 O H2 bx M2 Post v u I2 p1 (Rep.stay p2 q3) r1 λs3 H3 jF M3 I3 w1 w2=>k s3 H3 jF M3 I3 w1 ((q2.trans p2).trans w2)))
theorem Bw(ha:az X z a g (.dat d1) g1)(h:qH X z d1 (Oj::Ol::ops) (b1::b2::bs) g1 c g2)(hm:lastMarks (Oj::Ol::ops) (b1::b2::bs)=false):az X z (.Compare a (Oj::Ol::ops) (b1::b2::bs) pos) g (.dat (.bl c)) g2:=
 az.of λah s O J M H Post I st k=>Compare_chain (ha.run I st λv u s1 H1 aO M1 I1 r1 q1 q2 q3=>Oi h ah s1 O H1 aO M1 Post v u I1 q1 q3 r1 λs2 H2 bx M2 I2 p1 p2=>k (.bl c) (.bool c) s2 H2 bx M2 I2 rfl p1 (q2.trans p2) (.bl c)) hm
theorem Bx(ha:az X z a g (.dat d1) g1)(h:qH X z d1 (Oj::Ol::ops) (b1::b2::bs) g1 c g2)(hm:lastMarks (Oj::Ol::ops) (b1::b2::bs)=false):bZ X z (.Compare a (Oj::Ol::ops) (b1::b2::bs) pos) g c g2:=
 bZ.of λah s O J M H Post I st k=>isTrue_chain (ha.run I st λv u s1 H1 aO M1 I1 r1 q1 q2 q3=>Hy h ah s1 O H1 aO M1 Post v u I1 q1 q3 r1 λs2 H2 bx M2 I2 p1 p2=>k s2 H2 bx M2 I2 p1 (q2.trans p2)) hm
inductive kZ(X:Cx)(z:Z)(c:Expr)(body:List Stmt):Nat->G->Fl->G->Prop
 |done {n:Nat}{g g1:G}:bZ X z c g false g1->kZ X z c body n g .nx g1
 |next {n:Nat}{g g1 g2 g3:G}{f:Fl}:bZ X z c g true g1->dF X z body g1 .nx g2->kZ X z c body n g2 f g3->kZ X z c body (n+1) g f g3
 |cont {n:Nat}{g g1 g2 g3:G}{f:Fl}:bZ X z c g true g1->dF X z body g1 .ct g2->kZ X z c body n g2 f g3->kZ X z c body (n+1) g f g3
 |brk {n:Nat}{g g1 g2:G}:bZ X z c g true g1->dF X z body g1 .bk g2->kZ X z c body n g .nx g2
 |ret {n:Nat}{g g1 g2:G}{r:R}:bZ X z c g true g1->dF X z body g1 (.rt r) g2->kZ X z c body n g (.rt r) g2
def UW(X:Cx)(e:Expr):TT:=λO H Q=>∃t,PT X e t/\t O H Q
theorem Om{e:Expr}:PT X e (UW X e):=λah s O H Q I h=>let ⟨t,q,k⟩:=h;q ah s O H Q I k
theorem By{ce:Expr}{body:List Stmt}{n:Nat}{f:Fl}{g':G}(hp:PassesOwn (~~~2) X.A X.env X.xe)(h:kZ X z ce body n g f g'):fF X z (.While ce body [] pos) g f g':=by
 refine⟨_,Ae hp Om wG,λO J M H E s k=>?_⟩
 refine⟨λm σ2 H2=>∃g2 bx M2,S z g2 σ2 bx M2 H2/\ak M H M2 H2/\kZ X z ce body m g2 f g',⟨n,g,J,M,s,ak.refl _ _,h⟩,?_⟩
 rintro m σ2 H2 ⟨g2,bx,M2,s2,aP,w⟩;cases w with
 |done hc=>obtain⟨t,q,kt⟩:=hc;exact⟨t,q,kt σ2 bx M2 H2 _ s2 λH3 jF M3 s3 gG=>nX (k σ2 jF M3 H3 s3 (aP.trans gG))⟩
 |@next m' _ g3 g4 _ _ hc hb w'=>
  obtain⟨t,q,kt⟩:=hc;obtain⟨tb,qb,kb⟩:=hb;refine⟨t,q,kt σ2 bx M2 H2 _ s2 λH3 jF M3 s3 gG=>jN ⟨λσ' H'=>∃g2 bx M2,S z g2 σ' bx M2 H'/\ak M H M2 H'/\kZ X z ce body m' g2 f g',λσ' H' hN=>⟨m',w9 _,hN⟩,tb,qb,kb σ2 jF M3 H3 _ s3 λσ4 mz M4 H4 s4 sV=>?_⟩⟩
  exact⟨g4,mz,M4,s4,(aP.trans gG).trans sV,w'⟩
 |@cont m' _ g3 g4 _ _ hc hb w'=>
  obtain⟨t,q,kt⟩:=hc;obtain⟨tb,qb,kb⟩:=hb;refine⟨t,q,kt σ2 bx M2 H2 _ s2 λH3 jF M3 s3 gG=>jN ⟨λσ' H'=>∃g2 bx M2,S z g2 σ' bx M2 H'/\ak M H M2 H'/\kZ X z ce body m' g2 f g',λσ' H' hN=>⟨m',w9 _,hN⟩,tb,qb,kb σ2 jF M3 H3 _ s3 λσ4 mz M4 H4 s4 sV=>?_⟩⟩
  exact⟨g4,mz,M4,s4,(aP.trans gG).trans sV,w'⟩
 |brk hc hb=>obtain⟨t,q,kt⟩:=hc;obtain⟨tb,qb,kb⟩:=hb;exact⟨t,q,kt σ2 bx M2 H2 _ s2 λH3 jF M3 s3 gG=>jN ⟨λ_ _=>False,λσ' H' hN=>hN.elim,tb,qb,kb σ2 jF M3 H3 _ s3 λσ4 mz M4 H4 s4 sV=>k σ4 mz M4 H4 s4 ((aP.trans gG).trans sV)⟩⟩
 |ret hc hb=>obtain⟨t,q,kt⟩:=hc;obtain⟨tb,qb,kb⟩:=hb;exact⟨t,q,kt σ2 bx M2 H2 _ s2 λH3 jF M3 s3 gG=>jN ⟨λ_ _=>False,λσ' H' hN=>hN.elim,tb,qb,kb σ2 jF M3 H3 _ s3 λv σ4 mz M4 H4 s4 sV R=>k v σ4 mz M4 H4 s4 ((aP.trans gG).trans sV) R⟩⟩
noncomputable def Hz:D->Option Bool
 |.bl b=>some b
 |.non=>some false
 |.int i=>some (i != 0)
 |.lst l=>some (!l.isEmpty)
 |.tup l=>some (!l.isEmpty)
 |.fix l=>some (!l.isEmpty)
 |_=>none
end
end Ev
namespace HT
section
theorem gS{t sl:Addr}{items:Array Value}{vl vu:Value}{lo hi:Option Int}{Q:Value->Shared->Prop}(ht:IsTup s.heap t items)(hs:s.heap.IsSliceOf sl vl vu .none)(pl:IsPart vl lo)(pu:IsPart vu hi)
  (hw:bQ items.size 0 lo=0/\bQ items.size items.size hi=items.size)
  (h:Q (.ref t) s):wpAny (model prog w) A (getItem (.ref t) (.ref sl)) Q E s:=by
 obtain⟨os,hos,hcs,hds⟩:=id hs;have T7:s.TypeIs (.ref sl) "slice" :=⟨os,hos,hcs⟩;unfold getItem
 try with_reducible refine oP ?_
 first |refine aS (dS ?_) |skip
 refine aS (wpAny_sequenceKey ht.typeIs ⋯ ?_);refine aS (o6 (name:=Str.ofString "__getitem__") ht.typeIs mP
  (w8 mP ht.typeIs entry_tuple_getitem ?_ (args_tuple_getitem _ _)))
 show wpAny _ _ (Builtin.Tuple.tupleItemsOf (.ref t) >>= _) _ _ s;refine aS (tupleItemsOf_ ht ?_);refine aS (Cf T7 ?_);rw[i5 ⋯];refine aS (eX hs pl pu ?_);have hyes:(((bQ items.size 0 lo:Nat):Int)==0&&(1:Int)==1&&(bQ items.size items.size hi - bQ items.size 0 lo)==items.size)=true:=by rw[hw.1,hw.2];simp
 show wpAny _ _ (if (((bQ items.size 0 lo:Nat):Int)==0&&(1:Int)==1&&(bQ items.size items.size hi - bQ items.size 0 lo)==items.size)=true then _ else _) _ _ s
 rw[i5 hyes];refine aS (m:=Builtin.Tuple.tupleIsExact _) (aS (Cf ht.typeIs (dS ?_)));rw[i5 ⋯];exact aS (wpAny_rule (dS ⟨_,rfl,dS h⟩))
end
end HT
namespace Ev
open L2
def dJ{α:Type}(xs:List α)(lo hi:Option Int):List α:=(xs.drop (HT.bQ xs.length 0 lo)).take (HT.bQ xs.length xs.length hi - HT.bQ xs.length 0 lo)
theorem uZ{α:Type}{xs:List α}{lo hi:Option Int}(h:HT.bQ xs.length 0 lo=0/\HT.bQ xs.length xs.length hi=xs.length):dJ xs lo hi=xs:=by unfold dJ;rw[h.1,h.2,BC,Nat.sub_zero,List.take_length]
section
variable{lo hi:Option Expr}
def YL(K:Frag):V->Option Int->Option Int->Hp->VK->Prop:=λx lo hi H Q=>∃a xs,x=.ref a/\fX K H a xs/\
 ((HT.bQ xs.length 0 lo=0/\HT.bQ xs.length xs.length hi=xs.length/\Q (.ref a) H)\/(¬ (HT.bQ xs.length 0 lo=0/\HT.bQ xs.length xs.length hi=xs.length)/\∀p,H p=none->Q (.ref p) (upd H p (.tup (qo xs lo hi)))))
theorem HB:WX X (YL X.K):=by
 intro ah s O H x v vl vu lo hi sl Q I rx hs pl pu h;obtain⟨a,xs,rfl,hx,h⟩:=h;rcases h with ⟨h1,h2,q⟩ |⟨h1,q⟩
 .
  cases rx;obtain⟨its,r,ht,hz⟩:=I.tuple hx;have aV:its.toArray.size=xs.length:=by rw[dC];exact r.length.symm
  refine⟨"tuple",_,PyProof.Rows.slot_tuple_getitem.lookup,ht.typeIs,?_⟩;exact HT.gS ht hs pl pu (by rw[aV];exact⟨h1,h2⟩) ⟨.ref a,H,I,rfl,q⟩
 . exact Mx ah s O H (.ref a) v vl vu lo hi sl Q I rx hs pl pu ⟨a,xs,rfl,hx,h1,q⟩
def qI(X:Cx)(z:Z)(e:Option Expr)(g:G)(o:Option Int)(g':G):Prop:=
 ∃t,PO X e t/\∀O J M H (Q:Option Int->Hp->Prop),S z g O J M H->(∀H' aA M',S z g' O aA M' H'->ak M H M' H'->Q o H')->t O H Q
theorem yE:qI X z none g none g:=⟨_,Gx,λO J M H Q s k=>k H J M s (ak.refl _ _)⟩
theorem yF(h:az X z e g ‹i› g1):qI X z (some e) g (some i) g1:=by
 obtain⟨t,q,k⟩:=h;refine⟨_,Gy q,λO J M H Q s kk=>k O J M H _ s λv H' aA M' s' st R=>?_⟩
 have R':Rep z.K M' H' (.int i) v:=R;cases R';exact⟨i,rfl,kk H' aA M' s' st⟩
theorem aJ.cut{K:Frag}{M:List Addr}{H:Hp}{ds:List D}{vs:List V}(r:aJ K M H ds vs)(l u:Option Int):aJ K M H (dJ ds l u) (qo vs l u):=by unfold dJ qo;rw[r.length];exact aJ.take _ (aJ.drop _ r)
theorem yG{r:R}{l:List D}{d:D}{i j:Option Int}(hK:z.K=X.K)(h:az X z a g r g1)(h1:qI X z lo g1 i g2)(h2:qI X z hi g2 j g3)(hp:pk r g3=some (.lst l)):az X z (.Subscript a (.Slice lo hi none p2) pos) g (.new (dJ l i j)) g3:=by
 obtain⟨t,q,k⟩:=h;obtain⟨t1,q1,k1⟩:=h1;obtain⟨t2,q2,k2⟩:=h2;refine⟨_,lQ wz q q1 q2,λO J M H Q s kk=>k O J M H _ s λv H1 aO M1 s1 cU R=>k1 O aO M1 H1 _ s1 λH2 bx M2 s2 aP=>k2 O bx M2 H2 _ s2 λH3 jF M3 s3 gG=>?_⟩
 obtain⟨b,xs,rfl,e1,e2⟩:=(s3.pk (aP.trans gG) R hp).list;refine⟨b,xs,rfl,cG.of e1,λp hp=>?_⟩
 exact kk _ _ jF (p::M3) (s3.bf hp) (((cU.trans aP).trans gG).trans (ak.bf hp)) ⟨p,_,rfl,dA,λhA=>s3.fresh hp (s3.sub p hA),s3.dB hp,aC,(e2.cut i j).stay (ak.bf hp)⟩
theorem yH(hK:z.K=X.K)(h:az X z a g (.dat (.fix l)) g1)(h1:qI X z lo g1 i g2)(h2:qI X z hi g2 j g3):az X z (.Subscript a (.Slice lo hi none p2) pos) g (.new (dJ l i j)) g3:=by
 obtain⟨t,q,k⟩:=h;obtain⟨t1,q1,k1⟩:=h1;obtain⟨t2,q2,k2⟩:=h2;refine⟨_,lQ wz q q1 q2,λO J M H Q s kk=>k O J M H _ s λv H1 aO M1 s1 cU R=>k1 O aO M1 H1 _ s1 λH2 bx M2 s2 aP=>k2 O bx M2 H2 _ s2 λH3 jF M3 s3 gG=>?_⟩
 have R':Rep z.K M3 H3 (.fix l) v:=Rep.stay (aP.trans gG) R;cases R' with
 |@fix _ b xs e1 e2=>
  refine⟨b,xs,rfl,hK▸e1.sq,λp hp=>?_⟩
  exact kk _ _ jF (p::M3) (s3.bf hp) (((cU.trans aP).trans gG).trans (ak.bf hp)) ⟨p,_,rfl,dA,λhA=>s3.fresh hp (s3.sub p hA),s3.dB hp,aC,(e2.cut i j).stay (ak.bf hp)⟩
theorem yI(hK:z.K=X.K)(h:az X z a g (.dat (.tup l)) g1)(h1:qI X z lo g1 i g2)(h2:qI X z hi g2 j g3):az X z (.Subscript a (.Slice lo hi none p2) pos) g (.dat (.tup (dJ l i j))) g3:=by
 obtain⟨t,q,k⟩:=h;obtain⟨t1,q1,k1⟩:=h1;obtain⟨t2,q2,k2⟩:=h2;refine⟨_,lQ HB q q1 q2,λO J M H Q s kk=>k O J M H _ s λv H1 aO M1 s1 cU R=>k1 O aO M1 H1 _ s1 λH2 bx M2 s2 aP=>k2 O bx M2 H2 _ s2 λH3 jF M3 s3 gG=>?_⟩
 have R':Rep z.K M3 H3 (.tup l) v:=Rep.stay (aP.trans gG) R;cases R' with
 |@tup _ b xs e1 e2=>
  refine⟨b,xs,rfl,hK▸e1.sq,?_⟩;by_cases hw:HT.bQ xs.length 0 i=0/\HT.bQ xs.length xs.length j=xs.length
  .
   refine .inl ⟨hw.1,hw.2,kk _ _ jF M3 s3 ((cU.trans aP).trans gG) ?_⟩;have e:dJ l i j=l:=uZ (by rw[e2.length];exact hw)
   rw[e];exact .tup e1 e2
  . exact .inr ⟨hw,λp hp=>kk _ _ jF M3 (s3.laid hp) (((cU.trans aP).trans gG).trans (ak.laid hp)) (.tup (.inl ⟨s3.fresh hp,.inl aC⟩) ((e2.cut i j).stay (ak.laid hp)))⟩
theorem BG(hK:z.K=X.K)(h:az X z e g r g1)(hp:pk r g1=some d)(hb:Hz d=some b)(he:∀whole,isTrue e X.env whole=(do let v <- whole;standAt e.pos;holding [v] (truthy v))):bZ X z e g b g1:=by
 obtain⟨t,q,k⟩:=h;refine⟨_,Ai q he,λO J M H Q s kk=>k O J M H _ s λv H1 aO M1 s1 cU R=>⟨b,?_,kk H1 aO M1 s1 cU⟩⟩
 have p:=s1.pk (ak.refl _ _) R hp;cases d with
 |non=>rw[p.non];cases hb;rfl
 |bl c=>rw[p.bl];cases hb;rfl
 |int i=>rw[p.int];cases hb;rfl
 |str x=>cases hb
 |emp=>cases hb
 |kr _=>cases hb
 |ym _ _=>cases hb
 |lst l=>obtain⟨a,xs,rfl,e1,e2⟩:=p.list;cases hb;refine .inl ⟨xs,cG.of e1,?_⟩;cases e2 <;> rfl
 |tup l=>obtain⟨a,xs,rfl,e1,e2⟩:=p.tup;cases hb;refine .inr (.inl ⟨xs,hK▸e1.sq,?_⟩);cases e2 <;> rfl
 |fix l=>obtain⟨a,xs,rfl,e1,e2⟩:=p.fix;cases hb;refine .inl ⟨xs,hK▸e1.sq,?_⟩;cases e2 <;> rfl
end
section
theorem Oo(I:L2.Inv X ah O H s)(p:Pk X.K M H d v)(r:RelV v u):∃Hh,PySem.W.KitX X.K u (zR d) Hh/\Hh s.heap/\u≠.builtin "__main__.__loader__#opaque" :=by
 cases d with
 |non=>have q:=p.non;subst q;cases r;exact⟨_,PySem.W.kitx_none,True.intro,λz=>nomatch z⟩
 |bl y=>have q:=p.bl;subst q;cases r;exact⟨_,PySem.W.kitx_bool,True.intro,λz=>nomatch z⟩
 |int i=>have q:=p.int;subst q;obtain⟨t,rfl⟩:=r;exact⟨_,PySem.W.kitx_int,True.intro,λz=>nomatch z⟩
 |str y=>have q:=p.str;subst q;obtain⟨t,rfl⟩:=r;exact⟨_,PySem.W.kitx_str,True.intro,λz=>nomatch z⟩
 |tup l=>obtain⟨a,xs,rfl,ha,_⟩:=p.tup;cases r;obtain⟨its,_,⟨o,h1,h2,_⟩,_⟩:=I.tuple ha.sq;exact⟨_,PySem.W.kitx_tuple,⟨o,h1,h2⟩,λz=>nomatch z⟩
 |lst l=>obtain⟨a,xs,rfl,ha,_⟩:=p.list;cases r;obtain⟨its,_,pl,_⟩:=I.list (cG.of ha);obtain⟨o,h1,h2,_⟩:=pl.isList;exact⟨_,Bz,⟨o,h1,h2⟩,λz=>nomatch z⟩
 |fix l=>obtain⟨a,xs,rfl,ha,_⟩:=p.fix;cases r;obtain⟨its,_,pl,_⟩:=I.list ha.sq;obtain⟨o,h1,h2,_⟩:=pl.isList;exact⟨_,Bz,⟨o,h1,h2⟩,λz=>nomatch z⟩
 |emp=>
  cases p with
  |of q=>
   cases q with
   |emp _ ha=>cases r;obtain⟨_,_,vs,_,o,es,ep,h1,h2,_⟩:=I.hok _ _ ha;exact⟨_,BA,⟨o,h1,h2.1⟩,λz=>nomatch z⟩
 |kr C=>
  cases p with
  |of q=>
   cases q with
   |kr k _ ha=>cases r;obtain⟨⟨o,h1,h2,h3,h4⟩,_⟩:=I.hok _ _ ha;exact⟨_,sO k,⟨o,h1,h2,h3,by rw[h4];trivial⟩,λz=>nomatch z⟩
 |ym ks ds=>
  cases p with
  |of q=>
   cases q with
   |ym _ ha _ _=>cases r;obtain⟨_,_,vs,_,o,es,ep,h1,h2,_⟩:=I.hok _ _ ha;exact⟨_,BA,⟨o,h1,h2.1⟩,λz=>nomatch z⟩
theorem wL:∀{ns:List String}{us:List Value},Vals (ns.map V.ty) us->us=ns.map Value.type
 | [],_,r=>by rw[List.map_nil]at r;cases r;rfl
 |n::ns,_,r=>by
  rw[List.map_cons]at r;cases r with
  |cons r1 r2=>cases r1;rw[wL r2];rfl
theorem yJ:dX X (.builtin "isinstance") (λxs H Q=>∃(x:V) (p:Addr) (ns:List String) (M:List Addr) (d:D) (b:Bool),xs=[x,.ref p]/\Pk X.K M H d x/\fX X.K H p (ns.map V.ty)/\PySem.W.kitAny X.K (zR d) (ns.map Value.type)=some b/\Q (.bl b) H):=by intro ah s O H xs us Q I r h;obtain⟨x,p,ns,M,d,b,rfl,pk,hp,e,q⟩:=h;obtain⟨u,w',rfl,r1,r2⟩:=vals2 r;cases r2;obtain⟨Hh,Zk,hH,hx⟩:=Oo I pk r1;obtain⟨its,rv,⟨o,h1,h2,n,h3⟩,_⟩:=I.tuple hp;rw[wL rv]at h3;obtain⟨c,dd,dt,sl⟩:=o;have h2':c=.type "tuple" :=h2;have h3':dt=.seq (ns.map Value.type).toArray n:=h3;subst h2' h3';exact PySem.W.kia_tup Zk I.kP hH h1 e hx λtk=>⟨.bl b,H,I.tok tk,rfl,q⟩
structure YM(X:Cx)(T:Str)(n:String):Prop where
 gl:Gl X T
 mg:X.mg T=none
 bt:bootBuiltins T=some (.type n)
 nn:T≠ "__name__"
 db:(T==(~~~3))=false
inductive mG(X:Cx):List Expr->List String->Prop
 |nil:mG X [] []
 |cons {T:Str}{n:String}{p:Pos}{es:List Expr}{ns:List String}:YM X T n->mG X es ns->mG X (.Name T p::es) (n::ns)
theorem mG.pa(h:mG X es ns):∃t,PA X es t/\∀O H (Q:List V->Hp->Prop),Q (ns.map V.ty) H->t O H Q:=by
 induction h with
 |nil=>exact⟨_,fz,λO H Q q=>q⟩
 |@cons T n p es ns h _ ih=>obtain⟨t,q,k⟩:=ih;have pT:PE X (.Name T p) (tC (.ty n)):=qh h.gl h.mg h.bt rfl h.nn h.db;exact⟨_,bH pT q rfl,λO H Q hq=>k O H _ hq⟩
theorem HD(hK:z.K=X.K)(h:az X z a g r1 g1)(hp:pk r1 g1=some d)(ht:mG X es ns)(hl:ns.length<=16777216)(he:∀M H v,Pk X.K M H d v->PySem.W.kitAny X.K (zR d) (ns.map Value.type)=some b)
  (hg:Gl X "isinstance") (hm:X.mg "isinstance"=none) (hv:bootBuiltins "isinstance"=some (.builtin "isinstance"))
  (hs:starEach [a,.Tuple es k pT] X.env=(false,eval a X.env)::starEach [.Tuple es k pT] X.env):az X z (.Call (.Name "isinstance" p) [a,.Tuple es k pT] [] pos) g (.dat (.bl b)) g1:=by
 obtain⟨t,q,kk⟩:=h;obtain⟨tt,qt,kt⟩:=ht.pa;refine⟨_,iY yJ hg hm hv (bH q (bH (Ak qt) fz) hs) ⋯ ⋯ hs,λO J M H Q s kq=>kk O J M H _ s λv H' aA M' s' st R=>kt O H' _ ⟨by rw[fR];exact oY hl,λa ha=>?_⟩⟩
 have s2:=s'.laid (o:=.tup (ns.map V.ty)) ha;have pp:=s'.pk (ak.refl _ _) R hp;refine⟨v,a,ns,M',d,b,rfl,?_,.inl (.inl aC),he _ _ _ (hK▸pp),kq _ _ aA M' s2 (st.trans (ak.laid ha)) (.bl b)⟩;rw[<- hK];cases pp with
 |of r=>exact .of (r.stay (ak.laid ha))
 |lst e1 e2=>exact .lst (by rw[ao (aH e1 ha)];exact e1) (e2.stay (ak.laid ha))
end
noncomputable def ins(a:Int): ~~~0->List Int
 | []=>[a]
 |b::l=>if a<=b then a::b::l else b::ins a l
def cg: ~~~0->List Int
 | []=>[]
 |a::l=>ins a (cg l)
theorem mH(a:Int):∀l:List Int,(ins a l).Perm (a::l)
 | []=>List.Perm.refl _
 |b::l=>by
  unfold ins;split
  . exact List.Perm.refl _
  . exact ((mH a l).cons b).trans (List.Perm.swap a b l)
theorem bC:∀l:List Int,(cg l).Perm l
 | []=>List.Perm.refl _
 |a::l=>(mH a _).trans ((bC l).cons a)
theorem mJ(a:Int):∀{l: ~~~0},l.Pairwise (· <= ·)->(ins a l).Pairwise (· <= ·)
 | [],_=>List.pairwise_singleton _ _
 |b::l,h=>by
  obtain⟨h1,h2⟩:=lL.mp h;unfold ins;split
  .
   rename_i hab;refine lL.mpr ⟨λx hx=>?_,h⟩
   rcases dL.mp hx with rfl |hx
   . exact hab
   . exact BM hab (h1 x hx)
  .
   rename_i hab;refine lL.mpr ⟨λx hx=>?_,mJ a h2⟩
   rcases dL.mp ((mH a l).mem_iff.mp hx)with rfl |hx
   . lia
   . exact h1 x hx
theorem cQ:∀l:List Int,(cg l).Pairwise (· <= ·)
 | []=>List.Pairwise.nil
 |a::l=>mJ a (cQ l)
theorem mK(hp:m.Perm l)(hs:m.Pairwise (· <= ·)):m=cg l:=
 (hp.trans (bC l).symm).eq_of_pairwise (λx y _ _ h1 h2=>Int.le_antisymm h1 h2) hs (cQ l)
section
theorem n6(hl:IsTup s.heap l vs.toArray)
  (h:Q vs { s with heap:=(s.heap.push (seqObj "list" #[] 0)).update s⁻¹ (Obj.mapSeq (· ++ vs.toArray))}) (kO:vs.length<=sizeLine) :
  wpAny (model prog w) A (collect (.ref l)) Q E s:=by
 obtain⟨o,ho,hc,n,hd⟩:=id hl;unfold collect;refine aS (wpAny_runValue (codeAny_builtin entry_proto_collect' ?_));show wpAny _ _ (do again (.builtin "list.__iadd__" ⟨[<- newList [],.ref l],[]⟩)) _ _ s
 refine aS (wpAny_newList (dS ⟨Code.quiet_builtin _ (by decide +kernel),codeAny_builtin entry_list_iadd' ?_⟩))
 show wpAny _ _ (Builtin.List.listExtendWith (.ref s⁻¹) (.ref l) (.ref s⁻¹)) _ _ { s with heap:=s.heap.push (seqObj "list" #[] 0)};unfold Builtin.List.listExtendWith;have ho':(s.heap.push (seqObj "list" #[] 0)).get? l=some o:=bP _ ho;refine aS (Cf (T:= "tuple") ⟨o,ho',hc⟩ ?_);have ht:(Value.type "tuple" == Value.type "tuple")=true:=by rfl
 rw[i5 (by rw[ht];simp)]
 refine aS (listItems_at ho' hd ?_);refine aS (listItems_at (xs:=#[]) (n:=0) (d6 _ rfl) rfl ?_);rw[gN ⋯];refine aS (listUpdate_at (xs:=#[]) (n:=0) (d6 _ rfl) rfl ?_ (AM _) (by show (#[]++vs.toArray).size<=sizeLine+1;simp only[Array.size_append,dC,List.length_nil];lia))
 refine dS ?_;show wpAny (model prog w) A (do
   let o <- load s⁻¹
   match o.data with
   |.seq xs _=>pure xs.toList
   |_=>unsupported "internal:collect") Q E { s with heap:=(s.heap.push (seqObj "list" #[] 0)).update s⁻¹ (Obj.mapSeq (· ++ vs.toArray))}
 refine aS (wpAny_load (get?_update_seq (d6 _ rfl) _) ?_);show wpAny _ _ (pure ((#[]:Array Value)++vs.toArray).toList) Q E _;rw[show ((#[]:Array Value)++vs.toArray).toList=vs by simp]
 exact dS h
end
section
theorem pg{K:Frag}{M:List Addr}{H:Hp}:∀ns:List Int,aJ K M H (ns.map D.int) (ns.map V.int)
 | []=>.nil
 |n::ns=>.cons (.int n) (pg ns)
end
section
theorem cV.run(ha:cV X z es g rs g1)(I:L2.Inv X ah O H s)(st:S z g O J M H)
  (k:∀vs us s1 H1 aO M1,L2.Inv X ah O H1 s1->Vals vs us->S z g1 O aO M1 H1->ak M H M1 H1->iE z O M1 H1 rs vs->Post us s1):wpAny (~~~2) X.A (spliced (backTo pos (starEach es X.env))) Post X.xe s:=by
 obtain⟨t,q,kt⟩:=ha;exact bR (q pos ah s O H (λvs H1=>∃aO M1,S z g1 O aO M1 H1/\ak M H M1 H1/\iE z O M1 H1 rs vs) I (kt O J M H _ st λvs H1 aO M1 s1 cU R=>⟨aO,M1,s1,cU,R⟩)) λus s1 ⟨vs,H1,I1,r1,aO,M1,q1,q2,q3⟩=>k vs us s1 H1 aO M1 I1 r1 q1 q2 q3
end
section
theorem ji{ns: ~~~0}{its:List Value}(r:Vals (ns.map V.int) its){i:Nat}{v:Value}(h:its[i]?=some v):∃t,v=.int (ns.getD i 0) t:=by
 have hi:i<ns.length:=by have:=(dE.mp h).1;have e:=r.length;rw[fR]at e;lia
 obtain⟨w,e1,e2⟩:=r.get (i:=i) (x:=V.int ns[i]) (by simp[hi])
 rw[h]at e1;cases e1;obtain⟨t,e⟩:=e2;exact⟨t,by rw[e];simp[List.getD,hi]⟩
theorem BJ(hc:X.calm=true):dX X (.builtin "sum") (λxs H Q=>∃(p:Addr) (ns: ~~~0),xs=[.ref p]/\(cG X.K H p (ns.map V.int)\/fX X.K H p (ns.map V.int))/\Q (.int ns.sum) H):=by
 intro ah s O H xs us Q I r h;obtain⟨p,ns,rfl,hp,q⟩:=h;obtain⟨u,rfl,rx⟩:=vals1 r;cases rx;have hh:X.A.in1.handled=none:=I.ok.hd hc;have fin:∀(o:Obj) (s':Shared) (t':Tok) (its:List Value),Vals (ns.map V.int) its->Moved [s⁻¹] (λa b=>b=a) { s with heap:=s.heap.push o} s'->EP X ah O Q (.int (preSum (λi=>ns.getD i 0) its.toArray.size) t') s':=by
  intro o s' t' its rv hm;obtain⟨h',g',d',tk',os'⟩:=s';obtain⟨m1,m2,m3,m4,m5⟩:=hm;have e1:g'=s.gens:=m2;have e2:d'=s.drawn:=m3;have e3:os'=s.os:=m4;subst e1 e2 e3;have aV:its.length=ns.length:=by rw[<- rv.length,fR]
  have I1:L2.Inv X ah O H { s with heap:=h',toks:=tk'}:=I.kept λb ob e=>m1 b ob (λhm=>by
   have:b=s⁻¹:=by simpa using hm
   exact absurd (d0 e) (by rw[this];exact qS _)) (bP _ e)
  refine⟨.int ns.sum,H,I1,⟨t',?_⟩,q⟩;rw[preSum_getD,dC,aV,List.take_length]
 rcases hp with hp |hp
 .
  obtain⟨its,rv,pl,hz⟩:=I.list hp;have jC:p<s⁻¹:=by obtain⟨_,e,_⟩:=pl.isList;exact d0 e
  refine call_sum_walkAnyS (AF pl.isList ?_);refine⟨s⁻¹,_,_,_,_,_,_,λi=>ns.getD i 0,rfl,(Walks.list (A:=X.A.in1) hh s⁻¹ p (gL jC) its.toArray).toS,⟨⟨_,d6 _ rfl,rfl,rfl⟩,pl.isList.push _⟩,λb hb=>?_,λi v hv=>ji rv (by simpa using hv),λs' t' hm=>fin _ s' t' its rv hm⟩
  simp only[dL,i4,u8]at hb;rcases hb with rfl |rfl
  . exact tJ (w9 _) (nN _ _).symm
  . exact tJ (AG jC) (nN _ _).symm
 .
  obtain⟨its,rv,pl,hz⟩:=I.tuple hp;have jC:p<s⁻¹:=by obtain⟨_,e,_⟩:=pl;exact d0 e
  have U0:s.heap.IsTuple p its.toArray:=pl;refine call_sum_walkAnyS (At U0 ?_);refine⟨s⁻¹,_,_,_,_,_,_,λi=>ns.getD i 0,rfl,(Walks.tuple (A:=X.A.in1) hh s⁻¹ p (gL jC) its.toArray).toS,⟨⟨_,d6 _ rfl,rfl,rfl⟩,?_⟩,λb hb=>?_,λi v hv=>ji rv (by simpa using hv),λs' t' hm=>fin _ s' t' its rv hm⟩
  . exact IsTup.keeps U0 λb o e=>bP _ e
  .
   simp only[dL,i4,u8]at hb;rcases hb with rfl |rfl
   . exact tJ (w9 _) (nN _ _).symm
   . exact tJ (AG jC) (nN _ _).symm
theorem Oq(hc:X.calm=true)(hK:z.K=X.K)(h:dD d=some l)(hi:cO l=some ns):CallD X z (.builtin "sum") [d] (.dat (.int ns.sum)):=by
 refine⟨_,BJ hc,λg O J M H vs Q s p k=>?_⟩
 obtain⟨v,rfl,pv⟩:=p.one;have fin:Q (.int ns.sum) H:=k _ _ J M s (ak.refl _ _) (.int _);cases d with
 |lst m=>symm;obtain⟨a,xs,rfl,e1,e2⟩:=pv.list;have:=bL e2 hi;subst this;exact⟨a,ns,rfl,.inl (cG.of e1),fin⟩
 |tup m=>symm;obtain⟨a,xs,rfl,e1,e2⟩:=pv.tup;have:=bL e2 hi;subst this;exact⟨a,ns,rfl,.inr (hK▸e1.sq),fin⟩
 |fix m=>symm;obtain⟨a,xs,rfl,e1,e2⟩:=pv.fix;have:=bL e2 hi;subst this;exact⟨a,ns,rfl,.inl (hK▸e1.sq),fin⟩
 |_=>symm
end
theorem mL(o:Obj)(f):(o.mapFields f).dict=o.dict:=by obtain⟨c,d,dt,sl⟩:=o;cases dt <;> rfl
structure rX(h₀:Heap)(x C:Addr)(H:Hp)(h:Heap):Prop where
 obj:∃oe vs,h.get? x=some oe/\oe.cls=.ref C/\oe.dict=none/\oe.data=.fields vs/\1<vs.size/\(vs[1]?=some .none\/∃T oT ts,vs[1]?=some (.ref T)/\T≠x/\h₀.get? T=none/\H T=none/\h.get? T=some oT/\oT.data=.fields ts/\ts[3]?=some .none)
 new:h₀.get? x=none
 no:H x=none
section
theorem jj
  (hfr:A.frames=some (env::outer)) (hl:s.heap.FunFrames base (env::outer)) (hf:env.frame=some L) (he:s.heap.get? x=some oe) (hd:oe.data=.fields vs) (kO:1<vs.size)
  (h:∀h',(∀b o,b∉frs (env::outer)->b≠x->s.heap.get? b=some o->h'.get? b=some o)->(∀b o,b∈frs (env::outer)->s.heap.get? b=some o->∃sl,h'.get? b=some { o with slots:=sl})->
   (∃zT vs' oT ts,h'.get? x=some zT/\zT.cls=oe.cls/\zT.dict=oe.dict/\zT.data=.fields vs'/\1<vs'.size/\vs'[1]?=some (.ref s⁻¹)/\h'.get? s⁻¹=some oT/\oT.data=.fields ts/\ts[3]?=some .none)->Q () { s with heap:=h'}) :
  wpAny M A (do let a <- frameOf env;let pl <- entryPlaceOf L hadNext;let b <- EntryCells.newEntry head a .none (rawInt L) .none pl;setField (.ref x) 1 b) (λ_ s'=>wpAny M A (setFlight (.ref x) none) Q E s') E s:=by
 have hx:x∉(env::outer).filterMap (·.frame):=λhm=>by
  obtain⟨_,o,ho,hnf⟩:=hl.mem hm;rw[he]at ho;cases ho;exact hnf vs hd
 refine aS (wpAny_frameOf_fun hfr hl hf λh₁ hs₁=>?_)
 refine aS (wpAny_entryPlaceOf λpl jG=>?_)
 unfold EntryCells.newEntry newFields;refine aS (lS ?_ (jG.sizeOk5 _ _ _ _ _));have he₁:h₁.get? x=some oe:=(hs₁.2.1 x hx).trans he;generalize hO:({ cls:=.type "traceback",dict:=none,data:=.fields ([head,.ref L,.none,rawInt L,.none]++(if pl.isEmpty then List.replicate 6 Value.none else pl)).toArray}:Obj)=qqq
 have he₂:=bP (h:=h₁) qqq he₁;have hsz₁:h₁.objs.size=s⁻¹:=hs₁.1;have hT₂:(h₁.push qqq).get? h₁.objs.size=some qqq:=d6 _ (by rw[<- hO];rfl)
 refine AK he₂ hd kO ?_;have Ot:h₁.objs.size≠x:=AB (d0 he₁);have hd₃:=u4 hd (·.setIfInBounds 1 (Value.ref h₁.objs.size));have he₃:=t7 (Obj.mapFields (·.setIfInBounds 1 (Value.ref h₁.objs.size))) he₂ (x0 hd₃);have hT₃:=(l6 (h₁.push qqq) (Obj.mapFields (·.setIfInBounds 1 (Value.ref h₁.objs.size))) (oQ Ot)).trans hT₂;have YQ:qqq.data=.fields ([head,.ref L,.none,rawInt L,.none]++(if pl.isEmpty then List.replicate 6 Value.none else pl)).toArray:=by rw[<- hO]
 unfold setFlight;refine aS (l5 he₃ hd₃ (x:=.ref h₁.objs.size) (by simp[kO]) ?_)
 rw[i5 (show (Value.ref h₁.objs.size != Value.none)=true from by simp)]
 refine AK hT₃ YQ (by simp only[dC,i6,i3,List.length_nil] <;> lia) (h _ ?_ ?_ ?_)
 . intro b o hb HF ho;have U1:h₁.get? b=some o:=(hs₁.2.1 b hb).trans ho;rw[l6 _ _ (AB (d0 U1)),l6 _ _ (oQ HF)];exact bP _ U1
 .
  intro b o hb ho;obtain⟨sl,U1⟩:=hs₁.2.2 b o ho;have HF:b≠x:=λq=>hx (q▸hb)
  refine⟨sl,?_⟩;rw[l6 _ _ (AB (d0 U1)),l6 _ _ (oQ HF)];exact bP _ U1
 .
  rw[<- hsz₁];refine⟨_,_,_,_,(l6 _ _ Ot).trans he₃,Obj.cls_mapFields _ _,mL _ _,hd₃,by simp[kO],by simp[kO],t7 _ hT₃ (x0 (u4 YQ _)),u4 YQ _,?_⟩
  first
   | (simp;done)
   | (rcases jG with rfl |⟨_,_,_,_,_,_,_,rfl⟩ <;> simp)
theorem n8
  (hfr:A.frames=some (env::outer)) (hl:s.heap.FunFrames base (env::outer)) (hf:env.frame=some L) (fl:rX h₀ x C H s.heap) (hn:h₀.get? s⁻¹=none) (hH:∀b,s⁻¹<=b->H b=none)
  (h:∀h',(∀b o,b∉frs (env::outer)->(h₀.get? b=none->H b=none->∀vs,o.data≠.fields vs)->s.heap.get? b=some o->h'.get? b=some o)->(∀b o,b∈frs (env::outer)->s.heap.get? b=some o->∃sl,h'.get? b=some { o with slots:=sl})->
   rX h₀ x C H h'->(∀b o,s.heap.get? b=some o->∃o',h'.get? b=some o')->Q () { s with heap:=h'}):wpAny M A (noteFrame (.ref x) env) (λ_ s'=>wpAny M A (setFlight (.ref x) none) Q E s') E s:=by
 obtain⟨⟨oe,vs,he,hc,bY,hd,kO,hT⟩,RT,RV⟩:=fl;have hxf:x∉frs (env::outer):=λhm=>by
  obtain⟨_,o,ho,hnf⟩:=hl.mem hm;rw[he]at ho;cases ho;exact hnf vs hd
 have fin:∀(T0:Addr) (h1 h':Heap),(∀b,b≠T0->h1.get? b=s.heap.get? b)->(T0=x\/(h₀.get? T0=none/\H T0=none/\T0∉frs (env::outer)/\∃oT ts,s.heap.get? T0=some oT/\oT.data=.fields ts))->(∀o,s.heap.get? T0=some o->∃o',h1.get? T0=some o')->h1.objs.size=s⁻¹->
   (∀b o,b∉frs (env::outer)->b≠x->h1.get? b=some o->h'.get? b=some o)->(∀b o,b∈frs (env::outer)->h1.get? b=some o->∃sl,h'.get? b=some { o with slots:=sl})->
   (∃zT vs' oT ts,h'.get? x=some zT/\zT.cls=oe.cls/\zT.dict=oe.dict/\zT.data=.fields vs'/\1<vs'.size/\vs'[1]?=some (.ref h1.objs.size)/\h'.get? h1.objs.size=some oT/\oT.data=.fields ts/\ts[3]?=some .none)->Q () { s with heap:=h'}:=by
  intro T0 h1 h' a1 a2 a2' a3 k1 k2 ⟨zT,vs',oT,ts,e1,e2,KD,e3,e4,e5,e6,e7,e8⟩;have YS:T0∉frs (env::outer):=a2.elim (λq=>q▸hxf) λq=>q.2.2.1
  refine h h' (λb o hb hH' ho=>?_) (λb o hb ho=>?_) ⟨⟨zT,vs',e1,e2.trans hc,KD.trans bY,e3,e4,.inr ⟨h1.objs.size,oT,ts,e5,?_,?_,?_,e6,e7,e8⟩⟩,RT,RV⟩ λb o ho=>?_
  .
   have HF:b≠x:=λq=>by
    subst q;rw[he]at ho;cases ho;exact hH' RT RV vs hd
   have W5:b≠T0:=λq=>a2.elim (λz=>HF (q.trans z)) λ⟨z1,z2,_,oT,ts,z3,z4⟩=>by
    subst q;rw[z3]at ho;cases ho;exact hH' z1 z2 ts z4
   exact k1 b o hb HF ((a1 b W5).trans ho)
  . exact k2 b o hb ((a1 b (λq=>YS (q▸hb))).trans ho)
  . rw[a3];exact AB (d0 he)
  . rw[a3];exact hn
  . rw[a3];exact hH _ (eA _)
  .
   by_cases HF:b=x
   . exact⟨zT,HF▸e1⟩
   .
    have h1b:∃o1,h1.get? b=some o1:=by
     by_cases W5:b=T0
     . subst W5;exact a2' o ho
     . exact⟨o,(a1 b W5).trans ho⟩
    obtain⟨o1,ho1⟩:=h1b;by_cases hb:b∈frs (env::outer)
    . obtain⟨sl,q⟩:=k2 b o1 hb ho1;exact⟨_,q⟩
    . exact⟨o1,k1 b o1 hb HF ho1⟩
 unfold noteFrame;simp only[hf];rcases hT with hT |⟨T,oT,ts,h1,Ot,W6,W7,FN,FP,h3⟩
 . refine aS (l5 he hd hT ?_);rw[gN ⋯];exact jj hfr hl hf he hd kO λh' k1 k2 k3=>fin x s.heap h' (λ_ _=>rfl) (.inl rfl) (λo ho=>⟨o,ho⟩) rfl k1 k2 k3
 .
  refine aS (l5 he hd h1 ?_);rw[i5 (show (Value.ref T != Value.none)=true from by simp)]
  refine aS (l5 FN FP h3 ?_);rw[gN (show ¬ ((Value.none==rawInt L)=true)from by simp[rawInt])]
  refine aS (AK FN FP (AH.mp h3).1 ?_);have other:∀b,b≠T->(s.heap.update T (Obj.mapFields (·.setIfInBounds 3 Value.none))).get? b=s.heap.get? b:=λb hb=>l6 _ _ (oQ hb)
  have YS:T∉frs (env::outer):=λhm=>by
   obtain⟨_,o,ho,hnf⟩:=hl.mem hm;rw[FN]at ho;cases ho;exact hnf ts FP
  have rec':∀b o,s.heap.get? b=some o->(∀vs,o.data≠.fields vs)->b≠T:=λb o hb hnf q=>by
   rw[q,FN]at hb;cases hb;exact hnf ts FP
  refine jj hfr (hl.of_keeps λb o hb hnf=>⟨o,(other b (rec' b o hb hnf)).trans hb,rfl⟩) hf ((other x (oQ Ot)).trans he) hd kO λh' k1 k2 k3=>?_
  exact fin T _ h' other (.inr ⟨W6,W7,YS,oT,ts,FN,FP⟩) (λo ho=>⟨_,t7 _ FN (x0 (u4 FP _))⟩) (Heap.size_update ..) k1 k2 k3
end
theorem rX.mono(f:rX h₁ x C H h)(hm:∀b o,h₀.get? b=some o->∃o',h₁.get? b=some o'):rX h₀ x C H h:=by
 have no:∀b,h₁.get? b=none->h₀.get? b=none:=λb hb=>by
  cases e:h₀.get? b with
  |none=>rfl
  |some o=>obtain⟨o',e'⟩:=hm b o e;rw[hb]at e';cases e'
 obtain⟨⟨oe,vs,h1,h2,h2',h3,h4,h5⟩,h6,h7⟩:=f;exact⟨⟨oe,vs,h1,h2,h2',h3,h4,h5.imp id λ⟨T,oT,ts,q1,q2,q3,q4⟩=>⟨T,oT,ts,q1,q2,no T q3,q4⟩⟩,no x h6,h7⟩
def zU(P:Program)(w:World):yg:=λouter H s E e s'=>∃x C H',e=.ref x/\s'.os=s.os/\AllBare s'.gens/\Un (frs outer) [] H H' s.heap s'.heap/\jI P w H' s'.heap/\rX s.heap x C H' s'.heap/\E (.ref C) none H'
theorem BK(hx:X.ex=[])(I:L2.Inv X ah O H s)(h:zU X.prog X.w X.stack H s E e s') :
  ∃x C H',e=.ref x/\L2.Inv X ah O H' s'/\rX X.s₀.heap x C H' s'.heap/\E (.ref C) none H':=by
 obtain⟨x,C,H',rfl,h1,h2,h3,h4,h5,h6⟩:=h;exact⟨x,C,H',rfl,I.call' h1 h3 h4 h2 (λb z=>absurd z ⋯),h5.mono λb o e=>I.base.there b o e (by rw[hx];simp),h6⟩
section
theorem sW(I:L2.Inv X ah O H' s')(d8:X.stack=X.env::X.outer)(hf:X.env.frame=some X.env.locals)(hex:X.ex=[])(fl:rX X.s₀.heap x C H' s'.heap)
  (h:∀h'',(∀b o,b∉frs (X.env::X.outer)->(X.s₀.heap.get? b=none->H' b=none->∀vs,o.data≠.fields vs)->s'.heap.get? b=some o->h''.get? b=some o)->(∀b o,b∈frs (X.env::X.outer)->s'.heap.get? b=some o->∃sl,h''.get? b=some { o with slots:=sl})->
   Un (frs X.outer) [] X.H₀ H' X.s₀.heap h''->jI X.prog X.w H' h''->rX X.s₀.heap x C H' h''->Q () { s' with heap:=h''}) :
  wpAny (~~~2) X.A (noteFrame (.ref x) X.env) (λ_ s2=>wpAny (~~~2) X.A (setFlight (.ref x) none) Q E' s2) E' s':=by
 have hl:=I.stack;rw[d8]at hl;have ub:Un (frs X.outer) [] X.H₀ H' X.s₀.heap s'.heap:=hex▸I.base;have hsf:=I.qe;rw[d8]at hsf;refine n8 (L:=X.env.locals) (I.ok.frames.trans (by rw[d8])) hl hf fl (Heap.get?_none_of_le I.sz) (λb hb=>I.hok.fresh hb) λh'' k1 k2 k3 k4=>?_
 have hin:∀b,b∈frs X.outer->b∈frs (X.env::X.outer):=λb hb=>by
  unfold frs;rw[tP,hf];exact b0 _ hb
 have hno:∀b o,X.s₀.heap.get? b=some o->b∉frs X.outer->b∉frs (X.env::X.outer):=λb o ho hb hm=>by
  unfold frs at hm;rw[tP,hf]at hm;rcases dL.mp hm with e |hm
  . rw[e]at ho;exact qS _ (eM (d0 ho) I.ok.above)
  . exact hb hm
 have jC:∀b o (ob:Obj),X.s₀.heap.get? b=some o->(X.s₀.heap.get? b=none->H' b=none->∀vs,ob.data≠.fields vs):=λb o ob ho hb=>by rw[ho]at hb;cases hb
 refine h h'' k1 k2 ⟨λb o q n hb hx=>?_,λb o q n hb hx=>?_,ub.free,λb o q hx=>?_,ub.tups,ub.iU,ub.iV⟩ (λa o e=>?_) k3
 . exact k1 b o (hno b o q hb) (jC b o _ q) (ub.keep b o q n hb hx)
 . obtain⟨sl,e1⟩:=ub.slot b o q n hb hx;obtain⟨WM,e2⟩:=k2 b _ (hin b hb) e1;exact⟨WM,e2⟩
 . obtain⟨o',e1⟩:=ub.there b o q hx;exact k4 b o' e1
 .
  refine (I.hok a o e).stay (λb u hb q=>?_) (λ_ q=>q) λ_ _ q=>q
  have ht:H' b≠none:=by
   rcases hb with rfl |hb
   . rw[e];simp
   . rw[hb];simp
  exact k1 b u (λhm=>ht (hsf b hm)) (λ_ z=>absurd z ht) q
theorem pq(I:L2.Inv X ah O H' s')(d8:X.stack=X.env::X.outer)(hf:X.env.frame=some X.env.locals)(hex:X.ex=[])(fl:rX X.s₀.heap x C H' s'.heap)
  (h:∀s'',zU X.prog X.w X.outer X.H₀ X.s₀ (λc o h=>c=.ref C/\o=none/\h=H') (.ref x) s''->Q () s'') :
  wpAny (~~~2) X.A (leaving X.env (.ref x)) Q E' s':=by
 unfold leaving;exact aS (sW I d8 hf hex fl λh'' _ _ u k f=>h _ ⟨x,C,H',rfl,I.os,I.bare,u,k,f,rfl,rfl,rfl⟩)
theorem yK(I:L2.Inv X [] O H' s')(hp:X.pn=[])(d8:X.stack=X.env::X.outer)(hf:X.env.frame=some X.env.locals)(hex:X.ex=[])(fl:rX X.s₀.heap x C H' s'.heap)
  (h:∀s'',L2.Inv X [] O H' s''->rX X.s₀.heap x C H' s''.heap->Q () s'') :
  wpAny (~~~2) X.A (noteFrame (.ref x) X.env) (λ_ s2=>wpAny (~~~2) X.A (setFlight (.ref x) none) Q E' s2) E' s':=by
 refine sW I d8 hf hex fl λh'' k1 k2 u k f=>h _ ?_ f
 have cellK:∀c v,s'.heap.IsCell c v->h''.IsCell c v:=λc v ⟨o,e,d⟩=>by
  by_cases hb:c∈frs (X.env::X.outer)
  . obtain⟨sl,e2⟩:=k2 c o hb e;exact⟨_,e2,d⟩
  . exact⟨o,k1 c o hb (λ_ _ vs q=>by rw[d]at q;cases q) e,d⟩
 have hlm:X.env.locals∈frs (X.env::X.outer):=by unfold frs;rw[tP,hf];exact dA
 obtain⟨m,hn,hlk⟩:=I.loc;refine⟨I.ok,I.os,I.bare,hex▸u,⟨m,?_,λi y v h1 h2 h3=>?_⟩,λy c e=>?_,I.free,I.dg,λp hp2=>?_,k,I.len⟩
 . obtain⟨o,es,ep,e,d,r⟩:=hn;obtain⟨sl,e2⟩:=k2 _ o hlm e;exact⟨_,es,ep,e2,d,r⟩
 . obtain⟨u,r,q⟩:=hlk i y v h1 h2 h3;refine⟨u,r,q.imp id λ⟨q1,c,q2,q3⟩=>⟨q1,c,q2,cellK c _ q3⟩⟩
 . obtain⟨v,q⟩:=I.cell y c e;exact⟨v,cellK c v q⟩
 . rw[hp]at hp2;cases hp2
end
theorem BL{P:Program}{w:World}{K:Frag}{mg:Str->Option Value}{base:Heap}{N:List Str}{qual:Str}{scope:Scope}{f:Addr}{cd:Value}{A:Around}{outer:List Env}{s:Shared}{H:Hp}{E:XK}{ah: ~~~1}{O:Sg}{H':Hp}{s':Shared}{x C:Addr}
  (I:L2.Inv (eF (zU P w) P w K mg base N qual scope f cd A outer s H E) ah O H' s') (fl:rX s.heap x C H' s'.heap) (hE:E (.ref C) none H'):(eF (zU P w) P w K mg base N qual scope f cd A outer s H E).xe (.ref x) s':=
 pq I rfl rfl rfl fl λs'' ⟨y,D,H2,e,h1,h2,h3,h4,h5,e1,e2,e3⟩=>by
  cases e;cases e1;subst e3;exact⟨x,C,H2,rfl,h1,h2,h3,h4,h5,hE⟩
def Acc(X:Cx)(z:Z)(g':G)(M:List Addr)(H:Hp)(C:Addr)(O:Sg):Prop:=
 ∀ah s1 H1 aO M1 x,L2.Inv X ah O H1 s1->S z g' O aO M1 H1->ak M H M1 H1->rX X.s₀.heap x C H1 s1.heap->X.xe (.ref x) s1
def yL(X:Cx)(z:Z)(g':G)(M:List Addr)(H:Hp)(C:Addr):Prop:=∀O,Acc X z g' M H C O
theorem Acc.trans(st:ak M H M1 H1)(h:Acc X z g' M H C O):Acc X z g' M1 H1 C O:=λah s1 H2 aO M2 x I s st' fl=>h ah s1 H2 aO M2 x I s (st.trans st') fl
theorem yL.trans(st:ak M H M1 H1)(h:yL X z g' M H C):yL X z g' M1 H1 C:=λO=>(h O).trans st
def rY(X:Cx)(z:Z)(e:Expr)(g:G)(C:Addr)(g':G):Prop:=∃t,PE X e t/\∀O J M H Q,S z g O J M H->Acc X z g' M H C O->t O H Q
def RW(X:Cx)(z:Z)(e:Expr)(g:G)(C:Addr)(g':G):Prop:=∃t,PT X e t/\∀O J M H Q,S z g O J M H->Acc X z g' M H C O->t O H Q
def U3(X:Cx)(z:Z)(es:List Expr)(g:G)(C:Addr)(g':G):Prop:=∃t,PA X es t/\∀O J M H Q,S z g O J M H->Acc X z g' M H C O->t O H Q
def Ou(X:Cx)(z:Z)(st:Stmt)(g:G)(C:Addr)(g':G):Prop:=∃t,PS X st t/\∀O J M H E,S z g O J M H->yL X z g' M H C->t E O H
def HJ(X:Cx)(z:Z)(iT:List Stmt)(g:G)(C:Addr)(g':G):Prop:=∃t,qg X iT t/\∀O J M H E,S z g O J M H->yL X z g' M H C->t E O H
section
variable{st:Stmt}
theorem az.lift(h:az X.jJ z e g r g'):az X z e g r g':=let ⟨t,q,k⟩:=h;⟨t,q.jJ,k⟩
theorem bZ.lift(h:bZ X.jJ z e g v g'):bZ X z e g v g':=let ⟨t,q,k⟩:=h;⟨t,q.jJ,k⟩
theorem HN(h:rY X z a g C g')(hm:behindInMarks op b=false):rY X z (.Compare a [op] [b] pos) g C g':=by obtain⟨t,q,k⟩:=h;exact⟨_,lu (r:=λ_ _ _ _=>False) (λ_ _ _ _ _ _ _ _ _ _ _ _ h=>h.elim) q fZ hm,λO J M H Q s ac=>k O J M H _ s ac⟩
theorem HQ(h1:az X z a g r g1)(h:rY X z b g1 C g')(hm:behindInMarks op b=false):rY X z (.Compare a [op] [b] pos) g C g':=by obtain⟨t1,q1,k1⟩:=h1;obtain⟨t,q,k⟩:=h;exact⟨_,lu (r:=λ_ _ _ _=>False) (λ_ _ _ _ _ _ _ _ _ _ _ _ h=>h.elim) q1 q hm,λO J M H Q s ac=>k1 O J M H _ s λv H1 aO M1 s1 cU R1=>k O aO M1 H1 _ s1 (ac.trans cU)⟩
theorem Ov(h:rY X z e g C g')(he:∀whole,isTrue e X.env whole=(do let v <- whole;standAt e.pos;holding [v] (truthy v))):RW X z e g C g':=by obtain⟨t,q,k⟩:=h;exact⟨_,LK q he,λO J M H Q s ac=>k O J M H _ s ac⟩
theorem HR(h:RW X z a g C g'):RW X z (.UnaryOp .Not a pos) g C g':=by obtain⟨t,q,k⟩:=h;exact⟨_,z9 q,λO J M H Q s ac=>k O J M H _ s ac⟩
theorem HS(h:rY X z e g C g')(hs:starEach (e::es) X.env=(false,eval e X.env)::starEach es X.env):U3 X z (e::es) g C g':=by
 obtain⟨t,q,k⟩:=h;have pn:PA X es (λ_ _ _=>False):=λ_ _ _ _ _ _ _ h=>h.elim
 exact⟨_,bH q pn hs,λO J M H Q s ac=>k O J M H _ s ac⟩
theorem HW(h1:az X z e g r g1)(h:U3 X z es g1 C g')(hs:starEach (e::es) X.env=(false,eval e X.env)::starEach es X.env):U3 X z (e::es) g C g':=by obtain⟨t1,q1,k1⟩:=h1;obtain⟨t,q,k⟩:=h;exact⟨_,bH q1 q hs,λO J M H Q s ac=>k1 O J M H _ s λv H1 aO M1 s1 cU R1=>k O aO M1 H1 _ s1 (ac.trans cU)⟩
theorem Ow(h:rY X z e g C g'):Ou X z (.Return (some e) pos) g C g':=by obtain⟨t,q,k⟩:=h;exact⟨_,uN q,λO J M H E s ac=>k O J M H _ s (ac O)⟩
theorem HX(h:rY X z e g C g')(hs:swapsWith e none pos.line X.env=pure false):Ou X z (.Expr e pos) g C g':=by obtain⟨t,q,k⟩:=h;exact⟨_,qi q hs,λO J M H E s ac=>k O J M H _ s (ac O)⟩
theorem Ox(h:RW X z c g C g'):Ou X z (.If c x y pos) g C g':=by obtain⟨t,q,k⟩:=h;exact⟨_,lK q aY aY,λO J M H E s ac=>k O J M H _ s (ac O)⟩
theorem BP(h1:bZ X z c g v g1)(h:HJ X z (if v then x else y) g1 C g'):Ou X z (.If c x y pos) g C g':=by
 obtain⟨t1,q1,k1⟩:=h1;obtain⟨t,q,k⟩:=h;cases v with
 |true=>exact⟨_,lK q1 q aY,λO J M H E s ac=>k1 O J M H _ s λH' aA M' s' st=>jN (k O aA M' H' _ s' (ac.trans st))⟩
 |false=>exact⟨_,lK q1 aY q,λO J M H E s ac=>k1 O J M H _ s λH' aA M' s' st=>nX (k O aA M' H' _ s' (ac.trans st))⟩
theorem HY(h:Ou X z st g C g'):HJ X z (st::iT) g C g':=by obtain⟨t,q,k⟩:=h;exact⟨_,dU q aY,λO J M H E s ac=>k O J M H _ s ac⟩
theorem Ia(h1:fF X z st g .nx g1)(h:HJ X z iT g1 C g'):HJ X z (st::iT) g C g':=by obtain⟨t1,q1,k1⟩:=h1;obtain⟨t,q,k⟩:=h;exact⟨_,dU q1 q,λO J M H E s ac=>k1 O J M H _ s λσ' aA M' H' s' st'=>k σ' aA M' H' E s' (ac.trans st')⟩
end
def YT(K:Frag)(N:List Str)(np:Nat)(run:List Nat->G->Addr->G->Prop):Sp:=λvs H _ E=>
 vs.length=np/\∃(z:Z) (g g':G) (J M:List Addr) (C:Addr),z.K=K/\S z g (L2.start N vs) J M H/\run z.bor g C g'/\∀σ' aA M' H',S z g' σ' aA M' H'->ak M H M' H'->E (.ref C) none H'
section
variable{run:List Nat->G->Addr->G->Prop}
theorem Oz{P:Program}{w:World}{K:Frag}{mg:Str->Option Value}{base:Heap}{qual:Str}{st:Stmt}(F:Fz K x qual st f fd)(Sc:bT N ps (aB st))
  (h:∀(bB:Value) (A:Around) (outer:List Env) (s:Shared) (H:Hp) (E:XK),PySem.W.codeIn K bB qual=true->bW k (A.deeper (envOfC qual (aB st) s⁻¹ f bB))->
   ∀(z:Z) (g:G) (C:Addr) (g':G),z.K=K->run z.bor g C g'->HJ (eF (zU P w) P w K mg base N qual (aB st) f bB A outer s H E) z (bz st) g C g') :
  gQ P w K mg base (zU P w) (k+1) f fd ps (YT K N ps.length run):=by
 obtain⟨oc,od,kV,doc,pm,an,bB,ct,osl,rfl,lk,bY⟩:=F.ex;refine Kw lk bY Sc (λvs H Q E q=>q.1) λA outer s H vs Q E hr ⟨_,z,g,g',J,M,C,hK,hs,hrun,hQ⟩=>?_
 obtain⟨t,q,kk⟩:=h bB A outer s H E bY hr z g C g' hK hrun;exact⟨t,q,kk _ J M H _ hs λO ah s1 H1 aO M1 y I s' st' fl=>BL I fl (hQ O aO M1 H1 s' st')⟩
theorem Ib(F:gQ X.prog X.w X.K X.mg X.base (zU X.prog X.w) k f fd ps (YT X.K N ps.length run))(hK:z.K=X.K)(hex:X.ex=[])(hr:bW k X.A)(hg:Gl X x)(hm:X.mg x=some (.ref f))(hk:PySem.W.keepIn X.K (.ref f)=true)(hb:L2.Binds X.K fd ps [])
  (ha:cV X z (e::es) g rs g1) (aV:rs.length=ps.length) (hl:cS rs g1=some gs) (nd:((vars 0 rs).map (·.2)).Nodup) (hrun:run ((vars 0 rs).map (·.1)) (cP N.length gs) C gc) (Br:back (vars 0 rs) gc g1=some gO)
  (iB:(x==(~~~3))=false) (he:starEach (e::es) X.env=(false,eval e X.env)::starEach es X.env) (jG:(backTo pos (starEach es X.env)).any (·.1)=false) :
  rY X z (.Call (.Name x p) (e::es) [] pos) g C gO:=by
 refine⟨λO H Q=>∃J M,S z g O J M H/\Acc X z gO M H C O,λah s O H Q I ⟨J,M,hs,ac⟩=>?_,λO J M H Q s ac=>⟨J,M,s,ac⟩⟩
 refine pV (d9 I hg hm ?_ iB);refine AA (h₀:=X.base) I.ok.mod.zQ hk (ha.run (pos:=pos) I hs λvs us s1 H1 aO M1 I1 r1 q1 q2 R1=>⟨I1.kP,?_⟩) he jG
 have hv:vs.length=rs.length:=R1.length;have hl2:(us++[]).length=ps.length:=by rw[mI,<- r1.length,hv,aV]
 have ee:=q1.enter (N:=N) R1 hl nd;refine CC (BD (F.run X.A X.stack s1 H1 ⟨us,[]⟩ (us++[]) (vs++[]) (λ_ _=>False) (λcls _ H'=>cls=.ref C/\∃bx M2,S z gO O bx M2 H'/\ak M H M2 H') hr I1.Gu (hb s1 us I1.kP hl2) (by rw[mI,mI];exact r1) ?_) λr s' hq=>?_)
 .
  rw[mI];refine⟨by rw[hv,aV],o7 z O M1 H1 rs,cP N.length gs,gc,_,M1,C,hK,ee,by rw[jQ];exact hrun,λσ' aA M' H' s' st'=>⟨rfl,?_⟩⟩
  obtain⟨M2,s2,aP,_⟩:=q1.leave (r:=.dat .non) (v:=.non) R1 hl nd s' st' .non Br rfl;exact⟨aO,M2,s2,q2.trans aP⟩
 .
  cases r with
  |error ev=>
   have hq:zU X.prog X.w X.stack H1 s1 (λcls _ H'=>cls=.ref C/\∃bx M2,S z gO O bx M2 H'/\ak M H M2 H') ev s':=hq
   obtain⟨y,C',H',rfl,I',fl,hC,bx,M2,s2,aP⟩:=BK hex I1 hq;cases hC;exact ac ah s' H' bx M2 y I' s2 aP fl
  |ok YW=>
   cases YW with
   |ret u=>
    have hq:CE X.stack X.prog X.w H1 s1 (λ_ _=>False) u s':=hq
    obtain⟨_,_,_,_,_,_,_,q⟩:=hq;exact q.elim
   |next=>exact False.elim hq
   |brk=>exact False.elim hq
   |cont=>exact False.elim hq
end
noncomputable def veM:List Value:=[.type "ValueError",.type "Exception",.type "BaseException",.type "object"]
abbrev eH(K:Frag)(C:Addr):Prop:=PySem.W.excIn K C veM "ValueError.__new__"=true
theorem qJ{K:Frag}{h:Heap}{C:Addr}(X:K.In h)(q:eH K C) :
  ∃bm N nm qn bs hdct sn sub ab col dd k0 k1 k2 k3 k5 mN,h.get? C=some (excClassObj nm qn C N bs bm hdct sn sub ab col dd k0 k1 k2 k3 k5 "ValueError.__new__")/\h.Ns N mN/\mN "__init__"=none/\OwnTail h veM bm:=by
 unfold eH PySem.W.excIn at q;split at q
 .
  rename_i dd cd sl ho;split at q
  .
   rename_i C' bm k0 k1 k2 k3 n k5 hm hs;simp only[eP,beq_iff_eq,BB]at q;obtain⟨⟨⟨⟨⟨rfl,rfl⟩,U4⟩,ht⟩,hok⟩,hni⟩:=q;obtain⟨nm,bs,mro,ns,qn,hd,sn,sub,ab,col,del⟩:=cd;dsimp only at hm U4 hok hni;subst hm U4;have hsl:sl = #[k0,k1,k2,k3,some (.builtin "ValueError.__new__"),k5]:=by obtain⟨l⟩:=sl;simp only at hs;rw[hs]
   subst hsl;exact⟨bm,ns,nm,qn,bs,hd,sn,sub,ab,col,dd,k0,k1,k2,k3,k5,_,X _ _ ho,.of_isNs (PySem.W.isNs_of_in X hok),PySem.W.nsMap_none_of_in X hok hni,PySem.W.tail_of_in X ht⟩
  . cases q
 . cases q
theorem sX(x:cH P w H h a o):∃ob,h.get? a=some ob:=by
 induction o with
 |lst xs=>obtain⟨_,_,_,_,e⟩:=x;exact⟨_,e⟩
 |tup xs=>obtain⟨_,_,_,ob,e,_⟩:=x;exact⟨_,e⟩
 |dK eW=>obtain⟨_,_,_,_,o,_,_,e,_⟩:=x;exact⟨_,e⟩
 |dT eW=>obtain⟨_,_,_,_,o,_,_,e,_⟩:=x;exact⟨_,e⟩
 |set S n=>obtain⟨o,_,_,_,e,_⟩:=x;exact⟨_,e⟩
 |ins C dx fs=>obtain⟨_,_,_,e,_⟩:=x;exact⟨_,e⟩
 |own y=>exact x
 |xd fs=>obtain⟨mA,⟨o,_,_,e,_⟩,_⟩:=x;exact⟨_,e⟩
 |Wz lo hi=>obtain⟨_,_,_,e⟩:=x;exact⟨_,e⟩
 |jE o u ih=>exact⟨_,x.1⟩
 |jH ps=>exact⟨_,x⟩
 |met f y=>exact⟨_,x⟩
 |ext φ=>exact x.2.1
section
theorem BR(hc:X.calm=true)(hex:X.ex=[])(hq:eH X.K C)(hg:Gl X x)(hm:X.mg x=some (.ref C))(iB:(x==(~~~3))=false)(ha:cV X z [m] g [.dat d] g1)(hs:starEach [m] X.env=[(false,eval m X.env)]) :
  Ou X z (.Raise (some (.Call (.Name x np) [m] [] bM)) none pos) g C g1:=by
 refine⟨λ_ O H=>∃J M,S z g O J M H/\yL X z g1 M H C,λah s O H E I ⟨J,M,st,ac⟩=>?_,λO J M H E s ac=>⟨J,M,s,ac⟩⟩
 obtain⟨bm,N,nm,qn,bs,hdct,sn,sub,ab,col,dd,k0,k1,k2,k3,k5,mN,hC,hN,hni,T⟩:=qJ I.ok.mod.zQ hq;refine wpAny_Raise_call_subU (Bn:= "ValueError") (C:=C) (nm:=nm) (q:=qn) (N:=N) (bs:=bs) (bm:=bm) (hdct:=hdct) (sn:=sn) (sub:=sub) (ab:=ab) (col:=col) (dd:=dd) (k0:=k0) (k1:=k1) (k2:=k2) (k3:=k3) (k5:=k5) PySem.F.excBase_ValueError ⋯ PySem.F.excBase_ValueError (T.hasType ⋯) (I.ok.hd hc) (by rw[hs];rfl) hni (d9 I hg hm ⟨rfl,?_⟩ iB)
 rw[hs];refine Calls.evalArgs_plain (x:=eval m X.env) (rest:=[]) ?_;have e1:spliced ((false,eval m X.env)::[])=spliced (backTo bM (starEach [m] X.env)):=by rw[hs];rfl
 rw[e1];refine (ha.run I st λvs us s1 H1 aO M1 I1 r1 q1 q2 R1=>?_)
 refine⟨rfl,?_,I1.bk _ _ hC,hN.keeps I1.bk,T.keeps I1.bk,λh' e W8=>?_⟩
 . show us.length<=sizeLine;have:=r1.length;rw[R1.length]at this;rw[<- this,rV];exact (by decide:(1:Nat)<=16777216)
 .
  have I2:L2.Inv X ah O H1 { s1 with heap:=h'}:=I1.kept (t':=s1.toks) W8.keeps;have jD:H1 e=none:=by
   cases q:H1 e with
   |none=>rfl
   |some o=>obtain⟨ob,ho⟩:=sX (I1.hok e o q);have hn:=W8.new;rw[ho]at hn;cases hn
  refine ac O ah _ H1 aO M1 e I2 q1 q2 ?_;obtain⟨t,ht,_,_⟩:=W8.there;refine⟨⟨_,_,ht,rfl,rfl,rfl,by simp,.inl ⋯⟩,?_,jD⟩
  cases q:X.s₀.heap.get? e with
  |none=>rfl
  |some o=>
   obtain⟨ob,ho⟩:=I1.base.there e o q (by rw[hex];simp)
   have hn:=W8.new;rw[ho]at hn;cases hn
end
section
theorem BV(F:gQ X.prog X.w X.K X.mg X.base rW k f fd ps sp)(h:U3 X z (e::es) g C g')(hr:bW k X.A)(hg:Gl X x)(hm:X.mg x=some (.ref f))(hk:PySem.W.keepIn X.K (.ref f)=true)(hb:L2.Binds X.K fd ps [])
  (iB:(x==(~~~3))=false) (he:starEach (e::es) X.env=(false,eval e X.env)::starEach es X.env) (jG:(backTo pos (starEach es X.env)).any (·.1)=false):rY X z (.Call (.Name x p) (e::es) [] pos) g C g':=by
 obtain⟨t,q,kk⟩:=h;exact⟨_,wc F hr hg hm hk hb .nil Kz q iB he jG,λO J M H Q s ac=>kk O J M H _ s ac⟩
end
open PySem PySem.W PyProof.Rows
structure W9(α:Type) where
 lt:α->α->Bool
 irr:∀a,lt a a=false
 tr:∀a b c,lt a b=true->lt b c=true->lt a c=true
 tot:∀a b,lt a b=false->lt b a=false->a=b
namespace W9
variable{α:Type}(qqq:W9 α)
def le(a b:α):Prop:=qqq.lt b a=false
variable{qqq}
end W9
open L2 PySem.W
open L2 PySem.W
open L2 PySem.W
noncomputable def fQ(n:Int): ~~~0->Int
 | []=>n
 |m::l=>fQ (if m<n then m else n) l
theorem qK:∀(l: ~~~0) (n:Int),fQ n l<=n/\(∀x∈l,fQ n l<=x)/\(fQ n l=n\/fQ n l∈l)
 | [],n=>⟨Int.le_refl _,λ_ z=>(nomatch z),.inl rfl⟩
 |m::l,n=>by
  obtain⟨h1,h2,h3⟩:=qK l (if m<n then m else n)
  unfold fQ;refine⟨?_,λx hx=>?_,?_⟩
  . split at h1 <;> split <;> lia
  .
   rcases dL.mp hx with rfl |hx
   . split at h1 <;> split <;> lia
   . exact h2 x hx
  .
   rcases h3 with h3 |h3
   .
    by_cases hm:m<n
    . rw[i5 hm]at h3 ⊢;exact .inr (by rw[h3];exact dA)
    . rw[gN hm]at h3 ⊢;exact .inl h3
   . exact .inr (b0 _ h3)
theorem BW(n:Int)(l: ~~~0):(n::l).getD (argBest (λi j=>decide ((n::l).getD i 0<(n::l).getD j 0)) l.length) 0=fQ n l:=by
 obtain⟨h1,h2⟩:=argBest_lt (λi=>(n::l).getD i 0) l.length
 obtain⟨m1,m2,m3⟩:=qK l n;generalize argBest (λi j=>decide ((n::l).getD i 0<(n::l).getD j 0)) l.length=k at h1 h2 ⊢
 have hmem:(n::l).getD k 0∈n::l:=by
  have:k<(n::l).length:=by rw[i3];lia
  rw[nV,nE this];exact BN _
 have a:fQ n l<=(n::l).getD k 0:=by
  rcases dL.mp hmem with e |e
  . rw[e];exact m1
  . exact m2 _ e
 have b:(n::l).getD k 0<=fQ n l:=by
  have:fQ n l∈n::l:=m3.elim (λe=>by rw[e];exact dA) (b0 _)
  obtain⟨j,hj,e⟩:=List.getElem_of_mem this;have q:=h2 j (by rw[i3]at hj;lia)
  rw[show (n::l).getD j 0=fQ n l by rw[nV,nE hj];exact e]at q
  exact q
 lia
section
variable{X:Cx}{z:Z}
theorem pD{h h':Heap}{o:Obj}(hk:∀b ob,b∉[h.objs.size]->(h.push o).get? b=some ob->h'.get? b=some ob):∀b ob,h.get? b=some ob->h'.get? b=some ob:=λb ob e=>
 hk b ob (λhm=>by
  have:b=h.objs.size:=by simpa using hm
  exact absurd (d0 e) (by rw[this];exact qS _)) (bP _ e)
theorem yM(hc:X.calm=true):dX X (.builtin "min") (λxs H Q=>∃(p:Addr) (n:Int) (l: ~~~0),xs=[.ref p]/\(cG X.K H p ((n::l).map V.int)\/fX X.K H p ((n::l).map V.int))/\Q (.int (fQ n l)) H):=by
 intro ah s O H xs us Q I r h;obtain⟨p,n,l,rfl,hp,q⟩:=h;obtain⟨u,rfl,rx⟩:=vals1 r;cases rx;have hh:X.A.in1.handled=none:=I.ok.hd hc;have fin:∀(its:List Value) (v:Value) (h':Heap) (tk:Nat),Vals ((n::l).map V.int) its->its[argBest (λi j=>decide ((n::l).getD i 0<(n::l).getD j 0)) (its.length - 1)]?=some v->(∀b o,s.heap.get? b=some o->h'.get? b=some o)->EP X ah O Q v { s with heap:=h',toks:=tk}:=by
  intro its v h' tk rv hv hk;have aV:its.length=l.length+1:=by rw[<- rv.length,fR,i3]
  rw[aV,Nat.add_sub_cancel]at hv;obtain⟨t,rfl⟩:=ji rv hv;exact⟨.int (fQ n l),H,I.kept hk,⟨t,by rw[BW]⟩,q⟩
 rcases hp with hp |hp
 .
  obtain⟨its,rv,pl,hz⟩:=I.list hp;have jC:p<s⁻¹:=by obtain⟨_,e,_⟩:=pl.isList;exact d0 e
  refine call_min_walk (AF pl.isList ?_);refine⟨s⁻¹,_,_,_,_,_,_,rfl,Walks.list (A:=X.A.in1) hh s⁻¹ p (gL jC) its.toArray,⟨⟨_,d6 _ rfl,rfl,rfl⟩,pl.isList.push _⟩,λb hb=>?_,by rw[dC,<- rv.length,fR];exact Nat.succ_pos _,CmpOf.ints_lt (λi=>(n::l).getD i 0) (λi v hv=>ji rv (by simpa using hv)),λv h' tk hP hk=>fin its v h' tk rv (by simpa using hP) (pD hk)⟩
  simp only[dL,i4,u8]at hb;rcases hb with rfl |rfl
  . exact tJ (w9 _) (nN _ _).symm
  . exact tJ (AG jC) (nN _ _).symm
 .
  obtain⟨its,rv,pl,hz⟩:=I.tuple hp;have jC:p<s⁻¹:=by obtain⟨_,e,_⟩:=pl;exact d0 e
  have U0:s.heap.IsTuple p its.toArray:=pl;refine call_min_walk (At U0 ?_);refine⟨s⁻¹,_,_,_,_,_,_,rfl,Walks.tuple (A:=X.A.in1) hh s⁻¹ p (gL jC) its.toArray,⟨⟨_,d6 _ rfl,rfl,rfl⟩,IsTup.keeps U0 λb o e=>bP _ e⟩,λb hb=>?_,by rw[dC,<- rv.length,fR];exact Nat.succ_pos _,CmpOf.ints_lt (λi=>(n::l).getD i 0) (λi v hv=>ji rv (by simpa using hv)),λv h' tk hP hk=>fin its v h' tk rv (by simpa using hP) (pD hk)⟩
  simp only[dL,i4,u8]at hb;rcases hb with rfl |rfl
  . exact tJ (w9 _) (nN _ _).symm
  . exact tJ (AG jC) (nN _ _).symm
theorem sY(hK:z.K=X.K)(h:dD d=some l)(hi:cO l=some ns)(pv:Pk z.K M H d v):∃a,v=.ref a/\(cG X.K H a (ns.map V.int)\/fX X.K H a (ns.map V.int)):=by
 cases d with
 |lst m=>symm;obtain⟨a,xs,rfl,e1,e2⟩:=pv.list;have:=bL e2 hi;subst this;exact⟨a,rfl,.inl (cG.of e1)⟩
 |tup m=>symm;obtain⟨a,xs,rfl,e1,e2⟩:=pv.tup;have:=bL e2 hi;subst this;exact⟨a,rfl,.inr (hK▸e1.sq)⟩
 |fix m=>symm;obtain⟨a,xs,rfl,e1,e2⟩:=pv.fix;have:=bL e2 hi;subst this;exact⟨a,rfl,.inl (hK▸e1.sq)⟩
 |_=>symm
theorem Ic(hc:X.calm=true)(hK:z.K=X.K)(h:dD d=some l)(hi:cO l=some (n::ns)):CallD X z (.builtin "min") [d] (.dat (.int (fQ n ns))):=by
 refine⟨_,yM hc,λg O J M H vs Q s p k=>?_⟩
 obtain⟨v,rfl,pv⟩:=p.one;obtain⟨a,rfl,q⟩:=sY hK h hi pv;exact⟨a,n,ns,rfl,q,k _ _ J M s (ak.refl _ _) (.int _)⟩
end
open L2 PySem.W
open L2 PySem.W SeqAt
open L2 PySem.W SeqAt
section
theorem sZ{prog:Program}{w:World}{A:Around}{E:Value->Shared->Prop}{s:Shared}{l:Addr}{vs:List Value}{ns: ~~~0}{b:Bool}{Q:Value->Shared->Prop}(hl:IsTup s.heap l vs.toArray)(hI:IntsAre vs ns)(h64:vs.length<64)
  (k:∀(out:Array Value) (ns': ~~~0),IntsAre out.toList ns'->ns'.Perm ns->Ordered b ns'->Q (.ref (s⁻¹+1)) { s with heap:=sortedAll s.heap vs out}) :
  wpAny (model prog w) A (call (.builtin "sorted") [.ref l] [(Str.ofString "reverse",.bool b)]) Q E s:=by
 refine call_function_entry_kw kind_sorted plain_sorted entry_sorted (args_sorted_rev _ _) ?_;unfold Builtin.«sorted»;refine aS (m:=checkCount "sorted" 1 1 _) (dS (aS (n6 hl (aS (wpAny_newList ?_)) (by rw[rV];lia))))
 have z:((s.heap.push (seqObj "list" #[] 0)).update s⁻¹ (Obj.mapSeq (· ++ vs.toArray))).objs.size=s⁻¹+1:=by rw[Heap.size_update,size_push']
 have o:(((s.heap.push (seqObj "list" #[] 0)).update s⁻¹ (Obj.mapSeq (· ++ vs.toArray))).push (seqObj "list" vs.toArray 0)).get? (s⁻¹+1)=some (seqObj "list" vs.toArray 0):=z▸d6 _ rfl;show wpAny _ _ _ _ _ { s with heap:=((s.heap.push (seqObj "list" #[] 0)).update s⁻¹ (Obj.mapSeq (· ++ vs.toArray))).push (seqObj "list" vs.toArray 0)};rw[z];exact aS (oP (wpAny_call_entry_kw slot_list_sort ⟨_,o,rfl⟩ entry_list_sort (list_sort_tree_rev o hI h64 λout ns' a1 a2 a3=>⟨_,rfl,dS ⟨_,rfl,k out ns' a1 a2 a3⟩⟩) (args_list_sort_rev _ _)))
theorem u5{prog:Program}{w:World}{A:Around}{E:Value->Shared->Prop}{s:Shared}{l:Addr}{vs:List Value}{ns: ~~~0}{b:Bool}{Q:Value->Shared->Prop}(hl:s.heap.IsList l vs.toArray\/IsTup s.heap l vs.toArray)(hI:IntsAre vs ns)(h64:vs.length<64)
  (k:∀(out:Array Value) (ns': ~~~0),IntsAre out.toList ns'->ns'.Perm ns->Ordered b ns'->Q (.ref (s⁻¹+1)) { s with heap:=sortedAll s.heap vs out}) :
  wpAny (model prog w) A (call (.builtin "sorted") [.ref l] [(Str.ofString "reverse",.bool b)]) Q E s:=hl.elim (λh=>sorted_ints_rev h hI h64 k) λh=>sZ h hI h64 k
theorem u6{r:R}{d:D}{l:List D}{ns: ~~~0}{j:Nat}(hK:z.K=X.K)(ha:cV X z [e] g [r] g1)(hp:pk r g1=some d)(hs:dD d=some l)(hi:cO l=some ns)(hl:ns.length<64)
  (hg:Gl X "sorted") (hm:X.mg "sorted"=none) (d8:starEach [e] X.env=(false,eval e X.env)::starEach [] X.env) :
  az X z (.Call (.Name "sorted" p) [e] [⟨some "reverse",.Constant (.bool true) j kp,kpos⟩] pos) g (.new ((cg ns).reverse.map .int)) g1:=by
 refine az.of λah s O J M H Post I st k=>?_
 refine pV (iC I hg hm (by rfl:bootBuiltins ("sorted":Str)=some (.builtin "sorted")) (callWith_kw ?_ (by rw[d8];rfl) (by rw[d8];rfl)))
 refine ha.run I st λvs us s1 H1 aO M1 I1 r1 q1 q2 q3=>?_
 have sI:=q1.sI q3 (ds:=[d]) (by unfold sI;rw[hp];rfl)
 obtain⟨v1,rfl,Xa⟩:=sI.one;obtain⟨u1,rfl,YX⟩:=vals1 r1;refine kws_cons (Constant_bool (kws_nil ?_));have hq:∃q,v1=.ref q/\(cG X.K H1 q (ns.map V.int)\/fX X.K H1 q (ns.map V.int)):=by
  obtain⟨q,rfl,h⟩:=sY hK hs hi Xa;cases d with
  |lst m=>obtain⟨a,xs,e0,e1,e2⟩:=Xa.list;cases hs;have:=bL e2 hi;subst this;cases e0;exact⟨_,rfl,.inl (cG.of e1)⟩
  |fix m=>obtain⟨a,xs,e0,e1,e2⟩:=Xa.fix;cases hs;have:=bL e2 hi;subst this;cases e0;exact⟨_,rfl,.inl (hK▸e1.sq)⟩
  |tup m=>obtain⟨a,xs,e0,e1,e2⟩:=Xa.tup;cases hs;have:=bL e2 hi;subst this;cases e0;exact⟨_,rfl,.inr (hK▸e1.sq)⟩
  |_=>cases hs
 obtain⟨q,rfl,hq⟩:=hq;cases YX;obtain⟨its,rv,pl⟩:∃its:List Value,Vals (ns.map V.int) its/\(s1.heap.IsList q its.toArray\/IsTup s1.heap q its.toArray):=by
  rcases hq with hq |hq
  . obtain⟨its,rv,pl,_⟩:=I1.list hq;exact⟨its,rv,.inl pl.isList⟩
  . obtain⟨its,rv,pl,_⟩:=I1.tuple hq;exact⟨its,rv,.inr pl⟩
 have aV:=rv.length;rw[fR]at aV;refine u5 (b:=true) pl (intsAre_of rv) ⋯ λout ns' a1 a2 a3=>?_
 have e0:ns'=(cg ns).reverse:=by
  have hr:ns'.reverse.Pairwise (· <= ·):=by rw[x5];exact a3
  have:=mK ((List.reverse_perm ns').trans a2) hr;rw[<- this,List.reverse_reverse]
 subst e0;obtain⟨ep,he⟩:=sortedAll_at s1.heap its out;have hf:H1 (s1⁻¹+1)=none:=I1.hok.fresh (Nat.le_succ _);have hlen2:(cg ns).reverse.length=ns.length:=by rw[n0];exact (bC ns).length_eq
 refine k (.ref (s1⁻¹+1)) _ _ (upd H1 (s1⁻¹+1) (.lst ((cg ns).reverse.map V.int))) aO ((s1⁻¹+1)::M1) (I1.laid (t':=s1.toks) (o:=.lst ((cg ns).reverse.map V.int)) (λb o e=>sortedAll_old e) (Nat.le_succ _) ?_) rfl (q1.bf hf) (q2.trans (ak.bf hf)) ⟨_,_,rfl,dA,λhA=>q1.fresh hf (q1.sub _ hA),q1.dB hf,aC,pg _⟩
 refine⟨by rw[fR,hlen2,rV];lia,out.toList,ep,jM a1,?_⟩
 rw[he]
end
open L2 PySem.W SeqAt
open L2 PySem.W SeqAt
section
theorem iG.of (h:∀(ah: ~~~1) (s:Shared) (O:Sg) (J M:List Addr) (H:Hp) (Post:Value->Shared->Prop),L2.Inv X ah O H s->S z g O J M H->
  (∀v s1,(∀(R:It->Hp->Prop),(∀qqz H' aA M',S z g1 O aA M' H'->ak M H M' H'->Jt qqz items z.K M' H'->R qqz H')->wpAny (~~~2) X.A (pyIter v) (PIE X ah O tg R) X.xe s1)->Post v s1)->wpAny (~~~2) X.A (eval iter X.env) Post X.xe s):iG X z tg iter g items g1:=
 ⟨λO H R=>∃J M,S z g O J M H/\(∀qqz H' aA M',S z g1 O aA M' H'->ak M H M' H'->Jt qqz items z.K M' H'->R qqz H'),λah s O H R I ⟨J,M,st,k⟩=>h ah s O J M H _ I st λv s1 q=>q R k,λO J M H R s k=>⟨J,M,s,k⟩⟩
end
open L2 PySem.W SeqAt
section
theorem u9(hit:s.heap.IsTupleIter it t i)(ht:s.heap.IsTuple t items)(hx:items[i]?=some x)(hQ:∀h',h'.IsTupleIter it t (i+1)->Heap.SameBut it s.heap h'->Q x { s with heap:=h'}):wpAny (model prog w) A (Builtin.SmallTypes.nextOf (.ref it)) Q E s:=by
 obtain⟨o,ho,hc,hd⟩:=id hit;obtain⟨ol,YZ,_,nl,hdl⟩:=ht;unfold Builtin.SmallTypes.nextOf;refine aS (o6 (name:=Str.ofString "__next__") hit.typeIs wT (w8 wT hit.typeIs F.entry_tuple_iterator_next ?_ (F.args_tuple_iterator_next_1 _)));show wpAny _ _ (field (.ref it) 0 >>= _) _ _ s;refine aS (l5 ho hd (x:=.ref t) rfl ?_);show wpAny _ _ (if (Value.ref t==Value.none)=true then _ else _) _ _ s
 rw[gN (show ¬ ((Value.ref t==Value.none)=true)from pE)]
 show wpAny _ _ (field (.ref it) 1 >>= _) _ _ s;refine aS (l5 ho hd (x:=.int i 0) rfl ?_);show wpAny _ _ (seqItems? (.ref t) >>= _) _ _ s;refine aS (yY YZ hdl ?_);simp only[mM,hx];refine aS (AK ho hd ⋯ (dS ⟨x,rfl,dS (hQ _ ⟨_,t7 _ ho (x0 (u4 hd _)),(Obj.cls_mapFields ..).trans hc,?_⟩ (Heap.SameBut.update ..))⟩));rw[u4 hd];simp[rawInt]
theorem n9(hh:A.handled=none)(hit:s.heap.IsTupleIter it t i)(ht:s.heap.IsTuple t items)(hx:items[i]?=none)
  (hE:∀h' e,Heap.ExtBut it s.heap h'->(∃o,h'.get? e=some o/\o.cls=.type "StopIteration")->E (.ref e) { s with heap:=h'}):wpAny (model prog w) A (Builtin.SmallTypes.nextOf (.ref it)) Q E s:=by
 obtain⟨o,ho,hc,hd⟩:=id hit;obtain⟨ol,YZ,_,nl,hdl⟩:=ht;unfold Builtin.SmallTypes.nextOf;refine aS (o6 (name:=Str.ofString "__next__") hit.typeIs wT (w8 wT hit.typeIs F.entry_tuple_iterator_next ?_ (F.args_tuple_iterator_next_1 _)));show wpAny _ _ (field (.ref it) 0 >>= _) _ _ s;refine aS (l5 ho hd (x:=.ref t) rfl ?_);show wpAny _ _ (if (Value.ref t==Value.none)=true then _ else _) _ _ s
 rw[gN (show ¬ ((Value.ref t==Value.none)=true)from pE)]
 show wpAny _ _ (field (.ref it) 1 >>= _) _ _ s;refine aS (l5 ho hd (x:=.int i 0) rfl ?_);show wpAny _ _ (seqItems? (.ref t) >>= _) _ _ s;refine aS (yY YZ hdl ?_);simp only[mM,hx];refine aS (wpAny_rule (aS (AK ho hd ⋯ ?_)));show wpAny _ _ (newExc (.type "StopIteration") [] >>= _) _ _ _;refine aS ?_;simp only[newExc,newTuple];refine aS (lS (aS (m:=firstArgMember _ _) (wpAny_of_eq (a:=Value.none) (by first |rfl | (simp only[firstArgMember];rfl)) (lS ?_ (by size_fits)))) (by size_fits))
 simp only[raiseNew];refine aS (wpAny_handled ?_)
 first |rw[show A.in1.handled=none from hh] |rw[hh]
 exact aS (dS (wpAny_throw (hE _ _ (((Heap.SameBut.update ..).extBut.push _).push _) ⟨_,d6 _ rfl,rfl⟩)))
theorem OD(hh:A.handled=none)(it t:Addr)(jD:t≠it)(items:Array Value):Draws prog w A it [it,t] items.size (λi v=>items[i]?=some v) (λi h=>h.IsTupleIter it t i/\h.IsTuple t items) where
 live:=λ_ _ st=>let ⟨o,ho,_⟩:=st.1;⟨o,ho⟩
 frame:=λ_ _ _ st hk=>by
  obtain⟨⟨o,ho,r⟩,⟨o',ho',r'⟩⟩:=st;exact⟨⟨o,hk it ⋯ o ho,r⟩,⟨o',hk t ⋯ o' ho',r'⟩⟩
 item:=λi s Q E hi st hQ=>u9 st.1 st.2 (x:=items[i]) (by simp[hi]) λh' Y0 hs'=>hQ _ h' s.toks (by simp[hi]) ⟨Y0,IsTup.extBut st.2 hs'.extBut jD⟩ hs'
 done:=λs Q E st hE=>n9 hh st.1 st.2 ⋯ hE
end
open L2 PySem.W SeqAt
def pF(tp:Bool)(K:Frag)(H:Hp)(a:Addr)(xs:List V):Prop:=match tp with |true=>fX K H a xs |false=>cG K H a xs
def FQ(tp:Bool)(h:Heap)(it a:Addr)(i:Nat):Prop:=match tp with |true=>h.IsTupleIter it a i |false=>h.IsListIter it a i
def Xc(tp:Bool)(h:Heap)(a:Addr)(its:List Value):Prop:=match tp with |true=>h.IsTuple a its.toArray |false=>h.IsList a its.toArray
section
theorem pF.real(I:L2.Inv X ah O H s)(h:pF tp X.K H a xs):∃its:List Value,Vals xs its/\Xc tp s.heap a its/\xs.length<=sizeLine:=by
 cases tp with
 |true=>exact I.tuple h
 |false=>obtain⟨its,r,pl,hz⟩:=I.list h;exact⟨its,r,pl.isList,hz⟩
theorem pF.inj(I:L2.Inv X ah O H s)(h:pF tp X.K H a xs)(h':pF tp X.K H a ys):xs=ys:=by
 cases tp with
 |true=>exact I.oN h h'
 |false=>exact I.sy h h'
theorem FQ.obj(x:FQ tp h it a i):∃o vs,h.get? it=some o/\o.data=.fields vs:=by
 cases tp with
 |true=>obtain⟨o,e,_,d⟩:=(show h.IsTupleIter it a i from x);exact⟨o,_,e,d⟩
 |false=>obtain⟨o,e,_,d⟩:=(show h.IsListIter it a i from x);exact⟨o,_,e,d⟩
theorem FQ.keep(x:FQ tp h it a i)(k:∀o,h.get? it=some o->h'.get? it=some o):FQ tp h' it a i:=by
 cases tp with
 |true=>obtain⟨o,e,d⟩:=(show h.IsTupleIter it a i from x);exact⟨o,k o e,d⟩
 |false=>obtain⟨o,e,d⟩:=(show h.IsListIter it a i from x);exact⟨o,k o e,d⟩
theorem qL(hh:A.handled=none)(jD:a≠it)(its:List Value):Draws prog w A it [it,a] its.length (λi v=>its[i]?=some v) (λi h=>FQ tp h it a i/\Xc tp h a its):=by
 cases tp with
 |true=>have:=OD (prog:=prog) (w:=w) hh it a jD its.toArray;simp only[dC,List.getElem?_toArray]at this;exact this
 |false=>have:=Draws.list (prog:=prog) (w:=w) hh it a jD its.toArray;simp only[dC,List.getElem?_toArray]at this;exact this
end
open L2 PySem.W SeqAt
theorem jS:fillsNumberSlot (.type "tuple") "mul"=pure false:=PyProof.Rows.fillsNumberSlot_seq (id:= "tuple.__mul__") (r:=some (.builtin "tuple.__rmul__")) F.slot_tuple_mul.lookup (by decide +kernel) F.slot_tuple_rmul.lookup (by decide +kernel)
theorem qM:seqRepeat? (.type "tuple")=pure (some (.builtin "tuple.__mul__")):=by
 unfold seqRepeat?;rw[PyProof.Rows.seqSlot_of (T:= "tuple") (name:= "__mul__") (id:= "tuple.__mul__") F.slot_tuple_mul.lookup (by decide +kernel),PyProof.Rows.seqSlot_of (T:= "tuple") (name:= "__rmul__") (id:= "tuple.__rmul__") F.slot_tuple_rmul.lookup (by decide +kernel)]
 rfl
theorem mO(a:Int)(t:Tok)(l:Addr)(items:Array Value)(n:Nat)(dd:Option Addr)(sl:Array (Option Value)) :
  Meets (Builtin.«int.__rmul__» ⟨[.int a t,.ref l],[]⟩) (λ_ R s=>s.heap.get? l=some { cls:=.type "tuple",dict:=dd,data:=.seq items n,slots:=sl}/\R (.ok (.ret Value.notImplemented)) s):=
 .of_wp λprog w A R s h=>by obtain⟨hp,g,d,tk,os⟩:=s;obtain⟨hl,h⟩:=h;wp_walk;exact⟨_,rfl,h⟩
theorem vd(l:Addr)(items:Array Value)(n:Nat)(dd:Option Addr)(sl:Array (Option Value))(k:Int)(t:Tok)(hk:2<=k)(hk2:k<2 ^ 63)(jD:items.isEmpty=false)(hz:items.size * k.toNat<=16777216) :
  Meets (Builtin.«tuple.__mul__» ⟨[.ref l,.int k t],[]⟩)
   (λA R s=>s.heap.get? l=some { cls:=.type "tuple",dict:=dd,data:=.seq items n,slots:=sl}/\R (.ok (.ret (.ref s⁻¹))) { s with heap:=s.heap.push { cls:=.type "tuple",data:=.seq ((List.replicate k.toNat items).foldl (· ++ ·) #[])}}):=
 .of_wp λprog w A R s h=>by
  obtain⟨hp,g,d,tk,os⟩:=s;obtain⟨hl,h⟩:=h
  wp_walk using y8 hl
  have hp0:(items.size:Int) * k=((items.size * k.toNat:Nat):Int):=by rw[Int.natCast_mul,Int.toNat_of_nonneg ⋯]
  rw[gN (by simp only[An,eQ];lia)]
  wp_walk using y8 hl
  rw[gN (by rw[jD];simp only[Bool.false_or,beq_iff_eq];lia)]
  rw[gN (by rw[jD];simp only[Bool.or_false,eQ];lia)]
  rw[gN (by rw[hp0];lia)]
  rw[gN (by rw[hp0];unfold Builtin.Tuple.tupleTooMany;simp only[eQ];rw[rV];lia)]
  unfold Builtin.Tuple.tupleExact;refine aS (lS (dS ⟨_,rfl,h⟩) ?_);have:=foldl_rep items.toList k.toNat [];simp only[y7,Array.toArray_toList]at this;show (List.foldl (λx1 x2=>x1++x2) #[] (List.replicate k.toNat items)).size<=sizeLine
  rw[this,dC,len_rep,tS,rV,Nat.mul_comm];exact hz
theorem ve(l:Addr)(items:Array Value)(n:Nat)(dd:Option Addr)(sl:Array (Option Value))(k:Int)(t:Tok)(hk : -(2 ^ 63)<=k/\k<2 ^ 63)(jD:(items.isEmpty||k==1)=true) :
  Meets (Builtin.«tuple.__mul__» ⟨[.ref l,.int k t],[]⟩)
   (λA R s=>s.heap.get? l=some { cls:=.type "tuple",dict:=dd,data:=.seq items n,slots:=sl}/\R (.ok (.ret (.ref l))) s):=
 .of_wp λprog w A R s h=>by
  obtain⟨hp,g,d,tk,os⟩:=s;obtain⟨hl,h⟩:=h
  wp_walk using y8 hl
  rw[gN (by simp only[An,eQ];lia)]
  wp_walk using y8 hl
  exact⟨_,rfl,h⟩
section
def U5(K:Frag):R2:=λx y H Q=>∃a k xs,x=.ref a/\y=.int k/\fX K H a xs/\1<=k/\k<2 ^ 63/\xs.length * k.toNat<=16777216/\
 ((xs=[]\/k=1)->Q (.ref a) H)/\(xs≠[]->2<=k->∀p,H p=none->Q (.ref p) (upd H p (.tup (List.replicate k.toNat xs).flatten)))
theorem Ie:j9 X (binaryOp .Mult) (U5 X.K):=by
 intro ah s O H x y v u Q I rx ry h;obtain⟨a,k,xs,rfl,rfl,ha,h1,h2,hz,q1,q2⟩:=h;cases rx;obtain⟨t,rfl⟩:=ry;obtain⟨its,rv,⟨⟨cls,dd,data,sl⟩,ho,hc,n,hd⟩,_⟩:=I.tuple ha;simp only at hc hd;subst hc hd;have aV:=rv.length;refine wpAny_binaryOp_repeat_ref (T:= "tuple") (U:= "int") ⋯ ⟨_,ho,rfl⟩ (λs'=>typeIs_int s' k t) jS F.fills_int_mul F.slot_int_rmul qM F.slot_int_index.lookup
  (CD F.slot_int_rmul (typeIs_int s k t) F.entry_int_rmul (F.args_int_rmul_2 _ _) (mO k t a its.toArray n dd sl) ⟨ho,rfl,⟨_,ho,rfl⟩,?_⟩)
 by_cases hs:xs=[]\/k=1
 .
  have jD:(its.toArray.isEmpty||k==1)=true:=by
   rcases hs with rfl |rfl
   . cases rv;rfl
   . simp
  exact CD F.slot_tuple_mul ⟨_,ho,rfl⟩ F.entry_tuple_mul (F.args_tuple_mul_2 _ _) (ve a its.toArray n dd sl k t ⟨by lia,h2⟩ jD) ⟨ho,.ref a,H,I,rfl,q1 hs⟩
 .
  have hxs:xs≠[]:=λe=>hs (.inl e)
  have hk1:k≠1:=λe=>hs (.inr e)
  have jD:its.toArray.isEmpty=false:=by
   cases its with
   |nil=>cases rv;exact absurd rfl hxs
   |cons _ _=>rfl
  refine CD F.slot_tuple_mul ⟨_,ho,rfl⟩ F.entry_tuple_mul (F.args_tuple_mul_2 _ _) (vd a its.toArray n dd sl k t ⋯ h2 jD (by rw[dC,<- aV];exact hz)) ⟨ho,?_⟩
  have hf:H s⁻¹=none:=I.hok.fresh (eA _);have e:=foldl_rep its k.toNat [];rw[y7]at e;refine⟨.ref s⁻¹,_,I.laid (t':=s.toks) (o:=.tup (List.replicate k.toNat xs).flatten) (λb o e=>bP _ e) (eA _) ⟨by rw[len_rep,Nat.mul_comm,rV];exact hz,_,rv.rep k.toNat,?_⟩,rfl,q2 hxs ⋯ _ hf⟩
  have:=dR.new s.heap (List.replicate k.toNat its).flatten.toArray;rw[<- e]at this;rw[<- e];exact this
theorem Ig(hK:z.K=X.K)(h1:1<=k)(h2:k<2 ^ 63)(h:l.length * k.toNat<=16777216):ku X z (binaryOp .Mult) (.tup l) (.int k) (.dat (.tup (List.replicate k.toNat l).flatten)):=by
 refine⟨_,Ie,λg O J M H v1 v2 Q s q1 q2 kk=>?_⟩
 obtain⟨a,xs,rfl,ha,ra⟩:=q1.tup;have rr:∀n,aJ z.K M H (List.replicate n l).flatten (List.replicate n xs).flatten:=λn=>by
  induction n with
  |zero=>simp;exact .nil
  |succ n ih=>rw[l9,l9,t6,t6];exact ra.append ih
 refine⟨a,k,xs,rfl,q2.int,hK▸ha.sq,h1,h2,by rw[<- ra.length];exact h,λhs=>?_,λ_ _ p hp=>?_⟩
 .
  refine kk _ H J M s (ak.refl _ _) ?_;have e:(List.replicate k.toNat l).flatten=l:=by
   rcases hs with rfl |rfl
   .
    have:l=[]:=by cases ra;rfl
    subst this;simp
   . simp
  rw[e];exact .tup ha ra
 . exact kk _ _ J M (s.laid hp) (ak.laid hp) (.tup (.inl ⟨s.fresh hp,.inl aC⟩) ((rr _).stay (ak.laid hp)))
theorem OJ(hc:X.calm=true)(hN:X.N.Nodup)(hi:X.N[i]?=some x)(hj:X.N[j]?=some y)(hij:i≠j)(hx:X.env.scope.names.lookup x=some .local)(hy:X.env.scope.names.lookup y=some .local)
  (ha:cV X z [a,b] g [.dat d1,.dat d2] g1) (hbi:i∉z.bor) (Y3:j∉z.bor) (hw:swappedStores [.Tuple [.Name x px,.Name y py] kt pt] (.Tuple [a,b] k2 Gq) X.env=pure (some [x,y])) (hs:swapsWithSole [.Tuple [.Name x px,.Name y py] kt pt] (.Tuple [a,b] k2 Gq) pos.line X.env=pure false) :
  fF X z (.Assign [.Tuple [.Name x px,.Name y py] kt pt] (.Tuple [a,b] k2 Gq) pos) g .nx ((g1.set i (.dat d1)).set j (.dat d2)):=by
 obtain⟨t,q,k⟩:=ha;refine⟨_,Ma hc hN hi hj hij hx hy q hw hs,λO J M H E s kk=>k O J M H _ s λvs H' aA M' s' st R=>?_⟩
 cases R with
 |dat r R=>
  cases R with
  |dat r' R=>cases R;obtain⟨bx,s2⟩:=s'.fB (i:=i) hbi r;obtain⟨jF,s3⟩:=s2.fB (i:=j) Y3 r';exact⟨_,_,rfl,kk _ jF M' H' s3 st⟩
end
end Ev
namespace HT
open PySem PyProof.Rows
section
theorem vf(n:Nat):Builtin.Slice.sliceAdjust none none (-1) (n:Int)=((n:Int) - 1,-1):=rfl
theorem vg(n:Nat):Builtin.Slice.slicePlaces ((n:Int) - 1) (-1) (-1)=n:=by
 unfold Builtin.Slice.slicePlaces;rw[gN ⋯,show (- -1:Int)=1 from by decide,Int.ediv_one]
 split <;> lia
theorem jT{sl:Addr}{vs:Value}{n:Nat}{Q:Int×Int×Nat->Shared->Prop}(hs:s.heap.IsSliceOf sl .none .none vs)(ps:IsPart vs (some (-1)))
  (h:Q ((n:Int) - 1,-1,n) s):wpAny (model prog w) A (Builtin.Slice.sliceApplied (.ref sl) (pure (n:Int))) Q E s:=by
 obtain⟨os,hos,hcs,hds⟩:=id hs;unfold Builtin.Slice.sliceApplied Builtin.Slice.sliceFields;refine aS (aS (l5 hos hds (x:=.none) rfl (aS (l5 hos hds (x:=.none) rfl (aS (l5 hos hds (x:=vs) rfl (dS ?_)))))));refine aS (iD ps ?_);show wpAny _ _ (if ((-1:Int)==0)=true then _ else _) _ _ s
 rw[gN ⋯];refine aS (slicePart_none (aS (slicePart_none (aS (dS ?_)))));show wpAny _ _ (match Builtin.Slice.sliceAdjust none none (-1) (n:Int)with | (lo,hi)=>pure (lo,(-1:Int),Builtin.Slice.slicePlaces lo hi (-1))) _ _ s
 rw[vf n];show wpAny _ _ (pure ((n:Int) - 1,(-1:Int),Builtin.Slice.slicePlaces ((n:Int) - 1) (-1) (-1))) _ _ s;rw[vg];exact dS h
theorem BX(xs:Array Value):((List.range xs.size).filterMap λ(m:Nat)=>xs[(((xs.size:Int) - 1)+(m:Int) * -1).toNat]?).toArray=xs.toList.reverse.toArray:=by
 have e:(λ(m:Nat)=>xs[(((xs.size:Int) - 1)+(m:Int) * -1).toNat]?)=λm=>xs[xs.size - 1 - m]?:=by
  funext m
  congr 1
  lia
 rw[e];have e2:(List.range xs.size).filterMap (λm=>xs[xs.size - 1 - m]?)=((List.range xs.size).map λk=>xs.size - 1 - k).filterMap (xs[·]?):=by rw[List.filterMap_map];rfl
 rw[e2,PySem.W.krv_range,List.filterMap_reverse,PySem.W.krv_all]
theorem jk(ht:IsTup s.heap t items)(hs:s.heap.IsSliceOf sl .none .none vs)(ps:IsPart vs (some (-1)))
  (h:Q (.ref s⁻¹) { s with heap:=s.heap.push { cls:=.type "tuple",data:=.seq items.toList.reverse.toArray}})
  (kO:items.size<=sizeLine):wpAny (model prog w) A (getItem (.ref t) (.ref sl)) Q E s:=by
 have jd:sizeOk (.seq items.toList.reverse.toArray):=by show items.toList.reverse.toArray.size<=sizeLine;rw[dC,n0,tS];exact kO
 obtain⟨os,hos,hcs,hds⟩:=id hs;have T7:s.TypeIs (.ref sl) "slice" :=⟨os,hos,hcs⟩;unfold getItem
 try with_reducible refine oP ?_
 first |refine aS (dS ?_) |skip
 refine aS (wpAny_sequenceKey ht.typeIs ⋯ ?_);refine aS (o6 (name:=Str.ofString "__getitem__") ht.typeIs mP
  (w8 mP ht.typeIs entry_tuple_getitem ?_ (args_tuple_getitem _ _)))
 show wpAny _ _ (Builtin.Tuple.tupleItemsOf (.ref t) >>= _) _ _ s;refine aS (tupleItemsOf_ ht ?_);refine aS (Cf T7 ?_);rw[i5 ⋯];refine aS (jT hs ps ?_);show wpAny _ _ (if ((items.size:Int) - 1==0&&(-1:Int)==1&&items.size==items.size)=true then _ else _) _ _ s
 rw[gN (by intro q;rw[eP,eP]at q;exact absurd (eq_of_beq q.1.2) ⋯),BX]
 first
  |exact aS (m:=Builtin.Tuple.tupleExact _) (lS (dS ⟨_,rfl,dS h⟩) jd)
  |exact aS (m:=Builtin.Tuple.tupleExact _) (lS (aS (dS (dS ⟨_,rfl,dS h⟩))) jd)
  |exact aS (aS (m:=Builtin.Tuple.tupleExact _) (lS (dS (dS ⟨_,rfl,dS h⟩)) jd))
  |exact aS (aS (m:=Builtin.Tuple.tupleExact _) (lS (dS ⟨_,rfl,dS h⟩) jd))
end
end HT
namespace Ev
open L2
section
noncomputable abbrev m1(j:Nat)(p1 p3:Pos):Expr:=.UnaryOp .USub (.Constant (.int 1) j p1) p3
theorem BZ{e:Expr}{te:TE}{r:V->Hp->VK->Prop}(he:PE X e te)
  (hr:∀(ah: ~~~1) (s:Shared) (O:L2.St) (H:Hp) (x:V) (v vs:Value) (sl:Addr) (Q:VK),L2.Inv X ah O H s->RelV x v->s.heap.IsSliceOf sl .none .none vs->IsPart vs (some (-1))->r x H Q->
   ∃T id,typeLookup (.type T) "__getitem__"=pure (some (.builtin id))/\s.TypeIs v T/\wpAny (~~~2) X.A (getItem v (.ref sl)) (EP X ah O Q) X.xe s)
  (pm:∀(ah: ~~~1) (s:Shared) (O:L2.St) (H:Hp),L2.Inv X ah O H s->wpAny (~~~2) X.A (eval (m1 j p1 p3) X.env) (λu s'=>L2.Inv X ah O H s'/\IsPart u (some (-1))) X.xe s) :
  PE X (.Subscript e (.Slice none none (some (m1 j p1 p3)) p2) pos) (λO H Q=>te O H λx H1=>r x H1 Q):=by
 intro ah s O H Q I h;refine Subscript_ (bR (he ah s O H _ I h) λv s1 ⟨x,H1,I1,r1,q1⟩=>?_)
 refine wpAny_Slice ?_;rw[evalPart_none];refine dS (dS ?_);refine PySem.evalPart_some_step (bR (pm ah s1 O H1 I1) λu s2 ⟨I2,pu⟩=>?_)
 have I4:L2.Inv X ah O H1 { s2 with heap:=s2.heap.push { cls:=.type "slice",data:=.fields #[.none,.none,u]}}:=I2.kept (t':=s2.toks) λb ob q=>bP _ q
 obtain⟨T,id,hT,ht,hg⟩:=hr ah { s2 with heap:=s2.heap.push { cls:=.type "slice",data:=.fields #[.none,.none,u]}} O H1 x v u s2⁻¹ Q I4 r1 (Heap.IsSliceOf.new ..) pu q1;show wpAny (~~~2) X.A (subscriptTail e (.Slice none none (some (m1 j p1 p3)) p2) v (.ref s2⁻¹)) (EP X ah O Q) X.xe { s2 with heap:=s2.heap.push { cls:=.type "slice",data:=.fields #[.none,.none,u]}};exact tail_any (ops:=[v,.ref s2⁻¹]) ht hT hg (by with_unfolding_all rfl)
theorem pm1(ah: ~~~1)(s:Shared)(O:L2.St)(H:Hp)(I:L2.Inv X ah O H s):wpAny (~~~2) X.A (eval (m1 j p1 p3) X.env) (λu s'=>L2.Inv X ah O H s'/\IsPart u (some (-1))) X.xe s:=
 bR ((Ku (pos:=p3) Ah (z7 (i:=1) (j:=j) (pos:=p1))) ah s O H (λv H'=>v=.int (-1)/\H'=H) I ⟨1,rfl,rfl,rfl⟩) λu s' ⟨v,H',I',r,e1,e2⟩=>by
  subst e1 e2;obtain⟨t,rfl⟩:=r;exact⟨I',.int _ t⟩
theorem Ih{r:R}{l:List D}(hK:z.K=X.K)(h:az X z a g r g1)(hp:pk r g1=some (.lst l)):az X z (.Subscript a (.Slice none none (some (m1 j p1 p3)) p2) pos) g (.new l.reverse) g1:=by
 obtain⟨t,q,k⟩:=h;refine⟨_,BZ (r:=λx H Q=>∃b xs,x=.ref b/\cG X.K H b xs/\∀p,H p=none->Q (.ref p) (upd H p (.lst xs.reverse))) q (λah s O H x v vs sl Q I rx hs ps hx=>?_) pm1,λO J M H Q s kk=>k O J M H _ s λv H1 aO M1 s1 cU R=>?_⟩
 .
  obtain⟨b,xs,rfl,hx,hq⟩:=hx;cases rx;obtain⟨its,r,ht,hz⟩:=I.list hx;have aV:=r.length;refine⟨"list",_,slot_list_getitem.lookup,ht.isList.typeIs,?_⟩;refine wpAny_getItem_list_slice ht.isList hs .none .none ps ⋯ ?_ (by rw[dC,<- aV];exact hz)
  rw[PySem.W.krv_pick];refine⟨.ref s⁻¹,_,I.laid (t':=s.toks) (o:=.lst xs.reverse) (λb ob q=>bP _ q) (eA _) ?_,rfl,hq _ (I.hok.fresh (eA _))⟩
  exact⟨by rw[n0];exact hz,its.reverse,0,r.reverse,d6 _ rfl⟩
 .
  obtain⟨b,xs,rfl,e1,e2⟩:=(s1.pk (ak.refl _ _) R hp).list;refine⟨b,xs,rfl,cG.of e1,λp hp=>?_⟩
  exact kk _ _ aO (p::M1) (s1.bf hp) (cU.trans (ak.bf hp)) ⟨p,xs.reverse,rfl,dA,λhA=>s1.fresh hp (s1.sub p hA),s1.dB hp,aC,e2.reverse.stay (ak.bf hp)⟩
theorem Ii{l:List D}(hK:z.K=X.K)(h:az X z a g (.dat (.tup l)) g1):az X z (.Subscript a (.Slice none none (some (m1 j p1 p3)) p2) pos) g (.dat (.tup l.reverse)) g1:=by
 obtain⟨t,q,k⟩:=h;refine⟨_,BZ (r:=λx H Q=>∃b xs,x=.ref b/\fX X.K H b xs/\∀p,H p=none->Q (.ref p) (upd H p (.tup xs.reverse))) q (λah s O H x v vs sl Q I rx hs ps hx=>?_) pm1,λO J M H Q s kk=>k O J M H _ s λv H1 aO M1 s1 cU R=>?_⟩
 .
  obtain⟨b,xs,rfl,hx,hq⟩:=hx;cases rx;obtain⟨its,r,ht,hz⟩:=I.tuple hx;have aV:=r.length;refine⟨"tuple",_,PyProof.Rows.slot_tuple_getitem.lookup,ht.typeIs,?_⟩;refine HT.jk ht hs ps ?_ (by rw[dC,<- aV];exact hz)
  refine⟨.ref s⁻¹,_,I.laid (t':=s.toks) (o:=.tup xs.reverse) (λb ob q=>bP _ q) (eA _) ?_,rfl,hq _ (I.hok.fresh (eA _))⟩
  exact⟨by rw[n0];exact hz,its.reverse,r.reverse,dR.new _ _⟩
 .
  cases R with
  |@tup _ b xs e1 e2=>exact⟨b,xs,rfl,hK▸e1.sq,λp hp=>kk _ _ aO M1 (s1.laid hp) (cU.trans (ak.laid hp)) (.tup (.inl ⟨s1.fresh hp,.inl aC⟩) (e2.reverse.stay (ak.laid hp)))⟩
theorem O1:az X z (.Dict [] [] pos) g (.dat .emp) g:=by
 refine⟨λO H Q=>∀p,H p=none->Q (.ref p) (upd H p (.dK [])),λah s O H Q I h=>wpAny_Dict_empty ⟨.ref s⁻¹,_,I.laid (t':=s.toks) (o:=.dK []) (λb ob q=>bP _ q) (eA _) ?_,rfl,h _ (I.hok.fresh (eA _))⟩,λO J M H Q s k p hp=>k _ _ J M (s.laid hp) (ak.laid hp) (.emp (s.fresh hp) aC)⟩
 refine⟨AM _,?_,[],?_,Heap.DictOf.new _⟩
 .
  have h1:mainGlobals<s⁻¹:=(I.ok.mod.glob.keeps I.bk).lt;refine Bool.eq_false_iff.mpr λq=>?_
  have q:=eq_of_beq q;rw[q]at h1;exact absurd h1 ⋯
 . exact .nil
end
open L2 PySem.W SeqAt
section
structure RX(r tI tO i j a b:Addr):Prop where
 n1:tI≠r/\tO≠r/\i≠r/\j≠r/\a≠r/\b≠r
 n2:tI≠tO/\i≠tO/\j≠tO/\a≠tO/\b≠tO
 n3:tI≠i/\tI≠j/\i≠j
 n4:a≠i/\b≠i/\a≠j/\b≠j
section
theorem Ca{Q:Value->Shared->Prop}(N:RX r tI tO i j a b)(D1:Draws prog w A i [i,a] n f S1)(D2:Draws prog w A j [j,b] m g S2)(hk1:k<n)(hk2:k<m)
  (er:IsZip s.heap r tI tO .none) (eI:IsPair s.heap tI (.ref i) (.ref j)) (eO:IsPair s.heap tO c d) (t1:S1 k s.heap) (t2:S2 k s.heap)
  (hQ:∀u v h' tk,f k u->g k v->IsZip h' r tI tO (rawInt s⁻¹)->IsPair h' tO u v->S1 (k+1) h'->S2 (k+1) h'->IsPair h' s⁻¹ u v->h'.objs.size=s⁻¹+1->
   (∀x o,x≠r->x≠tO->x≠i->x≠j->s.heap.get? x=some o->h'.get? x=some o)->Q (.ref s⁻¹) { s with heap:=h',toks:=tk}) :
  wpAny (model prog w) A (Builtin.«zip.__next__» ⟨[.ref r],[]⟩) (λfin s'=>∃v,fin=.done (.ret v)/\Q v s') E s:=by
 obtain⟨⟨p1,p2,p3,p4,p5,p6⟩,⟨q1,q2,q3,q4,q5⟩,⟨u1,u2,u3⟩,⟨v1,v2,v3,v4⟩⟩:=N;refine aS (m:=field (.ref r) 2) (l5 er rfl (x:=.bool false) rfl ?_);refine aS (m:=field (.ref r) 3) (l5 er rfl (x:=.ref tI) rfl (aS (yY eI rfl ?_)));refine aS (m:=Builtin.SmallTypes.ownedTupleIsFree (.ref r)) ?_;unfold Builtin.SmallTypes.ownedTupleIsFree;refine aS (l5 er rfl (x:=.none) rfl (dS ?_));simp only[AT];refine aS (wpAny_rule (aS (l5 er rfl (x:=.ref tO) rfl (aS (yA er ⋯ λha FT ka=>?_)))))
 replace FT:IsZip ha r tI tO .ellipsis:=FT;refine aS ?_;simp only[List.zipIdx_cons,List.zipIdx_nil,List.forIn_cons,List.forIn_nil];have Xd:S1 k ha:=D1.frame k _ _ t1 λx hx o e=>(ka.2 x (by rcases dL.mp hx with z |z;exact z▸p3;exact (hU.mp z)▸p5)).trans e
 have Y4:S2 k ha:=D2.frame k _ _ t2 λx hx o e=>(ka.2 x (by rcases dL.mp hx with z |z;exact z▸p4;exact (hU.mp z)▸p6)).trans e
 refine aS (aS (BY (aS (m:=Builtin.SmallTypes.nextOf (.ref i)) (D1.item k { s with heap:=ha} _ _ hk1 Xd λu hb Ij fu t1b kb=>dS ?_))))
 have kb:Heap.SameBut i ha hb:=kb;have U6:IsPair hb tO c d:=(kb.2 _ (oQ q2)).trans ((ka.2 _ p2).trans eO);refine aS (yY (s:={ s with heap:=hb,toks:=Ij}) U6 rfl (aS (wpAny_updateSeq_pair (s:={ s with heap:=hb,toks:=Ij}) U6 λhc Xe kc=>?_)))
 replace Xe:IsPair hc tO u d:=Xe;have kc:Heap.SameBut tO hb hc:=kc;refine aS (wpAny_letGo (dS ?_));have t1c:S1 (k+1) hc:=D1.frame _ _ _ t1b λx hx o e=>(kc.2 x (by rcases dL.mp hx with z |z;exact z▸q2;exact (hU.mp z)▸q4)).trans e
 have Y5:S2 k hc:=D2.frame k _ _ Y4 λx hx o e=>by
  have hx:x=j\/x=b:=by rcases dL.mp hx with z |z;exact .inl z;exact .inr (hU.mp z)
  rw[kc.2 x (by rcases hx with rfl |rfl;exact q3;exact q5),kb.2 x (by rcases hx with rfl |rfl;exact oQ u3;exact v2)]
  exact e
 refine aS (aS (BY (aS (m:=Builtin.SmallTypes.nextOf (.ref j)) (D2.item k { s with heap:=hc,toks:=Ij} _ _ hk2 Y5 λv hd Xg gv t2d kd=>dS ?_))))
 have kd:Heap.SameBut j hc hd:=kd;have eOd:IsPair hd tO u d:=(kd.2 _ (oQ q3)).trans Xe;refine aS (yY (s:={ s with heap:=hd,toks:=Xg}) eOd rfl (aS (wpAny_updateSeq_pair (s:={ s with heap:=hd,toks:=Xg}) eOd λhe Xh ke=>?_)))
 replace Xh:IsPair he tO u v:=Xh;have ke:Heap.SameBut tO hd he:=ke;refine aS (wpAny_letGo (dS (dS ?_)));refine aS (yY (s:={ s with heap:=he,toks:=Xg}) Xh rfl (aS (wpAny_newTuple ?_)));have sz:he.objs.size=s⁻¹:=by rw[ke.1,kd.1,kc.1,kb.1];exact ka.1
 have ere:IsZip he r tI tO .ellipsis:=by show he.get? r=_;rw[ke.2 _ (oQ p2),kd.2 _ (oQ p4),kc.2 _ (oQ p2),kb.2 _ (oQ p3)];exact FT
 have old:∀x o,x≠r->x≠tO->x≠i->x≠j->s.heap.get? x=some o->he.get? x=some o:=λx o x1 x2 x3 x4 e=>by
  rw[ke.2 _ x2,kd.2 _ x4,kc.2 _ x2,kb.2 _ x3];exact (ka.2 _ x1).trans e
 have t1e:S1 (k+1) he:=D1.frame _ _ _ t1c λx hx o e=>by
  have hx:x=i\/x=a:=by rcases dL.mp hx with z |z;exact .inl z;exact .inr (hU.mp z)
  rw[ke.2 x (by rcases hx with rfl |rfl;exact q2;exact q4),kd.2 x (by rcases hx with rfl |rfl;exact u3;exact v3)]
  exact e
 have t2e:S2 (k+1) he:=D2.frame _ _ _ t2d λx hx o e=>(ke.2 x (by rcases dL.mp hx with z |z;exact z▸q3;exact (hU.mp z)▸q5)).trans e
 refine aS (m:=Builtin.SmallTypes.ownedTupleHandOut (.ref r) (.ref he.objs.size)) ?_;unfold Builtin.SmallTypes.ownedTupleHandOut;have erf:IsZip (he.push { cls:=.type "tuple",data:=.seq #[u,v]}) r tI tO .ellipsis:=bP _ ere;refine aS (yA erf ⋯ λhg Y6 kg=>?_)
 replace Y6:IsZip hg r tI tO (rawInt he.objs.size):=Y6;refine yA Y6 ⋯ λhh Xi kh=>?_
 replace Xi:IsZip hh r tI tO (rawInt he.objs.size):=Xi;have kg:Heap.SameBut r (he.push { cls:=.type "tuple",data:=.seq #[u,v]}) hg:=kg;have kh:Heap.SameBut r hg hh:=kh;have up:∀x o,x≠r->he.get? x=some o->hh.get? x=some o:=λx o x1 e=>by rw[kh.2 _ x1,kg.2 _ x1];exact bP _ e
 have rlt:r<he.objs.size:=d0 ere;have new:IsPair hh he.objs.size u v:=by show hh.get? _=_;rw[kh.2 _ (AB rlt),kg.2 _ (AB rlt)];exact d6 _ rfl
 have szh:hh.objs.size=he.objs.size+1:=by rw[kh.1,kg.1,nN]
 have fr1:∀x o,x=i\/x=a->he.get? x=some o->hh.get? x=some o:=λx o hx e=>up x o (by rcases hx with rfl |rfl;exact p3;exact p5) e
 have fr2:∀x o,x=j\/x=b->he.get? x=some o->hh.get? x=some o:=λx o hx e=>up x o (by rcases hx with rfl |rfl;exact p4;exact p6) e
 rw[sz]at Xi new szh;refine dS ⟨_,rfl,?_⟩;show Q (.ref he.objs.size) _;rw[sz];exact hQ u v hh Xg fu gv Xi (up _ _ p2 Xh) (D1.frame _ _ _ t1e λx hx o e=>fr1 x o (by rcases dL.mp hx with z |z;exact .inl z;exact .inr (hU.mp z)) e)
  (D2.frame _ _ _ t2e λx hx o e=>fr2 x o (by rcases dL.mp hx with z |z;exact .inl z;exact .inr (hU.mp z)) e) new szh λx o x1 x2 x3 x4 e=>up x o x1 (old x o x1 x2 x3 x4 e)
theorem Ik(N:RX r tI tO i j a b)(D1:Draws prog w A i [i,a] n f S1)(D2:Draws prog w A j [j,b] m g S2)(hk:k=n\/(k<n/\k=m))
  (er:IsZip s.heap r tI tO .none) (eI:IsPair s.heap tI (.ref i) (.ref j)) (eO:IsPair s.heap tO c d) (t1:S1 k s.heap) (t2:S2 k s.heap)
  (hE:∀h' e tk,(∀x o,x≠r->x≠tO->x≠i->x≠j->s.heap.get? x=some o->h'.get? x=some o)->(∃o,h'.get? e=some o/\o.cls=.type "StopIteration")->E (.ref e) { s with heap:=h',toks:=tk}) :
  wpAny (model prog w) A (Builtin.«zip.__next__» ⟨[.ref r],[]⟩) Q E s:=by
 obtain⟨⟨p1,p2,p3,p4,p5,p6⟩,⟨q1,q2,q3,q4,q5⟩,⟨u1,u2,u3⟩,⟨v1,v2,v3,v4⟩⟩:=N;refine aS (m:=field (.ref r) 2) (l5 er rfl (x:=.bool false) rfl ?_);refine aS (m:=field (.ref r) 3) (l5 er rfl (x:=.ref tI) rfl (aS (yY eI rfl ?_)));refine aS (m:=Builtin.SmallTypes.ownedTupleIsFree (.ref r)) ?_;unfold Builtin.SmallTypes.ownedTupleIsFree;refine aS (l5 er rfl (x:=.none) rfl (dS ?_));simp only[AT];refine aS (wpAny_rule (aS (l5 er rfl (x:=.ref tO) rfl (aS (yA er ⋯ λha FT ka=>?_)))))
 replace FT:IsZip ha r tI tO .ellipsis:=FT;refine aS ?_;simp only[List.zipIdx_cons,List.zipIdx_nil,List.forIn_cons,List.forIn_nil];have Xd:S1 k ha:=D1.frame k _ _ t1 λx hx o e=>(ka.2 x (by rcases dL.mp hx with z |z;exact z▸p3;exact (hU.mp z)▸p5)).trans e
 have Y4:S2 k ha:=D2.frame k _ _ t2 λx hx o e=>(ka.2 x (by rcases dL.mp hx with z |z;exact z▸p4;exact (hU.mp z)▸p6)).trans e
 have stop:∀(hb:Heap) (e:Addr) (tk:Nat),IsZip hb r tI tO .ellipsis->(∃o,hb.get? e=some o/\o.cls=.type "StopIteration")->e≠r:=λhb e tk z ⟨o,h1,h2⟩ q=>by
  rw[q,z]at h1;cases h1;exact absurd (show Value.type "zip"=.type "StopIteration" from h2) ⋯
 rcases hk with rfl |⟨hk1,rfl⟩
 .
  refine aS (aS (BY (aS (m:=Builtin.SmallTypes.nextOf (.ref i)) (D1.done { s with heap:=ha} _ _ Xd λhb e kb ex=>?_))))
  have kb:Heap.ExtBut i ha hb:=kb;have erb:IsZip hb r tI tO .ellipsis:=kb _ _ (oQ p3) FT;have Y7:=stop hb e s.toks erb ex;obtain⟨oe,x1,x2⟩:=ex;refine yA (s:={ s with heap:=hb}) erb ⋯ λhc _ kc=>?_
  have kc:Heap.SameBut r hb hc:=kc;exact hE hc e s.toks (λx o y1 y2 y3 y4 z=>(kc.2 _ y1).trans (kb _ _ y3 ((ka.2 _ y1).trans z))) ⟨oe,(kc.2 _ Y7).trans x1,x2⟩
 .
  refine aS (aS (BY (aS (m:=Builtin.SmallTypes.nextOf (.ref i)) (D1.item k { s with heap:=ha} _ _ hk1 Xd λu hb Ij fu t1b kb=>dS ?_))))
  have kb:Heap.SameBut i ha hb:=kb;have U6:IsPair hb tO c d:=(kb.2 _ (oQ q2)).trans ((ka.2 _ p2).trans eO);refine aS (yY (s:={ s with heap:=hb,toks:=Ij}) U6 rfl (aS (wpAny_updateSeq_pair (s:={ s with heap:=hb,toks:=Ij}) U6 λhc Xe kc=>?_)))
  have kc:Heap.SameBut tO hb hc:=kc;refine aS (wpAny_letGo (dS ?_));have Y5:S2 k hc:=D2.frame k _ _ Y4 λx hx o e=>by
   have hx:x=j\/x=b:=by rcases dL.mp hx with z |z;exact .inl z;exact .inr (hU.mp z)
   rw[kc.2 x (by rcases hx with rfl |rfl;exact q3;exact q5),kb.2 x (by rcases hx with rfl |rfl;exact oQ u3;exact v2)]
   exact e
  refine aS (aS (BY (aS (m:=Builtin.SmallTypes.nextOf (.ref j)) (D2.done { s with heap:=hc,toks:=Ij} _ _ Y5 λhd e kd ex=>?_))))
  have kd:Heap.ExtBut j hc hd:=kd;have erd:IsZip hd r tI tO .ellipsis:=kd _ _ (oQ p4) (by rw[kc.2 _ (oQ p2),kb.2 _ (oQ p3)];exact FT)
  have Y7:=stop hd e s.toks erd ex;obtain⟨oe,x1,x2⟩:=ex;refine yA (s:={ s with heap:=hd,toks:=Ij}) erd ⋯ λhe _ ke=>?_
  have ke:Heap.SameBut r hd he:=ke;exact hE he e Ij (λx o y1 y2 y3 y4 z=>(ke.2 _ y1).trans (kd _ _ y4 (by rw[kc.2 _ y2,kb.2 _ y3];exact (ka.2 _ y1).trans z))) ⟨oe,(ke.2 _ Y7).trans x1,x2⟩
end
section
theorem Cb{Q:Option Value->Shared->Prop}(N:RX r tI tO i j a b)(D1:Draws prog w A.in1 i [i,a] n f S1)(D2:Draws prog w A.in1 j [j,b] m g S2)(hk1:k<n)(hk2:k<m)
  (er:IsZip s.heap r tI tO .none) (eI:IsPair s.heap tI (.ref i) (.ref j)) (eO:IsPair s.heap tO c d) (t1:S1 k s.heap) (t2:S2 k s.heap)
  (hQ:∀u v h' tk,f k u->g k v->IsZip h' r tI tO (rawInt s⁻¹)->IsPair h' tO u v->S1 (k+1) h'->S2 (k+1) h'->IsPair h' s⁻¹ u v->h'.objs.size=s⁻¹+1->
   (∀x o,x≠r->x≠tO->x≠i->x≠j->s.heap.get? x=some o->h'.get? x=some o)->Q (some (.ref s⁻¹)) { s with heap:=h',toks:=tk}):wpAny (model prog w) A (pyNext (.ref r)) Q E s:=by
 have ty:s.TypeIs (.ref r) "zip" :=⟨_,er,rfl⟩;unfold pyNext;exact aS (wpAny_attempt (o6 (name:=Str.ofString "__next__") ty F.slot_zip_next (w8 F.slot_zip_next ty F.entry_zip_next
  (Ca N D1 D2 hk1 hk2 er eI eO t1 t2 λu v h' tk b1 b2 b3 b4 b5 b6 b7 b8 b9=>dS (hQ u v h' tk b1 b2 b3 b4 b5 b6 b7 b8 b9)) (F.args_zip_next_1 _))))
theorem tD(N:RX r tI tO i j a b)(D1:Draws prog w A.in1 i [i,a] n f S1)(D2:Draws prog w A.in1 j [j,b] m g S2)(hk:k=n\/(k<n/\k=m))
  (er:IsZip s.heap r tI tO .none) (eI:IsPair s.heap tI (.ref i) (.ref j)) (eO:IsPair s.heap tO c d) (t1:S1 k s.heap) (t2:S2 k s.heap)
  (hQ:∀h' tk,(∀x o,x≠r->x≠tO->x≠i->x≠j->s.heap.get? x=some o->h'.get? x=some o)->Q none { s with heap:=h',toks:=tk}):wpAny (model prog w) A (pyNext (.ref r)) Q E s:=by
 have ty:s.TypeIs (.ref r) "zip" :=⟨_,er,rfl⟩;unfold pyNext;refine aS (wpAny_attempt (o6 (name:=Str.ofString "__next__") ty F.slot_zip_next (w8 F.slot_zip_next ty F.entry_zip_next
  (Ik N D1 D2 hk er eI eO t1 t2 λh' e tk kp ex=>?_) (F.args_zip_next_1 _))))
 obtain⟨o,x1,x2⟩:=ex;exact aS (wpAny_isInstance (T:= "StopIteration") (b:=true) ⟨o,x1,x2⟩ isSubtype_stop (dS (hQ _ tk kp)))
end
end
open L2 PySem.W SeqAt
section
theorem Inv.O2{h':Heap}{t':Nat}{ch:List Addr}(I:L2.Inv X ah O H s)(hf:∀b∈ch,jK X ah H b)(k:∀b o,b∉ch->s.heap.get? b=some o->h'.get? b=some o):L2.Inv X ah O H { s with heap:=h',toks:=t'}:=by
 have nH:∀b u,H b=some u->b∉ch:=λb u e z=>by rw[(hf b z).1]at e;cases e
 refine I.step (g':=s.gens) (d':=s.drawn) (ch:=ch) (λb hb=>?_) (λb o _ _ hc e _=>k b o hc e) (λb o _ _ hc e _=>⟨o.slots,k b o hc e⟩) (λ_ _ _ _ n=>n) (λb o hc e=>⟨o,k b o hc e⟩) (λ_ _ e=>e) (λ_ _ _ e=>e) (λb ps e=>⟨#[],by rw[e];simp⟩) (λm hm=>?_) (λb u e=>?_) I.bare
 . obtain⟨f0,f1,f2,f3,f4,f5⟩:=hf b hb;exact⟨f3,f1,f4,f5⟩
 . obtain⟨o,es,ep,ho,rr⟩:=hm;exact⟨o,es,ep,k _ o (λz=>(hf _ z).2.1 rfl) ho,rr⟩
 .
  refine (I.hok b u e).stay (λc w hc q=>k c w (λz=>?_) q) (λ_ q=>q) λ_ _ q=>q
  rcases hc with rfl |hc
  . exact nH _ _ e z
  . exact nH _ _ hc z
theorem Inv.O4{h':Heap}{t':Nat}{ch:List Addr}{xs:List V}{its:List Value}(I:L2.Inv X ah O H s)(hf:∀b∈ch,jK X ah H b)(k:∀b o,b∉ch->s.heap.get? b=some o->h'.get? b=some o)(hz:xs.length<=sizeLine)(rv:Vals xs its)(ht:dR h' s⁻¹ its.toArray) :
  L2.Inv X ah O (upd H s⁻¹ (.tup xs)) { s with heap:=h',toks:=t'}:=by
 have nH:∀b u,H b=some u->b∉ch:=λb u e z=>by rw[(hf b z).1]at e;cases e
 have fr:H s⁻¹=none:=I.hok.fresh (eA _);have nn:∀b u,H b=some u->b≠s⁻¹:=λb u e z=>by rw[z,fr]at e;cases e
 refine I.step (g':=s.gens) (d':=s.drawn) (ch:=ch) (λb hb=>?_) (λb o _ _ hc e _=>k b o hc e) (λb o _ _ hc e _=>⟨o.slots,k b o hc e⟩) (λb o _ e n=>by rw[ao (gL (d0 e))];exact n) (λb o hc e=>⟨o,k b o hc e⟩) (λb _ e=>by rw[ao (nn _ _ e)];exact e) (λb _ _ e=>by rw[ao (nn _ _ e)];exact e) (λb ps e=>⟨#[],by rw[ao (nn _ _ e),e];simp⟩) (λm hm=>?_) (λb u e=>?_) I.bare
 . obtain⟨f0,f1,f2,f3,f4,f5⟩:=hf b hb;exact⟨f3,f1,f4,f5⟩
 . obtain⟨o,es,ep,ho,rr⟩:=hm;exact⟨o,es,ep,k _ o (λz=>(hf _ z).2.1 rfl) ho,rr⟩
 .
  by_cases hb:b=s⁻¹
  . subst hb;rw[aC]at e;cases e;exact⟨hz,its,rv,ht⟩
  .
   rw[ao hb]at e;refine (I.hok b u e).stay (λc w hc q=>k c w (λz=>?_) q) (λc q=>by rw[ao (nn _ _ q)];exact q) λc _ q=>by rw[ao (nn _ _ q)];exact q
   rcases hc with rfl |hc
   . exact nH _ _ e z
   . exact nH _ _ hc z
end
theorem pF.KS(I:L2.Inv X ah O H s)(h:pF tp X.K H u us)(f:jK X ah H c):u≠c:=λz=>by
 subst z;have inK:∀o,X.K.lookup u=some o->False:=λo e=>by
  have e0:=I.ok.mod.zQ u o e;rcases f.2.2.2.1 with q |q
  . exact I.ok.sr u o e0 q
  . exact absurd (eM (d0 (I.ok.bs u o e0).1) q) (qS _)
 cases tp with
 |true=>
  rcases (show fX X.K H u us from h)with (h |⟨o,h⟩) |h
  . rw[f.1]at h;symm
  . rw[f.1]at h;symm
  . obtain⟨o,_,_,h,_⟩:=h;exact inK _ h
 |false=>
  rcases (show cG X.K H u us from h)with (h |⟨o,h⟩) |h
  . rw[f.1]at h;symm
  . rw[f.1]at h;symm
  . obtain⟨o,_,_,h,_⟩:=h;exact inK _ h
noncomputable def Itz(tp:Bool)(K:Frag)(a b:Addr):It:=
 ⟨λi H=>∃xs ys x y,pF tp K H a xs/\pF tp K H b ys/\xs[i]?=some x/\ys[i]?=some y,λi H x H'=>∃p u v,(∀xs,pF tp K H a xs->xs[i]?=some u)/\(∀ys,pF tp K H b ys->ys[i]?=some v)/\H p=none/\x=.ref p/\H'=upd H p (.tup [u,v]),
  λi H=>∃xs ys,pF tp K H a xs/\pF tp K H b ys/\(i=xs.length\/(i<xs.length/\i=ys.length))⟩
theorem Cd{P:Program}{w:World}{K:Frag}{tp:Bool}{es:List Expr}{k:Nat}{pos:Pos}(r tI tO i j a b:Addr)(A1:tI≠r/\tO≠r/\i≠r/\j≠r)(A2:tI≠tO/\i≠tO/\j≠tO)(A3:tI≠i/\tI≠j/\i≠j) :
  Turn P w K (.Tuple es k pos) (Itz tp K a b) [r,tI,tO,i,j] r (λn h=>IsZip h r tI tO .none/\IsPair h tI (.ref i) (.ref j)/\(∃c d,IsPair h tO c d)/\FQ tp h i a n/\FQ tp h j b n) where
 mem:=by simp
 obj:=λn h st x hx=>by
  obtain⟨er,eI,⟨c,d,eO⟩,t1,t2⟩:=st;simp only[dL,i4,u8]at hx;rcases hx with rfl |rfl |rfl |rfl |rfl
  . exact⟨_,er,λv z=>nomatch (show Data.fields _=Data.cell v from z)⟩
  . exact⟨_,eI,λv z=>nomatch (show Data.seq _ _=Data.cell v from z)⟩
  . exact⟨_,eO,λv z=>nomatch (show Data.seq _ _=Data.cell v from z)⟩
  . obtain⟨o,vs,e1,e2⟩:=t1.obj;exact⟨o,e1,λv z=>by rw[e2]at z;cases z⟩
  . obtain⟨o,vs,e1,e2⟩:=t2.obj;exact⟨o,e1,λv z=>by rw[e2]at z;cases z⟩
 keep:=λn h h' st kp=>by
  obtain⟨er,eI,⟨c,d,eO⟩,t1,t2⟩:=st;exact⟨kp r ⋯ _ er,kp tI ⋯ _ eI,⟨c,d,kp tO ⋯ _ eO⟩,t1.keep λo q=>kp i ⋯ o q,t2.keep λo q=>kp j ⋯ o q⟩
 item:=by
  intro X hP hw hK hc n ah s O H E I hf st hg;subst hP hw hK;obtain⟨er,eI,⟨c,d,eO⟩,t1,t2⟩:=st;obtain⟨xs,ys,x,y,qx,qy,gx,gy⟩:=hg;obtain⟨U7,rx,U8,zx⟩:=qx.real I;obtain⟨U9,ry,Va,zy⟩:=qy.real I;have nf:∀{u:Addr}{us:List V}{c:Addr},pF tp X.K H u us->c∈[r,tI,tO,i,j]->u≠c:=λh hc=>pF.KS I h (hf _ hc)
  have N:RX r tI tO i j a b:=⟨⟨A1.1,A1.2.1,A1.2.2.1,A1.2.2.2,nf qx ⋯,nf qy ⋯⟩,⟨A2.1,A2.2.1,A2.2.2,nf qx ⋯,nf qy ⋯⟩,A3,⟨nf qx ⋯,nf qy ⋯,nf qx ⋯,nf qy ⋯⟩⟩;have l1:n<U7.length:=by rw[<- rx.length];exact (dE.mp gx).1
  have l2:n<U9.length:=by rw[<- ry.length];exact (dE.mp gy).1
  refine Cb (A:=X.A) N (qL (tp:=tp) (A:=X.A.in1) (I.ok.hd hc) (nf qx ⋯) U7) (qL (tp:=tp) (A:=X.A.in1) (I.ok.hd hc) (nf qy ⋯) U9) l1 l2 er eI eO ⟨t1,U8⟩ ⟨t2,Va⟩ λu v h1 tk fu gv FT eO1 s1 s2 new sz kp=>⟨_,rfl,?_⟩
  refine wpAny_letOwnedTupleGo_zip (s:={ s with heap:=h1,toks:=tk}) FT λh2 er2 k2=>?_
  have k2:Heap.SameBut r h1 h2:=k2;obtain⟨u',e1,ru⟩:=rx.get gx;obtain⟨v',e2,rv⟩:=ry.get gy;rw[fu]at e1;cases e1;rw[gv]at e2;cases e2;have pr:s⁻¹≠r:=AB (d0 er);have kk:∀x o,x∉[r,tO,i,j]->s.heap.get? x=some o->h2.get? x=some o:=λx o hx e=>by
   simp only[dL,i4,u8,not_or]at hx;exact (k2.2 x hx.1).trans (kp x o hx.1 hx.2.1 hx.2.2.1 hx.2.2.2 e)
  have qqz:=Inv.O4 (t':=tk) (xs:=[x,y]) (its:=[u,v]) I (ch:=[r,tO,i,j]) (λc hc=>hf c (by simp only[dL,i4,u8]at hc ⊢;rcases hc with h |h |h |h <;> simp[h])) kk (by rw[rV];show 2<=16777216;decide) (.cons ru (.cons rv .nil)) ⟨_,(k2.2 _ pr).trans new,⟨rfl,_,rfl⟩,rfl⟩
  have eI2:IsPair h2 tI (.ref i) (.ref j):=kk _ _ (by simp[A1.1,A2.1,A3.1,A3.2.1]) eI
  refine⟨.ref s⁻¹,_,qqz,rfl,⟨_,x,y,λzs hz=>by rw[hz.inj I qx];exact gx,λzs hz=>by rw[hz.inj I qy];exact gy,I.hok.fresh (eA _),rfl,rfl⟩,⟨er2,eI2,⟨u,v,(k2.2 _ A1.2.1).trans eO1⟩,s1.1.keep λo q=>(k2.2 _ A1.2.2.1).trans q,s2.1.keep λo q=>(k2.2 _ A1.2.2.2).trans q⟩,λc hc=>?_⟩
  have hcn:c≠s⁻¹:=λz=>by
   have:∃o,s.heap.get? c=some o:=by
    simp only[dL,i4,u8]at hc;rcases hc with rfl |rfl |rfl |rfl |rfl
    . exact⟨_,er⟩
    . exact⟨_,eI⟩
    . exact⟨_,eO⟩
    . obtain⟨o,_,e,_⟩:=t1.obj;exact⟨o,e⟩
    . obtain⟨o,_,e,_⟩:=t2.obj;exact⟨o,e⟩
   obtain⟨o,e⟩:=this;exact absurd (d0 e) (by rw[z];exact qS _)
  rw[ao hcn];exact (hf c hc).1
 done:=by
  intro X hP hw hK hc n ah s O H E I hf st hg;subst hP hw hK;obtain⟨er,eI,⟨c,d,eO⟩,t1,t2⟩:=st;obtain⟨xs,ys,qx,qy,hn⟩:=hg;obtain⟨U7,rx,U8,zx⟩:=qx.real I;obtain⟨U9,ry,Va,zy⟩:=qy.real I;have nf:∀{u:Addr}{us:List V}{c:Addr},pF tp X.K H u us->c∈[r,tI,tO,i,j]->u≠c:=λh hc=>pF.KS I h (hf _ hc)
  have N:RX r tI tO i j a b:=⟨⟨A1.1,A1.2.1,A1.2.2.1,A1.2.2.2,nf qx ⋯,nf qy ⋯⟩,⟨A2.1,A2.2.1,A2.2.2,nf qx ⋯,nf qy ⋯⟩,A3,⟨nf qx ⋯,nf qy ⋯,nf qx ⋯,nf qy ⋯⟩⟩;refine tD (A:=X.A) N (qL (tp:=tp) (A:=X.A.in1) (I.ok.hd hc) (nf qx ⋯) U7) (qL (tp:=tp) (A:=X.A.in1) (I.ok.hd hc) (nf qy ⋯) U9) (by rw[<- rx.length,<- ry.length];exact hn) er eI eO ⟨t1,U8⟩ ⟨t2,Va⟩ λh1 tk kp=>⟨rfl,?_⟩
  exact Inv.O2 (t':=tk) I (ch:=[r,tO,i,j]) (λc hc=>hf c (by simp only[dL,i4,u8]at hc ⊢;rcases hc with h |h |h |h <;> simp[h])) λx o hx e=>by
   simp only[dL,i4,u8,not_or]at hx;exact kp x o hx.1 hx.2.1 hx.2.2.1 hx.2.2.2 e
 self:=λA n s Q E st h=>wpAny_pyIter_zip st.1 h
open L2 PySem.W SeqAt
section
noncomputable abbrev Vb(h:Heap)(a:Addr):Heap:=h.push { cls:=.type "tuple_iterator",data:=.fields #[.ref a,.int 0 0]}
abbrev Xj(h:Heap)(a b:Addr):Heap:=(Vb h a).push { cls:=.type "tuple_iterator",data:=.fields #[.ref b,.int 0 0]}
abbrev Xk(h:Heap)(a b:Addr):Heap:=(Xj h a b).push { cls:=.type "tuple",data:=.seq #[.ref h.objs.size,.ref (Vb h a).objs.size]}
abbrev Xl(h:Heap)(a b:Addr):Heap:=(Xk h a b).push { cls:=.type "tuple",data:=.seq #[.none,.none]}
abbrev RZ (h:Heap) (a b:Addr):Heap:=(Xl h a b).push { cls:=.type "zip",data:=.fields #[.none,.bool false,.bool false,.ref (Xj h a b).objs.size,.ref (Xk h a b).objs.size]}
theorem vh(a b:Addr)(xs ys:Array Value) :
  Meets (Builtin.«zip.__new__» ⟨[.type "zip",.ref a,.ref b],[]⟩) (λ_ R s=>s.heap.IsTuple a xs/\s.heap.IsTuple b ys/\R (.ok (.ret (.ref (Xl s.heap a b).objs.size))) { s with heap:=RZ s.heap a b}):=
 .of_wp λprog w A R s h=>by
  obtain⟨hp,g,d,tk,os⟩:=s;obtain⟨ta,tb,h⟩:=h;have hsub:=sub_zip;have T1:Heap.IsTuple (Shared.heap ⟨hp,g,d,tk,os⟩) a xs:=ta;have T2:Heap.IsTuple (Shared.heap ⟨Vb hp a,g,d,tk,os⟩) b ys:=by obtain⟨o,e,rr⟩:=tb;exact⟨o,bP _ e,rr⟩
  wp_walk using At T1,At T2
  exact⟨_,rfl,h⟩
theorem yO(ta:s.heap.IsTuple a xs)(tb:s.heap.IsTuple b ys)
  (h:∀h',IsZip h' (s⁻¹+4) (s⁻¹+2) (s⁻¹+3) .none->IsPair h' (s⁻¹+2) (.ref s⁻¹) (.ref (s⁻¹+1))->
   IsPair h' (s⁻¹+3) .none .none->h'.IsTupleIter s⁻¹ a 0->h'.IsTupleIter (s⁻¹+1) b 0->h'.objs.size=s⁻¹+5->
   (∀c o,s.heap.get? c=some o->h'.get? c=some o)->Q (.ref (s⁻¹+4)) { s with heap:=h'}) :
  wpAny (model prog w) A (call (.type "zip") [.ref a,.ref b]) Q E s:=by
 refine callType_new F.called_zip ⋯ (F.typeCall_zip_2 _ _) (F.newCall_zip_2 _ _) (λobj=>F.args_object_init_3 obj _ _) F.entry_zip_new (vh a b xs ys) ⟨ta,tb,?_⟩
 have s1:(Vb s.heap a).objs.size=s⁻¹+1:=nN ..;have s2:(Xj s.heap a b).objs.size=s⁻¹+2:=by rw[nN,s1]
 have s3:(Xk s.heap a b).objs.size=s⁻¹+3:=by rw[nN,s2]
 have s4:(Xl s.heap a b).objs.size=s⁻¹+4:=by rw[nN,s3]
 have o5:(RZ s.heap a b).get? (Xl s.heap a b).objs.size=some _:=d6 _ rfl;have o4:(RZ s.heap a b).get? (Xk s.heap a b).objs.size=some _:=bP _ (d6 _ rfl);have o3:(RZ s.heap a b).get? (Xj s.heap a b).objs.size=some _:=bP _ (bP _ (d6 _ rfl));have o2:(RZ s.heap a b).get? (Vb s.heap a).objs.size=some _:=bP _ (bP _ (bP _ (d6 _ rfl)));have o1:(RZ s.heap a b).get? s⁻¹=some _:=bP _ (bP _ (bP _ (bP _ (d6 _ rfl))));show _/\_;rw[s4]at o5 ⊢
 rw[s2,s3]at o5;rw[s2,s1]at o3;rw[s3]at o4;rw[s1]at o2;exact⟨⟨_,o5,rfl⟩,h _ o5 o3 o4 ⟨_,o1,rfl,rfl⟩ ⟨_,o2,rfl,rfl⟩ (by rw[nN,s4]) λc o e=>bP _ (bP _ (bP _ (bP _ (bP _ e))))⟩
end
noncomputable def qN(l m:List D):List D:=(l.zip m).map λp=>.tup [p.1,p.2]
theorem Ce{l m:List D}{n:Nat}{d:D}(h:(qN l m)[n]?=some d):∃x y,l[n]?=some x/\m[n]?=some y/\d=.tup [x,y]:=by
 unfold qN at h;rw[t5]at h;cases e:(l.zip m)[n]? with
 |none=>rw[e]at h;symm
 |some q=>rw[e]at h;symm;obtain⟨h1,h2⟩:=List.getElem?_zip_eq_some.mp e;exact⟨q.1,q.2,h1,h2,rfl⟩
theorem Cg(l m:List D):(qN l m).length=min l.length m.length:=by simp[qN]
section
def isTup:D->Bool
 |.tup _=>true
 |_=>false
theorem Rep.sqX{K:Frag}{M:List Addr}{H:Hp}{d:D}{v:V}{l:List D}(r:Rep K M H d v)(h:dD d=some l):∃a xs,v=.ref a/\aJ K M H l xs/\∀M2 H2,ak M H M2 H2->pF (isTup d) K H2 a xs:=by
 cases r with
 |@lst _ a xs hb rr=>symm;exact⟨a,xs,rfl,rr,λM2 H2 st=>cG.of (st _ _ hb.2 hb.1).1⟩
 |@tup _ a xs hb rr=>
  symm;refine⟨a,xs,rfl,rr,λM2 H2 st=>?_⟩
  have:TupAt K M2 H2 a xs:=by
   rcases hb with ⟨na,hr⟩ |hk
   . exact .inl (st.rd na hr)
   . exact .inr hk
  exact this.sq
 |@fix _ a xs hb rr=>
  symm;refine⟨a,xs,rfl,rr,λM2 H2 st=>?_⟩
  have:lV K M2 H2 a xs:=by
   rcases hb with ⟨na,o,hr⟩ |hk
   . exact .inl ⟨(st _ _ hr na).2,o,(st _ _ hr na).1⟩
   . exact .inr hk
  exact this.sq
 |_=>symm
theorem yP(ta:Xc tp s.heap a xs)(tb:Xc tp s.heap b ys)
  (h:∀h',IsZip h' (s⁻¹+4) (s⁻¹+2) (s⁻¹+3) .none->IsPair h' (s⁻¹+2) (.ref s⁻¹) (.ref (s⁻¹+1))->
   IsPair h' (s⁻¹+3) .none .none->FQ tp h' s⁻¹ a 0->FQ tp h' (s⁻¹+1) b 0->h'.objs.size=s⁻¹+5->
   (∀c o,s.heap.get? c=some o->h'.get? c=some o)->Q (.ref (s⁻¹+4)) { s with heap:=h'}):wpAny (model prog w) A (call (.type "zip") [.ref a,.ref b]) Q E s:=by
 cases tp with
 |true=>exact yO ta tb h
 |false=>exact call_zip_2 ta tb h
theorem O5{d1 d2:D}{l m:List D}(hK:z.K=X.K)(ha:cV X z [e1,e2] g [.dat d1,.dat d2] g1)(h1:dD d1=some l)(h2:dD d2=some m)(hkd:isTup d1=isTup d2)(hg:Gl X "zip")(hm:X.mg "zip"=none)(d8:starEach [e1,e2] X.env=(false,eval e1 X.env)::starEach [e2] X.env)(jG:(backTo rp (starEach [e2] X.env)).any (·.1)=false) :
  iG X z (.Tuple es k pos) (.Call (.Name "zip" p) [e1,e2] [] rp) g (qN l m) g1:=by
 refine iG.of λah s O J M H Post I stt kk=>?_
 refine Call_ (iC I hg hm boot_zip (wS (ha.run I stt λvs us s1 H1 aO M1 I1 r1 q1 q2 q3=>?_) d8 jG))
 cases q3 with
 |dat rp1 R=>cases R with
  |dat rp2 R=>
   cases R;obtain⟨u1,u2,rfl,YX,ru2⟩:=vals2 r1;obtain⟨a,xs,rfl,rr1,sq1⟩:=rp1.sqX h1;obtain⟨b,ys,rfl,KR,Y8⟩:=rp2.sqX h2;cases YX;cases ru2;rw[<- hkd]at Y8;have sa:pF (isTup d1) X.K H1 a xs:=hK▸sq1 M1 H1 (ak.refl _ _);have sb:pF (isTup d1) X.K H1 b ys:=hK▸Y8 M1 H1 (ak.refl _ _);obtain⟨U7,_,U8,_⟩:=sa.real I1;obtain⟨U9,_,Va,_⟩:=sb.real I1;refine yP U8 Va λh' er eI eO t1 t2 kO hk=>kk _ _ λR kR=>?_
   refine wpAny_pyIter_zip er ?_;have I2:L2.Inv X ah O H1 { s1 with heap:=h'}:=I1.kept (t':=s1.toks) hk;refine⟨_,[s1⁻¹+4,s1⁻¹+2,s1⁻¹+3,s1⁻¹,s1⁻¹+1],_,Itz (isTup d1) X.K a b,H1,rfl,I2,Cd (s1⁻¹+4) (s1⁻¹+2) (s1⁻¹+3) s1⁻¹ (s1⁻¹+1) a b (by refine⟨?_,?_,?_,?_⟩ <;> (intro q;have q:(_:Nat)=_:=q;lia)) (by refine⟨?_,?_,?_⟩ <;> (intro q;have q:(_:Nat)=_:=q;lia)) (by refine⟨?_,?_,?_⟩ <;> (intro q;have q:(_:Nat)=_:=q;lia)),⟨er,eI,⟨_,_,eO⟩,t1,t2⟩,λc hc=>?_,kR _ H1 aO M1 q1 q2 λM2 H2 aP=>?_⟩
   .
    have hle:s1⁻¹<=c:=by simp only[dL,i4,u8]at hc;rcases hc with rfl |rfl |rfl |rfl |rfl <;> lia
    exact I1.Af hle (I1.hok.fresh hle)
   .
    have s1':=hK▸sq1 M2 H2 aP;have s2':=hK▸Y8 M2 H2 aP;have R1:=rr1.stay aP;have R2:=KR.stay aP;refine⟨λn d hd=>?_,xs,ys,s1',s2',?_⟩
    .
     obtain⟨x,y,f1,f2,rfl⟩:=Ce hd;obtain⟨vx,e2,e3⟩:=R1.get f1;obtain⟨vy,e4,e5⟩:=R2.get f2;refine⟨⟨xs,ys,vx,vy,s1',s2',e2,e4⟩,λw H' hy z' g' σ' aA hz' s'=>?_⟩
     obtain⟨p,u,v,w1,w2,w3,rfl,rfl⟩:=hy;have w1:=w1 xs s1';have w2:=w2 ys s2';rw[e2]at w1;cases w1;rw[e4]at w2;cases w2;exact⟨s'.laid w3,ak.laid w3,.tup (.inl ⟨s'.fresh w3,.inl aC⟩) (.cons (e3.stay (ak.laid w3)) (.cons (e5.stay (ak.laid w3)) .nil))⟩
    . rw[Cg,rr1.length,KR.length];lia
end
end Ev
namespace L2
def wM(T:List Addr)(H:Hp):Prop:=∀b,(b∈T/\H b=some (.jH #[]))\/(b∉T/\(H b=none\/∃o xs,H b=some (.jE o (.lst xs))))
theorem yQ{P:Program}{w:World}{K:Frag}{mg mb:Str->Option Value}{CX:yg}{k:Nat}{fa a:Addr}{fd:FuncData}{x:Str}{sp:Sp}{s₁:Shared}{vs:List Value}{ns: ~~~0}{T:List Addr}
  (KX:K.In s₁.heap) (hT:∀q∈T,(∃c,s₁.heap.TableAt c q #[])/\K.lookup q=none) (hns:s₁.heap.Ns mainGlobals mg) (hb:s₁.heap.Ns builtinsNs mb) (hbb:∀x:Str,x≠ "__name__" ->mb x=bootBuiltins x) (hlim:s₁.heap.NoLimit) (hg:s₁.gens = #[])
  (ha:s₁.heap.get? a=some { cls:=.type "list",data:=.seq vs.toArray}) (hi:IntsAre vs ns) (hl:ns.length<=sizeLine) (hr:bW k callerA)
  (F:∀base:Heap,K.In base->base.Ns mainGlobals mg->gQ P w K mg base CX k fa fd [x] sp) (hbind:∀(s:Shared) (u:Value),BindsTo s fd ⟨[u],[]⟩ [(x,u)])
  (RN:∀H:Hp,wM T H->cG K H a (ns.map V.int)->sp [.ref a] H (λv _=>v=.bl true) λ_ _ _=>False)
  (Y9:∀H e s',CX [] H s₁ (λ_ _ _=>False) e s'->False) :
  codeAny (model P w) callerA (.call (.ref fa) ⟨[.ref a],[]⟩) (λr s'=>r=.ok (.ret (.bool true))/\OldK s₁.heap s'.heap/\s'.os=s₁.os/\AllBare s'.gens) s₁:=by
 have rv:=jM hi;have lenV:=hi.length;have aT:a∉T:=λh=>by
  obtain⟨⟨c,_,e⟩,_⟩:=hT a h;rw[ha]at e;cases e
 have core:∀H:Hp,wM T H->cG K H a (ns.map V.int)->jI P w H s₁.heap->(∀b,H b≠none->b=a\/b∈T)->(H a≠none->K.lookup a=none)->
   codeAny (model P w) callerA (.call (.ref fa) ⟨[.ref a],[]⟩) (λr s'=>r=.ok (.ret (.bool true))/\OldK s₁.heap s'.heap/\s'.os=s₁.os/\AllBare s'.gens) s₁:=by
  intro H hO hS hok hA hK;have wN:∀{b:Addr}{o:Obj},s₁.heap.get? b=some o->H b=none->(qd s₁.heap H).get? b=some o:=λe n=>z5 e n
  have T6:∀{b:Addr}{o:Obj}{es:Array DictEntry}{ep:Nat},s₁.heap.get? b=some o->o.data=.dict es ep->H b=none:=λ{b o es ep} e d=>by
   cases q:H b with
   |none=>rfl
   |some u=>
    rcases hA b (by rw[q];simp)with e' |e'
    . subst e';rw[ha]at e;cases e;have d':Data.seq vs.toArray _=Data.dict es ep:=d;cases d'
    . obtain⟨⟨c,_,e2⟩,_⟩:=hT b e';rw[e]at e2;cases e2;have d':Data.fields #[]=Data.dict es ep:=d;cases d'
  have Xm:∀{b:Addr}{m:Str->Option Value},s₁.heap.Ns b m->(qd s₁.heap H).Ns b m:=λ{b m} ⟨o,es,ep,e,d,r⟩=>⟨o,es,ep,wN e (T6 e d),d,r⟩
  have KY:K.In (qd s₁.heap H):=λb o e=>wN (KX b o e) (by
   cases q:H b with
   |none=>rfl
   |some u=>
    rcases hA b (by rw[q];simp)with e' |e'
    . subst e';rw[hK (by rw[q];simp)]at e;cases e
    .
     rw[(hT b e').2]at e;cases e)
  have hM:Mod K mg (qd s₁.heap H):=⟨KY,Xm hns,⟨mb,Xm hb,hbb⟩,let ⟨mc,h1,h2⟩:=hlim;⟨mc,Xm h1,h2⟩⟩
  have e0:Am P w K mg (qd s₁.heap H) callerA [] s₁ H:=⟨rfl,hM,λb o e=>Gh e,Nat.le_of_eq (xZ _ _),trivial,λb hb=>absurd (show b∈([]:List Addr)from hb) ⋯,hok,.of_eq hg⟩
  refine BD ((F _ KY (Xm hns)).run callerA [] s₁ H ⟨[.ref a],[]⟩ [.ref a] [.ref a] _ _ hr e0 (hbind s₁ (.ref a)) (.cons rfl .nil) (RN H hO hS)) λr s' h=>?_
  cases r with
  |error e=>exact (Y9 H e s' h).elim
  |ok fl=>
   cases fl with
   |next=>exact False.elim h
   |brk=>exact False.elim h
   |cont=>exact False.elim h
   |ret u=>
    obtain⟨v,H',os,bare,un,Il,r',q⟩:=h;have q':v=.bl true:=q;subst q';obtain rfl:u=Value.bool true:=r';have tabs:∀b∈T,∀o,s₁.heap.get? b=some o->∃more,o={ cls:=.none,data:=.fields #[]}/\s'.heap.get? b=some { cls:=.none,data:=.fields more}:=λb hb o e=>by
     obtain⟨⟨c,_,e2⟩,_⟩:=hT b hb;rw[e]at e2;cases e2;rcases hO b with ⟨_,z⟩ |⟨z,_⟩
     . obtain⟨more,z2⟩:=un.iV b _ z;exact⟨_,rfl,Il b _ z2⟩
     . exact absurd hb z
    have rest:∀b,b∉T->∀o,s₁.heap.get? b=some o->s'.heap.get? b=some o:=λb hb o e=>by
     cases q:H b with
     |none=>exact un.keep b o e q (by intro z;exact absurd (show b∈([]:List Addr)from z) ⋯) ⋯
     |some u=>
      rcases hO b with ⟨z,_⟩ |⟨_,z⟩
      . exact absurd z hb
      .
       rcases z with z |⟨ob,xs,z⟩
       . rw[q]at z;cases z
       . have z2:=un.iU b ob _ z;obtain⟨e1,_⟩:=hok b _ z;obtain⟨e2,_⟩:=Il b _ z2;rw[e]at e1;cases e1;exact e2
    refine⟨rfl,⟨λb o e=>?_,λb o e=>?_⟩,os,bare⟩
    .
     by_cases hb:b∈T
     . obtain⟨more,rfl,e2⟩:=tabs b hb o e;obtain⟨⟨c,t⟩,_⟩:=hT b hb;exact .inr (.inl ⟨t.isCodeTable,rfl,#[],more,rfl,by rw[e2];simp⟩)
     . exact .inl (rest b hb o e)
    .
     by_cases hb:b∈T
     . obtain⟨more,rfl,e2⟩:=tabs b hb o e;exact⟨_,e2⟩
     . exact⟨_,rest b hb o e⟩
 have Ci:∀b∈T,s₁.heap.get? b=some { cls:=.none,data:=.fields #[]}:=λb hb=>by
  obtain⟨⟨c,_,e2⟩,_⟩:=hT b hb;exact e2
 cases hk:K.lookup a with
 |some o=>
  have e:=KX a o hk;rw[ha]at e;cases e;refine core (λb=>if b∈T then some (.jH #[])else none) (λb=>?_) (.inr ⟨_,vs.toArray,_,hk,rfl,rfl,rfl,by rw[dC,lenV];exact hl,by simpa using rv⟩) (λb u z=>?_) (λb z=>?_) λz=>absurd (gN aT) z
  .
   by_cases hb:b∈T
   . exact .inl ⟨hb,i5 hb⟩
   . exact .inr ⟨hb,.inl (gN hb)⟩
  .
   by_cases hb:b∈T
   . have z':=(i5 hb).symm.trans z;cases z';exact Ci b hb
   . have z':=(gN hb).symm.trans z;cases z'
  .
   by_cases hb:b∈T
   . exact .inr hb
   . exact absurd (gN hb) z
 |none=>
  refine core (λb=>if b∈T then some (.jH #[])else if b=a then some (.jE { cls:=.type "list",data:=.seq vs.toArray} (.lst (ns.map V.int)))else none) (λb=>?_) (.inl (.inr ⟨{ cls:=.type "list",data:=.seq vs.toArray},(gN aT).trans (i5 rfl)⟩)) (λb u z=>?_) (λb z=>?_) λ_=>hk
  .
   by_cases hb:b∈T
   . exact .inl ⟨hb,i5 hb⟩
   .
    refine .inr ⟨hb,?_⟩;by_cases hb2:b=a
    . exact .inr ⟨_,_,(gN hb).trans (i5 hb2)⟩
    . exact .inl ((gN hb).trans (gN hb2))
  .
   by_cases hb:b∈T
   . have z':=(i5 hb).symm.trans z;cases z';exact Ci b hb
   .
    have z1:=(gN hb).symm.trans z;by_cases hb2:b=a
    . have z':=(i5 hb2).symm.trans z1;cases z';subst hb2;exact⟨ha,by rw[fR];exact hl,vs,_,rv,ha⟩
    . have z':=(gN hb2).symm.trans z1;cases z'
  .
   by_cases hb:b∈T
   . exact .inr hb
   .
    by_cases hb2:b=a
    . exact .inl hb2
    . exact absurd ((gN hb).trans (gN hb2)) z
end L2
namespace Ev
open L2
abbrev jU(p:Addr)(o:Obj):HO:=.ext λh=>h.get? p=some o
section
theorem S.grow(s:S z g O J M H){q:Addr}{qn:Str}{ps:Array Value}{pos:Pos}{c:Addr}(hq:(q,qn)∈z.T)(hu:∀p∈z.T,p.1=q->p.2=qn)(hp:H q=some (.jH ps))(ht:TriplesOk ps.toList)(hc:H c=some (fP qn c))
  (ok:TriplesOk (ps ++ #[rawInt pos.line,rawInt pos.col,.ref c]).toList) (am:∀pos' cv,codeAmong pos' (ps ++ #[rawInt pos.line,rawInt pos.col,.ref c]).toList=some cv->codeAmong pos' ps.toList=some cv\/cv=.ref c) :
  S z g O J M (upd H q (.jH (ps ++ #[rawInt pos.line,rawInt pos.col,.ref c]))) where
 sl:=s.sl.stay (ak.write (s.gR _ (s.tm _ hq))) λa ha u e=>by
  rcases s.live a (s.sub a ha)with ⟨o,e2,gr⟩ |e2
  . rw[ao (λz=>by rw[z,hp]at e2;cases e2;exact gr)];exact e
  .
   exact absurd e2 (λw=>by
    have:∃xs,H a=some (.lst xs):=by
     have key:∀{g:G}{O:Sg}{J:List Addr},Slots z.K M H g O J->∀a∈J,∃xs,H a=some (.lst xs):=λq=>by
      induction q with
      |nil=>intro a h;symm
      |no _ ih=>exact ih
      |dat _ _ ih=>exact ih
      |own e _ _ ih=>intro a h;rcases dL.mp h with rfl |h;exact⟨_,e⟩;exact ih a h
     exact key s.sl a ha
    obtain⟨xs,e3⟩:=this;exact s.KH e3 w)
 nd:=s.nd
 sub:=s.sub
 own:=s.own
 live:=λm hm=>by
  rcases s.live m hm with ⟨o,e,gr⟩ |e
  . exact .inl ⟨o,by rw[ao (λz=>by rw[z,hp]at e;cases e;exact gr)];exact e,gr⟩
  . exact .inr e
 keep:=λb u e hb hT=>by
  rw[ao (λz=>hT (by rw[z];exact i7.mpr ⟨_,hq,rfl⟩))];exact s.keep b u e hb hT
 gR:=s.gR
 m0:=s.m0
 bm:=s.bm
 iR:=s.iR
 tab:=λp h=>by
  have lam:∀d R0,H d=some (fP R0 d)->upd H q (.jH (ps ++ #[rawInt pos.line,rawInt pos.col,.ref c])) d=some (fP R0 d):=λd R0 e=>by
   rw[ao (λz=>by rw[z,hp]at e;cases e)];exact e
  by_cases e:p.1=q
  .
   obtain⟨p1,p2⟩:=p;have e1:p1=q:=e;have e2:p2=qn:=hu _ h e;subst e1;subst e2;refine⟨_,aC,ok,λpos' cv ec=>?_⟩
   rcases am pos' cv ec with ec |rfl
   . obtain⟨ps',h1,_,h3⟩:=s.tab _ h;have h1:H p1=some (.jH ps'):=h1;rw[hp]at h1;cases h1;obtain⟨d,e1,e2⟩:=h3 pos' cv ec;exact⟨d,e1,lam d _ e2⟩
   . exact⟨c,rfl,lam c _ hc⟩
  .
   obtain⟨ps',h1,h2,h3⟩:=s.tab p h;refine⟨ps',by rw[ao e];exact h1,h2,λpos' cv ec=>?_⟩
   obtain⟨d,e1,e2⟩:=h3 pos' cv ec;exact⟨d,e1,lam d _ e2⟩
 tm:=s.tm
 tt:=s.tt
end
theorem qO(h:TriplesOk l):TriplesOk (l++[.int i a,.int j b,v]):=by
 fun_induction TriplesOk l with
 |case1=>trivial
 |case2 _ _ _ _ _ rest ih=>exact ih h
 |case3=>exact h.elim
theorem vj(h:TriplesOk l)(e:codeAmong pos (l++[.int i a,.int j b,v])=some cv):codeAmong pos l=some cv\/cv=v:=by
 fun_induction TriplesOk l with
 |case1=>
  simp only[y7,codeAmong]at e;split at e
  . exact .inr (oC e).symm
  . cases e
 |case2 line _ col _ c rest ih=>
  simp only[List.cons_append,codeAmong]at e ⊢
  split at e
  . rename_i q;rw[i5 q];exact .inl e
  . rename_i q;rw[gN q];exact ih h e
 |case3=>exact h.elim
section
theorem wO(hok:jI P w H h)(hq:H q=some (.jH ps))(hq':H' q=some (.jH (ps++more)))(k:∀b o,b≠q->h.get? b=some o->h'.get? b=some o)(tq:∃o,h'.get? q=some o)
  (kH:∀b,b<h.objs.size->b≠q->H' b=H b):Un fs [] H H' h h' where
 keep:=λb o e n _ _=>k b o (λz=>by rw[z,hq]at n;cases n) e
 slot:=λb o e n _ _=>⟨o.slots,k b o (λz=>by rw[z,hq]at n;cases n) e⟩
 free:=λb o e n _=>by rw[kH b (d0 e) (λz=>by rw[z,hq]at n;cases n)];exact n
 there:=λb o e _=>by
  by_cases hb:b=q
  . subst hb;exact tq
  . exact⟨o,k b o hb e⟩
 tups:=λb xs e=>by rw[kH b (hok.lt e) (λz=>by rw[z,hq]at e;cases e)];exact e
 iU:=λb o u e=>by rw[kH b (hok.lt e) (λz=>by rw[z,hq]at e;cases e)];exact e
 iV:=λb ps' e=>by
  by_cases hb:b=q
  . subst hb;rw[hq]at e;cases e;exact⟨_,hq'⟩
  . rw[kH b (hok.lt e) hb];exact⟨#[],by rw[e];simp⟩
end
section
theorem Cj(e:h.get? p=some o):cH P w H h p (jU p o):=⟨e,⟨o,e⟩,λ_ _ e k=>k _ e⟩
theorem Im(e:h.CodeRec (.ref c) q):cH P w H h c (fP q c):=by
 refine⟨e,?_,λh1 h2 e k=>?_⟩
 . obtain⟨c',o,vs,t,e1,e2,_⟩:=e;cases e1;exact⟨o,e2⟩
 . obtain⟨c',o,vs,t,e1,e2,e3⟩:=e;cases e1;exact⟨c,o,vs,t,rfl,k _ e2,e3⟩
theorem Cp(I:L2.Inv X ah O H s)(hs:S z g O J M H)(hq:(q,qn)∈z.T)(hu:∀p∈z.T,p.1=q->p.2=qn)(hcode:X.env.code=.ref c)(C:PySem.W.CodeHd X.base c q)(hqn:X.env.qual ++ "<lambda>"=qn)
  (hb:X.base.BuiltinsAt X.mg q) (Vc:mainGlobals≠q) (hdef:defaultsOf params X.env=([],[])) (B:aN X.env.scope scope)
  (h:∀(p c':Addr) (fT:Value) (cl:List (Str×Addr)) (H':Hp) (s':Shared),L2.Inv X ah O H' s'->S z g O J M H'->ak M H M H'->p∉M->
   H' p=some (jU p (PySem.W.kla_obj "<lambda>" qn params body scope cl ((X.mg "__name__").getD .none) c' fT))->H' c'=some (fP qn c')->
   (∀x c,cl.lookup x=some c->X.env.cells.lookup x=some c/\(x,NameKind.free)∈scope.names)->(∀y∈scope.names,y.2=.free->∃c,cl.lookup y.1=some c)->(∀b xs,H b=some (.lst xs)->H' b=some (.lst xs))->Q (.ref p) s') :
  wpAny (~~~2) X.A (eval (.Lambda params body scope pos) X.env) Q E s:=by
 refine PySem.W.kla_eval hdef ?_;rw[hqn];obtain⟨ps,hp,ht,hcs⟩:=hs.tab _ hq;have hp:H q=some (.jH ps):=hp;have hP:s.heap.get? q=some (PySem.W.tabObj ps):=I.hok q _ hp;obtain⟨cl,hcl,yR,Io⟩:=lR (scope:=scope) (env:=X.env) λy hy e=>I.ok.has y.1 (by
  rcases B.free y hy e with e |e
  . exact .inl e
  .
   exact .inr e)
 have Za:q<s⁻¹:=d0 hP;cases hf:codeAmong pos ps.toList with
 |some cv=>
  obtain⟨c',rfl,hc'⟩:=hcs pos cv hf;refine PySem.W.kla_makeFunctionHit hcl I.ok.glob (I.ok.mod.glob.keeps I.bk) hcode (C.keeps I.bk) hP ht hf (hb.keeps I.bk) λfT h' tk hk kO=>?_
  have hk2:∀b o,s.heap.get? b=some o->(h'.push (PySem.W.kla_obj "<lambda>" qn params body scope cl ((X.mg "__name__").getD .none) c' fT)).get? b=some o:=λb o e=>bP _ (hk b o e)
  have fr:H h'.objs.size=none:=I.hok.fresh kO;have kH:∀b,b<s⁻¹->b≠q->upd H h'.objs.size (jU h'.objs.size (PySem.W.kla_obj "<lambda>" qn params body scope cl ((X.mg "__name__").getD .none) c' fT)) b=H b:=λb hb _=>ao (gL (eM hb kO))
  have R0:q≠h'.objs.size:=gL (eM Za kO);refine h _ c' fT cl (upd H h'.objs.size (jU h'.objs.size (PySem.W.kla_obj "<lambda>" qn params body scope cl ((X.mg "__name__").getD .none) c' fT))) _ (I.call' (s':={ s with heap:=h'.push (PySem.W.kla_obj "<lambda>" qn params body scope cl ((X.mg "__name__").getD .none) c' fT),toks:=tk}) (ch:=[]) rfl
   (wO (more:=#[]) I.hok hp (by rw[ao R0,hp];simp) (λb o _ e=>hk2 b o e) ⟨_,hk2 _ _ hP⟩ kH) (I.hok.laid hk2 kO (Cj (d6 _ rfl))) I.bare λb z=>nomatch z) (hs.laid fr) (ak.laid fr) (hs.fresh fr) aC ?_ yR Io λb xs e=>by rw[ao (aH e fr)];exact e
  rw[ao (λz=>by rw[z,fr]at hc';cases hc')];exact hc'
 |none=>
  refine PySem.W.kla_makeFunction hcl I.ok.glob (I.ok.mod.glob.keeps I.bk) hcode (C.keeps I.bk) hP ht hf Vc (hb.keeps I.bk) λc' fT h' tk hx hc1 hc2 Vd hP'=>?_
  have kO:s⁻¹<=h'.objs.size:=Nat.le_of_lt (Nat.lt_of_le_of_lt hc1 hc2);have hk2:∀b o,b≠q->s.heap.get? b=some o->(h'.push (PySem.W.kla_obj "<lambda>" qn params body scope cl ((X.mg "__name__").getD .none) c' fT)).get? b=some o:=λb o ne e=>bP _ (hx b o ne e)
  have Zb:H c'=none:=I.hok.fresh hc1;have Zc:H h'.objs.size=none:=I.hok.fresh kO;have qc:q≠c':=gL (eM Za hc1);have qp:q≠h'.objs.size:=gL (eM Za kO);have cp:c'≠h'.objs.size:=gL hc2;have s1:=hs.laid (o:=fP qn c') Zb;have e1:upd H c' (fP qn c') q=some (.jH ps):=by rw[ao qc];exact hp
  have s2:=s1.grow (pos:=pos) hq hu e1 ht aC (by rw[Array.toList_append];exact qO ht) (λpos' cv e=>vj ht (by rw[Array.toList_append]at e;exact e))
  have Ve:upd (upd H c' (fP qn c')) q (.jH (ps ++ #[rawInt pos.line,rawInt pos.col,.ref c'])) h'.objs.size=none:=by rw[ao qp.symm,ao cp.symm];exact Zc
  have s3:=s2.laid (o:=jU h'.objs.size (PySem.W.kla_obj "<lambda>" qn params body scope cl ((X.mg "__name__").getD .none) c' fT)) Ve;have kH:∀b,b<s⁻¹->b≠q->upd (upd (upd H c' (fP qn c')) q (.jH (ps ++ #[rawInt pos.line,rawInt pos.col,.ref c']))) h'.objs.size (jU h'.objs.size (PySem.W.kla_obj "<lambda>" qn params body scope cl ((X.mg "__name__").getD .none) c' fT)) b=H b:=λb hb ne=>by
   rw[ao (gL (eM hb kO)),ao ne,ao (gL (eM hb hc1))]
  have hq3:upd (upd (upd H c' (fP qn c')) q (.jH (ps ++ #[rawInt pos.line,rawInt pos.col,.ref c']))) h'.objs.size (jU h'.objs.size (PySem.W.kla_obj "<lambda>" qn params body scope cl ((X.mg "__name__").getD .none) c' fT)) q=some (.jH (ps ++ #[rawInt pos.line,rawInt pos.col,.ref c'])):=by rw[ao qp];exact aC
  have hc3:upd (upd (upd H c' (fP qn c')) q (.jH (ps ++ #[rawInt pos.line,rawInt pos.col,.ref c']))) h'.objs.size (jU h'.objs.size (PySem.W.kla_obj "<lambda>" qn params body scope cl ((X.mg "__name__").getD .none) c' fT)) c'=some (fP qn c'):=by rw[ao cp,ao qc.symm];exact aC
  have hP2:=bP (PySem.W.kla_obj "<lambda>" qn params body scope cl ((X.mg "__name__").getD .none) c' fT) hP';have Il:jI X.prog X.w (upd (upd (upd H c' (fP qn c')) q (.jH (ps ++ #[rawInt pos.line,rawInt pos.col,.ref c']))) h'.objs.size (jU h'.objs.size (PySem.W.kla_obj "<lambda>" qn params body scope cl ((X.mg "__name__").getD .none) c' fT))) (h'.push (PySem.W.kla_obj "<lambda>" qn params body scope cl ((X.mg "__name__").getD .none) c' fT)):=λb u e=>by
   by_cases b1:b=h'.objs.size
   . subst b1;rw[aC]at e;cases e;exact Cj (d6 _ rfl)
   .
    by_cases b2:b=q
    . subst b2;rw[hq3]at e;cases e;exact hP2
    .
     by_cases b3:b=c'
     .
      subst b3;rw[hc3]at e;cases e;exact Im (by
       obtain⟨d,o,vs,t,e1,e2,e3⟩:=Vd;exact⟨d,o,vs,t,e1,bP _ e2,e3⟩)
     .
      rw[ao b1,ao b2,ao b3]at e;refine (I.hok b u e).stay (λd o hd eo=>hk2 d o (λz=>?_) eo) (λd ed=>?_) λd xs ed=>?_
      .
       rcases hd with hd |hd
       . exact b2 (hd▸z)
       . rw[z,hp]at hd;cases hd
      . rw[kH d (I.hok.lt ed) (λz=>by rw[z,hp]at ed;cases ed)];exact ed
      . rw[kH d (I.hok.lt ed) (λz=>by rw[z,hp]at ed;cases ed)];exact ed
  refine h _ c' fT cl _ _ (I.call' (s':={ s with heap:=h'.push (PySem.W.kla_obj "<lambda>" qn params body scope cl ((X.mg "__name__").getD .none) c' fT),toks:=tk}) (ch:=[]) rfl
   (wO I.hok hp hq3 hk2 ⟨_,hP2⟩ kH) Il I.bare λb z=>nomatch z) s3 ?_ (hs.fresh Zc) aC hc3 yR Io λb xs e=>by rw[ao (aH e Zc),ao (λz=>by rw[z,hp]at e;cases e),ao (aH e Zb)];exact e
  exact ((ak.laid Zb).trans (ak.write (hs.gR _ (hs.tm _ hq)))).trans (ak.laid Ve)
end
noncomputable def tE(X:Cx)(N:List Str)(qual:Str)(scope:Scope)(p:Addr)(cd:Value)(cl:List (Str×Addr))(s:Shared)(H:Hp)(xe:Value->Shared->Prop):Cx where
 prog:=X.prog
 w:=X.w
 K:=X.K
 mg:=X.mg
 base:=X.base
 A:=X.A.deeper (PySem.W.envX qual scope s⁻¹ p cd cl)
 N:=N
 s₀:=s
 H₀:=H
 env:=PySem.W.envX qual scope s⁻¹ p cd cl
 outer:=X.stack
 stack:=PySem.W.envX qual scope s⁻¹ p cd cl::X.stack
 ex:=[]
 calm:=true
 fn:=λ_=>false
 pn:=[]
 xe:=xe
structure jV(N:List Str)(O:Sg)(scope:Scope)(cl:List (Str×Addr))(H:Hp)(h:Heap):Prop where
 inj:∀x y c,cl.lookup x=some c->cl.lookup y=some c->x=y
 has:∀x,scope.names.lookup x=some .cell\/scope.names.lookup x=some .free->∃c,cl.lookup x=some c
 cell:∀x c,cl.lookup x=some c->H c=none/\∃v,h.IsCell c v
 loc:∀(i:Nat) (x:Str) (v:V),N[i]?=some x->O[i]?=some (some v)->oK scope x->scope.names.lookup x=some .free/\∃u c,RelV v u/\cl.lookup x=some c/\h.IsCell c (some u)
 len:O.length=N.length
section
theorem Ip(I:L2.Inv X ah O H s)(hc:X.calm=true)(hk:scope.kind=.function)(C:jV N σ0 scope cl H s.heap)(hk₁:∀b o,s.heap.get? b=some o->h₁.get? b=some o)(hns:h₁.Ns s⁻¹ m) :
  L2.Inv (tE X N qual scope p cd cl s H xe) [] σ0 H { s with heap:=h₁,toks:=tk}:=by
 have e0:=I.Gu;refine⟨⟨e0.mod,hk,rfl,rfl,eA _,C.inj,C.has,(λ_ _ h=>nomatch h),λ_=>I.ok.hd hc,Around.frames_deeper e0.frames,.inr ⟨rfl,rfl⟩,(λb z=>nomatch z),e0.bs,e0.z6,(λ_ _ _ z=>nomatch z),(λb z=>nomatch z),e0.iW,e0.Gj⟩,
  rfl,e0.bare,Un.kept hk₁,⟨m,hns,λi x v h1 h2 h3=>?_⟩,λx c e=>?_,e0.hok.fresh (eA _),λx c e=>(C.cell x c e).1,(λp hp=>nomatch hp),e0.hok.kept hk₁,C.len⟩
 . obtain⟨f,u,c,r,e1,e2⟩:=C.loc i x v h1 h2 h3;exact⟨u,r,.inr ⟨.inr f,c,e1,e2.keeps hk₁⟩⟩
 . obtain⟨v,q⟩:=(C.cell x c e).2;exact⟨v,q.keeps hk₁⟩
theorem Cq{z:Z}{g g':G}{J M:List Addr}{body:Expr}{params:Arguments}{pm fT:Value}{c' C:Addr}{R:Result->Shared->Prop}(I:L2.Inv X ah O H s)(hc:X.calm=true)(hroom:X.A.depth<recursionLimit)
  (hp:s.heap.get? p=some (PySem.W.kla_obj "<lambda>" qual params body scope cl pm c' fT)) (Vd:s.heap.CodeRec (.ref c') qual) (hpar:bindArgs (PySem.W.kla_fn "<lambda>" qual params body scope cl pm (.ref c') fT) ⟨[],[]⟩=pure [])
  (hco:scope.isCoroutine=false) (hgen:scope.isGenerator=false) (hk:scope.kind=.function) (hnc:∀x∈scope.names,x.2≠.cell) (Cl:jV N σ0 scope cl H s.heap) (hS:S z g σ0 J M H)
  (hb:∀xe,PassesOwn (~~~2) (X.A.deeper (PySem.W.envX qual scope s⁻¹ p (.ref c') cl)) (PySem.W.envX qual scope s⁻¹ p (.ref c') cl) xe->rY (tE X N qual scope p (.ref c') cl s H xe) z body g C g')
  (hR:∀x H1 aO M1 s'',zU X.prog X.w X.stack H s (λc o h=>c=.ref C/\o=none/\h=H1) (.ref x) s''->S z g' σ0 aO M1 H1->ak M H M1 H1->R (.error (.ref x)) s'') :
  codeAny (~~~2) X.A (.call (.ref p) ⟨[],[]⟩) R s:=by
 refine PySem.W.kla_callFunE hroom hp rfl hco hgen rfl Vd ?_;rw[hpar];refine dS (wpAny_newFunctionEnv hnc (λy hy=>nomatch hy) (λh₁ hns hsb=>⟨(I.nolimit).fresh _ hsb,?_⟩) hk)
 have hk₁:∀b o,s.heap.get? b=some o->h₁.get? b=some o:=λb o e=>hsb.extBut b o (gL (d0 e)) (bP _ e)
 refine PySem.W.kla_codeExpr ?_;obtain⟨t,q,k⟩:=hb (λe' s'=>wpAny (~~~2) (X.A.deeper (PySem.W.envX qual scope s⁻¹ p (.ref c') cl)) (leaving (PySem.W.envX qual scope s⁻¹ p (.ref c') cl) e') (λ_ s''=>R (.error e') s'') (λe'' s''=>R (.error e'') s'') s') PassesOwn.leaving
 have qqz:=Ip (N:=N) (qual:=qual) (p:=p) (cd:=.ref c') (σ0:=σ0) (tk:=s.toks+([]:List (Str×Value)).length) (xe:=λe' s'=>wpAny (~~~2) (X.A.deeper (PySem.W.envX qual scope s⁻¹ p (.ref c') cl)) (leaving (PySem.W.envX qual scope s⁻¹ p (.ref c') cl) e') (λ_ s''=>R (.error e') s'') (λe'' s''=>R (.error e'') s'') s') I hc hk Cl hk₁ hns
 refine l8 (q [] _ σ0 H (λ_ _=>False) qqz (k σ0 J M H _ hS λpins1 s1 H1 aO M1 x I1 S1 st fl=>?_)) (λv s' h=>?_) λ_ _ h=>h
 . exact pq I1 rfl rfl rfl fl λs'' cx=>hR x H1 aO M1 s'' cx S1 st
 . obtain⟨_,_,_,_,h⟩:=h;exact h.elim
end
section
theorem Inv.cnl(I:L2.Inv X [] O H s):∀y c,X.env.cells.lookup y=some c->c≠X.env.locals:=λy c e q=>by
 obtain⟨v,o,h1,h2⟩:=I.cell y c e;obtain⟨m,⟨o',es,ep,h3,h4,_⟩,_⟩:=I.loc;rw[q,h3]at h1;cases h1;rw[h4]at h2;cases h2
theorem Inv.touch(I:L2.Inv X [] O H s)(hp:X.pn=[])(hT:X.s₀.heap.get? T=none)(hH:H T=none)(hf:∃o vs,s.heap.get? T=some o/\o.data=.fields vs)(k:∀b o,b≠T->s.heap.get? b=some o->h'.get? b=some o)(kT:∃o,h'.get? T=some o) :
  L2.Inv X [] O H { s with heap:=h'}:=by
 obtain⟨oT,ts,eT,dT⟩:=hf;have Iq:∀b o,X.s₀.heap.get? b=some o->b≠T:=λb o e q=>by rw[q,hT]at e;cases e
 have Vf:∀b o,s.heap.get? b=some o->(∀vs,o.data≠.fields vs)->b≠T:=λb o e d q=>by rw[q,eT]at e;cases e;exact d _ dT
 have cellK:∀c v,s.heap.IsCell c v->h'.IsCell c v:=λc v ⟨o,e,d⟩=>⟨o,k c o (Vf c o e λvs q=>by rw[d]at q;cases q) e,d⟩
 obtain⟨m,⟨o,es,ep,e,d,r⟩,hlk⟩:=I.loc;refine⟨I.ok,I.os,I.bare,⟨λb o e n hb hx=>?_,λb o e n hb hx=>?_,I.base.free,λb o e hx=>?_,I.base.tups,I.base.iU,I.base.iV⟩,⟨m,⟨o,es,ep,k _ _ (Vf _ _ e λvs q=>by rw[d]at q;cases q) e,d,r⟩,λi y v h1 h2 h3=>?_⟩,λy c e=>?_,I.free,I.dg,λp hp2=>?_,λb u e=>?_,I.len⟩
 . exact k b o (Iq b o e) (I.base.keep b o e n hb hx)
 . obtain⟨sl,e1⟩:=I.base.slot b o e n hb hx;exact⟨sl,k b _ (Iq b o e) e1⟩
 . obtain⟨o',e1⟩:=I.base.there b o e hx;exact⟨o',k b _ (Iq b o e) e1⟩
 . obtain⟨u,r,q⟩:=hlk i y v h1 h2 h3;exact⟨u,r,q.imp id λ⟨q1,c,q2,q3⟩=>⟨q1,c,q2,cellK c _ q3⟩⟩
 . obtain⟨v,q⟩:=I.cell y c e;exact⟨v,cellK c v q⟩
 . rw[hp]at hp2;cases hp2
 .
  refine (I.hok b u e).stay (λc w hc q=>k c w (λz=>?_) q) (λ_ q=>q) λ_ _ q=>q
  subst z;rcases hc with rfl |hc
  . rw[hH]at e;cases e
  . rw[hH]at hc;cases hc
theorem tF(I:L2.Inv X [] O H s)(hp:X.pn=[])(fl:rX X.s₀.heap x C H s.heap)(h:∀s',L2.Inv X [] O H s'->rX X.s₀.heap x C H s'.heap->Q () s') :
  wpAny M A (setFlight (.ref x) none) Q E s:=by
 obtain⟨⟨oe,vs,he,hc,bY,hd,kO,hT⟩,RT,RV⟩:=id fl;unfold setFlight;rcases hT with hT |⟨T,oT,ts,h1,Ot,W6,W7,FN,FP,h3⟩
 . refine aS (l5 he hd hT ?_);rw[gN ⋯];exact dS (h s I fl)
 .
  refine aS (l5 he hd h1 ?_);rw[i5 (show (Value.ref T != Value.none)=true from by simp)]
  refine AK FN FP (AH.mp h3).1 ?_;have other:∀b,b≠T->(s.heap.update T (Obj.mapFields (·.setIfInBounds 3 Value.none))).get? b=s.heap.get? b:=λb hb=>l6 _ _ (oQ hb)
  have Vg:=u4 FP (·.setIfInBounds 3 Value.none);have UT:=t7 (Obj.mapFields (·.setIfInBounds 3 Value.none)) FN (x0 Vg);refine h _ (Inv.touch I hp W6 W7 ⟨oT,ts,FN,FP⟩ (λb o hb e=>(other b hb).trans e) ⟨_,UT⟩) ⟨⟨oe,vs,(other x (oQ Ot)).trans he,hc,bY,hd,kO,.inr ⟨T,_,_,h1,Ot,W6,W7,UT,Vg,?_⟩⟩,RT,RV⟩
  have:=(AH.mp h3).1;simp[this]
theorem Inv.O6(I:L2.Inv X [] O H s)(hp:X.pn=[])(fl:rX X.s₀.heap x C H s.heap):L2.Inv X [] O (upd H x (uW C x)) s:=by
 obtain⟨⟨oe,vs,he,hc,bY,hd,kO,hT⟩,RT,RV⟩:=id fl;have Iq:∀b o,X.s₀.heap.get? b=some o->b≠x:=λb o e q=>by rw[q,RT]at e;cases e
 have Vf:∀b o,s.heap.get? b=some o->(∀vs,o.data≠.fields vs)->b≠x:=λb o e d q=>by rw[q,he]at e;cases e;exact d _ hd
 have Vh:∀b u,H b=some u->b≠x:=λb u e q=>by rw[q,RV]at e;cases e
 refine⟨I.ok,I.os,I.bare,⟨I.base.keep,I.base.slot,λb o e n hx=>?_,I.base.there,λb xs e=>?_,λb o u e=>?_,λb ps e=>?_⟩,I.loc,I.cell,?_,λy c e=>?_,λp hp2=>?_,λb u e=>?_,I.len⟩
 . rw[ao (Iq b o e)];exact I.base.free b o e n hx
 . have:=I.base.tups b xs e;rw[ao (Vh _ _ this)];exact this
 . have:=I.base.iU b o u e;rw[ao (Vh _ _ this)];exact this
 . obtain⟨more,this⟩:=I.base.iV b ps e;exact⟨more,by rw[ao (Vh _ _ this)];exact this⟩
 . obtain⟨m,⟨o,es,ep,e,d,_⟩,_⟩:=I.loc;rw[ao (Vf _ _ e λvs q=>by rw[d]at q;cases q)];exact I.free
 . obtain⟨v,o,e1,d⟩:=I.cell y c e;rw[ao (Vf _ _ e1 λvs q=>by rw[d]at q;cases q)];exact I.dg y c e
 . rw[hp]at hp2;cases hp2
 .
  by_cases hb:b=x
  .
   subst hb;rw[aC]at e;cases e;refine⟨⟨oe,he,hc,?_,bY⟩,⟨oe,he⟩,λh1 h2 ⟨o,q,r⟩ k=>⟨o,k o q,r⟩⟩
   unfold PySem.W.notCls;rw[hd]
  . rw[ao hb]at e;exact (I.hok b u e).stay (λ_ _ _ q=>q) (λc q=>by rw[ao (Vh _ _ q)];exact q) λc xs q=>by rw[ao (Vh _ _ q)];exact q
abbrev Cx.marked(X:Cx)(e:Value)(E:Value->Shared->Prop):Cx:={ X with A:=X.A.mark (some e),calm:=false,xe:=E}
theorem Inv.marked(I:L2.Inv X ah O H s)(e:Value)(E:Value->Shared->Prop):L2.Inv (Cx.marked X e E) ah O H s:=
 ⟨⟨I.ok.mod,I.ok.kind,I.ok.glob,I.ok.blt,I.ok.above,I.ok.inj,I.ok.has,I.ok.Ly,(λh=>nomatch h),I.ok.frames,I.ok.stk,I.ok.RL,I.ok.bs,I.ok.z6,I.ok.sr,I.ok.uL,I.ok.iW,I.ok.Gj⟩,I.os,I.bare,I.base,I.loc,I.cell,I.free,I.dg,I.pin,I.hok,I.len⟩
theorem Inv.unmarked(ok:X.Ok)(I:L2.Inv (Cx.marked X e E) ah O H s):L2.Inv X ah O H s:=
 ⟨ok,I.os,I.bare,I.base,I.loc,I.cell,I.free,I.dg,I.pin,I.hok,I.len⟩
theorem Inv.gone(I:L2.Inv X [] O H s)(hp:X.pn=[])(hN:X.N.Nodup)(hi:X.N[i]?=some n)(hlk:∀(j:Nat) (y:Str) (v:V),X.N[j]?=some y->O[j]?=some (some v)->oK X.env.scope y->∃u,RelV v u/\Look X.env s.heap m y u)
  {h':Heap}{w:Option Value}{tk:Nat} (hn':h'.Ns X.env.locals (λy=>if y=n then w else m y)) (hs:Heap.SameBut X.env.locals s.heap h'):L2.Inv X [] (O.set i none) H { s with heap:=h',toks:=tk}:=by
 have Iq:∀b o,X.s₀.heap.get? b=some o->b≠X.env.locals:=λb o e=>gL (eM (d0 e) I.ok.above)
 refine⟨I.ok,I.os,I.bare,⟨λb o e n hb hx=>?_,λb o e n hb hx=>?_,I.base.free,λb o e hx=>?_,I.base.tups,I.base.iU,I.base.iV⟩,⟨_,hn',λj y v h1 h2 h3=>?_⟩,λy c e=>?_,I.free,I.dg,λp hp2=>?_,λb u e=>?_,by rw[kS];exact I.len⟩
 . exact (hs.2 b (Iq b o e)).trans (I.base.keep b o e n hb hx)
 . obtain⟨sl,e1⟩:=I.base.slot b o e n hb hx;exact⟨sl,(hs.2 b (Iq b o e)).trans e1⟩
 . obtain⟨o',e1⟩:=I.base.there b o e hx;exact⟨o',(hs.2 b (Iq b o e)).trans e1⟩
 .
  by_cases hj:j=i
  .
   subst hj;have hl:j<O.length:=by rw[I.len];exact (dE.mp h1).1
   rw[fI hl]at h2;cases h2
  .
   rw[eD (oQ hj)]at h2;obtain⟨u,r,q⟩:=hlk j y v h1 h2 h3;refine⟨u,r,?_⟩;have hyn:y≠n:=λq=>hj (lJ hN h1 (q▸hi))
   rcases q with ⟨k,e⟩ |⟨k,c,e,z⟩
   . exact .inl ⟨k,by show (if y=n then w else m y)=some u;rw[gN hyn];exact e⟩
   . exact .inr ⟨k,c,e,z.sameBut hs (Inv.cnl I y c e)⟩
 . obtain⟨v,q⟩:=I.cell y c e;exact⟨v,q.sameBut hs (Inv.cnl I y c e)⟩
 . rw[hp]at hp2;cases hp2
 .
  refine (I.hok b u e).stay (λc w hc q=>(hs.2 c (λz=>?_)).trans q) (λ_ q=>q) λ_ _ q=>q
  subst z;rcases hc with hc |hc
  . rw[<- hc,I.free]at e;cases e
  . rw[I.free]at hc;cases hc
end
end Ev
namespace PySem
section
theorem gU{h:Heap}{g:Array GenState}{d:Drawn}{t:Nat}{os:OsState}{e:Addr}{oe:Obj}{Q:Bool->Shared->Prop}
  (hC:h.get? C=some (excClassObj nm q C N bs bm hdct sn sub ab col dd k0 k1 k2 k3 k5 newId)) (hD:h.get? D=some (excClassObj nm' q' D N' bs' bm' Vi sn' sub' ab' col' dd' k0' k1' Zd k3' k5' newId'))
  (he:h.get? e=some oe) (hcls:oe.cls=.ref C) (hbase:bm'.contains (.type "BaseException")=true) (hup:(Value.ref C::bm).contains (.ref D)=true)
  (hq:Q true ⟨h,g,d,t,os⟩):wpAny M A (excMatches (.ref e) (.ref D)) Q E ⟨h,g,d,t,os⟩:=by
 have hcB:(Value.ref D::bm').contains (.type "BaseException")=true:=by rw[List.contains_cons,hbase,Bool.or_true]
 have f:=tc_notTuple;unfold excMatches
 repeat (first | (with_reducible refine wpAny_loadPart_at he ?_;rw[hcls]) |with_reducible refine wpAny_loadPart_at hD ?_ | (with_reducible refine wpAny_isSubtype_exc hD ?_;rw[hcB]) | (with_reducible refine wpAny_isSubtype_exc hC ?_;rw[hup]) |wp_step)
 exact hq
end
end PySem
namespace Ev
open L2
noncomputable def tG(K:Frag)(C D:Addr):Bool:=match K.lookup C with
 |some ⟨_,_,.cls cd,_⟩=>cd.mro.contains (.ref D)
 |_=>false
section
variable{x C D:Addr}
theorem yS(I:L2.Inv X [] O H s)(hp:X.pn=[])(d8:X.stack=X.env::X.outer)(hf:X.env.frame=some X.env.locals)(hex:X.ex=[])(fl:rX X.s₀.heap x C H s.heap)(hN:X.N.Nodup)
  (hg:Gl X ke) (hm:X.mg ke=some (.ref D)) (iB:(ke==(~~~3))=false) (qC:eH X.K C) (qD:eH X.K D) (up:tG X.K C D=true)
  (Xn:X.N[ie]?=some en) (len:X.env.scope.names.lookup en=some .local) (den:(en==(~~~3))=false) (cen:(en==("__classdict__":Str))=false)
  (hir:X.N[ir]?=some er) (ler:Loc X.env.scope er) (fer:X.fn er=true\/X.env.scope.names.lookup er=some .local) (hsw:swapsWith (.Name en tH) (some (.Name er tK)) dw.line X.env=pure false)
  (h:∀s',L2.Inv X [] (((O.set ie (some (.ref x))).set ir (some (.ref x))).set ie none) (upd H x (uW C x)) s'->Q .next s') :
  wpAny (~~~2) X.A (noteFrame (.ref x) X.env) (λ_ s2=>wpAny (~~~2) X.A (setFlight (.ref x) none) (λ_ s3=>wpAny (~~~2) X.A (handleBy (.ref x) X.env [.ExceptHandler (some (.Name ke kp)) (some en) [.Assign [.Name er tK] (.Name en tH) dw] nR]) Q E s3) E s2) E s:=by
 refine yK I hp d8 hf hex fl λs2 I2 fl2=>?_
 refine wpAny_handleBy_cons (codeAny_handlers_test ?_) (by intro q;cases q)
 refine d9 (X:=Cx.marked X (.ref x) E) (Inv.marked I2 _ _) hg hm ?_ iB;obtain⟨bm,N,nm,qn,bs,hdct,sn,sub,ab,col,dd,k0,k1,k2,k3,k5,mN,hC,_,_,TC⟩:=qJ I2.kP qC;obtain⟨bm',N',nm',R0,bs',Vi,sn',sub',ab',col',dd',k0',k1',Zd,k3',k5',mN',hD,_,_,TD⟩:=qJ I2.kP qD;obtain⟨⟨oe,vs,he,hc,_⟩,_⟩:=id fl2;have hup:(Value.ref C::bm).contains (.ref D)=true:=by
  unfold tG at up;split at up
  . rename_i cd _ ho;have:=(I2.kP _ _ ho).symm.trans hC;cases this;exact up
  . cases up
 obtain⟨hh,gg,dr,tt,oo⟩:=s2;refine gU hC hD he hc (TD.hasType ⋯) hup ?_;refine codeAny_handlers_suite_as ?_;refine tF I2 hp fl2 λs3 I3 fl3=>?_
 have I4:=Inv.O6 I3 hp fl3;refine fV I4 hN Xn (.inl len) (v:=.ref x) rfl (λs5 I5=>?_) (.inr len)
 have hl:ie<O.length:=by rw[I.len];exact (dE.mp Xn).1
 refine l8 (((Gn (lM (X:=Cx.marked X (.ref x) (λ_ _=>False)) hN hir ler (fW Xn (.inl len) den cen) hsw fer)) [] s5 _ _ { nx:=λσ' H'=>σ'=(O.set ie (some (.ref x))).set ir (some (.ref x))/\H'=upd H x (uW C x),rt:=λ_ _=>False} (Inv.marked I5 _ _) ⟨.ref x,fI hl,rfl,rfl⟩)) (λf s6 q=>?_) λ_ _ z=>False.elim z
 cases f with
 |next=>
  obtain⟨σ',H',I6,rfl,rfl⟩:=q;have I7:=Inv.unmarked I.ok I6;obtain⟨m,hn,hlk⟩:=id I7.loc;refine wpAny_nameGoes_keeps (m:=m) len hn (by rw[I.ok.kind];rfl) λh' w hn' hs=>?_
  exact h _ (Inv.gone I7 hp hN Xn hlk hn' hs)
 |ret v=>obtain⟨_,_,_,_,_,q⟩:=q;exact q.elim
 |brk=>obtain⟨_,_,_,q⟩:=q;exact q.elim
 |cont=>obtain⟨_,_,_,q⟩:=q;exact q.elim
end
noncomputable abbrev zN(z:Z)(M:List Addr)(H:Hp):Z:=⟨z.K,H,M,[],z.T⟩
def noOwn:Slot->Slot
 |.own _=>.no
 |s=>s
section
variable{g g':G}
theorem Slots.noOwn{K:Frag}(q:Slots K M H g O J):Slots K M H (g.map Ev.noOwn) O []:=by
 induction q with
 |nil=>exact .nil
 |no _ ih=>exact .no ih
 |dat r _ ih=>exact .dat r ih
 |own _ _ _ ih=>exact .no ih
theorem Slots.Ze{K:Frag}(O:Sg):Slots K M H (List.replicate O.length .no) O []:=by
 induction O with
 |nil=>exact .nil
 |cons v O ih=>exact .no ih
theorem yT{i:Nat}{l:List D}(h:(g.map Ev.noOwn)[i]?=some (.own l)):False:=by
 rw[t5]at h;cases e:g[i]? with
 |none=>rw[e]at h;symm
 |some u=>rw[e]at h;cases u <;> symm
theorem S.into(s:S z g O J M H)(sl:Slots z.K M H gn σn [])(hn:∀(i:Nat) (l:List D),gn[i]?≠some (.own l)):S (zN z M H) gn σn [] M H where
 sl:=sl
 nd:=wE
 sub:=λa h=>nomatch h
 own:=λi a l e _=>absurd e (hn i l)
 live:=s.live
 keep:=λb o e _ _=>e
 gR:=λ_ h=>h
 m0:=λm hm=>by
  rcases s.live m hm with ⟨o,e,_⟩ |e
  . intro q;rw[show H m=none from q]at e;cases e
  . obtain⟨q,hq,rfl⟩:=i7.mp e;obtain⟨ps,h1,_⟩:=s.tab q hq;intro z;rw[show H q.1=none from z]at h1;cases h1
 bm:=λb h=>nomatch h
 iR:=λp h=>nomatch h
 tab:=s.tab
 tm:=λp h=>s.gR _ (s.tm p h)
 tt:=s.tt
theorem S.after(s:S z g O J M H)(hA:J=[])(s1:S (zN z M H) g' σ0 aO M1 H1)(st:ak M H M1 H1):S z g O J M1 H1 where
 sl:=s.sl.stay st (λa h=>by rw[hA]at h;symm)
 nd:=s.nd
 sub:=λa h=>by rw[hA]at h;symm
 own:=s.own
 live:=s1.live
 keep:=λb o e hb ht=>s1.keep b o (s.keep b o e hb ht) (λh=>nomatch h) ht
 gR:=λm hm=>s1.gR m (s.gR m hm)
 m0:=s.m0
 bm:=s.bm
 iR:=s.iR
 tab:=s1.tab
 tm:=s.tm
 tt:=s.tt
theorem Slots.pG{K:Frag}{i:Nat}{v:Option V}(q:Slots K M H g O J)(e:g[i]?=some .no):Slots K M H g (O.set i v) J:=by
 induction q generalizing i with
 |nil=>exact .nil
 |no q ih=>cases i with
  |zero=>exact .no q
  |succ i=>exact .no (ih e)
 |dat r q ih=>cases i with
  |zero=>cases e
  |succ i=>exact .dat r (ih e)
 |own a b q ih=>cases i with
  |zero=>cases e
  |succ i=>exact .own a b (ih e)
theorem S.pG(s:S z g O J M H)(e:g[i]?=some .no):S z g (O.set i v) J M H where
 sl:=s.sl.pG e
 nd:=s.nd
 sub:=s.sub
 own:=λj a l e1 e2=>s.own j a l e1 (by
  rw[eD (λq=>by rw[<- q,e]at e1;cases e1)]at e2;exact e2)
 live:=s.live
 keep:=s.keep
 gR:=s.gR
 m0:=s.m0
 bm:=s.bm
 iR:=λp hp=>by
  obtain⟨h1,l,h2⟩:=s.iR p hp;exact⟨by rw[eD (λq=>by rw[<- q,e]at h2;cases h2)];exact h1,l,h2⟩
 tab:=s.tab
 tm:=s.tm
 tt:=s.tt
end
theorem wQ(I:L2.Inv X ah O H s)(B:aN X.env.scope scope)(nl:∀y∈scope.names,y.2≠.local)
  (yR:∀x c,cl.lookup x=some c->X.env.cells.lookup x=some c/\(x,NameKind.free)∈scope.names) (Io:∀y∈scope.names,y.2=.free->∃c,cl.lookup y.1=some c):jV X.N O scope cl H s.heap where
 inj:=λx y c h1 h2=>I.ok.inj x y c (yR x c h1).1 (yR y c h2).1
 has:=λx h=>by
  rcases h with h |h
  . exact absurd rfl (B.qA _ (L2.mem_of_lookup h))
  . exact Io _ (L2.mem_of_lookup h) rfl
 cell:=λx c h=>⟨I.dg x c (yR x c h).1,I.cell x c (yR x c h).1⟩
 loc:=λi x v h1 h2 h3=>by
  have hf:scope.names.lookup x=some .free:=by
   rcases h3 with h3 |h3 |h3
   . exact absurd rfl (nl _ (L2.mem_of_lookup h3))
   . exact absurd rfl (B.qA _ (L2.mem_of_lookup h3))
   . exact h3
  have hv:=B.free _ (L2.mem_of_lookup hf) rfl;obtain⟨m,_,hlk⟩:=I.loc;obtain⟨u,r,q⟩:=hlk i x v h1 h2 (.inr hv);obtain⟨c2,e2⟩:=Io _ (L2.mem_of_lookup hf) rfl;rcases q with ⟨k,_⟩ |⟨_,c,e,z⟩
  . have k:X.env.scope.names.lookup x=some .local:=k;rcases hv with hv |hv <;> (have hv:X.env.scope.names.lookup x=_:=hv;rw[k]at hv;cases hv)
  . have:=(yR _ _ e2).1;have this:X.env.cells.lookup x=some c2:=this;rw[e]at this;cases this;exact⟨hf,u,c2,r,e2,z⟩
 len:=I.len
theorem jV.un(c:jV N O scope cl H h)(u:Un fs [] H H' h h'):jV N O scope cl H' h':=by
 have key:∀x a v,cl.lookup x=some a->h.IsCell a v->h'.IsCell a v:=λx a v e ⟨o,e1,d⟩=>by
  obtain⟨sl,e2⟩:=u.any e1 (c.cell x a e).1 ⋯;exact⟨_,e2,d⟩
 refine⟨c.inj,c.has,λx a e=>?_,λi x v h1 h2 h3=>?_,c.len⟩
 . obtain⟨hn,v,o,e1,d⟩:=c.cell x a e;exact⟨u.free a o e1 hn ⋯,v,key x a v e ⟨o,e1,d⟩⟩
 . obtain⟨f,w,a,r,e,z⟩:=c.loc i x v h1 h2 h3;exact⟨f,w,a,r,e,key x a _ e z⟩
section
variable{C D p c':Addr}
 {N:List Str}{qn:Str}{scope:Scope}{cl:List (Str×Addr)}{body:Expr}{params:Arguments}{pm fT:Value}{g0 Cr:G}
noncomputable abbrev Cv (y ke en er:Str) (py bM nQ kp tK tH dw nR nP:Pos):Stmt:=.Try [.Expr (.Call (.Name y py) [] [] bM) nQ] [.ExceptHandler (some (.Name ke kp)) (some en) [.Assign [.Name er tK] (.Name en tH) dw] nR] [] [] nP
structure KZ(X:Cx)(C D:Addr)(y ke en er:Str)(iy ie ir:Nat):Prop where
 pn:X.pn=[]
 st:X.stack=X.env::X.outer
 fr:X.env.frame=some X.env.locals
 ex:X.ex=[]
 calm:X.calm=true
 nd:X.N.Nodup
 gk:Gl X ke
 mg:X.mg ke=some (.ref D)
 dk:(ke==(~~~3))=false
 qC:eH X.K C
 qD:eH X.K D
 up:tG X.K C D=true
 kC:FG X.K C
 ie:X.N[ie]?=some en
 le:X.env.scope.names.lookup en=some .local
 de:(en==(~~~3))=false
 ce:(en==("__classdict__":Str))=false
 ir:X.N[ir]?=some er
 lr:Loc X.env.scope er
 fn:X.fn er=true\/X.env.scope.names.lookup er=some .local
 iy:X.N[iy]?=some y
 vy:oK X.env.scope y
 dy:(y==(~~~3))=false
 cy:(y==("__classdict__":Str))=false
 room:X.A.depth<recursionLimit
structure dH(params:Arguments)(scope:Scope):Prop where
 co:scope.isCoroutine=false
 gen:scope.isGenerator=false
 kind:scope.kind=.function
 nc:∀x∈scope.names,x.2≠.cell
 nl:∀x∈scope.names,x.2≠.local
 par:params=⟨[],[],none,[],[],none,[]⟩
theorem dH.bind(h:dH params scope):bindArgs (PySem.W.kla_fn "<lambda>" qn params body scope cl pm (.ref c') fT) ⟨[],[]⟩=pure []:=by rw[h.par];rfl
theorem O7{ah: ~~~1}{i:Nat}{x:Str}{v:V}{pos:Pos}{E:Value->Shared->Prop}{Q:Value->Shared->Prop}(I:L2.Inv X ah O H s)(hN:X.N[i]?=some x)(hv:oK X.env.scope x)(hd:(x==(~~~3))=false)(bY:(x==("__classdict__":Str))=false)(e:O[i]?=some (some v))(h:∀u,RelV v u->Q u s) :
  wpAny (~~~2) X.A (eval (.Name x pos) X.env) Q E s:=by
 obtain⟨m,hn,hl⟩:=I.loc;obtain⟨u,r,l⟩:=hl i x v hN e hv;have fin:Q u s:=h u r;rcases l with ⟨hk,hm⟩ |⟨hk,c,hc,hcell⟩
 . exact CB (wpAny_loadName_local I.ok.kind hk hn hm fin) hd
 .
  rcases hk with hk |hk
  . exact CB (wpAny_loadName_cell I.ok.kind hk hc hcell fin) hd
  . exact CB (wpAny_loadName_free I.ok.kind hk hc hcell fin bY) hd
theorem Ir(T:KZ X C D y ke en er iy ie ir)(L:dH params scope)(I:L2.Inv X [] O H s)(hS:S zf gf O [] M H)(hK:zf.K=X.K)(hsw:swapsWith (.Name en tH) (some (.Name er tK)) dw.line X.env=pure false)(hsx:swapsWith (.Call (.Name y py) [] [] bM) none nQ.line X.env=pure false)
  (hy:O[iy]?=some (some (.ref p))) (jD:gf[ie]?=some .no) (hbr:ir∉zf.bor) (hnr:ie≠ir)
  (hp:H p=some (jU p (PySem.W.kla_obj "<lambda>" qn params body scope cl pm c' fT))) (hc':H c'=some (fP qn c')) (Cl:jV N σ0 scope cl H s.heap) (hs0:Slots zf.K M H g0 σ0 []) (hn0:∀(i:Nat) (l:List Ev.D),g0[i]?≠some (.own l))
  (hb:∀xe,PassesOwn (~~~2) (X.A.deeper (PySem.W.envX qn scope s⁻¹ p (.ref c') cl)) (PySem.W.envX qn scope s⁻¹ p (.ref c') cl) xe->rY (tE X N qn scope p (.ref c') cl s H xe) (zN zf M H) body g0 C Cr)
  (h:∀s' σ' H' M' aA,L2.Inv X [] σ' H' s'->S zf (gf.set ir (.dat (.kr C))) σ' aA M' H'->ak M H M' H'->Q .next s') :
  wpAny (~~~2) X.A (exec (Cv y ke en er py bM nQ kp tK tH dw nR nP) X.env) Q X.xe s:=by
 refine wpAny_Try_except (AL (l8 (wpAny_Expr_any (Q:=λ_ _=>False) ?_ I.quiet hsx) (λ_ _ z=>False.elim z) λ_ _ z=>z))
 have hpo:s.heap.get? p=some (PySem.W.kla_obj "<lambda>" qn params body scope cl pm c' fT):=(I.hok p _ hp).1;have Vd:s.heap.CodeRec (.ref c') qn:=(I.hok c' _ hc').1;refine pV (O7 I T.iy T.vy T.dy T.cy hy λu r=>?_)
 cases r;refine PySem.W.callWith_F0 ⟨_,_,_,_,hpo⟩ (CC (BD (Cq (R:=λr s'=>∃x H1 aO M1,r=.error (.ref x)/\zU X.prog X.w X.stack H s (λc o h=>c=.ref C/\o=none/\h=H1) (.ref x) s'/\S (zN zf M H) Cr σ0 aO M1 H1/\ak M H M1 H1) I T.calm T.room hpo Vd L.bind L.co L.gen L.kind L.nc Cl (S.into hS hs0 hn0) hb
  λx H1 aO M1 s'' cx S1 st=>⟨x,H1,aO,M1,rfl,cx,S1,st⟩) λr s1 ⟨x,H1,aO,M1,e,cx,S1,st⟩=>?_))
 subst e;obtain⟨x',C',H',e,I1,fl,e1,_,e3⟩:=BK T.ex I cx;cases e;cases e1;subst e3;refine yS I1 T.pn T.st T.fr T.ex fl T.nd T.gk T.mg T.dk T.qC T.qD T.up T.ie T.le T.de T.ce T.ir T.lr T.fn hsw λs' I'=>?_
 have s2:=S.after hS rfl S1 st;have s3:=s2.laid (o:=uW C x) fl.no;have s4:S zf gf (O.set ie (some (.ref x))) [] M1 (upd H' x (uW C x)):=s3.pG jD;obtain⟨Oh,s5⟩:=s4.fB (i:=ir) (d:=.kr C) (v:=.ref x) hbr (hK▸.kr T.kC (s2.fresh fl.no) aC);have s6:S zf (gf.set ir (.dat (.kr C))) (((O.set ie (some (.ref x))).set ir (some (.ref x))).set ie none) Oh M1 (upd H' x (uW C x)):=s5.pG (by rw[eD (oQ hnr)];exact jD)
 exact h s' _ _ M1 Oh I' s6 (st.trans (ak.laid fl.no))
end
end Ev
namespace L2
theorem Vj{CX:yg}{P:Program}{w:World}{K:Frag}{mg:Str->Option Value}{base:Heap}{k:Nat}{f:Addr}{name qual:Str}{params:Arguments}{body:List Stmt}{scope:Scope}{dV kV doc pm bB ct oc:Value}{an od:Option Addr}
  {osl:Array (Option Value)}{N ps:List Str}{A:Around}{outer:List Env}{s:Shared}{H:Hp}{args:Args}{us:List Value}{vs:List V}{Q:VK}{E:XK} (lk:K.lookup f=some ⟨oc,od,.func (PySem.W.fnOf name qual params body scope dV kV doc pm an bB ct),osl⟩) (bY:PySem.W.codeIn K bB qual=true) (S:bT N ps scope)
  (hr:bW (k+1) A) (e0:Am P w K mg base A outer s H) (hb:BindsTo s (PySem.W.fnOf name qual params body scope dV kV doc pm an bB ct) args (ps.zip us)) (r:Vals vs us) (hl:vs.length=ps.length)
  (hbody:∀s1,Inv (eF CX P w K mg base N qual scope f bB A outer s H E) [] (start N vs) H s1->wpAny (model P w) (A.deeper (envOfC qual scope s⁻¹ f bB)) (execs body (envOfC qual scope s⁻¹ f bB)) (SP (eF CX P w K mg base N qual scope f bB A outer s H E) [] { nx:=λ_ H'=>Q .non H',rt:=Q}) (eF CX P w K mg base N qual scope f bB A outer s H E).xe s1) :
  codeAny (model P w) A (.call (.ref f) args) (CR CX outer P w H s Q E) s:=by
 have KX:K.In s.heap:=e0.mod.zQ.keeps λb o e=>(e0.bs b o e).1
 have lim:s.heap.NoLimit:=e0.mod.nolimit.keeps λb o e=>(e0.bs b o e).1
 have hkind:∀y∈ps.zip us,scope.names.lookup y.1=some .local\/(scope.names.lookup y.1=some .cell/\((cellsFrom (s⁻¹+1) scope.names []).lookup y.1).isSome=true):=λ⟨n,v⟩ hy=>by
  rcases S.par n (B3 hy).1 with q |q
  . exact .inl q
  . exact .inr ⟨q,AX _ _ _ (.inl q)⟩
 refine codeAny_call_function hr.depth (KX _ _ lk) rfl S.co S.gen rfl (PySem.W.codeRec_of KX bY) (hb _ _ _ _ ?_);refine wpAny_newFunctionEnv_cells S.kind hkind λenv he s1 x=>?_
 subst he;refine⟨lim.keeps x.toInCall.keep,codeAny_func ?_⟩;have I:Inv (eF CX P w K mg base N qual scope f bB A outer s H E) [] (start N vs) H s1:=oW S hr.hd e0 hl r x;refine l8 (hbody s1 I) (λfl s' hs=>?_) λe s' hs=>hs
 have fin:∀{σ':St}{H':Hp}{v:V}{u:Value},Inv (eF CX P w K mg base N qual scope f bB A outer s H E) [] σ' H' s'->RelV v u->Q v H'->CE outer P w H s Q u s':=
  λ{σ' H' v u} qqz rv q=>⟨v,H',qqz.os,qqz.bare,qqz.base,qqz.hok,rv,q⟩
 cases fl with
 |ret u=>obtain⟨v,σ',H',qqz,rv,q⟩:=hs;exact fin qqz rv q
 |next=>obtain⟨σ',H',qqz,q⟩:=hs;exact fin (v:=V.non) (u:=Value.none) qqz rfl q
 |brk=>obtain⟨_,_,_,q⟩:=hs;exact False.elim q
 |cont=>obtain⟨_,_,_,q⟩:=hs;exact False.elim q
end L2
namespace Ev
open L2
structure O8(K:Frag)(mg:Str->Option Value)(sc:Scope)(N:List Str)(C D:Addr)(y ke en er:Str)(ie ir:Nat):Prop where
 nd:N.Nodup
 gk:sc.names.lookup ke=some .globalImplicit
 mg:mg ke=some (.ref D)
 dk:(ke==(~~~3))=false
 qC:eH K C
 qD:eH K D
 up:tG K C D=true
 kC:FG K C
 eN:N[ie]?=some en
 le:sc.names.lookup en=some .local
 de:(en==(~~~3))=false
 ce:(en==("__classdict__":Str))=false
 rN:N[ir]?=some er
 lr:Loc sc er
 yN:N[0]?=some y
 vy:oK sc y
 dy:(y==(~~~3))=false
 cy:(y==("__classdict__":Str))=false
 ne:ie≠ir
 ie0:ie≠0
 ir0:ir≠0
theorem O8.try{P:Program}{w:World}{K:Frag}{mg:Str->Option Value}{base:Heap}{N:List Str}{qual:Str}{sc:Scope}{f:Addr}{cd:Value}{A:Around}{outer:List Env}{s:Shared}{H:Hp}{E:XK}{C D:Addr}{y ke en er:Str}{ie ir k:Nat}
  (T:O8 K mg sc N C D y ke en er ie ir) (hr:bW k (A.deeper (envOfC qual sc s⁻¹ f cd))):KZ (eF rW P w K mg base N qual sc f cd A outer s H E) C D y ke en er 0 ie ir:=
 ⟨rfl,rfl,rfl,rfl,rfl,T.nd,T.gk,T.mg,T.dk,T.qC,T.qD,T.up,T.kC,T.eN,T.le,T.de,T.ce,T.rN,T.lr,.inl rfl,T.yN,T.vy,T.dy,T.cy,by have:=hr.dp;show (A.deeper (envOfC qual sc s⁻¹ f cd)).depth<_;lia⟩
structure mQ(X:Cx)(qn:Str)(q c:Addr):Prop where
 hq:(q,qn)∈cF X.K
 hu:∀p∈cF X.K,p.1=q->p.2=qn
 hcode:X.env.code=.ref c
 hC:∀b:Heap,X.K.In b->PySem.W.CodeHd b c q
 hqn:X.env.qual ++ "<lambda>"=qn
 hbi:∀b:Heap,X.K.In b->b.BuiltinsAt X.mg q
 Vc:mainGlobals≠q
structure Lt where
 params:Arguments
 body:Expr
 scope:Scope
 pos:Pos
noncomputable abbrev Lt.ex(l:Lt):Expr:=.Lambda l.params l.body l.scope l.pos
def g9(X:Cx)(qn:Str)(M:List Addr)(H:Hp)(l:Lt)(v:V):Prop:=∃p c' fT cl,v=.ref p/\p∉M/\c'∉M/\H p=some (jU p (PySem.W.kla_obj "<lambda>" qn l.params l.body l.scope cl ((X.mg "__name__").getD .none) c' fT))/\H c'=some (fP qn c')/\
 (∀x c,cl.lookup x=some c->X.env.cells.lookup x=some c/\(x,NameKind.free)∈l.scope.names)/\∀y∈l.scope.names,y.2=.free->∃c,cl.lookup y.1=some c
theorem g9.stay(st:ak M H M' H')(h:g9 X qn M H l v):g9 X qn M' H' l v:=by obtain⟨p,c',fT,cl,e,n1,n2,h1,h2,h3⟩:=h;exact⟨p,c',fT,cl,e,(st _ _ h1 n1).2,(st _ _ h2 n2).2,(st _ _ h1 n1).1,(st _ _ h2 n2).1,h3⟩
inductive cR(X:Cx)(qn:Str)(M:List Addr)(H:Hp):List Lt->List V->Prop
 |nil:cR X qn M H [] []
 |cons {l:Lt}{ls:List Lt}{v:V}{vs:List V}:g9 X qn M H l v->cR X qn M H ls vs->cR X qn M H (l::ls) (v::vs)
theorem cR.stay(st:ak M H M' H')(h:cR X qn M H l v):cR X qn M' H' l v:=by
 induction h with
 |nil=>exact .nil
 |cons a _ ih=>exact .cons (a.stay st) ih
theorem cR.push(h:cR X qn M H l v)(e:g9 X qn M H x y):cR X qn M H (l++[x]) (v++[y]):=by
 induction h with
 |nil=>exact .cons e .nil
 |cons a _ ih=>exact .cons a ih
theorem cR.get(h:cR X qn M H l v):∀{i:Nat}{x:Lt},l[i]?=some x->∃y,v[i]?=some y/\g9 X qn M H x y:=by
 induction h with
 |nil=>intro i x e;cases e
 |cons a _ ih=>intro i x e;cases i with
  |zero=>cases (show some _=some x from e);exact⟨_,rfl,a⟩
  |succ i=>exact ih (i:=i) e
theorem cR.length(h:cR X qn M H l v):l.length=v.length:=by
 induction h with
 |nil=>rfl
 |cons _ _ ih=>exact congrArg (· + 1) ih
section
theorem S.ext(s:S z g O J M H)(h:H a=some (.ext f)):a∉M:=λhm=>by
 rcases s.live a hm with ⟨o,e,gr⟩ |e
 . rw[h]at e;cases e;exact gr
 . obtain⟨q,hq,rfl⟩:=i7.mp e;obtain⟨ps,h1,_⟩:=s.tab q hq;rw[h]at h1;cases h1
theorem S.O9(s:S z g O J M H){a:Addr}{xs xs':List V}(hm:a∈M)(hA:a∉J)(h0:z.H0 a=none)(h:H a=some (.lst xs)):S z g O J M (upd H a (.lst xs')):=s.M7 hm hA h0 h trivial trivial
noncomputable def Zf(X:Cx)(z:Z)(g:G)(qn:Str)(l:Lt):TE:=λO H Q=>∃J M,S z g O J M H/\∀v H',S z g O J M H'->ak M H M H'->g9 X qn M H' l v->(∀b xs,H b=some (.lst xs)->H' b=some (.lst xs))->Q v H'
theorem vm(hK:z.K=X.K)(mk:mQ X qn q c)(B:aN X.env.scope l.scope)(L:dH l.params l.scope):PE X l.ex (Zf X z g qn l):=by intro ah s O H Q I ⟨J,M,hs,hQ⟩;exact Cp I hs (by rw[hs.tt,hK];exact mk.hq) (by rw[hs.tt,hK];exact mk.hu) mk.hcode (mk.hC _ I.ok.mod.zQ) mk.hqn (mk.hbi _ I.ok.mod.zQ) mk.Vc (by rw[L.par];rfl) B λp c' fT cl H' s' I' S' st' np h1 h2 c1 c2 kl=>⟨.ref p,H',I',rfl,hQ _ H' S' st' ⟨p,c',fT,cl,rfl,np,S'.ext h2,h1,h2,c1,c2⟩ kl⟩
end
section
variable{st:Stmt}{rest:List Stmt}{f C D p c':Addr}
theorem Pa(hK:z.K=X.K)(hr:bW (k+2) X.A)(hcalm:X.calm=true)(Ff:Fz X.K fx qual st f fd)(d8:bz st=.Assign [.Name er yU] (.Constant .none j np) R5::Cv y ke en er py cpos0 nQ kp tK tH dw nR nP::rest)(Sc:bT Nf [y] (aB st))
  (hbd:L2.Binds X.K fd [y] []) (T:O8 X.K X.mg (aB st) Nf C D y ke en er ie ir) (L:dH params scope)
  (hbE:∀(Xf:Cx) (s:Shared) (H:Hp) (xe:Value->Shared->Prop) (zl:Z),Xf.prog=X.prog->Xf.w=X.w->Xf.K=X.K->Xf.mg=X.mg->Xf.base=X.base->bW (k+1) Xf.A->Xf.calm=true->PassesOwn (model Xf.prog Xf.w) (Xf.A.deeper (PySem.W.envX qn scope s⁻¹ p (.ref c') cl)) (PySem.W.envX qn scope s⁻¹ p (.ref c') cl) xe->zl.K=X.K->zl.bor=[]->rY (tE Xf N qn scope p (.ref c') cl s H xe) zl body g0 C Cr)
  (hrest:∀(bB:Value) (A:Around) (outer:List Env) (s:Shared) (H:Hp) (E:XK),PySem.W.codeIn X.K bB qual=true->bW k (A.deeper (envOfC qual (aB st) s⁻¹ f bB))->∀zf:Z,zf.K=X.K->zf.bor=[]->dF (eF rW X.prog X.w X.K X.mg X.base Nf qual (aB st) f bB A outer s H E).jJ zf rest ((List.replicate Nf.length .no).set ir (.dat (.kr C))) (.rt r) g3)
  (ho:cW [] g3 r=some r') (I1:L2.Inv X ah O H s) (S1:S z g O J M H) (hp1:H p=some (jU p (PySem.W.kla_obj "<lambda>" qn params body scope cl pm c' fT))) (hc1:H c'=some (fP qn c')) (Zg:jV N σ0 scope cl H s.heap) (hs0:Slots z.K M H g0 σ0 []) (hn0:∀(i:Nat) (l:List Ev.D),g0[i]?≠some (.own l))
  {us:List Value} (rv:Vals [.ref p] us) {E:Value->Shared->Prop}{Q:Value->Shared->Prop} (hQ:∀u v H' s' aA M',L2.Inv X ah O H' s'->RelV v u->S z g O aA M' H'->ak M H M' H'->cN z g O aA M' H' r' v->Q u s'):wpAny (~~~2) X.A (call (.ref f) us) Q E s:=by
 obtain⟨oc,od,kV,doc,pm,an,bB,ct,osl,rfl,lk,bY⟩:=Ff.ex;have aV:us.length=1:=by rw[<- rv.length];rfl
 refine CC (BD (Vj (CX:=rW) (k:=k+1) (N:=Nf) (Q:=λv H'=>∃aA M',S z g O aA M' H'/\ak M H M' H'/\cN z g O aA M' H' r' v) (E:=λ_ _ _=>False) lk bY Sc hr I1.Gu (by have:=hbd s us I1.kP (by rw[mI];exact aV);rw[mI]at this;exact this) rv rfl λs2 qqz=>?_) λrr s' hq'=>?_)
 ·
  rw[d8];have hr1:bW (k+1) (X.A.deeper (envOfC qual (aB st) s⁻¹ f bB)):=hr.deeper _;have hr2:bW k (X.A.deeper (envOfC qual (aB st) s⁻¹ f bB)):=hr1.mono (Nat.le_succ k);have TT:=T.try (P:=X.prog) (w:=X.w) (base:=X.base) (qual:=qual) (f:=f) (cd:=bB) (A:=X.A) (outer:=X.stack) (s:=s) (H:=H) (E:=λ_ _ _=>False) hr2
  have hNl:0<Nf.length:=(dE.mp T.yN).1;refine AL (l8 ((lM (X:=(eF rW X.prog X.w X.K X.mg X.base Nf qual (aB st) f bB X.A X.stack s H (λ_ _ _=>False)).wish λ_ _=>False) T.nd T.rN T.lr z8 rfl (.inl rfl)) [] s2 _ _ { nx:=λσ' H'=>σ'=(start Nf [.ref p]).set ir (some .non)/\H'=H,rt:=λ_ _=>False} (qqz.wish _) ⟨rfl,rfl⟩) (λfl s3 q3=>?_) λ_ _ z=>False.elim z)
  cases fl with
  |ret u=>obtain⟨_,_,_,_,_,q⟩:=q3;exact q.elim
  |brk=>obtain⟨_,_,_,q⟩:=q3;exact q.elim
  |cont=>obtain⟨_,_,_,q⟩:=q3;exact q.elim
  |next=>
   obtain⟨σ3,H3,I3,e1,e2⟩:=q3;subst e1 e2;have I3:=I3.cM;have len0:(start Nf [.ref p]).length=Nf.length:=by have:=qqz.len;exact this
   have Vk:Slots z.K M H3 (List.replicate Nf.length .no) (start Nf [.ref p]) []:=by rw[<- len0];exact Slots.Ze _
   have Vl:∀(i:Nat) (l:List Ev.D),(List.replicate Nf.length Slot.no)[i]?≠some (.own l):=λi l e=>by
    have:=l7 e;rw[xL]at this;cases this.2
   have S3:S (zN z M H3) (List.replicate Nf.length .no) (start Nf [.ref p]) [] M H3:=S.into S1 Vk Vl;obtain⟨mz,S4⟩:=S3.fB (i:=ir) (d:=.non) (v:=.non) (λh=>nomatch h) .non
   have hA4:mz=[]:=by
    have key:∀{g:G}{O:Sg}{J:List Addr},Slots z.K M H3 g O J->(∀(i:Nat) (l:List Ev.D),g[i]?≠some (.own l))->J=[]:=λq=>by
     induction q with
     |nil=>intro _;rfl
     |no _ ih=>intro h;exact ih λi l e=>h (i+1) l e
     |dat _ _ ih=>intro h;exact ih λi l e=>h (i+1) l e
     |own _ _ _ ih=>intro h;exact absurd rfl (h 0 _)
    refine key S4.sl λi l e=>?_
    by_cases hi:i=ir
    .
     subst hi;rw[fI (by rw[fA];exact (dE.mp T.rN).1)]at e
     cases e
    . rw[eD (oQ hi)]at e;exact Vl i l e
   subst hA4;have hy:((start Nf [.ref p]).set ir (some .non))[0]?=some (some (.ref p)):=by rw[eD T.ir0];rfl
   have jD:((List.replicate Nf.length Slot.no).set ir (.dat .non))[ie]?=some .no:=by rw[eD (oQ T.ne),AR,i5 (dE.mp T.eN).1]
   have un3:Un (frs X.stack) [] H3 H3 s.heap s3.heap:=I3.base;have R8:(zN z M H3).K=(eF rW X.prog X.w X.K X.mg X.base Nf qual (aB st) f bB X.A X.stack s H3 (λ_ _ _=>False)).K:=hK
   refine AL (Ir (zf:=zN z M H3) (g0:=g0) (σ0:=σ0) (N:=N) TT L I3 S4 R8 rfl rfl hy jD (λh=>nomatch h) T.ne hp1 hc1 (Zg.un un3) hs0 hn0
    (λxe hx=>hbE _ s3 H3 xe _ rfl rfl rfl rfl rfl hr1 rfl hx hK rfl) λs4 σ4 H4 M4 mz I4 S5 uQ=>?_)
   obtain⟨t,pt,kt⟩:=hrest bB X.A X.stack s H3 (λ_ _ _=>False) bY hr2 (zN z M H3) hK rfl
   rw[List.set_set]at S5;refine pt.jJ [] s4 σ4 H4 _ I4 (kt σ4 mz M4 H4 _ S5 λv σ5 Oh M5 H5 S6 YJ R6=>?_)
   obtain⟨M6,S7,YK,R7⟩:=S1.leave (rs:=[]) (vs:=[]) (gs:=[]) (gO:=g) .nil rfl wE S6 (uQ.trans YJ) R6 rfl ho;exact⟨_,M6,S7,YK,R7⟩
 .
  cases rr with
  |error ev=>exact False.elim hq'
  |ok YW=>
   cases YW with
   |ret u=>
    obtain⟨v,H',I',r1,aA,M',a,b,d⟩:=I1.after (Q:=λv H'=>∃aA M',S z g O aA M' H'/\ak M H M' H'/\cN z g O aA M' H' r' v) hq'
    exact hQ u v H' s' aA M' I' r1 a b d
   |next=>exact False.elim hq'
   |brk=>exact False.elim hq'
   |cont=>exact False.elim hq'
end
def vn(Y X:Cx)(z:Z)(g:G)(qn:Str)(l:Lt)(r':R)(f:Addr):Prop:=
 ∀{ah: ~~~1}{σ1 σ0:Sg}{H1:Hp}{s1:Shared}{g1:G}{J A0 M:List Addr}{p c':Addr}{cl:List (Str×Addr)}{pm fT:Value}{us:List Value}{Q E:Value->Shared->Prop},L2.Inv Y ah σ1 H1 s1->S z g1 σ1 J M H1->H1 p=some (jU p (PySem.W.kla_obj "<lambda>" qn l.params l.body l.scope cl pm c' fT))->H1 c'=some (fP qn c')->
  jV X.N σ0 l.scope cl H1 s1.heap->Slots z.K M H1 g σ0 A0->Vals [.ref p] us->(∀u v H' s' aA M',L2.Inv Y ah σ1 H' s'->RelV v u->S z g1 σ1 aA M' H'->ak M H1 M' H'->cN z g1 σ1 aA M' H' r' v->Q u s')->wpAny (model Y.prog Y.w) Y.A (call (.ref f) us) Q E s1
section
variable{st:Stmt}
theorem Iu(hK:z.K=X.K)(Ff:Fz X.K fx qual st f fd)(hg:Gl X fx)(hm:X.mg fx=some (.ref f))(iB:(fx==(~~~3))=false)(mk:mQ X qn q c)(B:aN X.env.scope l.scope)(L:dH l.params l.scope)(hcall:vn X X z g qn l r' f):az X z (.Call (.Name fx fp) [l.ex] [] bM) g r' g:=by
 refine⟨λO H Q=>∃J M,S z g O J M H/\∀v H' aA M',S z g O aA M' H'->ak M H M' H'->cN z g O aA M' H' r' v->Q v H',λah s O H Q I ⟨J,M,hs,hQ⟩=>?_,λO J M H Q s kq=>⟨J,M,s,λv H' aA M'=>kq v H' aA M'⟩⟩
 refine pV (d9 I hg hm ?_ iB);refine AA (h₀:=X.base) I.ok.mod.zQ Ff.kp (l8 ((bH (vm (z:=z) (g:=g) hK mk B L) fz rfl) bM ah s O H (λvs H'=>∃v,vs=[v]/\S z g O J M H'/\ak M H M H'/\g9 X qn M H' l v) I ⟨J,M,hs,λv H' a b d _=>⟨v,rfl,a,b,d⟩⟩) (λus s1 q1=>?_) λ_ _ z=>z) rfl rfl
 obtain⟨vs,H1,I1,rv,_,rfl,S1,cU,p,c',fT,cl,rfl,np1,nc1,hp1,hc1,yR,Io⟩:=q1;exact⟨I1.kP,hcall I1 S1 hp1 hc1 (wQ I1 B L.nl yR Io) S1.sl rv λu v H' s' aA M' I' r1 a b d=>⟨v,H',I',r1,hQ v H' aA M' a (cU.trans b) d⟩⟩
end
section
theorem Cw(hw:∀u,RelV w u->u=cv):dX X (.builtin "isinstance") (λxs H Q=>∃x M d b,xs=[x,w]/\Pk X.K M H d x/\PySem.W.kitOne X.K (zR d) cv=some b/\Q (.bl b) H):=by intro ah s O H xs us Q I r h;obtain⟨x,M,d,b,rfl,p,e,q⟩:=h;obtain⟨u,w',rfl,r1,r2⟩:=vals2 r;obtain rfl:=hw _ r2;exact Bm I p r1 e λtk=>⟨.bl b,H,I.tok tk,rfl,q⟩
theorem Cy(hK:z.K=X.K)(h:az X z a g r1 g1)(hp:pk r1 g1=some d)(he:∀M H v,Pk X.K M H d v->PySem.W.kitOne X.K (zR d) cv=some b)
  (hg:Gl X "isinstance") (hm:X.mg "isinstance"=none) (hv:bootBuiltins "isinstance"=some (.builtin "isinstance")) (hw:∀u,RelV w u->u=cv) (YC:PE X (.Name T pT) (tC w))
  (hs:starEach [a,.Name T pT] X.env=(false,eval a X.env)::starEach [.Name T pT] X.env):az X z (.Call (.Name "isinstance" p) [a,.Name T pT] [] pos) g (.dat (.bl b)) g1:=by
 obtain⟨t,q,k⟩:=h;refine⟨_,iY (Cw hw) hg hm hv (bH q (bH YC fz) hs) ⋯ ⋯ hs,λO J M H Q s kk=>k O J M H _ s λv H' aA M' s' st R=>?_⟩
 have p:=hK▸s'.pk (ak.refl _ _) R hp;exact⟨v,M',d,b,rfl,p,he _ _ _ p,kk _ H' aA M' s' st (.bl b)⟩
end
open L2 PySem.W
noncomputable def jE:Slot->Slot
 |.own l=>.dat (.lst l)
 |s=>s
noncomputable def flat:D->Bool
 |.non=>true
 |.bl _=>true
 |.int _=>true
 |.str _=>true
 |_=>false
theorem Rep.flat{K:Frag}{M M':List Addr}{H H':Hp}{d:D}{v:V}(r:Rep K M H d v)(h:Ev.flat d=true):Rep K M' H' d v:=by
 cases r with
 |non=>exact .non
 |bl b=>exact .bl b
 |int i=>exact .int i
 |str x=>exact .str x
 |_=>symm
section
variable{g g':G}
theorem Slots.atA{K:Frag}(q:Slots K M H g O J){a:Addr}(h:a∈J):∃(i:Nat) (l:List D) (xs:List V),g[i]?=some (Slot.own l)/\O[i]?=some (some (V.ref a))/\H a=some (.lst xs):=by
 induction q with
 |nil=>symm
 |no _ ih=>obtain⟨i,l,xs,h1,h2,h3⟩:=ih h;exact⟨i+1,l,xs,h1,h2,h3⟩
 |dat _ _ ih=>obtain⟨i,l,xs,h1,h2,h3⟩:=ih h;exact⟨i+1,l,xs,h1,h2,h3⟩
 |own e _ _ ih=>
  rcases dL.mp h with rfl |h
  . exact⟨0,_,_,rfl,rfl,e⟩
  . obtain⟨i,l,xs,h1,h2,h3⟩:=ih h;exact⟨i+1,l,xs,h1,h2,h3⟩
theorem Slots.jE{K:Frag}{M0:List Addr}(q:Slots K M H g O J)(hl:∀m∈M0,m∈M)(hn:∀a∈J,a∉M0):Slots K M0 H (g.map Ev.jE) O []:=by
 induction q with
 |nil=>exact .nil
 |no _ ih=>exact .no (ih hn)
 |dat r _ ih=>exact .dat (r.stay (ak.less hl)) (ih hn)
 |own e r _ ih=>exact .dat (.lst ⟨hn _ dA,e⟩ (r.stay (ak.less hl))) (ih λa ha=>hn a (b0 _ ha))
theorem Iv{i:Nat}{l:List D}(h:(g.map Ev.jE)[i]?=some (.own l)):False:=by
 rw[t5]at h;cases e:g[i]? with
 |none=>rw[e]at h;symm
 |some u=>rw[e]at h;cases u <;> symm
theorem S.h0(s:S z g O J M H)(hb:z.bor=[])(h:a∈J):z.H0 a=none:=by
 obtain⟨i,l,xs,h1,h2,_⟩:=s.sl.atA h;rcases s.own i a l h1 h2 with ⟨q,_⟩ |q
 . rw[hb]at q;cases q
 . exact q
theorem S.Pb(s:S z g O J M H)(hb:z.bor=[]):S z (g.map Ev.jE) O [] (M.filter λm=>decide (m∉J)) H where
 sl:=s.sl.jE (λm hm=>(hV.mp hm).1) λa ha hm=>by have:=(hV.mp hm).2;simp at this;exact this ha
 nd:=wE
 sub:=λa h=>nomatch h
 own:=λi a l e _=>(Iv e).elim
 live:=λm hm=>s.live m (hV.mp hm).1
 keep:=s.keep
 gR:=λm hm=>hV.mpr ⟨s.gR m hm,by
  have:m∉J:=λh=>s.m0 m hm (s.h0 hb h)
  simpa using this⟩
 m0:=s.m0
 bm:=s.bm
 iR:=λp hp=>by
  have:p.1∈z.bor:=r6 (f:=(·.1)) hp;rw[hb]at this;cases this
 tab:=s.tab
 tm:=s.tm
 tt:=s.tt
theorem S.Zh(s:S z g O J M H)(hb:z.bor=[]){g1:G}{σ1:Sg}(s1:S z g1 σ1 aO M1 H1)(st:ak (M.filter λm=>decide (m∉J)) H M1 H1):S z g O J (J++M1) H1/\ak M H (J++M1) H1:=by
 have nA:∀a∈J,a∉M.filter λm=>decide (m∉J):=λa ha hm=>by have:=(hV.mp hm).2;simp at this;exact this ha
 have stM:ak M H (J++M1) H1:=λb o e hb'=>by
  have h1:=st b o e λhm=>hb' (hV.mp hm).1
  refine⟨h1.1,λhm=>?_⟩
  rcases sB.mp hm with hm |hm
  . exact hb' (s.sub b hm)
  . exact h1.2 hm
 have lists:∀a∈J,∃xs,H1 a=some (.lst xs):=λa ha=>by
  obtain⟨_,_,xs,_,_,e⟩:=s.sl.atA ha;exact⟨xs,(st a _ e (nA a ha)).1⟩
 refine⟨⟨s.sl.stay stM λa ha o e=>(st a o e (nA a ha)).1,s.nd,λa ha=>AI _ ha,s.own,λm hm=>?_,s1.keep,λm hm=>kA _ (s1.gR m hm),s.m0,s.bm,s.iR,s1.tab,s.tm,s.tt⟩,stM⟩
 rcases sB.mp hm with hm |hm
 . obtain⟨xs,e⟩:=lists m hm;exact .inl ⟨_,e,trivial⟩
 . exact s1.live m hm
theorem Iw(hb:z.bor=[])(hf:Ev.flat d=true)(h:az X z e (g.map Ev.jE) (.dat d) g1):az X z e g (.dat d) g:=by
 obtain⟨t,q,k⟩:=h;refine⟨t,q,λO J M H Q s kk=>k O [] _ H Q (s.Pb hb) λv H1 aO M1 s1 st R=>?_⟩
 obtain⟨a,b⟩:=s.Zh hb s1 st;exact kk v H1 J _ a b (Rep.flat R hf)
end
def LL(X:Cx)(z:Z)(g:G)(qn:Str)(ic:Nat)(M0:List Addr)(H0:Hp)(ls:List Lt)(O:Sg)(H:Hp):Prop:=
 ∃J M a vs,S z g O J M H/\ak M0 H0 M H/\O[ic]?=some (some (.ref a))/\a∈M/\a∉J/\z.H0 a=none/\H a=some (.lst vs)/\cR X qn M H ls vs
theorem vo{n:Nat}(h:n<1000):n<=sizeLine:=by rw[rV];lia
section
theorem yV(hK:z.K=X.K)(mk:mQ X qn q c)(B:aN X.env.scope l.scope)(L:dH l.params l.scope)(hN:X.N.Nodup)(hi:X.N[ic]?=some y)(hx:Loc X.env.scope y)(hf:X.fn y=true\/X.env.scope.names.lookup y=some .local)(hg:g[ic]?=some .no) :
  ∃t,PS X (.Assign [.Name y py] (.List [l.ex] lp) pos) t/\∀O J M H (E:Ends),S z g O J M H->(∀σ' H',LL X z g qn ic M H [l] σ' H'->E.nx σ' H')->t E O H:=by
 refine⟨_,lM hN hi hx (Al (bH (vm (z:=z) (g:=g) hK mk B L) fz rfl)) rfl hf,λO J M H E s kE=>⟨J,M,s,λv H' s' st' la kl=>⟨vo (show 1<1000 by decide),λp hp=>kE _ _ ?_⟩⟩⟩
 have s2:=s'.bf (xs:=[v]) hp;have hl:ic<O.length:=by rw[<- s.sl.length];exact (dE.mp hg).1
 have aP:ak M H' (p::M) (upd H' p (.lst [v])):=ak.bf hp;exact⟨J,p::M,p,[v],s2.pG hg,st'.trans aP,fI hl,dA,λh=>s'.fresh hp (s'.sub p h),s'.dB hp,aC,.cons (la.stay aP) .nil⟩
theorem vq(hK:z.K=X.K)(mk:mQ X qn q c)(B:aN X.env.scope l.scope)(L:dH l.params l.scope)(hi:X.N[ic]?=some y)(hv:oK X.env.scope y)(hd:(y==(~~~3))=false)(bY:(y==("__classdict__":Str))=false)(hls:ls.length<1000)(hline:(dw.endLine==bM.line)=true) :
  ∃t,PS X (.Expr (.Call (.Attribute (.Name y pn) "append" dw) [l.ex] [] bM) pos) t/\∀O H M0 H0 (E:Ends),LL X z g qn ic M0 H0 ls O H->(∀H',LL X z g qn ic M0 H0 (ls++[l]) O H'->E.nx O H')->t E O H:=by
 refine⟨_,qi (Ky PySem.F.plainAttrs_list PySem.F.slot_list_append PySem.F.type_list_append jL (fW hi hv hd bY) (bH (vm (z:=z) (g:=g) hK mk B L) fz rfl) rfl rfl hline rfl rfl) rfl,λO H M0 H0 E h kE=>?_⟩
 obtain⟨J,M,a,vs,s,st,e1,hm,hA,h0,ha,la⟩:=h;refine⟨.ref a,e1,.inl ⟨rfl,vs,cG.of ha⟩,J,M,s,λv H' s' st' la' kl=>⟨a,vs,v,rfl,rfl,kl a vs ha,by rw[<- la.length,rV];lia,kE _ ?_⟩⟩
 exact⟨J,M,a,vs++[v],s'.O9 hm hA h0 (kl a vs ha),(st.trans st').trans (ak.write hm),e1,hm,hA,h0,aC,((la.stay st').push la').stay (ak.write hm)⟩
end
theorem jV.un'(c:jV N O scope cl H h)(u:Un fs ex H H' h h')(hx:∀x a,cl.lookup x=some a->a∉ex):jV N O scope cl H' h':=by
 have key:∀x a v,cl.lookup x=some a->h.IsCell a v->h'.IsCell a v:=λx a v e ⟨o,e1,d⟩=>by
  obtain⟨sl,e2⟩:=u.any e1 (c.cell x a e).1 (hx x a e);exact⟨_,e2,d⟩
 refine⟨c.inj,c.has,λx a e=>?_,λi x v h1 h2 h3=>?_,c.len⟩
 . obtain⟨hn,v,o,e1,d⟩:=c.cell x a e;exact⟨u.free a o e1 hn (hx x a e),v,key x a v e ⟨o,e1,d⟩⟩
 . obtain⟨f,w,a,r,e,z⟩:=c.loc i x v h1 h2 h3;exact⟨f,w,a,r,e,key x a _ e z⟩
noncomputable def Zi:R->Option D
 |.dat d=>some d
 |.new l=>some (.lst l)
 |.var _=>none
theorem vt(s:S z g O J M H)(h:cN z g O J M H r v)(e:Zi r=some d):∃M',S z g O J M' H/\ak M H M' H/\Rep z.K M' H d v:=by
 cases r with
 |dat d'=>cases e;exact⟨M,s,ak.refl _ _,h⟩
 |var i=>cases e
 |new l=>
  cases e;obtain⟨a,xs,rfl,hm,hA,h0,ha,rr⟩:=h;have hM:∀m∈(M.filter λm=>decide (m≠a)),m∈M:=λm hm=>(hV.mp hm).1
  have na:a∉(M.filter λm=>decide (m≠a)):=λhm=>by
   have:=(hV.mp hm).2;simp at this
  exact⟨_,s.drop h0 hA,ak.less hM,.lst ⟨na,ha⟩ (rr.stay (ak.less hM))⟩
section
def mR(X:Cx)(z:Z)(g:G)(qn:Str)(N':List Str)(iv:Nat)(scope:Scope)(gP:Expr)(l:Lt)(d:D):Prop:=
 ∀(bk:Bk) (O:Sg),Uh X O bk->∀(gb:G) (σb:Sg) (Ab Mb:List Addr) (Hb:Hp) (v:V) (A1:List Addr) (Q:VK),S z gb σb Ab Mb Hb->σb[iv]?=some (some v)->Slots z.K Mb Hb g O A1->g9 X qn Mb Hb l v->
  (∀v' H' aA M',S z gb σb aA M' H'->ak Mb Hb M' H'->Rep z.K M' H' d v'->Q v' H')->Hv (X.blk N' scope bk) gP σb Hb Q
theorem Ph{l:Lt}{r':R}{d:D}{v fx qual:Str}{fp vp cp:Pos}{st:Stmt}{f:Addr}{fd:FuncData}(B:aN X.env.scope l.scope)(L:dH l.params l.scope)(Ff:Fz X.K fx qual st f fd)(hm:X.mg fx=some (.ref f))(iB:(fx==(~~~3))=false)
  (hg:∀bk:Bk,Gl (X.blk N' scope bk) fx) {iv:Nat} (hix:N'[iv]?=some v) (hv:∀bk:Bk,oK (X.blk N' scope bk).env.scope v) (hd:(v==(~~~3))=false) (bY:(v==("__classdict__":Str))=false)
  (hcall:∀bk:Bk,vn (X.blk N' scope bk) X z g qn l r' f) (hr:Zi r'=some d):mR X z g qn N' iv scope (.Call (.Name fx fp) [.Name v vp] [] cp) l d:=by
 intro bk O Zj gb σb Ab Mb Hb v0 A1 Q s0 hσ sl la kQ;refine⟨λσ' H' Q'=>∃J M A0,S z gb σ' J M H'/\σ'[iv]?=some (some v0)/\Slots z.K M H' g O A0/\g9 X qn M H' l v0/\∀v' H2 aA M',S z gb σ' aA M' H2->ak M H' M' H2->Rep z.K M' H2 d v'->Q' v' H2,?_,Ab,Mb,A1,s0,hσ,sl,la,kQ⟩
 intro ah s1 σ' H' Q' I ⟨J,M,A0,S1,hv0,Vk,la0,kQ0⟩;refine pV (d9 I (hg bk) hm ?_ iB);refine AA (h₀:=X.base) I.ok.mod.zQ Ff.kp (l8 ((bH (fW (X:=X.blk N' scope bk) hix (hv bk) hd bY) fz rfl) cp ah s1 σ' H' (λvs H1=>vs=[v0]/\H1=H') I ⟨v0,hv0,rfl,rfl⟩) (λus s2 q1=>?_) λ_ _ z=>z) rfl rfl
 obtain⟨vs,H1,I1,rv,rfl,rfl⟩:=q1;obtain⟨p,c',fT,cl,rfl,np1,nc1,hp1,hc1,yR,Io⟩:=la0;obtain⟨pins0,I0,f0⟩:=Zj;have C0:jV X.N O l.scope cl H1 s2.heap:=(wQ I0 B L.nl yR Io).un' I1.base λx a e hb=>(f0 a hb).2.2.2.2.1 x a (yR x a e).1 rfl
 refine⟨I1.kP,hcall bk I1 S1 hp1 hc1 C0 Vk rv λu v H' s' aA M' I' r1 a b d'=>?_⟩
 obtain⟨M2,s3,gG,R3⟩:=vt a d' hr;exact⟨v,H',I',r1,kQ0 v H' aA M2 s3 (b.trans gG) R3⟩
inductive dG(P:Lt->D->Prop):List Lt->List D->Prop
 |nil:dG P [] []
 |cons {l:Lt}{ls:List Lt}{d:D}{ds:List D}:P l d->dG P ls ds->dG P (l::ls) (d::ds)
theorem dG.get(h:dG P ls ds):∀{i:Nat}{l:Lt},ls[i]?=some l->∃d,ds[i]?=some d/\P l d:=by
 induction h with
 |nil=>intro i l e;cases e
 |cons a _ ih=>intro i l e;cases i with
  |zero=>cases (show some _=some l from e);exact⟨_,rfl,a⟩
  |succ i=>exact ih (i:=i) e
theorem dG.length(h:dG P ls ds):ls.length=ds.length:=by
 induction h with
 |nil=>rfl
 |cons _ _ ih=>exact congrArg (· + 1) ih
theorem vv(hj:j<k)(hN:Names X.N N' scope k)(B:aN X.env.scope scope)(hc:X.calm=true)(hi:X.N[ic]?=some y)(hv:oK X.env.scope y)(hd:(y==(~~~3))=false)(bY:(y==("__classdict__":Str))=false)
  (hx:∀b:Bk,Bs (X.blk N' scope b) x (X.N.length+j)) (K1:g.length=X.N.length) (hls:ls.length<1000) (he:dG (mR X z g qn N' (X.N.length+j) scope gP) ls ds) :
  ∃t,PE X (.ListComp gP [⟨.Name x px,.Name y py,[],0⟩] scope pos) t/\∀O H M0 H0 Q,LL X z g qn ic M0 H0 ls O H->Kn z g O M0 H0 (.new ds) Q->t O H Q:=by
 refine⟨_,wB (k:=k) (wi:=Ks X.K (Tc ic)) B hc hN (qk (fW hi hv hd bY)) (λb=>⟨qj (hx b).nd (hx b).ix (hx b).lc (hx b).fn,sH,uY⟩) (λ_=>rfl),λO H M0 H0 Q h kq=>?_⟩
 obtain⟨J,M,a,vs,s,st,e1,hm,hA,h0,ha,la⟩:=h;have hM:∀m∈(M.filter λm=>decide (m≠a)),m∈M:=λm hm=>(hV.mp hm).1
 have na:a∉(M.filter λm=>decide (m≠a)):=λhm=>by
  have:=(hV.mp hm).2;simp at this
 have s1:=s.drop h0 hA;have cU:=st.trans (ak.less (H:=H) hM);have la1:=la.stay (ak.less (H:=H) hM);generalize (M.filter λm=>decide (m≠a))=M1 at na s1 cU la1
 refine⟨.ref a,e1,a,rfl,⟨vs,cG.of ha⟩,λD hD=>?_⟩
 have hl:g.length=O.length:=s.sl.length;have hlN:O.length=X.N.length:=hl.symm.trans K1;have h0D:z.H0 D=none:=s1.dB hD;have nA:D∉J:=λh=>s1.fresh hD (s1.sub D h)
 have sb:=(s1.bf (xs:=[]) hD).extend (k:=k) (l:=[]) dA nA h0D aC .nil;refine⟨λi m σ' H'=>i+m=ls.length/\∃Ab Mb w,S z (g++(List.replicate k .no++[.own (ds.take i)])) σ' Ab Mb H'/\ak M1 H Mb H'/\w.length=k/\σ'=O++(w++[some (.ref D)]),⟨ls.length,Nat.zero_add _,_,_,_,sb,ak.bf hD,fA,rfl⟩,?_⟩
 rintro i m σ' H' ⟨him,Ab,Mb,w,s2,aP,hw,rfl⟩;have ha2:=aP _ _ ha na;have la2:=la1.stay aP;have o9:∀w:List (Option V),w.length=k->(O++(w++[some (V.ref D)]))[g.length+k]?=some (some (V.ref D)):=λw hw=>by rw[hl,d5 (xI _ _),i9,d5 ⋯,hw,BI];rfl
 have wR:∀l,(g++(List.replicate k Slot.no++[Slot.own l]))[g.length+k]?=some (.own l):=λl=>by rw[d5 (xI _ _),i9,d5 (by rw[fA];exact eA _),fA,BI];rfl
 cases e:ls[i]? with
 |none=>
  have hi':i=ls.length:=by have:=yB.mp e;lia
  refine .inl ⟨⟨vs,cG.of ha2.1,by rw[<- la.length,hi'];exact eA _⟩,?_⟩
  rw[A9 (by rw[<- he.length,hi'];exact eA _)]at s2
  obtain⟨b,xs,f1,f2,f3,f4⟩:=s2.sl.at (wR ds);rw[o9 w hw]at f1;injection f1 with f1;injection f1 with f1;injection f1 with f1;subst f1;obtain⟨A1,s3,m3,n3⟩:=s2.shrink (λp hp=>(dE.mp (s.iR p hp).1).1) (i:=g.length+k) ⋯ (wR ds) (o9 w hw)
  rw[List.take_append_of_le_length ⋯,A9 ⋯]at s3;exact kq _ H' A1 Mb s3 (cU.trans aP) ⟨D,xs,rfl,m3,n3,h0D,f3,f4⟩
 |some l=>
  obtain⟨v,ev,lv⟩:=la2.get e;obtain⟨d,ed,hE⟩:=he.get e;refine .inr ⟨⟨vs,v,cG.of ha2.1,ev⟩,λσ' H'=>∃Ab Mb w,S z (g++(List.replicate k .no++[.own (ds.take (i+1))])) σ' Ab Mb H'/\ak M1 H Mb H'/\w.length=k/\σ'=O++(w++[some (.ref D)]),λW0 W2 hN=>⟨m - 1,by have:=(dE.mp e).1;lia,by have:=(dE.mp e).1;lia,hN⟩,λx' H2 hx' bk Zj=>?_⟩
  obtain⟨rfl,hy⟩:=hx';have:=hy vs (cG.of ha2.1);rw[ev]at this;cases this;have Zm:(w.set j (some v)).length=k:=by rw[kS];exact hw
  have es:(O++(w++[some (V.ref D)])).set (X.N.length+j) (some v)=O++(w.set j (some v)++[some (V.ref D)]):=by rw[<- hlN,t9 _ _ (xI _ _),i9,BS _ _ ⋯]
  have s3:S z (g++(List.replicate k .no++[.own (ds.take i)])) (O++(w.set j (some v)++[some (V.ref D)])) Ab Mb H2:=by rw[<- es];exact s2.pG (by rw[<- K1,d5 (xI _ _),i9,eJ (by rw[fA];exact hj),AR,i5 hj])
  obtain⟨σ1,σ2,A1,A2,c1,c2,c3,c4⟩:=s3.sl.split;obtain⟨rfl,_⟩:=List.append_inj c1 (hl.symm.trans c3.length);unfold v9 KC;dsimp only;rw[i5 rfl];show Hv _ gP ((O++(w++[some (V.ref D)])).set (X.N.length+j) (some v)) H2 _;rw[es];refine hE bk O Zj _ _ Ab Mb H2 v A1 _ s3 (by rw[<- hlN,d5 (xI _ _),i9,eJ ⋯,fI ⋯]) c3 lv λv' H3 jF M3 s4 sV R4=>?_
  obtain⟨b,xs,f1,f2,f3,f4⟩:=s4.sl.at (wR (ds.take i));rw[o9 _ Zm]at f1;injection f1 with f1;injection f1 with f1;injection f1 with f1;subst f1;have ht:ds.take (i+1)=ds.take i++[d]:=by rw[List.take_add_one,ed];rfl
  obtain⟨s5,uQ⟩:=s4.write (l':=ds.take (i+1)) (wR _) (o9 _ Zm) (by rw[ht];exact f4.append (.cons R4 .nil))
  have eg:(g++(List.replicate k Slot.no++[Slot.own (ds.take i)])).set (g.length+k) (.own (ds.take (i+1)))=g++(List.replicate k Slot.no++[Slot.own (ds.take (i+1))]):=by rw[t9 _ _ (xI _ _),i9,t9 _ _ (by rw[fA];exact eA _),fA,BI];rfl
  rw[eg]at s5;refine⟨xs,f3,?_,jF,M3,_,s5,(aP.trans sV).trans uQ,Zm,rfl⟩;rw[<- f4.length,rV,u7];have:=Nat.min_le_right i ds.length;rw[<- he.length]at this ⊢
  lia
theorem tL(hj:j<k)(hN:Names X.N N' scope k)(B:aN X.env.scope scope)(hc:X.calm=true)(hi:X.N[ic]?=some y)(hv:oK X.env.scope y)(hd:(y==(~~~3))=false)(bY:(y==("__classdict__":Str))=false)
  (hx:∀b:Bk,Bs (X.blk N' scope b) x (X.N.length+j)) (hls:ls.length<1000) (he:dG (mR X z g qn N' (X.N.length+j) scope gP) ls ds) :
  ∃t,PE X (.ListComp gP [⟨.Name x px,.Name y py,[],0⟩] scope pos) t/\∀O H M0 H0 Q,LL X z g qn ic M0 H0 ls O H->Kn z g O M0 H0 (.new ds) Q->t O H Q:=by
 by_cases K1:g.length=X.N.length
 . exact vv hj hN B hc hi hv hd bY hx K1 hls he
 .
  refine⟨λO H Q=>O.length≠X.N.length,λah s O H Q I h=>absurd I.len h,λO H M0 H0 Q h _ e=>?_⟩
  obtain⟨J,M,a,vs,s,_⟩:=h;exact K1 (s.sl.length.trans e)
end
inductive Pj(X:Cx):List Stmt->List TS->Prop
 |nil:Pj X [] []
 |cons {s:Stmt}{ss:List Stmt}{t:TS}{ts:List TS}:PS X s t->Pj X ss ts->Pj X (s::ss) (t::ts)
def Iz:List TS->TS->TS
 | [],u=>u
 |t::ts,u=>Tj t (Iz ts u)
theorem Pj.Zn{X:Cx}{ss rest:List Stmt}{ts:List TS}{u:TS}(h:Pj X ss ts)(hu:qg X rest u):qg X (ss++rest) (Iz ts u):=by
 induction h with
 |nil=>exact hu
 |cons a _ ih=>exact dU a ih
def mS(X:Cx)(z:Z)(ss:List Stmt)(g:G)(f:Fl)(g':G):Prop:=
 ∃ts,Pj X ss ts/\∀(u:TS) O J M H (E:Ends),S z g O J M H->kB z M H { E with nx:=u E} g' f->Iz ts u E O H
theorem mS.lift(h:mS X.jJ z ss g f g'):mS X z ss g f g':=by
 obtain⟨ts,q,k⟩:=h;refine⟨ts,?_,k⟩;clear k
 induction q with
 |nil=>exact .nil
 |cons a _ ih=>exact .cons (λah s O H D I hw=>l8 (a ah s O H D (I.wish _) hw) (λ_ _ q=>q.cM) λ_ _ z=>False.elim z) ih
theorem mS.bk{X:Cx}{z:Z}{ss rest:List Stmt}{g g1 g':G}{f:Fl}(h:mS X z ss g .nx g1)(h2:dF X z rest g1 f g'):dF X z (ss++rest) g f g':=by obtain⟨t2,q2,k2⟩:=h2;obtain⟨t,q,k⟩:=h;exact⟨_,q.Zn q2,λO J M H E s kE=>k t2 O J M H E s λσ' aA M' H' s' st=>k2 σ' aA M' H' E s' (kE.trans st)⟩
theorem mS.end{X:Cx}{z:Z}{ss rest:List Stmt}{g g':G}{f:Fl}(h:mS X z ss g f g')(hn:f≠.nx):dF X z (ss++rest) g f g':=by
 obtain⟨t,q,k⟩:=h;refine⟨_,q.Zn aY,λO J M H E s kE=>k _ O J M H E s ?_⟩
 cases f with
 |nx=>exact absurd rfl hn
 |rt r=>exact kE
 |bk=>exact kE
 |ct=>exact kE
theorem mS.ra{X:Cx}{z:Z}{ss rest:List Stmt}{g g1 g':G}{C:Addr}(h:mS X z ss g .nx g1)(h2:HJ X z rest g1 C g'):HJ X z (ss++rest) g C g':=by obtain⟨t2,q2,k2⟩:=h2;obtain⟨t,q,k⟩:=h;exact⟨_,q.Zn q2,λO J M H E s kE=>k t2 O J M H E s λσ' aA M' H' s' st=>k2 σ' aA M' H' E s' (kE.trans st)⟩
def LsOk(X:Cx)(z:Z)(qn:Str)(ic:Nat)(ls:List Lt)(st:Stmt)(g:G)(f:Fl)(g':G):Prop:=
 ∃t,PS X st t/\∀O H M0 H0 (E:Ends),LL X z g qn ic M0 H0 ls O H->kB z M0 H0 E g' f->t E O H
inductive vA(y:Str):List Stmt->List Lt->Prop
 |nil:vA y [] []
 |cons {l:Lt}{ls:List Lt}{ss:List Stmt}{pn dw bM pos:Pos}:(dw.endLine==bM.line)=true->vA y ss ls->vA y (.Expr (.Call (.Attribute (.Name y pn) "append" dw) [l.ex] [] bM) pos::ss) (l::ls)
section
variable{st:Stmt}
theorem vB(hK:z.K=X.K)(mk:mQ X qn q c)(hi:X.N[ic]?=some y)(hv:oK X.env.scope y)(hd:(y==(~~~3))=false)(bY:(y==("__classdict__":Str))=false):∀{ms ls:List Lt},vA y ss ms->(∀m∈ms,aN X.env.scope m.scope/\dH m.params m.scope)->ls.length+ms.length<1000->
  LsOk X z qn ic (ls++ms) st g f g'->∃ts,Pj X (ss++[st]) ts/\∀(u:TS) O H M0 H0 (E:Ends),LL X z g qn ic M0 H0 ls O H->kB z M0 H0 { E with nx:=u E} g' f->Iz ts u E O H:=by
 induction ss with
 |nil=>intro ms ls ha _ _ ⟨t,q,k⟩;cases ha;rw[mI]at k;exact⟨[t],.cons q .nil,λu O H M0 H0 E h kE=>k O H M0 H0 { E with nx:=u E} h kE⟩
 |cons s ss ih=>
  intro ms ls ha hm hl hs;cases ha with
  |@cons m ms _ pn dw bM pos' e ha=>
   obtain⟨B,L⟩:=hm m dA;obtain⟨t1,q1,k1⟩:=vq (z:=z) (g:=g) (ls:=ls) (pos:=pos') (pn:=pn) hK mk B L hi hv hd bY ⋯ e;obtain⟨t2,q2,k2⟩:=ih (ls:=ls++[m]) ha (λm h=>hm m (b0 _ h)) (by simp at hl ⊢;lia) (by rw[List.append_assoc];exact hs)
   exact⟨t1::t2,.cons q1 q2,λu O H M0 H0 E h kE=>k1 O H M0 H0 _ h λH' h'=>k2 u O H' M0 H0 E h' kE⟩
theorem kD(hK:z.K=X.K)(mk:mQ X qn q c)(hN:X.N.Nodup)(hi:X.N[ic]?=some y)(hx:Loc X.env.scope y)(hf:X.fn y=true\/X.env.scope.names.lookup y=some .local)(hv:oK X.env.scope y)(hd:(y==(~~~3))=false)(bY:(y==("__classdict__":Str))=false)(hg:g[ic]?=some .no)
  {ss:List Stmt} (ha:vA y ss ls) (hm:∀m∈l::ls,aN X.env.scope m.scope/\dH m.params m.scope) (hl:ls.length<900) (hs:LsOk X z qn ic (l::ls) st g f g'):mS X z (.Assign [.Name y py] (.List [l.ex] lp) pos::(ss++[st])) g f g':=by
 obtain⟨B,L⟩:=hm l dA;obtain⟨t1,q1,k1⟩:=yV (z:=z) (g:=g) (py:=py) (lp:=lp) (pos:=pos) hK mk B L hN hi hx hf hg;obtain⟨t2,q2,k2⟩:=vB (ls:=[l]) hK mk hi hv hd bY ha (λm h=>hm m (b0 _ h)) (by simp;lia) hs
 exact⟨t1::t2,.cons q1 q2,λu O J M H E s kE=>k1 O J M H _ s λσ' H' h'=>k2 u σ' H' M H E h' kE⟩
theorem Cz(h1:∃t,PE X Pn t/\∀O H M0 H0 Q,LL X z g qn ic M0 H0 ls O H->Kn z g O M0 H0 (.new ds) Q->t O H Q)(h2:az X z oh g r2 g2)(p2:pk r2 g2=some d2)(ho:ku X z (compareOp op) (.lst ds) d2 (.dat (.bl b)))(hm:behindInMarks op oh=false)
  (hb:dF X z (if b then body else []) g2 f g'):LsOk X z qn ic ls (.If (.Compare Pn [op] [oh] bM) body [] pos) g f g':=by
 obtain⟨t1,q1,k1⟩:=h1;obtain⟨t2,q2,k2⟩:=h2;obtain⟨rr,o,ko⟩:=ho;obtain⟨t3,q3,k3⟩:=hb;have go:∀O H M0 H0 (Q:Bool->Hp->Prop),LL X z g qn ic M0 H0 ls O H->(∀H' aA M',S z g2 O aA M' H'->ak M0 H0 M' H'->Q b H')->t1 O H λv1 H1=>t2 O H1 λv2 H2=>rr v1 v2 H2 λv H3=>∃c,v=.bl c/\Q c H3:=λO H M0 H0 Q h kQ=>
  k1 O H M0 H0 _ h λv1 H1 aO M1 s1 cU R1=>by
   obtain⟨Zo,s1',Pp,Zq⟩:=vt s1 R1 rfl;exact k2 O aO Zo H1 _ s1' λv2 H2 bx M2 s2 aP R2=>ko g2 O bx M2 H2 v1 v2 _ s2 (.of (Zq.stay aP)) (s2.pk (ak.refl _ _) R2 p2) λv H' aA M' s' st' R'=>⟨b,eu R',kQ H' aA M' s' (((cU.trans Pp).trans aP).trans st')⟩
 cases b with
 |true=>exact⟨_,lK (qm o q1 q2 hm) q3 aY,λO H M0 H0 E h kE=>go O H M0 H0 _ h λH' aA M' s' st'=>jN (k3 O aA M' H' E s' (kE.trans st'))⟩
 |false=>exact⟨_,lK (qm o q1 q2 hm) aY q3,λO H M0 H0 E h kE=>go O H M0 H0 _ h λH' aA M' s' st'=>nX (k3 O aA M' H' E s' (kE.trans st'))⟩
theorem yW(h1:∃t,PE X Pn t/\∀O H M0 H0 Q,LL X z g qn ic M0 H0 ls O H->Kn z g O M0 H0 (.new ds) Q->t O H Q)(h2:az X z oh g r2 g2)(p2:pk r2 g2=some d2)(ho:ku X z (compareOp op) (.lst ds) d2 (.dat (.bl b)))(hm:behindInMarks op oh=false) :
  LsOk X z qn ic ls (.Return (some (.Compare Pn [op] [oh] bM)) pos) g (.rt (.dat (.bl b))) g2:=by
 obtain⟨t1,q1,k1⟩:=h1;obtain⟨t2,q2,k2⟩:=h2;obtain⟨rr,o,ko⟩:=ho;refine⟨_,uN (lu o q1 q2 hm),λO H M0 H0 E h kE=>k1 O H M0 H0 _ h λv1 H1 aO M1 s1 cU R1=>?_⟩
 obtain⟨Zo,s1',Pp,Zq⟩:=vt s1 R1 rfl;exact k2 O aO Zo H1 _ s1' λv2 H2 bx M2 s2 aP R2=>ko g2 O bx M2 H2 v1 v2 _ s2 (.of (Zq.stay aP)) (s2.pk (ak.refl _ _) R2 p2) λv H' aA M' s' st' R'=>kE v O aA M' H' s' (((cU.trans Pp).trans aP).trans st') R'
end
inductive IK(z:Z)(J M:List Addr)(H:Hp):List Addr->List (List D)->Prop
 |nil:IK z J M H [] []
 |cons {p:Addr}{as:List Addr}{xs:List V}{l:List D}{ll:List (List D)}:p∈M->p∉J->z.H0 p=none->H p=some (.lst xs)->aJ z.K M H l xs->IK z J M H as ll->IK z J M H (p::as) (l::ll)
def Rows(z:Z)(g:G)(iy:Nat)(M0:List Addr)(H0:Hp)(ll:List (List D))(O:Sg)(H:Hp):Prop:=
 ∃J M a as,S z g O J M H/\ak M0 H0 M H/\O[iy]?=some (some (.ref a))/\a∈M/\a∉J/\z.H0 a=none/\H a=some (.lst (as.map .ref))/\a∉as/\as.Nodup/\IK z J M H as ll
end Ev
namespace HT
open PySem PyProof.Rows
end HT
namespace Ev
open L2
section
variable{X:Cx}{z:Z}{tg iter kx vx:Expr}{scope:Scope}{pos:Pos}{N':List Str}{k:Nat}{T:Tg}{items:List D}{g g1 gE:G}{ks: ~~~5}{ds:List D}
theorem CG(ns: ~~~0):(ns.map (Sum.inl:Int->Key)).map kV=ns.map V.int:=by rw[List.map_map];rfl
noncomputable def Vm: ~~~5->List D->~~~0->Option D
 |k::ks,d::ds,n=>if k=n then some d else Vm ks ds n
 |_,_,_=>none
theorem tM{K:Frag}{M:List Addr}{H:Hp}{n: ~~~0}{d:D}:∀{ks: ~~~5}{ds:List D}{vs:List V},aJ K M H ds vs->Vm ks ds n=some d->∃v,atK ((ks.map (List.map Sum.inl)).zip vs) (n.map Sum.inl)=some v/\Rep K M H d v
 | [],_,_,_,h=>by symm
 |_::_,[],_,_,h=>by symm
 |k::ks,x::ds,_,r,h=>by
  cases r with
  |cons a b=>
   unfold Vm at h;unfold atK;rw[List.map_cons,List.zip_cons_cons,AC];by_cases e:k=n
   . rw[i5 e]at h;symm;subst e;exact⟨_,by rw[nK (show (k.map Sum.inl,_).1=k.map (Sum.inl:Int->Key)from rfl)];rfl,a⟩
   .
    rw[gN e]at h;obtain⟨v,v1,v2⟩:=tM b h;refine⟨v,?_,v2⟩;rw[show decide ((k.map (Sum.inl:Int->Key),_).1=n.map Sum.inl)=false from mB λq=>e ((List.map_inj_right λa b e=>Sum.inl.inj e).mp q)]
    exact v1
theorem Pq{l:List D}{n: ~~~0}{d:D}(hK:z.K=X.K)(hu:X.A.units+1<cLine)(hi:cO l=some n)(h:Vm ks ds n=some d):RP X z (.ym ks ds) (.tup l) (.dat d):=by
 refine⟨_,GQ hu,λg O J M H v1 v2 Q s q1 q2 kk=>?_⟩
 obtain⟨b,ys,rfl,hb,rb⟩:=q2.tup;have e:=bL rb hi;subst e;cases q1 with
 |of q1=>cases q1 with
  |ym na ha hl rr=>obtain⟨v,e1,e2⟩:=tM rr h;exact⟨_,b,_,n.map Sum.inl,v,rfl,rfl,ha,by rw[CG];exact hK▸hb.sq,e1,kk _ H J M s (ak.refl _ _) e2⟩
end
section
variable{X:Cx}{z:Z}{g g1:G}{pos:Pos}
theorem Pr{i j:Int}(h0:0<=j)(h1:j<=1000000)(h2:i.natAbs<2 ^ 64):ku X z (binaryOp .LShift) (.int i) (.int j) (.dat (.int (i * 2 ^ j.toNat))):=by
 refine⟨λx y H Q=>x=.int i/\y=.int j/\Q (.int (i * 2 ^ j.toNat)) H,λah s O H x y v u Q I r1 r2 h=>?_,λg O J M H v1 v2 Q s q1 q2 kk=>⟨q1.int,q2.int,kk _ H J M s (ak.refl _ _) (.int _)⟩⟩
 obtain⟨rfl,rfl,q⟩:=h;obtain⟨t,rfl⟩:=r1;obtain⟨t',rfl⟩:=r2;exact lshift_int_small h0 h1 h2 ⟨.int _,H,I.tok _,⟨_,rfl⟩,q⟩
end
section
variable{X:Cx}{z:Z}
theorem vC:dX X (.type "int") (λxs H Q=>∃b,xs=[.bl b]/\Q (.int (if b=true then 1 else 0)) H):=by intro ah s O H xs us Q I r h;obtain⟨b,rfl,q⟩:=h;obtain⟨u,rfl,rx⟩:=vals1 r;cases rx;exact call_int_bool ⟨.int _,H,I.tok _,⟨_,rfl⟩,q⟩
theorem Pu{b:Bool}:CallD X z (.type "int") [.bl b] (.dat (.int (if b=true then 1 else 0))):=by
 refine⟨_,vC,λg O J M H vs Q s p k=>?_⟩
 obtain⟨v,rfl,p1⟩:=p.one;exact⟨b,by rw[p1.bl],k _ H J M s (ak.refl _ _) (.int _)⟩
end
open L2 PySem.W
inductive Bl where
 |len |list |tuple |max |min |str |all |sorted |sum |any |int
 deriving DecidableEq
set_option genInjectivity false in
inductive Ex where
 |val (d:D) |slot (i:Nat)
 |bin (op:Operator) (a b:Ex) |cmp (op:CmpOp) (a b:Ex) |chain (a:Ex) (ops:List CmpOp) (l:List Ex)
 |neg (a:Ex) |not (a:Ex) |and (l:List Ex) |or (l:List Ex) |ite (c a b:Ex)
 |tup (l:List Ex) |lst (l:List Ex)
 |ix (a b:Ex) |slice (a:Ex) (lo hi:Option Ex)
 |call (f:Nat) (l:List Ex) |blt (b:Bl) (l:List Ex) |oq (a:Ex) (n:String) |CJ (a:Ex) (ns:List String)
 |comp (n k:Nat) (T:Tg) (it:Ex) (c:Option Ex) (e:Ex)
 |eK (a:Ex) |dM (a b:Ex)
 |zip (a b:Ex) |gw (a:Ex)
 |rev (a:Ex) |emp |stk |peek (e:Ex)
 |tN (f ir:Nat) (ca:List Addr) (e:Ex) |pH (a:Ex) (l:List (Addr×Bool)) |refs (f ir:Nat) (ca:List Addr) (es:List Ex)
 |append (i:Nat) (e:Ex)
set_option genInjectivity false in
inductive Sm where
 |ret (e:Ex) |expr (e:Ex) |set (i:Nat) (e:Ex) |setC (i:Nat) (e:Ex) |item (i:Nat) (j e:Ex)
 |par (i j:Nat) (a b:Ex)
 |ite (c:Ex) (a b:List Sm) |loop (T:Tg) (it:Ex) (b:List Sm) |while (c:Ex) (b:List Sm) |raise (ci:Nat) (e:Ex) |calls (ic:Nat) (x:Ex) (op:CmpOp) (rhs:Ex) (ret:Bool) (b:List Sm) |stuck
structure Fx where
 np:Nat
 n:Nat
 body:List Sm
noncomputable def Tg.k9:Tg->Bool
 |.tp _=>true
 |.nm _=>false
noncomputable def IV(i j:Int):Bool:=(decide (-(2 ^ 64)<i)&&decide (i<2 ^ 64))||(decide (-(2 ^ 64)<j)&&decide (j<2 ^ 64))
def lim:Nat:=16777216
noncomputable def jl{α:Type}(f:Int->Int->Option α)(a b:D):Option α:=match a with
 |.int i=>(match b with |.int j=>f i j |_=>none)
 |_=>none
noncomputable def Pw(a b:D):Option R:=match a with
 |.int i=>(match b with |.int j=>some (.dat (.int (i+j))) |_=>none)
 |.lst l=>(match b with |.lst m=>if l.length+m.length<=lim then some (.new (l++m))else none |_=>none)
 |.tup l=>(match b with |.tup m=>if l.length+m.length<=lim then some (.dat (.tup (l++m)))else none |_=>none)
 |_=>none
def IW(a:D)(k:Int):Option R:=match a with
 |.int i=>if IV i k=true then some (.dat (.int (i * k)))else none
 |.lst l=>if -(2 ^ 63)<=k/\k<2 ^ 63/\l.length * k.toNat<=lim then some (.new (List.replicate k.toNat l).flatten)else none
 |.tup l=>if 1<=k/\k<2 ^ 63/\l.length * k.toNat<=lim then some (.dat (.tup (List.replicate k.toNat l).flatten))else none
 |_=>none
def mU(op:Operator)(a b:D):Option R:=match op with
 |.Add=>Pw a b
 |.Sub=>jl (λi j=>some (.dat (.int (i - j)))) a b
 |.Mult=>(match b with |.int k=>IW a k |_=>none)
 |.FloorDiv=>jl (λi j=>if 0<j/\j<1073741824 then some (.dat (.int (i / j)))else none) a b
 |.Mod=>jl (λi j=>if 0<j then some (.dat (.int (i % j)))else none) a b
 |.Pow=>jl (λi j=>if 0<=j/\j<=1000/\i.natAbs<2 ^ 64 then some (.dat (.int (i ^ j.toNat)))else none) a b
 |.LShift=>jl (λi j=>if 0<=j/\j<=1000/\i.natAbs<2 ^ 64 then some (.dat (.int (i * 2 ^ j.toNat)))else none) a b
 |_=>none
def iH(d1 d2:D):Bool:=lz d1&&lz d2&&decide (dep d1<=190)
noncomputable def ltF(a b:D):Option Bool:=match a with
 |.int i=>(match b with |.int j=>some (decide (i<j)) |_=>none)
 |_=>none
noncomputable def Zr(a b:D):Option Bool:=match b with
 |.bl c=>some (Uv a c)
 |.non=>some (n5 a)
 |_=>none
def eV(op:CmpOp)(d1 d2:D):Option Bool:=match op with
 |.Eq=>if iH d1 d2=true then some (eG d1 d2)else none
 |.NotEq=>if iH d1 d2=true then some (!eG d1 d2)else none
 |.Lt=>ltF d1 d2
 |.LtE=>jl (λi j=>some (decide (i<=j))) d1 d2
 |.Gt=>jl (λi j=>some (decide (i > j))) d1 d2
 |.GtE=>jl (λi j=>some (decide (i ≥ j))) d1 d2
 |.Is=>Zr d1 d2
 |_=>none
def R9:D->D->Option D
 |.lst l,.int i=>fM l i
 |.fix l,.int i=>fM l i
 |.tup l,.int i=>fM l i
 |.ym ks ds,.tup l=>(match cO l with |some n=>Vm ks ds n |none=>none)
 |_,_=>none
def Px(b:Bl)(d:D):Option R:=match b with
 |.len=>(match Ux d with |some n=>some ‹n› |none=>none)
 |.list=>(match dD d with |some l=>some (.new l) |none=>none)
 |.tuple=>(match dD d with |some l=>some (.dat (.tup l)) |none=>none)
 |.min=>(match dD d with |some l=>(match cO l with |some (n::ns)=>some (.dat (.int (fQ n ns))) |_=>none) |none=>none)
 |.all=>(match d with |.lst l=>(match sN l with |some bs=>some (.dat (.bl (bs.all id))) |none=>none) |_=>none)
 |.int=>(match d with |.bl c=>some (.dat (.int (if c=true then 1 else 0))) |_=>none)
 |.sum=>(match dD d with |some l=>(match cO l with |some ns=>some (.dat (.int ns.sum)) |none=>none) |none=>none)
 |_=>none
def bl2(b:Bl)(d e:D):Option R:=match b with
 |.max=>jl (λi j=>some (.dat (.int (if j > i then j else i)))) d e
 |.min=>jl (λi j=>some (.dat (.int (if j<i then j else i)))) d e
 |_=>none
def lA(b:Bl)(ds:List D):Option R:=match ds with
 | [d]=>Px b d
 | [d,e]=>bl2 b d e
 |_=>none
noncomputable def dN(t n:String):Bool:=t==n||(t == "bool" && n == "int")
noncomputable def Xo:Ex->Bool
 |.eK _=>true
 |.dM _ _=>true
 |.zip _ _=>true
 |_=>false
structure Rn where
 e:List Nat->Nat->Ex->G->Option (R×G)
 t:List Nat->Nat->Ex->G->Option (Bool×G)
 b:List Nat->Nat->List Sm->G->Option (Fl×G)
 x:List Nat->Nat->Ex->G->Option (Nat×G)
 xt:List Nat->Nat->Ex->G->Option (Nat×G)
 xb:List Nat->Nat->List Sm->G->Option (Nat×G)
noncomputable def toD(bor:List Nat):R->G->Option (D×G)
 |.dat d,g=>some (d,g)
 |.new l,g=>some (.lst l,g)
 |.var i,g=>if i∈bor then none else match g[i]? with |some (.own l)=>some (.lst l,g.set i (.dat (.lst l))) |_=>none
noncomputable def norm:R->R
 |.new l=>.dat (.lst l)
 |.dat d=>.dat d
 |.var i=>.var i
section
variable(rn:Rn)(bor:List Nat)(k:Nat)
noncomputable def iS(e:Ex)(g:G):Option (D×G):=match rn.e bor k e g with
 |some (r,g1)=>toD bor r g1
 |none=>none
noncomputable def kF:List Ex->G->Option (List D×G)
 | [],g=>some ([],g)
 |e::es,g=>match iS rn bor k e g with
  |some (d,g1)=>match kF es g1 with
   |some (ds,g2)=>some (d::ds,g2)
   |none=>none
  |none=>none
def argsR:List Ex->G->Option (List R×G)
 | [],g=>some ([],g)
 |e::es,g=>match rn.e bor k e g with
  |some (r,g1)=>match argsR es g1 with
   |some (rs,g2)=>some (norm r::rs,g2)
   |none=>none
  |none=>none
def zV:D->List CmpOp->List Ex->G->Option (Bool×G)
 |d1,[op],[b],g=>match iS rn bor k b g with
  |some (d2,g1)=>match eV op d1 d2 with |some c=>some (c,g1) |none=>none
  |none=>none
 |d1,op::op'::ops,b::b'::bs,g=>match iS rn bor k b g with
  |some (d2,g1)=>match eV op d1 d2 with
   |some true=>zV d2 (op'::ops) (b'::bs) g1
   |some false=>some (false,g1)
   |none=>none
  |none=>none
 |_,_,_,_=>none
def CK:List Ex->G->Option (R×G)
 | [],_=>none
 | [a],g=>rn.e bor k a g
 |a::b::l,g=>match rn.e bor k a g with
  |some (.dat (.bl true),g1)=>CK (b::l) g1
  |some (.dat (.bl false),g1)=>some (.dat (.bl false),g1)
  |_=>none
def Vn:List Ex->G->Option (R×G)
 | [],_=>none
 | [a],g=>rn.e bor k a g
 |a::b::l,g=>match rn.e bor k a g with
  |some (.dat (.bl false),g1)=>Vn (b::l) g1
  |some (.dat (.bl true),g1)=>some (.dat (.bl true),g1)
  |_=>none
def tQ:List Ex->G->Option (Bool×G)
 | [],_=>none
 | [a],g=>rn.t bor k a g
 |a::b::l,g=>match rn.t bor k a g with
  |some (true,g1)=>tQ (b::l) g1
  |some (false,g1)=>some (false,g1)
  |none=>none
def CN:List Ex->G->Option (Bool×G)
 | [],_=>none
 | [a],g=>rn.t bor k a g
 |a::b::l,g=>match rn.t bor k a g with
  |some (false,g1)=>CN (b::l) g1
  |some (true,g1)=>some (true,g1)
  |none=>none
noncomputable def kG:Option Ex->G->Option (Option Int×G)
 |none,g=>some (none,g)
 |some e,g=>match iS rn bor k e g with
  |some (.int i,g1)=>some (some i,g1)
  |_=>none
noncomputable def Py(j:Int):Bool:=decide (-(2 ^ 62)<=j)&&decide (j<2 ^ 62)
def fS(tp:Bool)(it:Ex)(g:G):Option (List D×G):=match it with
 |.eK a=>match iS rn bor k a g with
  |some (.int j,g1)=>if Py j=true then some (fG 0 j.toNat,g1)else none
  |_=>none
 |.dM a b=>match iS rn bor k a g with
  |some (.int c,g1)=>match iS rn bor k b g1 with
   |some (.int j,g2)=>if Py c=true/\Py j=true then some (fG c (j - c).toNat,g2)else none
   |_=>none
  |_=>none
 |.zip a b=>if tp=true then match kF rn bor k [a,b] g with
  |some ([d1,d2],g1)=>match dD d1,dD d2 with |some l,some m=>if isTup d1=isTup d2 then some (qN l m,g1)else none |_,_=>none
  |_=>none
  else none
 |e=>match iS rn bor k e g with
  |some (.tup l,g1)=>some (l,g1)
  |some (.lst l,g1)=>some (l,g1)
  |some (.fix l,g1)=>some (l,g1)
  |_=>none
def K3:Option Ex->G->Option (Bool×G)
 |none,g=>some (true,g)
 |some c,g=>rn.t bor k c g
def FW(T:Tg)(last:Nat)(c:Option Ex)(e:Ex):List D->G->Option G
 | [],g=>some g
 |d::l,g=>match T.set d g with
  |none=>none
  |some g1=>match K3 rn bor k c g1 with
   |none=>none
   |some (false,g2)=>FW T last c e l g2
   |some (true,g2)=>match iS rn bor k e g2 with
    |none=>none
    |some (x,g3)=>match g3[last]? with
     |some (.own acc)=>if acc.length<lim then FW T last c e l (g3.set last (.own (acc++[x])))else none
     |_=>none
def bS(n kk:Nat)(T:Tg)(it:Ex)(c:Option Ex)(e:Ex)(g:G):Option (List D×G):=match fS rn bor k T.k9 it g with
 |none=>none
 |some (items,g1)=>if g1.length=n/\(T.ix.any λi=>decide (i∈bor))=false then match FW rn bor k T (n+kk) c e items (gC kk g1)with
   |none=>none
   |some gE=>match gE[n+kk]? with
    |some (.own acc)=>some (acc,gE.take n)
    |_=>none
  else none
def bu(fx:Fx)(k':Nat)(rs:List R)(g1:G):Option (R×G):=
 if rs.length=fx.np/\((vars 0 rs).map (·.2)).Nodup then match cS rs g1 with
  |none=>none
  |some gs=>match rn.b ((vars 0 rs).map (·.1)) k' fx.body (cP fx.n gs)with
   |some (.rt r,gc)=>match back (vars 0 rs) gc g1 with
    |some gO=>match cW ((vars 0 rs).map (·.1)) gc r with |some r'=>some (r',gO) |none=>none
    |none=>none
   |some (.nx,gc)=>match back (vars 0 rs) gc g1 with
    |some gO=>some (.dat .non,gO)
    |none=>none
   |_=>none
 else none
def CP(fns:List Fx)(f ir:Nat)(ca:List Addr)(e:Ex)(g:G):Option D:=match fns[f]?,k with
 |some fx,k'+2=>match rn.x [] k' e (g.map noOwn)with
  |some (ci,_)=>match ca[ci]? with
   |some C=>match rn.b [] k' (fx.body.drop 2) ((List.replicate fx.n .no).set ir (.dat (.kr C)))with
    |some (.rt r,g3)=>match cW [] g3 r with |some r'=>Zi r' |none=>none
    |_=>none
   |none=>none
  |none=>none
 |_,_=>none
def tR(fns:List Fx)(f ir:Nat)(ca:List Addr):List Ex->G->Option (List D)
 | [],_=>some []
 |e::es,g=>match CP rn k fns f ir ca e g with
  |some d=>match tR fns f ir ca es g with |some ds=>some (d::ds) |none=>none
  |none=>none
def bw(fns:List Fx)(e:Ex)(g:G):Option (R×G):=match e with
 |.val d=>some (.dat d,g)
 |.slot i=>match g[i]? with |some (.dat d)=>some (.dat d,g) |some (.own _)=>some (.var i,g) |_=>none
 |.bin op a b=>match argsR rn bor k [a,b] g with
  |some ([r1,r2],g2)=>match pk r1 g2,pk r2 g2 with
   |some d1,some d2=>match mU op d1 d2 with |some r=>some (r,g2) |none=>none
   |_,_=>none
  |_=>none
 |.cmp op a b=>match argsR rn bor k [a,b] g with
  |some ([r1,r2],g2)=>match pk r1 g2,pk r2 g2 with
   |some d1,some d2=>match eV op d1 d2 with |some c=>some (.dat (.bl c),g2) |none=>none
   |_,_=>none
  |_=>none
 |.chain a ops l=>match iS rn bor k a g with
  |some (d1,g1)=>match zV rn bor k d1 ops l g1 with |some (c,g2)=>some (.dat (.bl c),g2) |none=>none
  |none=>none
 |.neg a=>match iS rn bor k a g with |some (.int i,g1)=>some (.dat (.int (-i)),g1) |_=>none
 |.not a=>match rn.e bor k a g with |some (.dat (.bl c),g1)=>some (.dat (.bl (!c)),g1) |_=>none
 |.and l=>CK rn bor k l g
 |.or l=>Vn rn bor k l g
 |.ite c a b=>match rn.t bor k c g with
  |some (true,g1)=>rn.e bor k a g1
  |some (false,g1)=>rn.e bor k b g1
  |none=>none
 |.tup l=>match kF rn bor k l g with |some (ds,g1)=>if ds.length<=lim then some (.dat (.tup ds),g1)else none |none=>none
 |.lst l=>match kF rn bor k l g with |some (ds,g1)=>if ds.length<=lim then some (.new ds,g1)else none |none=>none
 |.ix a b=>match argsR rn bor k [a,b] g with
  |some ([r1,r2],g2)=>match pk r1 g2,pk r2 g2 with
   |some d1,some d2=>match R9 d1 d2 with |some d=>some (.dat d,g2) |none=>none
   |_,_=>none
  |_=>none
 |.slice a lo hi=>match rn.e bor k a g with
  |some (r,g1)=>match kG rn bor k lo g1 with
   |some (i,g2)=>match kG rn bor k hi g2 with
    |some (j,g3)=>match norm r with
     |.dat (.tup l)=>some (.dat (.tup (dJ l i j)),g3)
     |.dat (.fix l)=>some (.new (dJ l i j),g3)
     |r'=>match pk r' g3 with |some (.lst l)=>some (.new (dJ l i j),g3) |_=>none
    |none=>none
   |none=>none
  |none=>none
 |.call f l=>match fns[f]?,k with
  |some fx,k'+1=>match argsR rn bor k l g with
   |some (rs,g1)=>bu rn fx k' rs g1
   |none=>none
  |_,_=>none
 |.blt b l=>match argsR rn bor k l g with
  |some (rs,g1)=>match sI rs g1 with
   |some ds=>match lA b ds with |some r=>some (r,g1) |none=>none
   |none=>none
  |none=>none
 |.oq a n=>match rn.e bor k a g with
  |some (r,g1)=>match pk (norm r) g1 with |some d=>some (.dat (.bl (dN (kX d) n)),g1) |none=>none
  |none=>none
 |.CJ a ns=>match rn.e bor k a g with
  |some (r,g1)=>match pk (norm r) g1 with |some d=>some (.dat (.bl (ns.any (dN (kX d)))),g1) |none=>none
  |none=>none
 |.comp n kk T it c e=>match bS rn bor k n kk T it c e g with |some (acc,g1)=>some (.new acc,g1) |none=>none
 |.rev a=>match rn.e bor k a g with
  |some (r,g1)=>match norm r with
   |.dat (.tup l)=>some (.dat (.tup l.reverse),g1)
   |r'=>match pk r' g1 with |some (.lst l)=>some (.new l.reverse,g1) |_=>none
  |none=>none
 |.emp=>some (.dat .emp,g)
 |.stk=>none
 |.peek e=>if bor.isEmpty=true then match rn.e [] k e (g.map jE)with |some (.dat d,_)=>if flat d=true then some (.dat d,g)else none |_=>none else none
 |.refs f ir ca es=>match tR rn k fns f ir ca es g with |some ds=>some (.new ds,g) |none=>none
 |.tN f ir ca e=>match fns[f]?,k with
  |some fx,k'+2=>match rn.x [] k' e (g.map noOwn)with
   |some (ci,_)=>match ca[ci]? with
    |some C=>match rn.b [] k' (fx.body.drop 2) ((List.replicate fx.n .no).set ir (.dat (.kr C)))with
     |some (.rt r,g3)=>match cW [] g3 r with |some r'=>some (r',g) |none=>none
     |_=>none
    |none=>none
   |none=>none
  |_,_=>none
 |.pH a l=>match rn.e bor k a g with
  |some (r,g1)=>match pk (norm r) g1 with
   |some (.kr C)=>match l.lookup C with |some b=>some (.dat (.bl b),g1) |none=>none
   |some .non=>some (.dat (.bl false),g1)
   |_=>none
  |none=>none
 |.append i e=>match g[i]? with
  |some (.own _)=>match iS rn bor k e g with
   |some (d,g1)=>match g1[i]? with |some (.own l)=>if l.length<lim then some (.dat .non,g1.set i (.own (l++[d])))else none |_=>none
   |none=>none
  |_=>none
 |.eK _=>none
 |.dM _ _=>none
 |.zip _ _=>none
 |.gw a=>match rn.e bor k a g with
  |some (r,g1)=>match pk (norm r) g1 with
   |some d=>match dD d with
    |some l=>match cO l with
     |some ns=>if ns.length<64 then some (.new ((cg ns).reverse.map .int),g1)else none
     |none=>none
    |none=>none
   |none=>none
  |none=>none
def stepT(e:Ex)(g:G):Option (Bool×G):=match e with
 |.cmp op a b=>match argsR rn bor k [a,b] g with
  |some ([r1,r2],g2)=>match pk r1 g2,pk r2 g2 with
   |some d1,some d2=>match eV op d1 d2 with |some c=>some (c,g2) |none=>none
   |_,_=>none
  |_=>none
 |.chain a ops l=>match iS rn bor k a g with
  |some (d1,g1)=>zV rn bor k d1 ops l g1
  |none=>none
 |.not a=>match rn.t bor k a g with |some (c,g1)=>some (!c,g1) |none=>none
 |.and l=>tQ rn bor k l g
 |.or l=>CN rn bor k l g
 |.ite _ _ _=>none
 |e=>match rn.e bor k e g with
  |some (r,g1)=>match pk (norm r) g1 with
   |some d=>match Hz d with |some c=>some (c,g1) |none=>none
   |none=>none
  |none=>none
def fO(T:Tg)(b:G->Option (Fl×G)):List D->G->Option (Fl×G)
 | [],g=>some (.nx,g)
 |d::l,g=>match T.set d g with
  |none=>none
  |some g0=>match b g0 with
   |none=>none
   |some (.nx,g1)=>fO T b l g1
   |some (.ct,g1)=>fO T b l g1
   |some (.bk,g1)=>some (.nx,g1)
   |some (.rt r,g1)=>some (.rt r,g1)
noncomputable def K4(c:G->Option (Bool×G))(b:G->Option (Fl×G)):Nat->G->Option (Fl×G)
 | 0,_=>none
 |n+1,g=>match c g with
  |none=>none
  |some (false,g1)=>some (.nx,g1)
  |some (true,g1)=>match b g1 with
   |none=>none
   |some (.nx,g2)=>K4 c b n g2
   |some (.ct,g2)=>K4 c b n g2
   |some (.bk,g2)=>some (.nx,g2)
   |some (.rt r,g2)=>some (.rt r,g2)
def aD(st:Sm)(g:G):Option (Fl×G):=match st with
 |.ret e=>match rn.e bor k e g with |some (r,g1)=>some (.rt r,g1) |none=>none
 |.expr e=>match rn.e bor k e g with |some (_,g1)=>some (.nx,g1) |none=>none
 |.set i e=>if i∈bor then none else match rn.e bor k e g with
  |some (.new l,g1)=>if i<g1.length then some (.nx,g1.set i (.own l))else none
  |some (r,g1)=>match toD bor r g1 with |some (d,g2)=>some (.nx,g2.set i (.dat d)) |none=>none
  |none=>none
 |.setC i e=>if i∈bor then none else match e with
  |.comp n kk T it c e=>match bS rn bor k n kk T it c e g with
   |some (acc,g1)=>if i<g1.length then some (.nx,g1.set i (.own acc))else none
   |none=>none
  |_=>none
 |.item i j e=>match iS rn bor k e g with
  |some (d,g1)=>match g1[i]? with
   |some (.own _)=>match iS rn bor k j g1 with
    |some (.int n,g2)=>match g2[i]? with
     |some (.own l)=>match rT l.length n with |some m=>some (.nx,g2.set i (.own (l.set m d))) |none=>none
     |_=>none
    |_=>none
   |_=>none
  |none=>none
 |.par i j a b=>if i∈bor then none else if j∈bor then none else match kF rn bor k [a,b] g with
  |some ([d1,d2],g1)=>some (.nx,(g1.set i (.dat d1)).set j (.dat d2))
  |_=>none
 |.ite c a b=>match rn.t bor k c g with
  |some (true,g1)=>rn.b bor k a g1
  |some (false,g1)=>rn.b bor k b g1
  |none=>none
 |.loop T it b=>if T.ix.any (λi=>decide (i∈bor))=true then none else match fS rn bor k T.k9 it g with
  |some (items,g1)=>fO T (rn.b bor k b) items g1
  |none=>none
 |.while c b=>K4 (rn.t bor k c) (rn.b bor k b) 100000 g
 |.raise _ _=>none
 |.calls ic x op rhs ret b=>match g[ic]? with
  |some .no=>match rn.e bor k x g with
   |some (.new ds,_)=>match rn.e bor k rhs g with
    |some (r2,g2)=>match pk (norm r2) g2 with
     |some d2=>match eV op (.lst ds) d2 with
      |some c=>if ret=true then some (.rt (.dat (.bl c)),g2)else if c=true then rn.b bor k b g2 else some (.nx,g2)
      |none=>none
     |none=>none
    |none=>none
   |_=>none
  |_=>none
 |.stuck=>none
def bV:List Sm->G->Option (Fl×G)
 | [],g=>some (.nx,g)
 |st::rest,g=>match aD rn bor k st g with
  |some (.nx,g1)=>bV rest g1
  |some (f,g1)=>some (f,g1)
  |none=>none
def xW(it:Ex)(g:G):Option (Nat×G):=if Xo it=true then none else rn.x bor k it g
def xArgs:List Ex->G->Option (Nat×G)
 | [],_=>none
 |e::es,g=>match rn.x bor k e g with
  |some r=>some r
  |none=>match rn.e bor k e g with
   |some (_,g1)=>xArgs es g1
   |none=>none
def pI(fx:Fx)(k':Nat)(rs:List R)(g1:G):Option (Nat×G):=
 if rs.length=fx.np/\((vars 0 rs).map (·.2)).Nodup then match cS rs g1 with
  |none=>none
  |some gs=>match rn.xb ((vars 0 rs).map (·.1)) k' fx.body (cP fx.n gs)with
   |some (ci,gc)=>match back (vars 0 rs) gc g1 with |some gO=>some (ci,gO) |none=>none
   |none=>none
 else none
def pJ(fns:List Fx)(e:Ex)(g:G):Option (Nat×G):=match e with
 |.cmp _ a b=>xArgs rn bor k [a,b] g
 |.call f l=>match xArgs rn bor k l g with
  |some r=>some r
  |none=>match fns[f]?,k with
   |some fx,k'+1=>match argsR rn bor k l g with
    |some (rs,g1)=>pI rn fx k' rs g1
    |none=>none
   |_,_=>none
 |_=>none
def qP(e:Ex)(g:G):Option (Nat×G):=match e with
 |.not a=>rn.xt bor k a g
 |.call f l=>rn.x bor k (.call f l) g
 |_=>none
noncomputable def iI(st:Sm)(g:G):Option (Nat×G):=match st with
 |.ret e=>rn.x bor k e g
 |.expr e=>rn.x bor k e g
 |.ite c a b=>match rn.xt bor k c g with
  |some r=>some r
  |none=>match rn.t bor k c g with
   |some (true,g1)=>rn.xb bor k a g1
   |some (false,g1)=>rn.xb bor k b g1
   |none=>none
 |.raise ci e=>match iS rn bor k e g with |some (_,g1)=>some (ci,g1) |none=>none
 |_=>none
def eL:List Sm->G->Option (Nat×G)
 | [],_=>none
 |st::rest,g=>match iI rn bor k st g with
  |some r=>some r
  |none=>match aD rn bor k st g with
   |some (.nx,g1)=>eL rest g1
   |_=>none
end
def step(fns:List Fx)(rn:Rn):Rn:=⟨λbor k e g=>bw rn bor k fns e g,λbor k e g=>stepT rn bor k e g,λbor k l g=>bV rn bor k l g,λbor k e g=>pJ rn bor k fns e g,λbor k e g=>qP rn bor k e g,λbor k l g=>eL rn bor k l g⟩
noncomputable def rn0:Rn:=⟨λ_ _ _ _=>none,λ_ _ _ _=>none,λ_ _ _ _=>none,λ_ _ _ _=>none,λ_ _ _ _=>none,λ_ _ _ _=>none⟩
def run(fns:List Fx):Nat->Rn
 | 0=>rn0
 |n+1=>step fns (run fns n)
structure Ct where
 N:List Str
 sc:Scope
 df:Bool
 q:Str
structure Fi where
 name:Str
 qual:Str
 st:Stmt
 N:List Str
 ps:List Str
structure Pg where
 fn:List Fi
 ct:List (Str×D)
 bn:List Str
 cls:List Str:=[]
 lam:Bool:=false
 gW:List Addr:=[]
 kt:Str:=Str.empty
 ups:List (Str×List (Addr×Bool)):=[]
def gX:Str:= "law.<locals>.<lambda>"
def CQ(K:Frag)(mg:Str->Option Value)(bB:Value):Prop:=
 ∃c q,bB=.ref c/\(∀b:Heap,K.In b->PySem.W.CodeHd b c q)/\(q,gX)∈cF K/\(∀b:Heap,K.In b->b.BuiltinsAt mg q)/\mainGlobals≠q
structure qQ(P:Pg)(K:Frag)(mg:Str->Option Value):Prop where
 fn:∀(i:Nat) (fi:Fi),P.fn[i]?=some fi->∃f fd,mg fi.name=some (.ref f)/\Fz K fi.name fi.qual fi.st f fd/\bT fi.N fi.ps (aB fi.st)/\L2.Binds K fd fi.ps []/\(fi.name==(~~~3))=false
 ct:∀(x:Str) (d:D),(x,d)∈P.ct->(x==(~~~3))=false/\∃v u,mg x=some u/\RelV v u/\∀M H,Rep K M H d v
 bn:∀x∈P.bn,mg x=none
 cls:∀x∈P.cls,(x==(~~~3))=false/\∃C,mg x=some (.ref C)/\eH K C
 lam:P.lam=true->∀bB,PySem.W.codeIn K bB "law"=true->CQ K mg bB
 gW:∀(i:Nat) (C:Addr),P.gW[i]?=some C->∃x,P.cls[i]?=some x/\mg x=some (.ref C)/\eH K C/\FG K C
 kt:P.lam=true->(P.kt==(~~~3))=false/\∃D,mg P.kt=some (.ref D)/\eH K D/\∀C∈P.gW,tG K C D=true
 ups:∀(x:Str) (l:List (Addr×Bool)),(x,l)∈P.ups->(x==(~~~3))=false/\∃cv,((mg x=some cv/\∃D,cv=.ref D)\/(x∈P.bn/\x≠ "__name__" /\bootBuiltins x=some cv/\∃n,cv=.type n))/\PySem.W.kitOne K (.type "NoneType") cv=some false/\∀C b,l.lookup C=some b->PySem.W.kitOne K (.ref C) cv=some b
structure aW(P:Pg)(k:Nat)(X:Cx)(c:Ct):Prop where
 N:X.N=c.N
 nd:c.N.Nodup
 Se:∀x,c.sc.names.lookup x=some .local->X.env.scope.names.lookup x=some .local
 pK:∀x,c.sc.names.lookup x=some .globalImplicit->Gl X x
 Zt:∀x,c.sc.names.lookup x=some .cell\/c.sc.names.lookup x=some .free->X.env.scope.names.lookup x=some .cell\/X.env.scope.names.lookup x=some .free
 cel:c.df=true->∀x,c.sc.names.lookup x=some .cell->X.env.scope.names.lookup x=some .cell
 fn:∀x,c.df=true\/c.sc.names.lookup x=some .local->X.fn x=true
 bk:c.df=true->X.env.blockKind=.function
 calm:X.calm=true
 xe:X.xe=λ_ _=>False
 md:qQ P X.K X.mg
 room:bW k X.A
 lam:c.q = "law" ->P.lam=true->X.env.qual ++ "<lambda>"=gX/\CQ X.K X.mg X.env.code
noncomputable def qR(sc:Scope)(x:Str):Bool:=match sc.names.lookup x with |some .local=>true |some .cell=>true |some .free=>true |_=>false
noncomputable def gY(c:Ct)(x:Str):Bool:=match c.sc.names.lookup x with |some .local=>true |some .cell=>c.df |_=>false
noncomputable def dO(x:Str):Bool:=!(x==(~~~3))&&!(x==("__classdict__":Str))
section
theorem aW.vis(h:aW P k X c)(hv:qR c.sc x=true):oK X.env.scope x:=by
 unfold qR at hv;split at hv
 . rename_i e;exact .inl (h.Se x e)
 . rename_i e;exact (h.Zt x (.inl e)).elim (λq=>.inr (.inl q)) λq=>.inr (.inr q)
 . rename_i e;exact (h.Zt x (.inr e)).elim (λq=>.inr (.inl q)) λq=>.inr (.inr q)
 . cases hv
theorem aW.nm(h:aW P k X c)(hi:c.N[i]?=some x)(hs:gY c x=true):Bs X x i:=by
 refine⟨h.N▸h.nd,by rw[h.N];exact hi,?_,.inl (h.fn x ?_)⟩
 .
  unfold gY at hs;split at hs
  . rename_i e;exact .inl (h.Se x e)
  . rename_i e;exact .inr (h.cel hs x e)
  . cases hs
 .
  unfold gY at hs;split at hs
  . rename_i e;exact .inr e
  . exact .inl hs
  . cases hs
theorem dZ(h:dO x=true):(x==(~~~3))=false/\(x==("__classdict__":Str))=false:=by unfold dO at h;simp only[eP,BB]at h;exact h
theorem cu{α:Type}{f:Int->Int->Option α}{a b:D}{r:α}(h:jl f a b=some r):∃i j,a=.int i/\b=.int j/\f i j=some r:=by
 unfold jl at h;split at h
 .
  split at h
  . exact⟨_,_,rfl,rfl,h⟩
  . symm
 . symm
theorem Ja{d1 d2:D}{r:R}(hK:z.K=X.K)(h:Pw d1 d2=some r):ku X z (binaryOp .Add) d1 d2 r:=by
 unfold Pw at h;split at h
 .
  split at h
  . symm;exact wF Ml
  . symm
 .
  split at h
  .
   split at h
   . rename_i hc;symm;exact NP hc
   . symm
  . symm
 .
  split at h
  .
   split at h
   . rename_i hc;symm;exact G8 hK hc
   . symm
  . symm
 . symm
theorem Jb{d1:D}{k:Int}{r:R}(hK:z.K=X.K)(h:IW d1 k=some r):ku X z (binaryOp .Mult) d1 (.int k) r:=by
 unfold IW at h;split at h
 .
  split at h
  . rename_i hc;symm;refine qF Mp ?_;unfold IV at hc;simp only[An,eP,eQ]at hc;exact hc
  . symm
 .
  split at h
  . rename_i hc;symm;exact NQ hc.1 hc.2.1 hc.2.2
  . symm
 .
  split at h
  . rename_i hc;symm;exact Ig hK hc.1 hc.2.1 hc.2.2
  . symm
 . symm
theorem Pz(hK:z.K=X.K)(h:mU op d1 d2=some r):ku X z (binaryOp op) d1 d2 r:=by
 cases op with
 |Add=>exact Ja hK h
 |Sub=>obtain⟨i,j,rfl,rfl,h'⟩:=cu h;cases h';exact wF Mm
 |Mult=>
  dsimp only[mU]at h;split at h
  . exact Jb hK h
  . symm
 |FloorDiv=>
  obtain⟨i,j,rfl,rfl,h'⟩:=cu h;split at h'
  . rename_i hc;cases h';exact qF Gs hc
  . cases h'
 |Mod=>
  obtain⟨i,j,rfl,rfl,h'⟩:=cu h;split at h'
  . rename_i hc;cases h';exact qF Mq hc
  . cases h'
 |Pow=>
  obtain⟨i,j,rfl,rfl,h'⟩:=cu h;split at h'
  . rename_i hc;cases h';exact qF ql ⟨hc.1,by have:=hc.2.1;lia,hc.2.2⟩
  . cases h'
 |LShift=>
  obtain⟨i,j,rfl,rfl,h'⟩:=cu h;split at h'
  . rename_i hc;cases h';exact Pr hc.1 (by have:=hc.2.1;lia) hc.2.2
  . cases h'
 |_=>symm
theorem iJ(hK:z.K=X.K)(hr:bW k X.A)(h:eV op d1 d2=some b):ku X z (compareOp op) d1 d2 (.dat (.bl b)):=by
 have hu:=hr.un;cases op with
 |Eq=>
  dsimp only[eV]at h;split at h
  . rename_i hc;symm;simp only[iH,eP,eQ]at hc;exact Us hK hc.1.1 hc.1.2 (by have:=hc.2;lia)
  . symm
 |NotEq=>
  dsimp only[eV]at h;split at h
  . rename_i hc;symm;simp only[iH,eP,eQ]at hc;exact Uu hK hc.1.1 hc.1.2 (by have:=hc.2;lia)
  . symm
 |Lt=>
  dsimp only[eV,ltF]at h;split at h
  .
   split at h
   . symm;exact qG TF
   . symm
  . symm
 |LtE=>obtain⟨i,j,rfl,rfl,h'⟩:=cu h;cases h';exact qG TJ
 |Gt=>obtain⟨i,j,rfl,rfl,h'⟩:=cu h;cases h';exact qG TL
 |GtE=>obtain⟨i,j,rfl,rfl,h'⟩:=cu h;cases h';exact qG TQ
 |Is=>
  dsimp only[eV,Zr]at h;split at h
  . symm;exact Uw
  . symm;exact NK
  . symm
 |_=>symm
theorem PB{d1 d2 d:D}(hK:z.K=X.K)(hr:X.A.units+1<cLine)(h:R9 d1 d2=some d):RP X z d1 d2 (.dat d):=by
 unfold R9 at h;split at h
 . exact NT hK h
 . exact NX hK h
 . exact G9 hK h
 .
  split at h
  . rename_i e;exact Pq hK hr e h
  . symm
 . symm
noncomputable def Xp:Bl->Str×Value
 |.len=>("len",.builtin "len")
 |.list=>("list",.type "list")
 |.tuple=>("tuple",.type "tuple")
 |.max=>("max",.builtin "max")
 |.min=>("min",.builtin "min")
 |.str=>("str",.type "str")
 |.all=>("all",.builtin "all")
 |.any=>("any",.builtin "any")
 |.int=>("int",.type "int")
 |.sorted=>("sorted",.builtin "sorted")
 |.sum=>("sum",.builtin "sum")
theorem PJ{b:Bl}{d:D}{r:R}(hK:z.K=X.K)(hc:X.calm=true)(hr:X.A.units+6<cLine)(h:Px b d=some r):CallD X z (Xp b).2 [d] r:=by
 cases b <;> dsimp only[Px]at h
 case len=>
  split at h
  . rename_i e;symm;exact N1 hK e
  . symm
 case list=>
  split at h
  . rename_i e;symm;exact Hf hK e
  . symm
 case tuple=>
  split at h
  . rename_i e;symm;exact Bg hK e
  . symm
 case min=>
  split at h
  .
   rename_i e1;split at h
   . rename_i e2;symm;exact Ic hc hK e1 e2
   . symm
  . symm
 case all=>
  split at h
  .
   split at h
   . rename_i e;symm;exact N4 hc e
   . symm
  . symm
 case int=>
  split at h
  . symm;exact Pu
  . symm
 case sum=>
  split at h
  .
   rename_i e1;split at h
   . rename_i e2;symm;exact Oq hc hK e1 e2
   . symm
  . symm
 all_goals symm
theorem PK{b:Bl}{ds:List D}{r:R}(hK:z.K=X.K)(hc:X.calm=true)(hr:X.A.units+6<cLine)(h:lA b ds=some r):CallD X z (Xp b).2 ds r:=by
 unfold lA at h;split at h
 . exact PJ hK hc hr h
 .
  cases b with
  |max=>obtain⟨i,j,rfl,rfl,h'⟩:=cu h;cases h';exact N2 hc
  |min=>obtain⟨i,j,rfl,rfl,h'⟩:=cu h;cases h';exact N3 hc
  |_=>symm
 . symm
noncomputable def qT:List String:=["int", "bool", "str", "tuple", "list", "dict"]
theorem tT{K:Frag}{M:List Addr}{H:Hp}{v:V}{d:D}(p:Pk K M H d v){n:String}(hn:n∈qT):PySem.W.kitOne K (zR d) (.type n)=some (dN (kX d) n):=by
 cases d with
 |kr C=>
  cases p with
  |of q=>
   cases q with
   |kr k _ _=>refine (k.kit n hn).trans ?_;unfold qT at hn;simp only[dL,i4,u8]at hn;rcases hn with rfl |rfl |rfl |rfl |rfl |rfl <;> first |rfl |decide
 |_=>unfold qT at hn;simp only[dL,i4,u8]at hn;rcases hn with rfl |rfl |rfl |rfl |rfl |rfl <;> first |rfl |decide
theorem pL{K:Frag}{M:List Addr}{H:Hp}{v:V}{d:D}(p:Pk K M H d v):∀{ns:List String},(∀n∈ns,n∈qT)->PySem.W.kitAny K (zR d) (ns.map Value.type)=some (ns.any (dN (kX d)))
 | [],_=>rfl
 |n::ns,h=>by
  show (match PySem.W.kitOne K (zR d) (.type n)with |some true=>some true |some false=>PySem.W.kitAny K (zR d) (ns.map Value.type) |none=>none)=_
  rw[tT p (h n dA),pL p λm hm=>h m (b0 _ hm),List.any_cons]
  cases dN (kX d) n <;> rfl
end
noncomputable def qU(sc scope:Scope):Bool:=decide (scope.kind=.function)&&scope.names.all λy=>decide (y.2≠.cell)&&(decide (y.2≠.local)||decide (scope.names.lookup y.1=some .local)) &&
 (decide (y.2≠.free)||(decide (scope.names.lookup y.1=some .free)&&(decide (sc.names.lookup y.1=some .cell)||decide (sc.names.lookup y.1=some .free))))
noncomputable def jW(N N':List Str)(scope:Scope)(k:Nat):Bool:=decide (N'.length=N.length+(k+1))&&(match N'[N.length+k]? with |some x=>decide (scope.names.lookup x=none) |none=>true) &&
 (List.range N.length).all λi=>match N'[i]? with |some x=>decide (scope.names.lookup x=none)||(decide (N[i]?=some x)&&decide (scope.names.lookup x≠some .local)) |none=>true
inductive yX(c:Ct):List Expr->List Nat->Prop
 |nil:yX c [] []
 |cons {x:Str}{i:Nat}{pos:Pos}{es:List Expr}{is:List Nat}:c.N[i]?=some x->gY c x=true->yX c es is->yX c (.Name x pos::es) (i::is)
inductive yZ(P:Pg)(c:Ct):List Expr->List String->Prop
 |nil:yZ P c [] []
 |cons {T:Str}{n:String}{pos:Pos}{es:List Expr}{ns:List String}:T∈P.bn->c.sc.names.lookup T=some .globalImplicit->T=Str.ofString n->n∈qT->yZ P c es ns->yZ P c (.Name T pos::es) (n::ns)
inductive PL(c:Ct):Expr->Tg->Prop
 |nm:c.N[i]?=some x->gY c x=true->PL c (.Name x pos) (.nm i)
 |tp {es:List Expr}{is:List Nat}{k:Nat}{pos:Pos}:yX c es is->PL c (.Tuple es k pos) (.tp is)
noncomputable def PN(c:Ct)(x y:Str)(px py:Pos)(a b:Expr):Bool:=(c.sc.names.lookup x==some .local)&&(c.sc.names.lookup y==some .local)&&py.line==px.line&&!(x==y)&&!(foldedForSure 8 a&&foldedForSure 8 b)&&!(constantsAlone 8 a&&constantsAlone 8 b)&&c.df
noncomputable def Vo(c:Ct)(y:Str)(py pos:Pos)(scope:Scope):Bool:=(c.sc.names.lookup y==some .local)&&py.line==pos.line&&!(scope.names.any λ(n,k)=>n==y&&(k==.local||k==.cell))
inductive vD(R:Expr->Ex->Prop):List Expr->List Ex->Prop
 |nil:vD R [] []
 |cons {e:Expr}{es:List Expr}{x:Ex}{xs:List Ex}:R e x->vD R es xs->vD R (e::es) (x::xs)
inductive Jc(R:Expr->Ex->Prop):Option Expr->Option Ex->Prop
 |none:Jc R Option.none Option.none
 |some {e:Expr}{x:Ex}:R e x->Jc R (Option.some e) (Option.some x)
inductive wU(R:Expr->Ex->Prop):List Expr->Option Ex->Prop
 |none:wU R [] Option.none
 |some {e:Expr}{x:Ex}:R e x->wU R [e] (Option.some x)
inductive vE(P:Pg)(R:Expr->Ex->Prop)(c:Ct):Expr->Ex->Prop
 |seq:R e x->vE P R c e x
 |eK:R a xa->("range":Str)∈P.bn->c.sc.names.lookup ("range":Str)=some .globalImplicit->vE P R c (.Call (.Name "range" p) [a] [] pos) (.eK xa)
 |dM:R a xa->R b xb->("range":Str)∈P.bn->c.sc.names.lookup ("range":Str)=some .globalImplicit->vE P R c (.Call (.Name "range" p) [a,b] [] pos) (.dM xa xb)
 |zip:R a xa->R b xb->("zip":Str)∈P.bn->c.sc.names.lookup ("zip":Str)=some .globalImplicit->vE P R c (.Call (.Name "zip" p) [a,b] [] pos) (.zip xa xb)
noncomputable def vF(e:Expr):Option Str:=match e with |.Name x _=>some x |_=>none
theorem mV{e:Expr}{x:Str}(h:vF e=some x):∃p,e=.Name x p:=by cases e <;> first | (symm;exact⟨_,rfl⟩) |symm
noncomputable def CT{α:Type}(l:List α):Option α:=match l with | [a]=>some a |_=>none
theorem lB{α:Type}{l:List α}{a:α}(h:CT l=some a):l=[a]:=by
 cases l with
 |nil=>symm
 |cons b l=>cases l with
  |nil=>symm;rfl
  |cons _ _=>symm
noncomputable def Vp(s:Stmt):Option (List Expr×Expr):=match s with |.Assign ts e _=>some (ts,e) |_=>none
theorem Jd{s:Stmt}{r:List Expr×Expr}(h:Vp s=some r):∃p,s=.Assign r.1 r.2 p:=by cases s <;> first | (symm;exact⟨_,rfl⟩) |symm
noncomputable def Vq(e:Expr):Option Const:=match e with |.Constant c _ _=>some c |_=>none
theorem Je(h:Vq e=some c):∃j p,e=.Constant c j p:=by cases e <;> first | (symm;exact⟨_,_,rfl⟩) |symm
noncomputable def Vr(c:Const):Option Unit:=match c with |.none=>some () |_=>none
theorem Jf(h:Vr c=some ()):c=.none:=by cases c <;> first |rfl |symm
noncomputable def Vs(s:Stmt):Option Expr:=match s with |.Expr e _=>some e |_=>none
theorem Jg{s:Stmt}{e:Expr}(h:Vs s=some e):∃p,s=.Expr e p:=by cases s <;> first | (symm;exact⟨_,rfl⟩) |symm
noncomputable def Vt(e:Expr):Option (Expr×List Expr×List Keyword):=match e with |.Call f as ks _=>some (f,as,ks) |_=>none
theorem Jh{e:Expr}{r:Expr×List Expr×List Keyword}(h:Vt e=some r):∃p,e=.Call r.1 r.2.1 r.2.2 p:=by cases e <;> first | (symm;exact⟨_,rfl⟩) |symm
noncomputable def Vu(s:Stmt):Option (List Stmt×List ExceptHandler×List Stmt×List Stmt):=match s with |.Try b h o f _=>some (b,h,o,f) |_=>none
theorem Ji{s:Stmt}{r:List Stmt×List ExceptHandler×List Stmt×List Stmt}(h:Vu s=some r):∃p,s=.Try r.1 r.2.1 r.2.2.1 r.2.2.2 p:=by cases s <;> first | (symm;exact⟨_,rfl⟩) |symm
noncomputable def CV{α:Type}(l:List α):Option Unit:=match l with | []=>some () |_=>none
theorem lD{α:Type}{l:List α}(h:CV l=some ()):l=[]:=by cases l with |nil=>rfl |cons _ _=>symm
noncomputable def Vv(h:ExceptHandler):Option (Expr×Str×List Stmt):=match h with |.ExceptHandler t n b _=>t.bind λt=>n.bind λn=>some (t,n,b)
theorem Jj{h:ExceptHandler}{r:Expr×Str×List Stmt}(e:Vv h=some r):∃p,h=.ExceptHandler (some r.1) (some r.2.1) r.2.2 p:=by
 obtain⟨t,n,b,p⟩:=h;cases t with
 |none=>cases e
 |some t=>cases n with
  |none=>cases e
  |some n=>cases e;exact⟨p,rfl⟩
def wV(s:Stmt):Option (Str×Expr):=(Vp s).bind λr=>(CT r.1).bind λt=>(vF t).bind λx=>some (x,r.2)
theorem tU{s:Stmt}{r:Str×Expr}(h:wV s=some r):∃p q,s=.Assign [.Name r.1 p] r.2 q:=by unfold wV at h;simp only[eC]at h;obtain⟨⟨ts,e⟩,h1,t,h2,x,h3,h4⟩:=h;cases h4;obtain⟨p,rfl⟩:=Jd h1;obtain⟨q,rfl⟩:=mV h3;have:=lB h2;dsimp only at this;subst this;exact⟨q,p,rfl⟩
def PX(l:List Stmt):Option Str:=(CT l).bind λs3=>(Vs s3).bind λce=>(Vt ce).bind λf=>(CV f.2.1).bind λ_=>(CV f.2.2).bind λ_=>vF f.1
theorem Jk{l:List Stmt}{y:Str}(h:PX l=some y):∃py cp ep,l=[.Expr (.Call (.Name y py) [] [] cp) ep]:=by replace h:=eC.1 h;obtain⟨s3,h1,h⟩:=h;cases lB h1;clear h1;replace h:=eC.1 h;obtain⟨ce,h1,h⟩:=h;obtain⟨p,e1⟩:=Jg h1;cases e1;clear h1;replace h:=eC.1 h;obtain⟨⟨f1,f2,f3⟩,h1,h⟩:=h;obtain⟨q,e1⟩:=Jh h1;cases e1;clear h1;replace h:=eC.1 h;obtain⟨_,h1,h⟩:=h;replace h:=eC.1 h;obtain⟨_,h2,h⟩:=h;obtain⟨r,e1⟩:=mV h;exact⟨r,q,p,by have a:=lD h1;have b:=lD h2;dsimp only at a b e1 ⊢;rw[a,b,e1]⟩
def P0(l:List ExceptHandler):Option (Str×Str×Str×Str):=(CT l).bind λhh=>(Vv hh).bind λu=>(vF u.1).bind λke=>(CT u.2.2).bind λs4=>(wV s4).bind λb=>(vF b.2).bind λK5=>some (ke,u.2.1,b.1,K5)
theorem Jl{l:List ExceptHandler}{r:Str×Str×Str×Str}(h:P0 l=some r):∃kp tK tH ap hp,l=[.ExceptHandler (some (.Name r.1 kp)) (some r.2.1) [.Assign [.Name r.2.2.1 tK] (.Name r.2.2.2 tH) ap] hp]:=by replace h:=eC.1 h;obtain⟨hh,h1,h⟩:=h;cases lB h1;clear h1;replace h:=eC.1 h;obtain⟨⟨u1,u2,u3⟩,h1,h⟩:=h;obtain⟨p,e1⟩:=Jj h1;cases e1;clear h1;replace h:=eC.1 h;obtain⟨ke,h1,h⟩:=h;obtain⟨q,e1⟩:=mV h1;cases e1;clear h1;replace h:=eC.1 h;obtain⟨s4,h1,h⟩:=h;cases lB h1;clear h1;replace h:=eC.1 h;obtain⟨⟨b1,b2⟩,h1,h⟩:=h;obtain⟨m,n,e1⟩:=tU h1;cases e1;clear h1;replace h:=eC.1 h;obtain⟨en,h1,h⟩:=h;obtain⟨o,e1⟩:=mV h1;cases e1;clear h1;symm;exact⟨q,m,o,n,p,rfl⟩
def Vw(s:Stmt):Option Str:=(wV s).bind λa=>(Vq a.2).bind λc=>(Vr c).bind λ_=>some a.1
theorem Jm(h:Vw s=some x):∃p j np ap,s=.Assign [.Name x p] (.Constant .none j np) ap:=by replace h:=eC.1 h;obtain⟨⟨a1,a2⟩,h1,h⟩:=h;obtain⟨p,q,e1⟩:=tU h1;cases e1;clear h1;replace h:=eC.1 h;obtain⟨c,h1,h⟩:=h;obtain⟨j,m,e1⟩:=Je h1;cases e1;clear h1;replace h:=eC.1 h;obtain⟨_,h1,h⟩:=h;cases Jf h1;clear h1;symm;exact⟨p,j,m,q,rfl⟩
def Vx(s:Stmt):Option (Str×Str×Str×Str×Str):=(Vu s).bind λt=>(CV t.2.2.1).bind λ_=>(CV t.2.2.2).bind λ_=>(PX t.1).bind λy=>(P0 t.2.1).bind λu=>some (y,u)
theorem Jo{s:Stmt}{r:Str×Str×Str×Str×Str}(h:Vx s=some r):∃l hs p,PX l=some r.1/\P0 hs=some r.2/\s=.Try l hs [] [] p:=by replace h:=eC.1 h;obtain⟨⟨t1,t2,t3,t4⟩,h1,h⟩:=h;obtain⟨p,e1⟩:=Ji h1;cases e1;clear h1;replace h:=eC.1 h;obtain⟨_,h1,h⟩:=h;cases lD h1;clear h1;replace h:=eC.1 h;obtain⟨_,h1,h⟩:=h;cases lD h1;clear h1;replace h:=eC.1 h;obtain⟨y,h1,h⟩:=h;replace h:=eC.1 h;obtain⟨u,h2,h⟩:=h;symm;exact⟨t1,t2,p,h1,h2,rfl⟩
def P1(l:List Stmt):Option (Str×Str×Str×Str×Str×Str):=match l with
 |s1::s2::_=>(Vw s1).bind λa=>(Vx s2).bind λt=>some (a,t)
 |_=>none
theorem Jp(h:P1 l=some (er,y,ke,en,FZ,K5)):∃yU j np R5 py bM nQ kp tK tH dw nR nP rest,l=.Assign [.Name er yU] (.Constant .none j np) R5::.Try [.Expr (.Call (.Name y py) [] [] bM) nQ] [.ExceptHandler (some (.Name ke kp)) (some en) [.Assign [.Name FZ tK] (.Name K5 tH) dw] nR] [] [] nP::rest:=by
 unfold P1 at h;split at h
 . replace h:=eC.1 h;obtain⟨a,h1,h⟩:=h;replace h:=eC.1 h;obtain⟨t,h2,h⟩:=h;symm;obtain⟨p,j,np,ap,e1⟩:=Jm h1;obtain⟨l,hs,tp,h3,h4,e2⟩:=Jo h2;obtain⟨py,cp,ep,e3⟩:=Jk h3;obtain⟨kp,tK,tH,ap',hp,e4⟩:=Jl h4;exact⟨p,j,np,ap,py,cp,ep,kp,tK,tH,ap',hp,tp,_,by rw[e1,e2,e3,e4]⟩
 . symm
def CW(fi:Fi)(ir:Nat)(kt:Str):Bool:=match P1 (bz fi.st)with
 |some (er,y,ke,en,FZ,K5)=>decide ((ke=kt/\FZ=er/\K5=en/\fi.ps=[y])/\((aB fi.st).names.lookup ke=some .globalImplicit/\fi.N[fi.N.idxOf en]?=some en/\(aB fi.st).names.lookup en=some .local)/\(fi.N[ir]?=some er/\fi.N[0]?=some y)/\(fi.N.idxOf en≠ir/\fi.N.idxOf en≠0/\ir≠0))&&((dO en&&dO y)&&(qR (aB fi.st) y&&gY ⟨fi.N,aB fi.st,true,fi.qual⟩ er))
 |none=>false
noncomputable def y9(params:Arguments)(scope:Scope):Bool:=match params with
 |⟨[],[],none,[],[],none,[]⟩=>(!scope.isCoroutine&&!scope.isGenerator)&&(decide (scope.kind=.function)&&scope.names.all λy=>decide (y.2≠.cell)&&decide (y.2≠.local))
 |_=>false
theorem qV(h:y9 params scope=true):dH params scope:=by
 unfold y9 at h;split at h
 . simp only[eP,BB,eQ,oD]at h;exact⟨h.1.1,h.1.2,h.2.1,λx hx=>(h.2.2 x hx).1,λx hx=>(h.2.2 x hx).2,rfl⟩
 . symm
abbrev p0:Pos:=⟨0,0,0,0⟩
inductive kI(R:Expr->Ex->Prop)(fx:Str)(f ir:Nat)(ca:List Addr):List Lt->List Ex->Prop
 |nil:kI R fx f ir ca [] []
 |cons {l:Lt}{ls:List Lt}{e:Ex}{es:List Ex}:R (.Call (.Name fx p0) [l.ex] [] p0) (.tN f ir [] e)->kI R fx f ir ca ls es->kI R fx f ir ca (l::ls) (e::es)
structure Vy(c:Ct)(fx:Str)(scope:Scope)(N':List Str)(v:Str)(k j:Nat):Prop where
 lt:j<k
 bl:qU c.sc scope=true
 nm:jW c.N N' scope k=true
 nd:N'.Nodup
 ix:N'[c.N.length+j]?=some v
 st:gY ⟨N',scope,false,Str.empty⟩ v=true
 vi:qR scope v=true
 pl:dO v=true
 gl:scope.names.lookup fx=some .globalImplicit
inductive Jq(RS:Stmt->Sm->Prop)(ce:Expr):Stmt->Bool->List Sm->Prop
 |ite {s:Stmt}{x:Sm}{pos:Pos}:RS s x->Jq RS ce (.If ce [s] [] pos) false [x]
 |ret {pos:Pos}:Jq RS ce (.Return (some ce) pos) true []
inductive Vz(P:Pg)(R:Expr->Ex->Prop)(RS:Stmt->Sm->Prop)(c:Ct):List Stmt->Sm->Prop
 |mk {y v fx:Str}{ic f ir:Nat}{l:Lt}{ls:List Lt}{e:Ex}{es:List Ex}{ss:List Stmt}{st:Stmt}{scope:Scope}{N':List Str}{k j:Nat}{oh:Expr}{op:CmpOp}{rhs:Ex}{ret:Bool}{b:List Sm}{py lp pos fp vp cp tp ip Zu cmp:Pos} :
   c.N[ic]?=some y->gY c y=true->qR c.sc y=true->dO y=true->vA y ss ls->kI R fx f ir P.gW (l::ls) (e::es)->ls.length<900->Vy c fx scope N' v k j->R oh rhs->behindInMarks op oh=false->
   Jq RS (.Compare (.ListComp (.Call (.Name fx fp) [.Name v vp] [] cp) [⟨.Name v tp,.Name y ip,[],0⟩] scope Zu) [op] [oh] cmp) st ret b->
   Vz P R RS c (.Assign [.Name y py] (.List [l.ex] lp) pos::(ss++[st])) (.calls ic (.refs f ir P.gW (e::es)) op rhs ret b)
inductive vG(RG:List Stmt->Sm->Prop)(RS:Stmt->Sm->Prop):List Stmt->List Sm->Prop
 |nil:vG RG RS [] []
 |grp {ss rest:List Stmt}{x:Sm}{xs:List Sm}:RG ss x->vG RG RS rest xs->vG RG RS (ss++rest) (x::xs)
 |cons {s:Stmt}{ss:List Stmt}{x:Sm}{xs:List Sm}:RS s x->vG RG RS ss xs->vG RG RS (s::ss) (x::xs)
noncomputable def vH(k:Scope->Pos->Bool)(e:Expr):Bool:=match e with |.ListComp _ _ s p=>k s p |.DictComp ..=>true |_=>false
theorem aj{a b:Bool}(h:(a&&b)=true):a=true/\b=true:=by cases a <;> cases b <;> first |exact⟨rfl,rfl⟩ |symm
theorem dec{p:Prop} [Decidable p] (h:decide p=true):p:=i8 h
theorem gA{b:Bool}(h:(!b)=true):b=false:=by cases b <;> first |rfl |symm
theorem qW{α:Type}{l:List α}(h:l.isEmpty=true):l=[]:=by cases l with |nil=>rfl |cons _ _=>symm
theorem two{α:Type}{l:List α}(h:2<=l.length):∃a b m,l=a::b::m:=by
 cases l with
 |nil=>exact absurd h (AJ 1)
 |cons a l=>cases l with
  |nil=>exact absurd h (Nat.not_succ_le_self 1)
  |cons b m=>exact⟨a,b,m,rfl⟩
noncomputable def Sf(c:Ct)(x:Str):Bool:=decide (c.sc.names.lookup x=some .globalImplicit)
def CZ(P:Pg)(c:Ct)(x:Str):Bool:=P.bn.contains x&&Sf c x
theorem bG{P:Pg}{c:Ct}{x:Str}(h:CZ P c x=true):x∈P.bn/\c.sc.names.lookup x=some .globalImplicit:=⟨AD.mp (aj h).1,dec (aj h).2⟩
noncomputable def nm(c:Ct)(i:Nat):Str:=c.N.getD i Str.empty
def za(c:Ct)(i:Nat):Bool:=decide (c.N[i]?=some (nm c i))&&(qR c.sc (nm c i)&&dO (nm c i))
def Xq(c:Ct)(i:Nat):Bool:=decide (c.N[i]?=some (nm c i))&&gY c (nm c i)
theorem mW{c:Ct}{i:Nat}(h:za c i=true):c.N[i]?=some (nm c i)/\qR c.sc (nm c i)=true/\dO (nm c i)=true:=⟨dec (aj h).1,(aj (aj h).2).1,(aj (aj h).2).2⟩
def bang(x:Str):Str:=⟨x.cps.push 33⟩
def VB(n:Nat):Str:=⟨(List.replicate n 33).toArray⟩
noncomputable def gB(scope:Scope):List Str:=scope.names.filterMap λy=>if y.2==.local then some y.1 else none
def jo(N:List Str)(scope:Scope):List Str:=(N.map λy=>if scope.names.lookup y==some .local then bang y else y)++gB scope++[VB (N.length+1)]
noncomputable def mX:List Str->Bool
 | []=>true
 |x::l=>!l.contains x&&mX l
theorem jX:∀{l:List Str},mX l=true->l.Nodup
 | [],_=>wE
 |x::l,h=>by
  have h:(!l.contains x&&mX l)=true:=h;refine fN.mpr ⟨λhm=>?_,jX (aj h).2⟩
  have:=(aj h).1;rw[AD.mpr hm]at this;cases this
noncomputable def kids(e:Expr):List Expr:=match e with
 |.BoolOp _ vs _=>vs
 |.BinOp a _ b _=>[a,b]
 |.UnaryOp _ a _=>[a]
 |.Lambda _ b _ _=>[b]
 |.IfExp t a b _=>[t,a,b]
 |.ListComp e gs _ _=>e::gs.flatMap λg=>g.target::g.iter::g.ifs
 |.DictComp e v gs _ _=>e::v::gs.flatMap λg=>g.target::g.iter::g.ifs
 |.Compare a _ bs _=>a::bs
 |.Call f as ks _=>f::(as++ks.map (·.value))
 |.FormattedValue v _ _ _=>[v]
 |.JoinedStr vs _=>vs
 |.Attribute v _ _=>[v]
 |.Subscript a b _=>[a,b]
 |.List es _=>es
 |.Tuple es _ _=>es
 |.Slice a b s p=>[a.getD (.Name Str.empty p),b.getD (.Name Str.empty p),s.getD (.Name Str.empty p)]
 |_=>[]
def kid(e:Expr)(i:Nat):Expr:=(kids e).getD i e
noncomputable def ou(e:Expr):Nat:=match e with |.Constant _ k _=>k |.Tuple _ k _=>k |_=>0
noncomputable def eU(e:Expr):Scope:=match e with |.Lambda _ _ s _=>s |.ListComp _ _ s _=>s |.DictComp _ _ _ s _=>s |_=>aB (.Pass e.pos)
noncomputable def P4(e:Expr):Arguments:=match e with |.Lambda a _ _ _=>a |_=>default
noncomputable def opT(e:Expr):Operator:=match e with |.BinOp _ o _ _=>o |_=>.Add
noncomputable def kwT(e:Expr):Pos:=match e with |.Call _ _ ks _=>(match ks with |k::_=>k.pos |_=>e.pos) |_=>e.pos
def zb(c:Ct)(t:Expr):Ct:=⟨jo c.N (eU t),eU t,false,Str.empty⟩
def P5(c:Ct)(t:Expr):Ct:=⟨c.N,eU t,false,Str.empty⟩
noncomputable def mY(P:Pg)(i:Nat):Str:=match P.fn[i]? with |some fi=>fi.name |none=>Str.empty
theorem lF{P:Pg}{i:Nat}(h:P.fn[i]?.isSome=true):∃fi,P.fn[i]?=some fi/\fi.name=mY P i:=by
 unfold mY;cases e:P.fn[i]? with
 |none=>rw[e]at h;symm
 |some g=>exact⟨g,rfl,rfl⟩
section
variable{R:Expr->Ex->Prop}{s:Ex->Expr->Expr}{f:Ex->Expr->Bool}(hf:∀{x t},f x t=true->R (s x t) x)
include hf
noncomputable def iK(s:Ex->Expr->Expr)(t:Expr):Nat->List Ex->List Expr
 |_,[]=>[]
 |i,x::xs=>s x (kid t i)::iK s t (i+1) xs
noncomputable def Jr(f:Ex->Expr->Bool)(t:Expr):Nat->List Ex->Bool
 |_,[]=>true
 |i,x::xs=>f x (kid t i)&&Jr f t (i+1) xs
theorem cX{i:Nat}{xs:List Ex}(h:Jr f t i xs=true):vD R (iK s t i xs) xs:=by
 induction xs generalizing i with
 |nil=>exact .nil
 |cons x xs ih=>exact .cons (hf (aj h).1) (ih (aj h).2)
noncomputable def P6(s:Ex->Expr->Expr)(t:Expr)(x:Option Ex):Option Expr:=match x with |some x=>some (s x t) |none=>none
noncomputable def VD(f:Ex->Expr->Bool)(t:Expr)(x:Option Ex):Bool:=match x with |some x=>f x t |none=>true
theorem Dc{x:Option Ex}(h:VD f t x=true):Jc R (P6 s t x) x:=by
 cases x with
 |none=>exact .none
 |some x=>exact .some (hf h)
noncomputable def P7(s:Ex->Expr->Expr)(t:Expr)(x:Option Ex):List Expr:=match x with |some x=>[s x t] |none=>[]
theorem P8{x:Option Ex}(h:VD f t x=true):wU R (P7 s t x) x:=by
 cases x with
 |none=>exact .none
 |some x=>exact .some (hf h)
end
noncomputable def Js(s:Ex->Expr->Expr)(x:Ex)(t:Expr):Expr:=match x with
 |.eK a=>.Call (.Name "range" (kid t 0).pos) [s a (kid t 1)] [] t.pos
 |.dM a b=>.Call (.Name "range" (kid t 0).pos) [s a (kid t 1),s b (kid t 2)] [] t.pos
 |.zip a b=>.Call (.Name "zip" (kid t 0).pos) [s a (kid t 1),s b (kid t 2)] [] t.pos
 |x=>s x t
def Zv(P:Pg)(c:Ct)(f:Ex->Expr->Bool)(x:Ex)(t:Expr):Bool:=match x with
 |.eK a=>CZ P c "range" && f a (kid t 1)
 |.dM a b=>CZ P c "range" && (f a (kid t 1)&&f b (kid t 2))
 |.zip a b=>CZ P c "zip" && (f a (kid t 1)&&f b (kid t 2))
 |x=>f x t
theorem Dd{P:Pg}{R:Expr->Ex->Prop}{s:Ex->Expr->Expr}{f:Ex->Expr->Bool}(hf:∀{x t},f x t=true->R (s x t) x){c:Ct}{x:Ex}{t:Expr}(h:Zv P c f x t=true):vE P R c (Js s x t) x:=by
 cases x
 case eK a=>exact .eK (hf (aj h).2) (bG (aj h).1).1 (bG (aj h).1).2
 case dM a b=>exact .dM (hf (aj (aj h).2).1) (hf (aj (aj h).2).2) (bG (aj h).1).1 (bG (aj h).1).2
 case zip a b=>exact .zip (hf (aj (aj h).2).1) (hf (aj (aj h).2).2) (bG (aj h).1).1 (bG (aj h).1).2
 all_goals exact .seq (hf h)
noncomputable def P9(t:Expr):Nat->List String->List Expr
 |_,[]=>[]
 |i,n::ns=>.Name (Str.ofString n) (kid t i).pos::P9 t (i+1) ns
def Zw(P:Pg)(c:Ct):List String->Bool
 | []=>true
 |n::ns=>(qT.contains n&&CZ P c (Str.ofString n))&&Zw P c ns
theorem Qa{P:Pg}{c:Ct}{t:Expr}{i:Nat}{ns:List String}(h:Zw P c ns=true):yZ P c (P9 t i ns) ns:=by
 induction ns generalizing i with
 |nil=>exact .nil
 |cons n ns ih=>exact .cons (bG (aj (aj h).1).2).1 (bG (aj (aj h).1).2).2 rfl (AD.mp (aj (aj h).1).1) (ih (aj h).2)
noncomputable def Qc(c:Ct)(t:Expr):Nat->List Nat->List Expr
 |_,[]=>[]
 |j,i::is=>.Name (nm c i) (kid t j).pos::Qc c t (j+1) is
def okN(c:Ct):List Nat->Bool
 | []=>true
 |i::is=>Xq c i&&okN c is
theorem Qd{c:Ct}{t:Expr}{j:Nat}{is:List Nat}(h:okN c is=true):yX c (Qc c t j is) is:=by
 induction is generalizing j with
 |nil=>exact .nil
 |cons i is ih=>exact .cons (dec (aj (aj h).1).1) (aj (aj h).1).2 (ih (aj h).2)
def Ju(c:Ct)(T:Tg)(t:Expr):Expr:=match T with
 |.nm i=>.Name (nm c i) t.pos
 |.tp is=>.Tuple (Qc c t 0 is) (ou t) t.pos
theorem De{c:Ct}{T:Tg}{t:Expr}(h:okN c T.ix=true):PL c (Ju c T t) T:=by
 cases T with
 |nm i=>exact .nm (dec (aj (aj h).1).1) (aj (aj h).1).2
 |tp is=>exact .tp (Qd h)
noncomputable def Qe(a b:D):Bool:=match a with |.int i=>(match b with |.int j=>decide (i=j) |_=>false) |_=>false
theorem Jv(h:Qe a b=true):a=b:=by
 cases a with
 |int i=>cases b with
  |int j=>exact congrArg D.int (dec (show decide (i=j)=true from h))
  |_=>exact nt h
 |_=>exact nt h
def Xr(y:Str)(d:D):List (Str×D)->Bool
 | []=>false
 |p::l=>(decide (p.1=y)&&Qe p.2 d)||Xr y d l
theorem Qf{y:Str}{d:D}{l:List (Str×D)}(h:Xr y d l=true):(y,d)∈l:=by
 induction l with
 |nil=>symm
 |cons p l ih=>
  obtain⟨x,d'⟩:=p;have hh:((decide (x=y)&&Qe d' d)||Xr y d l)=true:=h
  rcases An _ _▸hh with h |h
  . obtain⟨h1,h2⟩:=aj h;obtain rfl:=dec h1;rw[Jv h2];exact dA
  . exact b0 _ (ih h)
noncomputable def Zx(d:D):Const:=match d with |.int i=>.int i |.bl b=>.bool b |.str y=>.str y |_=>.none
noncomputable def Zy(d:D):Bool:=match d with |.int _=>true |.bl _=>true |.str _=>true |.non=>true |_=>false
def vI(d:D)(t:Expr):Expr:=match vF t with |some y=>.Name y t.pos |none=>.Constant (Zx d) (ou t) t.pos
def Zz(P:Pg)(c:Ct)(d:D)(t:Expr):Bool:=match vF t with |some y=>Sf c y&&Xr y d P.ct |none=>Zy d
def blK(c:Ct)(t:Expr)(k:Nat):Bool:=qU c.sc (eU t)&&(jW c.N (jo c.N (eU t)) (eU t) k&&mX (jo c.N (eU t)))
def ixK(c:Ct)(k:Nat)(T:Tg):Bool:=T.ix.all λi=>decide (c.N.length<=i/\i<c.N.length+k)
theorem Qg{c:Ct}{k:Nat}{T:Tg}(h:ixK c k T=true):∀i∈T.ix,c.N.length<=i/\i<c.N.length+k:=λi hi=>dec (oD.mp h i hi)
def o1(x:Option Ex):Nat:=match x with |some _=>1 |none=>0
def Qh(P:Pg)(i ir:Nat):Bool:=match P.fn[i]? with |some fi=>CW fi ir P.kt |none=>false
def K6(e:Expr):Bool:=match e with |.Call f es ks _=>(vF f).isSome&&(!es.isEmpty&&ks.isEmpty) |_=>false
theorem tV{e:Expr}(h:K6 e=true):∃x p a es pos,e=.Call (.Name x p) (a::es) [] pos:=by
 cases e
 case Call f es ks pos=>
  obtain⟨h1,h2⟩:=aj (show ((vF f).isSome&&(!es.isEmpty&&ks.isEmpty))=true from h);obtain⟨x,hx⟩:=Option.isSome_iff_exists.mp h1;obtain⟨p,rfl⟩:=mV hx;cases es with
  |nil=>cases (aj h2).1
  |cons a es=>rw[qW (aj h2).2];exact⟨x,p,a,es,pos,rfl⟩
 all_goals exact nt h
def Jw(P:Pg)(s:Ct->Ex->Expr->Expr)(c:Ct)(x:Ex)(t:Expr):Expr:=match x with
 |.val d=>vI d t
 |.slot i=>.Name (nm c i) t.pos
 |.bin op a b=>.BinOp (s c a (kid t 0)) op (s c b (kid t 1)) t.pos
 |.cmp op a b=>.Compare (s c a (kid t 0)) [op] [s c b (kid t 1)] t.pos
 |.chain a ops xs=>.Compare (s c a (kid t 0)) ops (iK (s c) t 1 xs) t.pos
 |.neg a=>.UnaryOp .USub (s c a (kid t 0)) t.pos
 |.not a=>.UnaryOp .Not (s c a (kid t 0)) t.pos
 |.and xs=>.BoolOp .And (iK (s c) t 0 xs) t.pos
 |.or xs=>.BoolOp .Or (iK (s c) t 0 xs) t.pos
 |.ite a b d=>.IfExp (s c a (kid t 0)) (s c b (kid t 1)) (s c d (kid t 2)) t.pos
 |.tup xs=>.Tuple (iK (s c) t 0 xs) (ou t) t.pos
 |.lst xs=>.List (iK (s c) t 0 xs) t.pos
 |.ix a b=>.Subscript (s c a (kid t 0)) (s c b (kid t 1)) t.pos
 |.slice a lo hi=>.Subscript (s c a (kid t 0)) (.Slice (P6 (s c) (kid (kid t 1) 0) lo) (P6 (s c) (kid (kid t 1) 1) hi) none (kid t 1).pos) t.pos
 |.call i xs=>.Call (.Name (mY P i) (kid t 0).pos) (iK (s c) t 1 xs) [] t.pos
 |.blt b xs=>.Call (.Name (Xp b).1 (kid t 0).pos) (iK (s c) t 1 xs) [] t.pos
 |.oq a n=>.Call (.Name "isinstance" (kid t 0).pos) [s c a (kid t 1),.Name (Str.ofString n) (kid t 2).pos] [] t.pos
 |.CJ a ns=>.Call (.Name "isinstance" (kid t 0).pos) [s c a (kid t 1),.Tuple (P9 (kid t 2) 0 ns) (ou (kid t 2)) (kid t 2).pos] [] t.pos
 |.comp _ _ T it co xe=>.ListComp (s (zb c t) xe (kid t 0)) [⟨Ju (zb c t) T (kid t 1),Js (s c) it (kid t 2),P7 (s (zb c t)) (kid t 3) co,0⟩] (eU t) t.pos
 |.rev a=>.Subscript (s c a (kid t 0)) (.Slice none none (some (m1 (ou (kid (kid (kid t 1) 2) 0)) (kid (kid (kid t 1) 2) 0).pos (kid (kid t 1) 2).pos)) (kid t 1).pos) t.pos
 |.emp=>.Dict [] [] t.pos
 |.peek xe=>s c xe t
 |.stk=>.BinOp (kid t 0) (opT t) (kid t 1) t.pos
 |.pH a _=>.Call (.Name "isinstance" (kid t 0).pos) [s c a (kid t 1),.Name ((vF (kid t 2)).getD Str.empty) (kid t 2).pos] [] t.pos
 |.tN i _ _ xb=>.Call (.Name (mY P i) (kid t 0).pos) [.Lambda (P4 (kid t 1)) (s (P5 c (kid t 1)) xb (kid (kid t 1) 0)) (eU (kid t 1)) (kid t 1).pos] [] t.pos
 |.gw a=>.Call (.Name "sorted" (kid t 0).pos) [s c a (kid t 1)] [⟨some "reverse",.Constant (.bool true) (ou (kid t 2)) (kid t 2).pos,kwT t⟩] t.pos
 |.append i x=>.Call (.Attribute (.Name (nm c i) (kid (kid t 0) 0).pos) "append" (kid t 0).pos) [s c x (kid t 1)] [] t.pos
 |_=>t
noncomputable def lnB(t:Expr):Bool:=(kid t 0).pos.endLine==t.pos.line
def ok1(P:Pg)(s:Ct->Ex->Expr->Expr)(f:Ct->Ex->Expr->Bool)(c:Ct)(x:Ex)(t:Expr):Bool:=match x with
 |.val d=>Zz P c d t
 |.slot i=>za c i
 |.bin _ a b=>f c a (kid t 0)&&f c b (kid t 1)
 |.cmp op a b=>f c a (kid t 0)&&(f c b (kid t 1)&&!behindInMarks op (s c b (kid t 1)))
 |.chain a ops xs=>f c a (kid t 0)&&(Jr (f c) t 1 xs&&(!lastMarks ops (iK (s c) t 1 xs)&&(decide (2<=ops.length)&&decide (2<=xs.length))))
 |.neg a=>f c a (kid t 0)
 |.not a=>f c a (kid t 0)
 |.and xs=>Jr (f c) t 0 xs
 |.or xs=>Jr (f c) t 0 xs
 |.ite a b d=>f c a (kid t 0)&&(f c b (kid t 1)&&f c d (kid t 2))
 |.tup xs=>Jr (f c) t 0 xs
 |.lst xs=>Jr (f c) t 0 xs
 |.ix a b=>f c a (kid t 0)&&f c b (kid t 1)
 |.slice a lo hi=>f c a (kid t 0)&&(VD (f c) (kid (kid t 1) 0) lo&&VD (f c) (kid (kid t 1) 1) hi)
 |.call i xs=>P.fn[i]?.isSome&&(Sf c (mY P i)&&(Jr (f c) t 1 xs&&!xs.isEmpty))
 |.blt b xs=>CZ P c (Xp b).1&&(Jr (f c) t 1 xs&&!xs.isEmpty)
 |.oq a n=>CZ P c "isinstance" && (f c a (kid t 1)&&(qT.contains n&&CZ P c (Str.ofString n)))
 |.CJ a ns=>CZ P c "isinstance" && (f c a (kid t 1)&&(decide (ns.length<=100)&&Zw P c ns))
 |.comp n k T it co xe=>decide (n=c.N.length)&&(blK c t k&&(okN (zb c t) T.ix&&(ixK c k T&&(Zv P c (f c) it (kid t 2)&&(VD (f (zb c t)) (kid t 3) co&&f (zb c t) xe (kid t 0))))))
 |.rev a=>f c a (kid t 0)
 |.emp=>true
 |.peek xe=>K6 (s c xe t)&&f c xe t
 |.stk=>true
 |.pH a l=>CZ P c "isinstance" && (f c a (kid t 1)&&(Sf c ((vF (kid t 2)).getD Str.empty)&&decide (((vF (kid t 2)).getD Str.empty,l)∈P.ups)))
 |.tN i ir ca xb=>P.fn[i]?.isSome&&((decide (ca=P.gW)&&Sf c (mY P i)||ca.isEmpty)&&((decide (c.q = "law")&&P.lam)&&(Qh P i ir&&(qU c.sc (eU (kid t 1))&&(y9 (P4 (kid t 1)) (eU (kid t 1))&&f (P5 c (kid t 1)) xb (kid (kid t 1) 0))))))
 |.gw a=>CZ P c "sorted" && f c a (kid t 1)
 |.append i x=>lnB t&&(za c i&&f c x (kid t 1))
 |_=>false
def d7(P:Pg):Nat->Ct->Ex->Expr->Expr
 | 0=>λ_ _ t=>t
 |n+1=>Jw P (d7 P n)
def qX(P:Pg):Nat->Ct->Ex->Expr->Bool
 | 0=>λ_ _ _=>false
 |n+1=>ok1 P (d7 P n) (qX P n)
def Cm(P:Pg)(c:Ct)(e:Expr)(x:Ex):Prop:=∃n t,e=d7 P n c x t/\qX P n c x t=true
theorem Cm.mk{P:Pg}{n:Nat}{c:Ct}{x:Ex}{t:Expr}(h:qX P n c x t=true):Cm P c (d7 P n c x t) x:=⟨n,t,rfl,h⟩
theorem Cm.Ga{P:Pg}{c:Ct}{e:Expr}{x:Ex}(h:Cm P c e x):∃n t,e=Jw P (d7 P n) c x t/\ok1 P (d7 P n) (qX P n) c x t=true:=by
 obtain⟨n,t,rfl,h⟩:=h;cases n with
 |zero=>symm
 |succ n=>exact⟨n,t,rfl,h⟩
theorem Cm.ZC{P:Pg}{c:Ct}{e:Expr}{x:Ex}(h:Cm P c e x):Xo x=false:=by obtain⟨n,t,_,q⟩:=h.Ga;clear h;cases x <;> first |rfl |exact Bool.noConfusion (show false=true from q)
abbrev zW (P:Pg) (c:Ct) (es:List Expr) (xs:List Ex):Prop:=vD (Cm P c) es xs
abbrev CmO (P:Pg) (c:Ct) (e:Option Expr) (x:Option Ex):Prop:=Jc (Cm P c) e x
abbrev Jx (P:Pg) (c:Ct) (es:List Expr) (x:Option Ex):Prop:=wU (Cm P c) es x
abbrev Xs (P:Pg) (c:Ct) (e:Expr) (x:Ex):Prop:=vE P (Cm P c) c e x
noncomputable def ek(t:Stmt):List Expr:=match t with
 |.Return o p=>[o.getD (.Name Str.empty p)]
 |.Assign ts e _=>e::ts
 |.AugAssign a _ e _=>[a,e]
 |.For a b _ _ _=>[a,b]
 |.While a _ _ _=>[a]
 |.If a _ _ _=>[a]
 |.Raise o _ p=>[o.getD (.Name Str.empty p)]
 |.Expr e _=>[e]
 |_=>[]
def aI(t:Stmt)(i:Nat):Expr:=(ek t).getD i (.Name Str.empty t.pos)
noncomputable def Jy(t:Stmt):List Stmt:=match t with |.For _ _ b _ _=>b |.While _ b _ _=>b |.If _ b _ _=>b |_=>[]
noncomputable def bd1(t:Stmt):List Stmt:=match t with |.If _ _ b _=>b |_=>[]
noncomputable def sg(l:List Stmt)(i:Nat):Stmt:=l.getD i (.Pass p0)
noncomputable def Qi:Sm->Nat
 |.calls _ x _ _ _ _=>(match x with |.refs _ _ _ es=>es.length+1 |_=>0)
 |_=>0
def ow(fg:Sm->List Stmt->List Stmt)(fs:Sm->Stmt->Stmt):List Sm->List Stmt->List Stmt
 | [],_=>[]
 |x::xs,ss=>if 0<Qi x then fg x (ss.take (Qi x))++ow fg fs xs (ss.drop (Qi x))else fs x (sg ss 0)::ow fg fs xs ss.tail
def Gb(fg:Sm->List Stmt->Bool)(fs:Sm->Stmt->Bool):List Sm->List Stmt->Bool
 | [],_=>true
 |x::xs,ss=>if 0<Qi x then fg x (ss.take (Qi x))&&Gb fg fs xs (ss.drop (Qi x))else fs x (sg ss 0)&&Gb fg fs xs ss.tail
theorem Qj{RG:List Stmt->Sm->Prop}{RS:Stmt->Sm->Prop}{sg':Sm->List Stmt->List Stmt}{kg:Sm->List Stmt->Bool}{ss':Sm->Stmt->Stmt}{ks:Sm->Stmt->Bool}(hg:∀{x ss},kg x ss=true->RG (sg' x ss) x)(hs:∀{x t},ks x t=true->RS (ss' x t) x){xs:List Sm}{ss:List Stmt}(h:Gb kg ks xs ss=true):vG RG RS (ow sg' ss' xs ss) xs:=by
 induction xs generalizing ss with
 |nil=>exact .nil
 |cons x xs ih=>
  unfold Gb at h;unfold ow;by_cases hx:0<Qi x
  .
   rw[i5 hx]at h ⊢
   exact .grp (hg (aj h).1) (ih (aj h).2)
  .
   rw[gN hx]at h ⊢
   exact .cons (hs (aj h).1) (ih (aj h).2)
noncomputable def VF(e:Expr):Str:=(vF e).getD Str.empty
def bvK(c:Ct)(sc:Scope)(x:Str):Bool:=qU c.sc sc&&(jW c.N (jo c.N sc) sc (gB sc).length&&(mX (jo c.N sc)&&(decide ((gB sc).idxOf x<(gB sc).length/\(jo c.N sc)[c.N.length+(gB sc).idxOf x]?=some x)&&gY ⟨jo c.N sc,sc,false,Str.empty⟩ x)))
def Qk(P:Pg)(m:Nat)(c:Ct)(e:Ex)(t:Expr):Lt:=⟨P4 t,d7 P m (P5 c t) e (kid t 0),eU t,t.pos⟩
noncomputable def ZD(t:Expr):Expr:=.Call (.Name Str.empty p0) [t] [] p0
def Ql(P:Pg)(m:Nat)(c:Ct)(i ir:Nat)(e:Ex)(t:Expr):Bool:=qX P (m+1) c (.tN i ir [] e) (ZD t)
def Qm(P:Pg)(m:Nat)(c:Ct)(y:Str):List Ex->List Stmt->List Stmt
 | [],_=>[]
 |e::es,ss=>.Expr (.Call (.Attribute (.Name y (kid (kid (aI (sg ss 0) 0) 0) 0).pos) "append" (kid (aI (sg ss 0) 0) 0).pos) [(Qk P m c e (kid (aI (sg ss 0) 0) 1)).ex] [] (aI (sg ss 0) 0).pos) (sg ss 0).pos::Qm P m c y es ss.tail
def Jz(P:Pg)(m:Nat)(c:Ct):List Ex->List Stmt->List Lt
 | [],_=>[]
 |e::es,ss=>Qk P m c e (kid (aI (sg ss 0) 0) 1)::Jz P m c es ss.tail
def JB(P:Pg)(m:Nat)(c:Ct)(i ir:Nat):List Ex->List Stmt->Bool
 | [],_=>true
 |e::es,ss=>(lnB (aI (sg ss 0) 0)&&Ql P m c i ir e (kid (aI (sg ss 0) 0) 1))&&JB P m c i ir es ss.tail
theorem JC{P:Pg}{m:Nat}{c:Ct}{i ir:Nat}{y:Str}{es:List Ex}{ss:List Stmt}(h:JB P m c i ir es ss=true):vA y (Qm P m c y es ss) (Jz P m c es ss)/\kI (Cm P c) (mY P i) i ir P.gW (Jz P m c es ss) es/\(Jz P m c es ss).length=es.length:=by
 induction es generalizing ss with
 |nil=>exact⟨.nil,.nil,rfl⟩
 |cons e es ih=>obtain⟨h1,h2⟩:=aj h;obtain⟨q1,q2,q3⟩:=ih h2;exact⟨.cons (aj h1).1 q1,.cons (Cm.mk (n:=m+1) (aj h1).2) q2,congrArg (· + 1) q3⟩
def Qn(P:Pg)(m:Nat)(c:Ct)(i:Nat)(y:Str)(op:CmpOp)(rhs:Ex)(t:Expr):Expr:=.Compare (.ListComp (.Call (.Name (mY P i) (kid (kid (kid t 0) 0) 0).pos) [.Name (VF (kid (kid t 0) 1)) (kid (kid (kid t 0) 0) 1).pos] [] (kid (kid t 0) 0).pos) [⟨.Name (VF (kid (kid t 0) 1)) (kid (kid t 0) 1).pos,.Name y (kid (kid t 0) 2).pos,[],0⟩] (eU (kid t 0)) (kid t 0).pos) [op] [d7 P m c rhs (kid t 1)] t.pos
def cmK(P:Pg)(m:Nat)(c:Ct)(i:Nat)(op:CmpOp)(rhs:Ex)(t:Expr):Bool:=(bvK c (eU (kid t 0)) (VF (kid (kid t 0) 1))&&(qR (eU (kid t 0)) (VF (kid (kid t 0) 1))&&(dO (VF (kid (kid t 0) 1))&&decide ((eU (kid t 0)).names.lookup (mY P i)=some .globalImplicit))))&&(qX P m c rhs (kid t 1)&&!behindInMarks op (d7 P m c rhs (kid t 1)))
def VG(P:Pg)(m:Nat)(c:Ct)(i:Nat)(y:Str)(op:CmpOp)(rhs:Ex)(fs:Sm->Stmt->Stmt)(ret:Bool)(b:List Sm)(t:Stmt):Stmt:=match ret with
 |true=>.Return (some (Qn P m c i y op rhs (aI t 0))) t.pos
 |false=>.If (Qn P m c i y op rhs (aI t 0)) (match b with |x::_=>[fs x (sg (Jy t) 0)] | []=>[]) [] t.pos
def Qo(ks:Sm->Stmt->Bool)(ret:Bool)(b:List Sm)(t:Stmt):Bool:=match ret with
 |true=>b.isEmpty
 |false=>(match b with |x::l=>l.isEmpty&&ks x (sg (Jy t) 0) | []=>false)
theorem JD{P:Pg}{m:Nat}{c:Ct}{i:Nat}{y:Str}{op:CmpOp}{rhs:Ex}{RS:Stmt->Sm->Prop}{fs:Sm->Stmt->Stmt}{ks:Sm->Stmt->Bool}(hs:∀{x t},ks x t=true->RS (fs x t) x){ret:Bool}{b:List Sm}{t:Stmt}(h:Qo ks ret b t=true):Jq RS (Qn P m c i y op rhs (aI t 0)) (VG P m c i y op rhs fs ret b t) ret b:=by
 cases ret with
 |true=>rw[qW h];exact .ret
 |false=>cases b with
  |nil=>symm
  |cons x l=>obtain⟨h1,h2⟩:=aj (show (l.isEmpty&&ks x (sg (Jy t) 0))=true from h);rw[qW h1];exact .ite (hs h2)
def Qp(P:Pg)(m:Nat)(fs:Sm->Stmt->Stmt)(c:Ct)(x:Sm)(ss:List Stmt):List Stmt:=match x with
 |.calls ic xr op rhs ret b=>(match xr with
  |.refs i _ _ es=>(match es with
   |e::es=>.Assign [.Name (nm c ic) (aI (sg ss 0) 1).pos] (.List [(Qk P m c e (kid (aI (sg ss 0) 0) 0)).ex] (aI (sg ss 0) 0).pos) (sg ss 0).pos::(Qm P m c (nm c ic) es ss.tail++[VG P m c i (nm c ic) op rhs fs ret b (sg ss (es.length+1))])
   | []=>ss)
  |_=>ss)
 |_=>ss
def Qq(P:Pg)(m:Nat)(ks:Sm->Stmt->Bool)(c:Ct)(x:Sm)(ss:List Stmt):Bool:=match x with
 |.calls ic xr op rhs ret b=>(match xr with
  |.refs i ir ca es=>(match es with
   |e::es=>decide (ca=P.gW)&&((Xq c ic&&za c ic)&&(Ql P m c i ir e (kid (aI (sg ss 0) 0) 0)&&(decide (es.length<900)&&(JB P m c i ir es ss.tail&&(cmK P m c i op rhs (aI (sg ss (es.length+1)) 0)&&Qo ks ret b (sg ss (es.length+1)))))))
   | []=>false)
  |_=>false)
 |_=>false
theorem Qs{P:Pg}{m:Nat}{RS:Stmt->Sm->Prop}{fs:Sm->Stmt->Stmt}{ks:Sm->Stmt->Bool}(hs:∀{x t},ks x t=true->RS (fs x t) x){c:Ct}{x:Sm}{ss:List Stmt}(h:Qq P m ks c x ss=true):Vz P (Cm P c) RS c (Qp P m fs c x ss) x:=by
 cases x
 case calls ic xr op rhs ret b=>
  cases xr
  case refs i ir ca es=>
   cases es with
   |nil=>symm
   |cons e es=>
    obtain⟨h1,a1⟩:=aj (show (decide (ca=P.gW)&&((Xq c ic&&za c ic)&&(Ql P m c i ir e (kid (aI (sg ss 0) 0) 0)&&(decide (es.length<900)&&(JB P m c i ir es ss.tail&&(cmK P m c i op rhs (aI (sg ss (es.length+1)) 0)&&Qo ks ret b (sg ss (es.length+1))))))))=true from h);clear h;obtain rfl:=dec h1;obtain⟨h2,a2⟩:=aj a1;obtain⟨h3,a3⟩:=aj a2;obtain⟨h4,a4⟩:=aj a3;obtain⟨h5,a5⟩:=aj a4;obtain⟨h6,h7⟩:=aj a5;obtain⟨q1,q2,q3⟩:=JC (y:=nm c ic) h5;obtain⟨k1,k2⟩:=aj (aj h6).1;obtain⟨k3,k4⟩:=aj (aj k1).2;exact .mk (dec (aj (aj h2).1).1) (aj (aj h2).1).2 (mW (aj h2).2).2.1 (mW (aj h2).2).2.2 q1 (.cons (Cm.mk (n:=m+1) h3) q2) (by rw[q3];exact dec h4)
     ⟨(dec (aj (aj k4).2).1).1,(aj k1).1,k3,jX (aj k4).1,(dec (aj (aj k4).2).1).2,(aj (aj k4).2).2,(aj k2).1,(aj (aj k2).2).1,dec (aj (aj k2).2).2⟩ (.mk (aj (aj h6).2).1) (gA (aj (aj h6).2).2) (JD hs h7)
  all_goals exact nt h
 all_goals exact nt h
def VH(P:Pg)(m:Nat)(fs:Sm->Stmt->Stmt)(c:Ct)(x:Sm)(t:Stmt):Stmt:=match x with
 |.ret x=>.Return (some (d7 P (m+1) c x (aI t 0))) t.pos
 |.expr x=>.Expr (d7 P (m+1) c x (aI t 0)) t.pos
 |.set i x=>.Assign [.Name (nm c i) (aI t 1).pos] (d7 P (m+1) c x (aI t 0)) t.pos
 |.setC i x=>.Assign [.Name (nm c i) (aI t 1).pos] (d7 P (m+1) c x (aI t 0)) t.pos
 |.item i xj x=>.Assign [.Subscript (.Name (nm c i) (kid (aI t 1) 0).pos) (d7 P (m+1) c xj (kid (aI t 1) 1)) (aI t 1).pos] (d7 P (m+1) c x (aI t 0)) t.pos
 |.par i j a b=>.Assign [.Tuple [.Name (nm c i) (kid (aI t 1) 0).pos,.Name (nm c j) (kid (aI t 1) 1).pos] (ou (aI t 1)) (aI t 1).pos] (.Tuple [d7 P (m+1) c a (kid (aI t 0) 0),d7 P (m+1) c b (kid (aI t 0) 1)] (ou (aI t 0)) (aI t 0).pos) t.pos
 |.ite e a b=>.If (d7 P (m+1) c e (aI t 0)) (ow (Qp P m fs c) fs a (Jy t)) (ow (Qp P m fs c) fs b (bd1 t)) t.pos
 |.loop T it b=>.For (Ju c T (aI t 0)) (Js (d7 P (m+1) c) it (aI t 1)) (ow (Qp P m fs c) fs b (Jy t)) [] t.pos
 |.while e b=>.While (d7 P (m+1) c e (aI t 0)) (ow (Qp P m fs c) fs b (Jy t)) [] t.pos
 |.raise i x=>.Raise (some (.Call (.Name (P.cls.getD i Str.empty) (kid (aI t 0) 0).pos) [d7 P (m+1) c x (kid (aI t 0) 1)] [] (aI t 0).pos)) none t.pos
 |_=>t
def VJ(P:Pg)(m:Nat)(ks:Sm->Stmt->Bool)(c:Ct)(x:Sm)(t:Stmt):Bool:=match x with
 |.ret x=>qX P (m+1) c x (aI t 0)
 |.expr x=>qX P (m+1) c x (aI t 0)&&!vH (λ_ _=>true) (d7 P (m+1) c x (aI t 0))
 |.set i x=>Xq c i&&(qX P (m+1) c x (aI t 0)&&!vH (λs p=>Vo c (nm c i) (aI t 1).pos p s) (d7 P (m+1) c x (aI t 0)))
 |.setC i x=>decide (c.N[i]?=some (nm c i))&&(Vo c (nm c i) (aI t 1).pos (aI t 0).pos (eU (aI t 0))&&(qX P (m+1) c x (aI t 0)&&(match x with
  |.comp _ _ _ _ _ _=>true
  |_=>false)))
 |.item i xj x=>za c i&&(qX P (m+1) c xj (kid (aI t 1) 1)&&(qX P (m+1) c x (aI t 0)&&!vH (λ_ _=>true) (d7 P (m+1) c x (aI t 0))))
 |.par i j a b=>decide (c.N[i]?=some (nm c i)/\c.N[j]?=some (nm c j)/\i≠j)&&(PN c (nm c i) (nm c j) (kid (aI t 1) 0).pos (kid (aI t 1) 1).pos (d7 P (m+1) c a (kid (aI t 0) 0)) (d7 P (m+1) c b (kid (aI t 0) 1))&&(qX P (m+1) c a (kid (aI t 0) 0)&&qX P (m+1) c b (kid (aI t 0) 1)))
 |.ite e a b=>qX P (m+1) c e (aI t 0)&&(Gb (Qq P m ks c) ks a (Jy t)&&Gb (Qq P m ks c) ks b (bd1 t))
 |.loop T it b=>okN c T.ix&&(Zv P c (qX P (m+1) c) it (aI t 1)&&Gb (Qq P m ks c) ks b (Jy t))
 |.while e b=>qX P (m+1) c e (aI t 0)&&Gb (Qq P m ks c) ks b (Jy t)
 |.raise i x=>decide (P.cls[i]?=some (P.cls.getD i Str.empty))&&(Sf c (P.cls.getD i Str.empty)&&qX P (m+1) c x (kid (aI t 0) 1))
 |.stuck=>true
 |_=>false
def K7(P:Pg)(m:Nat):Nat->Ct->Sm->Stmt->Stmt
 | 0=>λ_ _ t=>t
 |n+1=>λc=>VH P m (K7 P m n c) c
def K8(P:Pg)(m:Nat):Nat->Ct->Sm->Stmt->Bool
 | 0=>λ_ _ _=>false
 |n+1=>λc=>VJ P m (K8 P m n c) c
def Gd(P:Pg)(c:Ct)(s:Stmt)(x:Sm):Prop:=∃m n t,s=K7 P m n c x t/\K8 P m n c x t=true
abbrev rZ (P:Pg) (c:Ct) (ss:List Stmt) (xs:List Sm):Prop:=vG (Vz P (Cm P c) (Gd P c) c) (Gd P c) ss xs
theorem Gd.mk{P:Pg}{m n:Nat}{c:Ct}{x:Sm}{t:Stmt}(h:K8 P m n c x t=true):Gd P c (K7 P m n c x t) x:=⟨m,n,t,rfl,h⟩
theorem rZ.mk{P:Pg}{m n:Nat}{c:Ct}{xs:List Sm}{ss:List Stmt}(h:Gb (Qq P m (K8 P m n c) c) (K8 P m n c) xs ss=true):rZ P c (ow (Qp P m (K7 P m n c) c) (K7 P m n c) xs ss) xs:=Qj (Qs .mk) .mk h
theorem ZF{e:Expr}(h:(!vH (λ_ _=>true) e)=true):vH (λ_ _=>true) e=false:=gA h
theorem Gd.Ga{P:Pg}{c:Ct}{s:Stmt}{x:Sm}(h:Gd P c s x):∃m n t,s=VH P m (K7 P m n c) c x t/\VJ P m (K8 P m n c) c x t=true:=by
 obtain⟨m,n,t,rfl,h⟩:=h;cases n with
 |zero=>symm
 |succ n=>exact⟨m,n,t,rfl,h⟩
noncomputable def zX(e:Expr):Bool:=match e with
 |.Constant .. |.Name .. |.BinOp .. |.Compare .. |.UnaryOp .. |.BoolOp .. |.IfExp .. |.Tuple .. |.List .. |.Subscript .. |.Call .. |.JoinedStr .. |.ListComp .. |.Dict .. |.DictComp ..=>true
 |_=>false
theorem Cm.zX{P:Pg}{c:Ct}{e:Expr}{x:Ex}(h:Cm P c e x):zX e=true:=by
 obtain⟨n,t,rfl,q⟩:=h.Ga;clear h;cases x
 case val d=>show Ev.zX (vI d t)=true;unfold vI;split <;> rfl
 case peek xe=>obtain⟨x,p,a,es,pos,e⟩:=tV (aj q).1;show Ev.zX (d7 P n c xe t)=true;rw[e];rfl
 all_goals first |rfl |exact Bool.noConfusion (show false=true from q)
section
theorem Cm.star(h:Cm P c e x)(es:List Expr):starEach (e::es) env=(false,eval e env)::starEach es env:=by have hs:=h.zX;cases e <;> first |rfl |exact Bool.noConfusion (show false=true from hs)
theorem vD.star(h:zW P c es xs):starEach es env=es.map λe=>(false,eval e env):=by
 induction es generalizing xs with
 |nil=>rfl
 |cons e es ih=>
  cases h with
  |cons h1 h2=>rw[h1.star,ih h2];rfl
theorem vD.plain(h:zW P c es xs):(backTo pos (starEach es env)).any (·.1)=false:=by
 rw[h.star];unfold backTo
 induction es generalizing xs with
 |nil=>rfl
 |cons e es ih=>
  cases h with
  |cons h1 h2=>rw[List.map_cons,List.map_cons,List.any_cons,ih h2];rfl
theorem Cm.folded(h:Cm P c e x)(y:Value):foldedSetIterable e env y=pure y:=by have hs:=h.zX;cases e <;> first |rfl |exact Bool.noConfusion (show false=true from hs)
theorem vE.folded(h:Xs P c e x)(y:Value):foldedSetIterable e env y=pure y:=by
 cases h with
 |seq h=>exact h.folded y
 |eK _ _ _=>rfl
 |dM _ _ _ _=>rfl
 |zip _ _ _ _=>rfl
theorem Cm.JF(h:Cm P c e x):qu e:=by have hs:=h.zX;cases e <;> first |exact λ_ _=>rfl |exact Bool.noConfusion (show false=true from hs)
end
structure ig(P:Pg)(rn:Rn):Prop where
 e:∀{X:Cx}{c:Ct}{z:Z}{k:Nat}{x:Ex}{e:Expr}{g g':G}{r:R},aW P k X c->z.K=X.K->Cm P c e x->rn.e z.bor k x g=some (r,g')->az X z e g r g'
 t:∀{X:Cx}{c:Ct}{z:Z}{k:Nat}{x:Ex}{e:Expr}{g g':G}{b:Bool},aW P k X c->z.K=X.K->Cm P c e x->rn.t z.bor k x g=some (b,g')->bZ X z e g b g'
 b:∀{X:Cx}{c:Ct}{z:Z}{k:Nat}{xs:List Sm}{iT:List Stmt}{g g':G}{f:Fl},aW P k X c->c.df=true->z.K=X.K->rZ P c iT xs->rn.b z.bor k xs g=some (f,g')->dF X z iT g f g'
 g:∀{X:Cx}{c:Ct}{z:Z}{k:Nat}{f ir:Nat}{l:Lt}{ls:List Lt}{es:List Ex}{fx v:Str}{scope:Scope}{N':List Str}{kb j:Nat}{fp vp cp:Pos}{g g':G}{r:R},aW P k X c->z.K=X.K->kI (Cm P c) fx f ir P.gW (l::ls) es->Vy c fx scope N' v kb j->rn.e z.bor k (.refs f ir P.gW es) g=some (r,g')->
  ∃ds,r=.new ds/\(∃q cc,mQ X gX q cc)/\(∀m∈l::ls,aN X.env.scope m.scope/\dH m.params m.scope)/\dG (mR X z g gX N' (X.N.length+j) scope (.Call (.Name fx fp) [.Name v vp] [] cp)) (l::ls) ds
theorem jY(h:jW N N' scope k=true):Names N N' scope k:=by
 unfold jW at h;simp only[eP,eQ,oD,v6]at h;obtain⟨⟨h1,h2⟩,h3⟩:=h;refine⟨h1,λx e=>?_,λi x e hi=>?_⟩
 . rw[e]at h2;exact i8 h2
 . have h4:=h3 i hi;rw[e]at h4;simp only[An,eP,eQ]at h4;exact h4
theorem jq(ct:aW P k X c)(h:qU c.sc scope=true):aN X.env.scope scope:=by
 unfold qU at h;simp only[eP,eQ,oD,An]at h;obtain⟨h1,h2⟩:=h;refine⟨h1,λy hy=>(h2 y hy).1.1,λy hy e=>?_,λy hy e=>?_,λy hy e=>?_⟩
 . exact ((h2 y hy).1.2).elim (λq=>absurd e q) id
 . exact ((h2 y hy).2).elim (λq=>absurd e q) λq=>q.1
 . exact ((h2 y hy).2).elim (λq=>absurd e q) λq=>ct.Zt _ q.2
theorem iL{X:Cx}{N':List Str}{scope:Scope}{b:Bk}{x:Str}:(X.blk N' scope b).env.scope.names.lookup x=(scope.names.lookup x).map λk=>if (k==NameKind.free&&X.env.scope.kind==.function&&X.env.kindOf x==some .cell)then NameKind.cell else k:=dz
theorem aW.blk{P:Pg}{k:Nat}{X:Cx}{c:Ct}{scope:Scope}{N':List Str}(ct:aW P k X c)(hnd:N'.Nodup)(b:Bk):aW P k (X.blk N' scope b) ⟨N',scope,false,Str.empty⟩:=by
 refine⟨rfl,hnd,λx e=>?_,λx e=>?_,λx e=>?_,λe=>absurd e ⋯,λx e=>?_,λe=>absurd e ⋯,ct.calm,rfl,ct.md,ct.room,λe=>absurd (show Str.empty=("law":Str)from e) ⋯⟩
 . have e':scope.names.lookup x=some .local:=e;rw[iL,e'];rfl
 . have e':scope.names.lookup x=some .globalImplicit:=e;show (X.blk N' scope b).env.scope.names.lookup x=_;rw[iL,e'];rfl
 .
  rw[iL];rcases e with e |e
  . have e':scope.names.lookup x=some .cell:=e;rw[e'];exact .inl rfl
  .
   have e':scope.names.lookup x=some .free:=e;rw[e',AU];by_cases hq:(NameKind.free==NameKind.free&&X.env.scope.kind==.function&&X.env.kindOf x==some .cell)=true
   . rw[i5 hq];exact .inl rfl
   . rw[gN hq];exact .inr rfl
 .
  rcases e with e |e
  . cases e
  . have e':scope.names.lookup x=some .local:=e;show (scope.names.lookup x==some .local)=true;rw[e'];rfl
section
theorem bq(h:az X z e g r g'):az X z e g (norm r) g':=by
 cases r with
 |dat d=>exact h
 |new l=>exact lW h
 |var i=>exact h
theorem Df(h:az X z e g r g1)(hd:toD z.bor r g1=some (d,g')):az X z e g (.dat d) g':=by
 cases r with
 |dat d'=>cases hd;exact h
 |new l=>cases hd;exact lW h
 |var i=>
  have hd:(if i∈z.bor then none else match g1[i]? with |some (.own l)=>some (D.lst l,g1.set i (.dat (.lst l))) |_=>none)=some (d,g'):=hd
  split at hd
  . cases hd
  .
   rename_i hb;split at hd
   . rename_i l hg;cases hd;exact yq h hg hb
   . cases hd
theorem bI(hS:ig P rn)(ct:aW P k X c)(hK:z.K=X.K)(hc:Cm P c e x)(h:iS rn z.bor k x g=some (d,g')):az X z e g (.dat d) g':=by
 unfold iS at h;split at h
 . rename_i r g1 e1;exact Df (hS.e ct hK hc e1) h
 . symm
theorem mZ:∀(ds:List D),sJ (ds.map R.dat)=some ds
 | []=>rfl
 |d::ds=>by
  show (match sJ (ds.map R.dat)with |some ds=>some (d::ds) |none=>none)=_
  rw[mZ ds]
theorem gD(hS:ig P rn)(ct:aW P k X c)(hK:z.K=X.K):∀{es:List Expr}{xs:List Ex}{g g':G}{ds:List D},zW P c es xs->kF rn z.bor k xs g=some (ds,g')->cV X z es g (ds.map .dat) g'
 |_,_,_,_,_,.nil,h=>by symm;exact gi
 |_,_,_,_,_,.cons h1 h2,h=>by
  unfold kF at h;split at h
  .
   rename_i d g1 e1;split at h
   . rename_i ds g2 e2;symm;exact fD (bI hS ct hK h1 e1) (gD hS ct hK h2 e2) (h1.star _)
   . symm
  . symm
theorem jr(hS:ig P rn)(ct:aW P k X c)(hK:z.K=X.K):∀{es:List Expr}{xs:List Ex}{g g':G}{rs:List R},zW P c es xs->argsR rn z.bor k xs g=some (rs,g')->cV X z es g rs g'
 |_,_,_,_,_,.nil,h=>by symm;exact gi
 |_,_,_,_,_,.cons h1 h2,h=>by
  unfold argsR at h;split at h
  .
   rename_i r g1 e1;split at h
   .
    rename_i rs g2 e2;symm;have q:=bq (hS.e ct hK h1 e1);have q2:=jr hS ct hK h2 e2;cases r with
    |dat d=>exact fD q q2 (h1.star _)
    |new l=>exact fD q q2 (h1.star _)
    |var i=>exact Ba q q2 (h1.star _)
   . symm
  . symm
theorem gI(h:argsR rn bor k [a,b] g=some (rs,g2)):∃r1 r2 g1,rn.e bor k a g=some (r1,g1)/\rn.e bor k b g1=some (r2,g2)/\rs=[norm r1,norm r2]:=by
 unfold argsR at h;split at h
 .
  rename_i r1 g1 e1;unfold argsR at h;split at h
  .
   rename_i rs' g3 e3;split at e3
   . rename_i r2 g4 e2;unfold argsR at e3;cases e3;symm;exact⟨r1,r2,g1,e1,e2,rfl⟩
   . cases e3
  . symm
 . symm
theorem vJ(hS:ig P rn)(ct:aW P k X c)(hK:z.K=X.K):∀{bs:List Expr}{xs:List Ex}{ops:List CmpOp}{g g':G}{d1:D}{b:Bool},zW P c bs xs->zV rn z.bor k d1 ops xs g=some (b,g')->qH X z d1 ops bs g b g'
 |_,_,[],_,_,_,_,.nil,h=>by symm
 |_,_,[_],_,_,_,_,.nil,h=>by unfold zV at h;symm
 |_,_,_::_::_,_,_,_,_,.nil,h=>by unfold zV at h;symm
 |_,_,[],_,_,_,_,.cons _ _,h=>by unfold zV at h;symm
 |_,_,[op],_,_,d1,_,.cons h1 .nil,h=>by
  unfold zV at h;split at h
  .
   rename_i d2 g1 e1;split at h
   . rename_i b e2;symm;exact .last (bI hS ct hK h1 e1) (iJ hK ct.room e2)
   . symm
  . symm
 |_,_,op::op'::ops,_,_,d1,_,.cons h1 .nil,h=>by unfold zV at h;symm
 |_,_,[op],_,_,d1,_,.cons h1 (.cons h2 h3),h=>by unfold zV at h;symm
 |_,_,op::op'::ops,_,_,d1,_,.cons h1 (.cons h2 h3),h=>by
  unfold zV at h;split at h
  .
   rename_i d2 g1 e1;split at h
   . rename_i e2;exact .link (bI hS ct hK h1 e1) (iJ hK ct.room e2) (vJ hS ct hK (.cons h2 h3) h)
   . rename_i e2;symm;exact .stop (bI hS ct hK h1 e1) (iJ hK ct.room e2)
   . symm
  . symm
theorem wW(hS:ig P rn)(ct:aW P k X c)(hK:z.K=X.K):∀{es:List Expr}{xs:List Ex}{g g':G}{r:R},zW P c es xs->CK rn z.bor k xs g=some (r,g')->az X z (.BoolOp .And es pos) g r g'
 |_,_,_,_,_,.nil,h=>by symm
 |_,_,_,_,_,.cons h1 .nil,h=>Az (hS.e ct hK h1 h)
 |_,_,_,_,_,.cons h1 (.cons h2 h3),h=>by
  unfold CK at h;split at h
  . rename_i g1 e1;exact G5 (hS.e ct hK h1 e1) (wW hS ct hK (.cons h2 h3) h)
  . rename_i g1 e1;symm;exact G4 (hS.e ct hK h1 e1)
  . symm
theorem Dg(hS:ig P rn)(ct:aW P k X c)(hK:z.K=X.K):∀{es:List Expr}{xs:List Ex}{g g':G}{r:R},zW P c es xs->Vn rn z.bor k xs g=some (r,g')->az X z (.BoolOp .Or es pos) g r g'
 |_,_,_,_,_,.nil,h=>by symm
 |_,_,_,_,_,.cons h1 .nil,h=>Az (hS.e ct hK h1 h)
 |_,_,_,_,_,.cons h1 (.cons h2 h3),h=>by
  unfold Vn at h;split at h
  . rename_i g1 e1;exact Nr (hS.e ct hK h1 e1) (Dg hS ct hK (.cons h2 h3) h)
  . rename_i g1 e1;symm;exact Nq (hS.e ct hK h1 e1)
  . symm
theorem tW(hS:ig P rn)(ct:aW P k X c)(hK:z.K=X.K):∀{es:List Expr}{xs:List Ex}{g g':G}{b:Bool},zW P c es xs->tQ rn z.bor k xs g=some (b,g')->kW X z (.BoolOp .And es pos) g b g'
 |_,_,_,_,_,.nil,h=>by symm
 |_,_,_,_,_,.cons h1 .nil,h=>GZ (hS.t ct hK h1 h)
 |_,_,_,_,_,.cons h1 (.cons h2 h3),h=>by
  unfold tQ at h;split at h
  . rename_i g1 e1;exact G3 (hS.t ct hK h1 e1) (tW hS ct hK (.cons h2 h3) h)
  . rename_i g1 e1;symm;exact G0 (hS.t ct hK h1 e1)
  . symm
theorem wX(hS:ig P rn)(ct:aW P k X c)(hK:z.K=X.K):∀{es:List Expr}{xs:List Ex}{g g':G}{b:Bool},zW P c es xs->CN rn z.bor k xs g=some (b,g')->kW X z (.BoolOp .Or es pos) g b g'
 |_,_,_,_,_,.nil,h=>by symm
 |_,_,_,_,_,.cons h1 .nil,h=>Nk (hS.t ct hK h1 h)
 |_,_,_,_,_,.cons h1 (.cons h2 h3),h=>by
  unfold CN at h;split at h
  . rename_i g1 e1;exact Np (hS.t ct hK h1 e1) (wX hS ct hK (.cons h2 h3) h)
  . rename_i g1 e1;symm;exact Nm (hS.t ct hK h1 e1)
  . symm
theorem tX(hS:ig P rn)(ct:aW P k X c)(hK:z.K=X.K)(hc:CmO P c e x)(h:kG rn z.bor k x g=some (o,g')):qI X z e g o g':=by
 cases hc with
 |none=>symm;exact yE
 |@some e' x' hc=>
  have h:(match iS rn z.bor k x' g with |some (.int i,g1)=>some (some i,g1) |_=>none)=some (o,g'):=h
  split at h
  . rename_i e1;symm;exact yF (bI hS ct hK hc e1)
  . symm
theorem Dh(ct:aW P k X c)(h:c.sc.names.lookup x=some .globalImplicit):Gl X x:=ct.pK x h
theorem JG{tp:Bool}{bor:List Nat}{it:Ex}{g:G}(h:Xo it=false):fS rn bor k tp it g=match iS rn bor k it g with |some (.tup l,g1)=>some (l,g1) |some (.lst l,g1)=>some (l,g1) |some (.fix l,g1)=>some (l,g1) |_=>none:=by cases it <;> first |rfl |exact Bool.noConfusion (show true=false from h)
theorem Di(hS:ig P rn)(ct:aW P k X c)(hK:z.K=X.K)(htp:tp=true->∃es k pos,tg=.Tuple es k pos)(hc:Xs P c iter it)(h:fS rn z.bor k tp it g=some (items,g')):iG X z tg iter g items g':=by
 cases hc with
 |zip ha ha2 hb hg=>
  unfold fS at h;dsimp only at h;split at h
  .
   rename_i ht;obtain⟨es,k0,pos,rfl⟩:=htp ht;split at h
   .
    rename_i d1 d2 g1 e1;split at h
    .
     rename_i l m e2 e3;split at h
     . rename_i e4;symm;exact O5 hK (gD hS ct hK (.cons ha (.cons ha2 .nil)) e1) e2 e3 e4 (Dh ct hg) (ct.md.bn _ hb) (ha.star _) (by rw[ha2.star];rfl)
     . symm
    . symm
   . symm
  . symm
 |eK ha hb hg=>
  unfold fS at h;dsimp only at h;split at h
  .
   rename_i j g1 e1;split at h
   . rename_i hj;symm;simp only[Py,eP,eQ]at hj;exact Hr (fD (bI hS ct hK ha e1) gi (ha.star _)) (Dh ct hg) (ct.md.bn _ hb) (by rw[ha.star];rfl) hj.1 hj.2
   . symm
  . symm
 |dM ha hb' hb hg=>
  unfold fS at h;dsimp only at h;split at h
  .
   rename_i c0 g1 e1;split at h
   .
    rename_i j g2 e2;split at h
    . rename_i hj;symm;simp only[Py,eP,eQ]at hj;exact Hs (fD (bI hS ct hK ha e1) (fD (bI hS ct hK hb' e2) gi (hb'.star _)) (ha.star _)) (Dh ct hg) (ct.md.bn _ hb) (by rw[ha.star,hb'.star];rfl) (by rw[hb'.star];rfl) ⟨hj.1.1,hj.1.2,hj.2.1,hj.2.2⟩
    . symm
   . symm
  . symm
 |seq hc=>
  have h':=(JG hc.ZC).symm.trans h;split at h'
  . rename_i e1;cases h';exact Ob hK (bI hS ct hK hc e1)
  . rename_i e1;cases h';exact Oc (bI hS ct hK hc e1)
  . rename_i e1;cases h';exact Od hK (bI hS ct hK hc e1)
  . cases h'
theorem Dj(hS:ig P rn)(ct:aW P k X c)(hK:z.K=X.K)(hc:Jx P c ifs co)(h:K3 rn z.bor k co g=some (b,g')):g8 X z ifs g b g':=by
 cases hc with
 |none=>symm;exact Ht
 |some hc=>exact Hu (hS.t ct hK hc h)
theorem K9(h:PL c tg T):T.k9=true->∃es k pos,tg=.Tuple es k pos:=by
 cases h with
 |nm _ _=>intro e;cases e
 |tp _=>intro _;exact⟨_,_,_,rfl⟩
theorem Qt(ct:aW P k X c)(h:yX c es is):jh X es is:=by
 induction h with
 |nil=>exact .nil
 |cons h1 h2 _ ih=>exact .cons (ct.nm h1 h2) ih
theorem La(ct:aW P k X c)(hK:z.K=X.K)(h:PL c tg T)(hb:∀i∈T.ix,i∉z.bor):sQ X z tg T:=by
 cases h with
 |nm h1 h2=>exact Uy (ct.nm h1 h2) (hb _ (hU.mpr rfl))
 |tp h1=>exact Uz ct.calm hK (Qt ct h1) hb
theorem vK(hS:ig P rn){Xb:Bk->Cx}{cb:Ct}(VL:∀b,aW P k (Xb b) cb)(KY:∀b,z.K=(Xb b).K){T:Tg}{last:Nat}{ifs:List Expr}{co:Option Ex}{gP:Expr}{xe:Ex}(hi:Jx P cb ifs co)(he:Cm P cb gP xe) :
  ∀{items:List D}{g gE:G},FW rn z.bor k T last co xe items g=some gE->kY T last (λg b g'=>∀bk:Bk,g8 (Xb bk) z ifs g b g') (λg d g'=>∀bk:Bk,az (Xb bk) z gP g (.dat d) g') items g gE
 | [],_,_,h=>by symm;exact .nil
 |d::l,_,_,h=>by
  unfold FW at h;split at h
  . symm
  .
   rename_i g1 e1;split at h
   . symm
   . rename_i g2 e2;exact .skip e1 (λbk=>Dj hS (VL bk) (KY bk) hi e2) (vK hS VL KY hi he h)
   .
    rename_i g2 e2;split at h
    . symm
    .
     rename_i x g3 e3;split at h
     .
      rename_i acc e4;split at h
      . rename_i hl;exact .take e1 (λbk=>Dj hS (VL bk) (KY bk) hi e2) (λbk=>bI hS (VL bk) (KY bk) he e3) e4 hl (vK hS VL KY hi he h)
      . symm
     . symm
end
def gF(P:Pg)(mg:Str->Option Value)(ci:Nat)(C:Addr):Prop:=∃x,P.cls[ci]?=some x/\mg x=some (.ref C)
structure Ge(P:Pg)(k:Nat)(X:Cx)(c:Ct):Prop where
 ct:aW P k X.jJ c
 ex:X.ex=[]
 pa:PassesOwn (~~~2) X.A X.env X.xe
structure jt(P:Pg)(rn:Rn):Prop where
 x:∀{X:Cx}{c:Ct}{z:Z}{k:Nat}{x:Ex}{e:Expr}{g g':G}{ci:Nat}{C:Addr},Ge P k X c->z.K=X.K->gF P X.mg ci C->Cm P c e x->rn.x z.bor k x g=some (ci,g')->rY X z e g C g'
 t:∀{X:Cx}{c:Ct}{z:Z}{k:Nat}{x:Ex}{e:Expr}{g g':G}{ci:Nat}{C:Addr},Ge P k X c->z.K=X.K->gF P X.mg ci C->Cm P c e x->rn.xt z.bor k x g=some (ci,g')->RW X z e g C g'
 b:∀{X:Cx}{c:Ct}{z:Z}{k:Nat}{xs:List Sm}{iT:List Stmt}{g g':G}{ci:Nat}{C:Addr},Ge P k X c->c.df=true->z.K=X.K->gF P X.mg ci C->rZ P c iT xs->rn.xb z.bor k xs g=some (ci,g')->HJ X z iT g C g'
structure JH(P:Pg)(fi:Fi)(fx:Fx):Prop where
 np:fx.np=fi.ps.length
 n:fx.n=fi.N.length
 body:rZ P ⟨fi.N,aB fi.st,true,fi.qual⟩ (bz fi.st) fx.body
def eZ(P:Pg)(fns:List Fx):Prop:=∀(f:Nat) (fi:Fi) (fx:Fx),P.fn[f]?=some fi->fns[f]?=some fx->JH P fi fx
theorem ng{P:Pg}{k:Nat}{prog:Program}{w:World}{K:Frag}{mg:Str->Option Value}{base:Heap}{N ps:List Str}{qual:Str}{scope:Scope}{f:Addr}{bB:Value}{A:Around}{outer:List Env}{s:Shared}{H:Hp}{E:XK}
  (S:bT N ps scope) (md:qQ P K mg) (bY:PySem.W.codeIn K bB qual=true) (hr:bW k (A.deeper (envOfC qual scope s⁻¹ f bB))):aW P k (eF rW prog w K mg base N qual scope f bB A outer s H E).jJ ⟨N,scope,true,qual⟩:=by
 refine⟨rfl,S.nd,λx e=>e,λx e=>e,λx e=>e,λ_ x e=>e,λx _=>rfl,λ_=>?_,rfl,rfl,md,hr,λe h=>⟨by have e:qual = "law" :=e;subst e;rfl,md.lam h _ (by have e:qual = "law" :=e;exact e▸bY)⟩⟩
 show (if scope.kind.isAnnotationScope then ScopeKind.function else scope.kind)=.function
 rw[S.kind];rfl
section
theorem Dk(hS:ig P rn){k':Nat}(ct:aW P (k'+1) X c)(hK:z.K=X.K){f:Nat}{fi:Fi}{fx:Fx}(VM:P.fn[f]?=some fi)(rS:JH P fi fx)(K1:c.sc.names.lookup fi.name=some .globalImplicit){e:Expr}{es:List Expr}{xs:List Ex}{rs:List R}{g g1 gO:G}{r:R}
  (hc:zW P c (e::es) xs) (ha:cV X z (e::es) g rs g1) (h:bu rn fx k' rs g1=some (r,gO)):az X z (.Call (.Name fi.name p) (e::es) [] pos) g r gO:=by
 obtain⟨f,fd,hm,hF,Qu,hB,iB⟩:=ct.md.fn _ fi VM;have F:gQ X.prog X.w X.K X.mg X.base rW (k'+1) f fd fi.ps (Hq X.K fi.N fi.ps.length λbor g r g'=>rn.b bor k' fx.body g=some (.rt r,g')\/(rn.b bor k' fx.body g=some (.nx,g')/\r=.dat .non)):=by
  refine wJ hF Qu λbB A outer s H E bY hr z' g r g' R8 hrun=>?_
  have ZG:aW P k' (eF rW X.prog X.w X.K X.mg X.base fi.N fi.qual (aB fi.st) f bB A outer s H E).jJ ⟨fi.N,aB fi.st,true,fi.qual⟩:=ng Qu ct.md bY hr;rcases hrun with h |⟨h,rfl⟩
  . exact⟨_,hS.b ZG rfl R8 rS.body h,.inl rfl⟩
  . exact⟨_,hS.b ZG rfl R8 rS.body h,.inr ⟨rfl,rfl⟩⟩
 have h1:∃h2:zW P c es xs.tail,starEach (e::es) X.env=(false,eval e X.env)::starEach es X.env:=by
  cases hc with
  |cons h1 h2=>exact⟨h2,h1.star _⟩
 obtain⟨h2,d8⟩:=h1;unfold bu at h;split at h
 .
  rename_i hl;split at h
  . symm
  .
   rename_i gs e1;split at h
   .
    rename_i r0 gc e2;split at h
    .
     rename_i gO' e3;split at h
     . rename_i r' e4;symm;exact wI F hK ct.room (ct.pK _ K1) hm hF.kp hB ha (by rw[hl.1,rS.np]) e1 hl.2 (.inl (by rw[<- rS.n];exact e2)) e3 e4 iB d8 h2.plain
     . symm
    . symm
   .
    rename_i gc e2;split at h
    . rename_i gO' e3;symm;exact wI F hK ct.room (ct.pK _ K1) hm hF.kp hB ha (by rw[hl.1,rS.np]) e1 hl.2 (.inr ⟨by rw[<- rS.n];exact e2,rfl⟩) e3 rfl iB d8 h2.plain
    . symm
   . symm
 . symm
theorem tY(hS:ig P rn)(ct:aW P k X c)(hK:z.K=X.K)
  (hnd:N'.Nodup) (hT:PL ⟨N',scope,false,Str.empty⟩ tg T) (hTi:∀i∈T.ix,c.N.length<=i/\i<c.N.length+kk) (hi:Xs P c iter it) (hf:Jx P ⟨N',scope,false,Str.empty⟩ ifs co) (he:Cm P ⟨N',scope,false,Str.empty⟩ gP xe)
  (h:bS rn z.bor k c.N.length kk T it co xe g=some (acc,g')) :
  ∃items g1 gE,iG X z tg iter g items g1/\(∀b:Bk,sQ (X.blk N' scope b) z tg T)/\(∀i∈T.ix,g1.length<=i/\i<g1.length+kk)/\
   kY T (g1.length+kk) (λg b g'=>∀bk:Bk,g8 (X.blk N' scope bk) z ifs g b g') (λg d g'=>∀bk:Bk,az (X.blk N' scope bk) z gP g (.dat d) g') items (gC kk g1) gE/\gE[g1.length+kk]?=some (.own acc)/\g'=gE.take g1.length:=by
 unfold bS at h;split at h
 . symm
 .
  rename_i items g1 e1;split at h
  .
   rename_i hl;split at h
   . symm
   .
    rename_i gE e2;split at h
    .
     rename_i acc' e3;symm;obtain⟨hl,hb⟩:=hl;rw[<- hl]at e2 e3 hTi ⊢
     refine⟨items,g1,gE,Di hS ct hK (K9 hT) hi e1,λb=>La (ct.blk hnd b) hK hT λi hi hm=>?_,hTi,vK hS (λb=>ct.blk hnd b) (λb=>hK) hf he e2,e3,rfl⟩
     rw[List.any_eq_false]at hb;exact hb i hi (nK hm)
    . symm
  . symm
end
theorem JK{P:Pg}{c:Ct}{er y ke en FZ:Str}{yU np R5 py bM nQ kp tK tH dw nR nP:Pos}{j:Nat}{rest:List Stmt}{bd:List Sm}(h:rZ P c (.Assign [.Name er yU] (.Constant .none j np) R5::Cv y ke en FZ py bM nQ kp tK tH dw nR nP::rest) bd):rZ P c rest (bd.drop 2):=by
 have nog:∀{s:Stmt}{ss:List Stmt}{x:Sm}{r:List Stmt},Vz P (Cm P c) (Gd P c) c ss x->ss++r=s::rest->(∀a b p,s≠.Assign a b p)->False:=λg e n=>by
  cases g <;> (injection e with e1 e2;exact n _ _ _ e1.symm)
 generalize hq:(Stmt.Assign [.Name er yU] (.Constant .none j np) R5::Cv y ke en FZ py bM nQ kp tK tH dw nR nP::rest)=iT at h;cases h with
 |nil=>cases hq
 |grp g _=>cases g <;> (injection hq with e1 e2;injection e1 with e3 e4;cases e4)
 |cons _ h1=>
  injection hq with e1 e2;generalize hq2:(Cv y ke en FZ py bM nQ kp tK tH dw nR nP::rest)=aP at e2;subst e2;cases h1 with
  |nil=>cases hq2
  |grp g _=>exact (nog g hq2.symm (λa b p e=>nomatch e)).elim
  |cons _ h2=>injection hq2 with e1 e2;subst e2;exact h2
section
variable{X:Cx}{c:Ct}
theorem Dl(ct:aW P k X c){es:List Expr}{ns:List String}(h:yZ P c es ns):mG X es ns/\∀n∈ns,n∈qT:=by
 induction h with
 |nil=>exact⟨.nil,λn hn=>nomatch hn⟩
 |@cons T n pos es ns h1 h2 h3 h4 _ ih=>
  refine⟨.cons ?_ ih.1,λm hm=>(dL.mp hm).elim (λe=>e▸h4) (ih.2 m)⟩
  subst h3;refine⟨ct.pK _ h2,ct.md.bn _ h1,?_,?_,?_⟩ <;> (unfold qT at h4;simp only[dL,i4,u8]at h4;rcases h4 with rfl |rfl |rfl |rfl |rfl |rfl <;> first |rfl |decide)
theorem Qv{e:Expr}{g g1:G}{r:R}{d:D}(h:az X z e g r g1)(hp:pk r g1=some d)(hs:starEach [e] X.env=(false,eval e X.env)::starEach [] X.env):cV X z [e] g [r] g1:=by
 cases r with
 |dat d=>exact fD h gi hs
 |new l=>cases hp
 |var i=>exact Ba h gi hs
theorem Qw{e:Expr}{x:Ex}{bM:Pos}(hc:Cm P c e x):((backTo bM (starEach [e] X.env)).all (λx=>!x.1)&&(backToKw bM (keywordEach [] X.env)).all (λx=>x.1.isSome)
   && decide ([e].length+([]:List Keyword).length+(if ([]:List Keyword).isEmpty then 0 else 1)<30))=true:=by
 rw[hc.star];rfl
theorem wY(hS:ig P rn)(hX:jt P rn){fns:List Fx}(hF:eZ P fns){k':Nat}{Y:Cx}(md:qQ P Y.K Y.mg)(hr:bW (k'+2) Y.A)(hcm:Y.calm=true)(hKY:z.K=Y.K)(Uk:c.N.Nodup)(hN:X.N=c.N){f ir:Nat}{fi:Fi}{l:Lt}{xb:Ex}{g Cr g3:G}{r0 r':R}{fx:Fx}{ci:Nat}{C:Addr}
  (h1:P.fn[f]?=some fi) (h5:P.lam=true) (h6:CW fi ir P.kt=true) (h8:y9 l.params l.scope=true) (h9:Cm P ⟨c.N,l.scope,false,Str.empty⟩ l.body xb)
  (e1:fns[f]?=some fx) (e2:rn.x [] k' xb (g.map noOwn)=some (ci,Cr)) (e3:P.gW[ci]?=some C) (e4:rn.b [] k' (fx.body.drop 2) ((List.replicate fx.n .no).set ir (.dat (.kr C)))=some (.rt r0,g3)) (e5:cW [] g3 r0=some r') {fa:Addr}{fd:FuncData} (F:Fz Y.K fi.name fi.qual fi.st fa fd) (Sc:bT fi.N fi.ps (aB fi.st)) (bd:L2.Binds Y.K fd fi.ps []):vn Y X z g gX l r' fa:=by
 have rS:=hF f fi fx h1 e1;obtain⟨xC,c1,c2,qC,kC⟩:=md.gW ci C e3;obtain⟨dk,D,mD,qD,hup⟩:=md.kt h5;have L:=qV h8;unfold CW at h6;split at h6
 .
  rename_i er y ke en FZ K5 hv;obtain⟨yU,j,np,R5,py,bM,nQ,kp,tK,tH,dw,nR,nP,rest,d8⟩:=Jp hv;obtain⟨p1,p2⟩:=aj h6;obtain⟨⟨q1,q2,q3,q4⟩,⟨q5,q6,q7⟩,⟨q8,q9⟩,q10,q11,q12⟩:=dec p1;subst q1 q2 q3;obtain⟨p3,p4⟩:=aj p2;have pe:=dZ (aj p3).1;have py':=dZ (aj p3).2;have vy:oK (aB fi.st) y:=by
   have:=(aj p4).1;unfold qR at this;split at this
   . rename_i e;exact .inl e
   . rename_i e;exact .inr (.inl e)
   . rename_i e;exact .inr (.inr e)
   . cases this
  have lr:Loc (aB fi.st) FZ:=by
   have:=(aj p4).2;unfold gY at this;split at this
   . rename_i e;exact .inl e
   . rename_i e;exact .inr e
   . cases this
  have hb:=rS.body;rw[d8]at hb;have hrs:rZ P ⟨fi.N,aB fi.st,true,fi.qual⟩ rest (fx.body.drop 2):=JK hb;intro ah σ1 σ0 H1 s1 g1 J A0 M p c' cl pm fT us Q E I1 S1 hp1 hc1 Zg Vk rv hQ;refine Pa (k:=k') (C:=C) (D:=D) (y:=y) (ke:=P.kt) (en:=K5) (er:=FZ) (ie:=fi.N.idxOf K5) (ir:=ir) (Cr:=Cr) (g3:=g3) (r:=r0) (N:=X.N) hKY hr hcm F d8 (q4▸Sc) (q4▸bd)
   ⟨Sc.nd,q5,mD,dk,qC,qD,hup C (l7 e3),kC,q6,q7,pe.1,pe.2,q8,lr,q9,vy,py'.1,py'.2,q10,q11,q12⟩ L (λXf s H xe zl a1 a2 a3 a4 a5 hr hc hp ZJ ZK=>?_) (λbB A outer s H E bY hr zf ZJ ZK=>?_) e5 I1 S1 hp1 hc1 Zg Vk.noOwn (λi l e=>yT e) rv hQ
  .
   have ZL:gF P (tE Xf X.N gX l.scope p (.ref c') cl s H xe).mg ci C:=⟨xC,c1,a4▸c2⟩;refine hX.x (c:=⟨c.N,l.scope,false,Str.empty⟩) ⟨⟨hN,Uk,λx e=>e,λx e=>e,λx e=>e,(λe=>nomatch e),λx e=>?_,(λe=>nomatch e),rfl,rfl,?_,hr.deeper _,λe=>absurd (show Str.empty=("law":Str)from e) ⋯⟩,rfl,hp⟩ (ZJ.trans a3.symm) ZL h9 (by rw[ZK];exact e2)
   .
    rcases e with e |e
    . cases e
    . exact absurd rfl (L.nl _ (L2.mem_of_lookup e))
   . show qQ P Xf.K Xf.mg;rw[a3,a4];exact md
  .
   have e4':rn.b zf.bor k' (fx.body.drop 2) ((List.replicate fi.N.length .no).set ir (.dat (.kr C)))=some (.rt r0,g3):=by rw[ZK,<- rS.n];exact e4
   exact hS.b (ng Sc md bY hr) rfl ZJ hrs e4'
 . cases h6
theorem Lb(ct:aW P k X c)(h4:c.q = "law")(h5:P.lam=true):∃q cc,mQ X gX q cc:=by obtain⟨hqn,cc,q,hcode,hC,hq,hbi,Vc⟩:=ct.lam h4 h5;exact⟨q,cc,hq,λp hp _=>yp hp,hcode,hC,hqn,hbi,Vc⟩
theorem Dm{fx:Str}{l:Lt}{f ir:Nat}{e:Ex}(hc:Cm P c (.Call (.Name fx p0) [l.ex] [] p0) (.tN f ir [] e)):∃fi,P.fn[f]?=some fi/\fi.name=fx/\c.q = "law" /\P.lam=true/\CW fi ir P.kt=true/\qU c.sc l.scope=true/\y9 l.params l.scope=true/\Cm P ⟨c.N,l.scope,false,Str.empty⟩ l.body e:=by obtain⟨n,t,q,h⟩:=hc.Ga;obtain⟨h1,k1⟩:=aj h;obtain⟨h2,k2⟩:=aj k1;obtain⟨h3,k3⟩:=aj k2;obtain⟨h5,k5⟩:=aj k3;obtain⟨fi,e1,e2⟩:=lF h1;unfold Qh at h5;rw[e1]at h5;obtain⟨a,b,s,p⟩:=l;injection q with q1 q2;injection q1 with q1;injection q2 with q2;injection q2 with q3 q4 q5;subst q1 q3 q4 q5;exact⟨fi,e1,e2,dec (aj h3).1,(aj h3).2,h5,(aj k5).1,(aj (aj k5).2).1,.mk (aj (aj k5).2).2⟩
theorem JL(hS:ig P rn)(hX:jt P rn){fns:List Fx}(hF:eZ P fns){k':Nat}(ct:aW P (k'+2) X c)(hK:z.K=X.K){x:Str}{f ir:Nat}{fi:Fi}{params:Arguments}{body:Expr}{scope:Scope}{xb:Ex}{fp VN pos:Pos}{g Cr g3:G}{r0 r':R}{fx:Fx}{ci:Nat}{C:Addr}
  (h1:P.fn[f]?=some fi) (h2:fi.name=x) (h3:c.sc.names.lookup x=some .globalImplicit) (h4:c.q = "law") (h5:P.lam=true) (h6:CW fi ir P.kt=true) (h7:qU c.sc scope=true) (h8:y9 params scope=true) (h9:Cm P ⟨c.N,scope,false,Str.empty⟩ body xb)
  (e1:fns[f]?=some fx) (e2:rn.x [] k' xb (g.map noOwn)=some (ci,Cr)) (e3:P.gW[ci]?=some C) (e4:rn.b [] k' (fx.body.drop 2) ((List.replicate fx.n .no).set ir (.dat (.kr C)))=some (.rt r0,g3)) (e5:cW [] g3 r0=some r') :
  az X z (.Call (.Name x fp) [.Lambda params body scope VN] [] pos) g r' g:=by
 obtain⟨fa,fd,m1,F,Sc,bd,db⟩:=ct.md.fn f fi h1;obtain⟨q,cc,mk⟩:=Lb ct h4 h5;subst h2;exact Iu (l:=⟨params,body,scope,VN⟩) hK F (ct.pK _ h3) m1 db mk (jq ct h7) (qV h8) (wY hS hX hF ct.md ct.room ct.calm hK ct.nd ct.N h1 h5 h6 h8 h9 e1 e2 e3 e4 e5 F Sc bd)
theorem JM(hS:ig P rn)(hX:jt P rn){fns:List Fx}(hF:eZ P fns)(ct:aW P k X c)(hK:z.K=X.K){f ir:Nat}{fx v:Str}{scope:Scope}{N':List Str}{kb j:Nat}{fp vp cp:Pos}{g:G}(B:Vy c fx scope N' v kb j){l:Lt}{e:Ex}{d:D}(hc:Cm P c (.Call (.Name fx p0) [l.ex] [] p0) (.tN f ir [] e))(ed:CP rn k fns f ir P.gW e g=some d) :
  ((∃q cc,mQ X gX q cc)/\aN X.env.scope l.scope/\dH l.params l.scope)/\mR X z g gX N' (X.N.length+j) scope (.Call (.Name fx fp) [.Name v vp] [] cp) l d:=by
 obtain⟨fi,h1,h2,h4,h5,h6,h7,h8,h9⟩:=Dm hc
 .
  unfold CP at ed;split at ed
  .
   rename_i fxx k' e1;split at ed
   .
    rename_i ci Cr e2;split at ed
    .
     rename_i C e3;split at ed
     .
      rename_i r0 g3 e4;split at ed
      .
       rename_i r' e5;obtain⟨fa,fd,m1,F,Sc,bd,db⟩:=ct.md.fn _ fi h1;subst h2;have Bl:=jq ct h7;have L:=qV h8;obtain⟨dv,bB⟩:=dZ B.pl;exact⟨⟨Lb ct h4 h5,Bl,L⟩,Ph Bl L F m1 db (λbk=>(ct.blk B.nd bk).pK _ B.gl) (by rw[ct.N];exact B.ix) (λbk=>(ct.blk B.nd bk).vis B.vi) dv bB
        (λbk=>wY (Y:=X.blk N' scope bk) hS hX hF ct.md ct.room ct.calm hK ct.nd ct.N h1 h5 h6 h8 h9 e1 e2 e3 e4 e5 F Sc bd) ed⟩
      . cases ed
     . cases ed
    . cases ed
   . cases ed
  . cases ed
theorem wZ(hS:ig P rn)(hX:jt P rn){fns:List Fx}(hF:eZ P fns)(ct:aW P k X c)(hK:z.K=X.K){f ir:Nat}{fx v:Str}{scope:Scope}{N':List Str}{kb j:Nat}{fp vp cp:Pos}{g:G}(B:Vy c fx scope N' v kb j) :
  ∀{ls:List Lt}{es:List Ex}{ds:List D},kI (Cm P c) fx f ir P.gW ls es->tR rn k fns f ir P.gW es g=some ds->(∀m∈ls,(∃q cc,mQ X gX q cc)/\aN X.env.scope m.scope/\dH m.params m.scope)/\dG (mR X z g gX N' (X.N.length+j) scope (.Call (.Name fx fp) [.Name v vp] [] cp)) ls ds
 |_,_,_,.nil,h=>by symm;exact⟨(λm h=>nomatch h),.nil⟩
 |l::ls,e::es,_,.cons hc hcs,h=>by
  unfold tR at h;split at h
  .
   rename_i d ed;split at h
   . rename_i ds eds;symm;obtain⟨q1,q2⟩:=wZ hS hX hF ct hK B hcs eds;obtain⟨q3,q4⟩:=JM hS hX hF ct hK B hc ed;exact⟨λm hm=>(dL.mp hm).elim (λe=>e▸q3) (q1 m),.cons q4 q2⟩
   . symm
  . symm
theorem Dn(hS:ig P rn)(hX:jt P rn){fns:List Fx}(hF:eZ P fns)(ct:aW P k X c)(hK:z.K=X.K){f ir:Nat}{fx v:Str}{scope:Scope}{N':List Str}{kb j:Nat}{fp vp cp:Pos}{g g':G}{l:Lt}{ls:List Lt}{es:List Ex}{r:R}(hl:kI (Cm P c) fx f ir P.gW (l::ls) es)(B:Vy c fx scope N' v kb j)(h:bw rn z.bor k fns (.refs f ir P.gW es) g=some (r,g')) :
  ∃ds,r=.new ds/\(∃q cc,mQ X gX q cc)/\(∀m∈l::ls,aN X.env.scope m.scope/\dH m.params m.scope)/\dG (mR X z g gX N' (X.N.length+j) scope (.Call (.Name fx fp) [.Name v vp] [] cp)) (l::ls) ds:=by
 unfold bw at h;dsimp only at h;split at h
 . rename_i ds e;symm;obtain⟨q1,q2⟩:=wZ hS hX hF ct hK B hl e;exact⟨ds,rfl,(q1 l dA).1,λm hm=>(q1 m hm).2,q2⟩
 . symm
def Sh(X:Cx)(z:Z)(e:Expr)(g:G)(o:Option (R×G)):Prop:=∀r g',o=some (r,g')->az X z e g r g'
theorem Sh.none{e:Expr}{g:G}:Sh X z e g none:=λ_ _ h=>nomatch h
theorem Sh.some{e:Expr}{g g':G}{r:R}(h:az X z e g r g'):Sh X z e g (some (r,g')):=λ_ _ q=>by cases q;exact h
theorem tZ{m n' kk:Nat}{T:Tg}{it xe:Ex}{co:Option Ex}{t:Expr}(h:qX P (m+1) c (.comp n' kk T it co xe) t=true):n'=c.N.length/\qU c.sc (eU t)=true/\jW c.N (jo c.N (eU t)) (eU t) kk=true/\(jo c.N (eU t)).Nodup/\PL (zb c t) (Ju (zb c t) T (kid t 1)) T/\(∀i∈T.ix,c.N.length<=i/\i<c.N.length+kk)/\Xs P c (Js (d7 P m c) it (kid t 2)) it/\Jx P (zb c t) (P7 (d7 P m (zb c t)) (kid t 3) co) co/\Cm P (zb c t) (d7 P m (zb c t) xe (kid t 0)) xe:=by obtain⟨h1,a1⟩:=aj h;obtain⟨h2,a2⟩:=aj a1;obtain⟨h3,a3⟩:=aj a2;obtain⟨h4,a4⟩:=aj a3;obtain⟨h5,a5⟩:=aj a4;exact⟨dec h1,(aj h2).1,(aj (aj h2).2).1,jX (aj (aj h2).2).2,De h3,Qg h4,Dd (R:=Cm P c) .mk h5,P8 (R:=Cm P (zb c t)) .mk (aj a5).1,.mk (aj a5).2⟩
theorem Qx(ct:aW P k X c)(hK:z.K=X.K){d:D}{t:Expr}{g:G}(h:Zz P c d t=true):az X z (vI d t) g (.dat d) g:=by
 unfold Zz at h;unfold vI;cases e:vF t with
 |some y=>rw[e]at h;obtain⟨hd,v,u,q1,q2,q3⟩:=ct.md.ct _ _ (Qf (aj h).2);exact GX (ct.pK _ (dec (aj h).1)) q1 q2 (hK▸q3) hd
 |none=>
  rw[e]at h;cases d with
  |int i=>exact M8
  |bl i=>exact Up
  |str i=>exact Nb
  |non=>exact M9
  |_=>exact nt h
theorem JN(hS:ig P rn)(hX:jt P rn){fns:List Fx}(hF:eZ P fns)(ct:aW P k X c)(hK:z.K=X.K){e:Expr}{x:Ex}{g:G}(hc:Cm P c e x):Sh X z e g (bw rn z.bor k fns x g):=by
 obtain⟨n,t,rfl,hk⟩:=hc.Ga;clear hc;cases x
 case val d=>exact .some (Qx ct hK hk)
 case slot i=>
  have h1:=(mW hk).1;have h2:=(mW hk).2.1;have h3:=(mW hk).2.2;obtain⟨hd,bY⟩:=dZ h3;unfold bw;dsimp only;split
  . rename_i e1;exact .some (Nc (by rw[ct.N];exact h1) (ct.vis h2) hd bY e1)
  . rename_i e1;exact .some (GR (by rw[ct.N];exact h1) (ct.vis h2) hd bY e1)
  . exact .none
 case bin op a b=>
  have h1:=(Cm.mk (aj hk).1);have h2:=(Cm.mk (aj hk).2);unfold bw;dsimp only;split
  .
   rename_i r1 r2 g2 e1;obtain⟨s1,s2,g1,q1,q2,q3⟩:=gI e1;cases q3;split
   .
    rename_i d1 d2 p1 p2;split
    . rename_i r0 e3;exact .some (Ng (bq (hS.e ct hK h1 q1)) (bq (hS.e ct hK h2 q2)) p1 p2 (Pz hK e3))
    . exact .none
   . exact .none
  . exact .none
 case cmp op a b=>
  have h1:=(Cm.mk (aj hk).1);have h2:=(Cm.mk (aj (aj hk).2).1);have h3:=gA (aj (aj hk).2).2;unfold bw;dsimp only;split
  .
   rename_i r1 r2 g2 e1;obtain⟨s1,s2,g1,q1,q2,q3⟩:=gI e1;cases q3;split
   .
    rename_i d1 d2 p1 p2;split
    . rename_i r0 e3;exact .some (Nh (bq (hS.e ct hK h1 q1)) (bq (hS.e ct hK h2 q2)) p1 p2 (iJ hK ct.room e3) h3)
    . exact .none
   . exact .none
  . exact .none
 case chain a ops xs=>
  obtain⟨k1,k2⟩:=aj hk;obtain⟨k3,k4⟩:=aj k2;obtain⟨k5,k6⟩:=aj k4;obtain⟨Oj,Ol,ops,rfl⟩:=two (dec (aj k6).1);obtain⟨x1,x2,xs,rfl⟩:=two (dec (aj k6).2);have h1:=Cm.mk k1;have h2:=cX (R:=Cm P c) .mk k3;have h3:=gA k5;unfold bw;dsimp only;split
  .
   rename_i d1 g1 e1;split
   . rename_i b g2 e2;exact .some (Bw (bI hS ct hK h1 e1) (vJ hS ct hK h2 e2) h3)
   . exact .none
  . exact .none
 case neg a=>
  have h1:=Cm.mk hk;unfold bw;dsimp only;split
  . rename_i i g1 e1;exact .some (Ur (bI hS ct hK h1 e1) rfl NZ)
  . exact .none
 case not a=>
  have h1:=Cm.mk hk;unfold bw;dsimp only;split
  . rename_i b g1 e1;exact .some (Nt (hS.e ct hK h1 e1))
  . exact .none
 case and xs=>have h1:=cX (R:=Cm P c) .mk hk;exact λ_ _ h=>wW hS ct hK h1 h
 case or xs=>have h1:=cX (R:=Cm P c) .mk hk;exact λ_ _ h=>Dg hS ct hK h1 h
 case ite a b d=>
  have h1:=(Cm.mk (aj hk).1);have h2:=(Cm.mk (aj (aj hk).2).1);have h3:=(Cm.mk (aj (aj hk).2).2);unfold bw;dsimp only;split
  . rename_i g1 e1;exact λ_ _ h=>Nu (hS.t ct hK h1 e1) (hS.e ct hK h2 h)
  . rename_i g1 e1;exact λ_ _ h=>Nv (hS.t ct hK h1 e1) (hS.e ct hK h3 h)
  . exact .none
 case tup xs=>
  have h1:=cX (R:=Cm P c) .mk hk;unfold bw;dsimp only;split
  .
   rename_i ds g1 e1;split
   . rename_i hl;exact .some (Nx (gD hS ct hK h1 e1) (mZ _) hl)
   . exact .none
  . exact .none
 case lst xs=>
  have h1:=cX (R:=Cm P c) .mk hk;unfold bw;dsimp only;split
  .
   rename_i ds g1 e1;split
   . rename_i hl;exact .some (Ny (gD hS ct hK h1 e1) (mZ _) hl)
   . exact .none
  . exact .none
 case ix a b=>
  have h1:=(Cm.mk (aj hk).1);have h2:=(Cm.mk (aj hk).2);unfold bw;dsimp only;split
  .
   rename_i r1 r2 g2 e1;obtain⟨s1,s2,g1,q1,q2,q3⟩:=gI e1;cases q3;split
   .
    rename_i d1 d2 p1 p2;split
    . rename_i r0 e3;exact .some (Uq (bq (hS.e ct hK h1 q1)) (bq (hS.e ct hK h2 q2)) p1 p2 (PB hK (by have:=ct.room.units;lia) e3) h2.JF)
    . exact .none
   . exact .none
  . exact .none
 case slice a lo hi=>
  have h1:=(Cm.mk (aj hk).1);have h2:=Dc (R:=Cm P c) .mk (aj (aj hk).2).1;have h3:=Dc (R:=Cm P c) .mk (aj (aj hk).2).2;unfold bw;dsimp only;split
  .
   rename_i r0 g1 e1;have q:=bq (hS.e ct hK h1 e1);split
   .
    rename_i i g2 e2;have q2:=tX hS ct hK h2 e2;split
    .
     rename_i j g3 e3;have q3:=tX hS ct hK h3 e3;split
     . rename_i l e4;rw[e4]at q;exact .some (yI hK q q2 q3)
     . rename_i l e4;rw[e4]at q;exact .some (yH hK q q2 q3)
     .
      split
      . rename_i e5;exact .some (yG (d:=.non) hK q q2 q3 e5)
      . exact .none
    . exact .none
   . exact .none
  . exact .none
 case call i xs=>
  obtain⟨k1,k2⟩:=aj hk;obtain⟨k3,k4⟩:=aj k2;obtain⟨fi,h1,h2⟩:=lF k1;cases xs with
  |nil=>cases (aj k4).2
  |cons x xs=>
  have h3:=dec k3;have h4:=cX (R:=Cm P c) .mk (aj k4).1;show Sh X z (.Call (.Name (mY P i) (kid t 0).pos) (iK (d7 P n c) t 1 (x::xs)) [] t.pos) g _;rw[<- h2]at h3 ⊢
  unfold bw;dsimp only;split
  .
   rename_i fx k' ZG rS;split
   . rename_i rs g1 e1;exact λ_ _ h=>Dk hS ct hK h1 (hF _ _ _ h1 rS) h3 h4 (jr hS ct hK h4 e1) h
   . exact .none
  . exact .none
 case blt b xs=>
  cases xs with
  |nil=>cases (aj (aj hk).2).2
  |cons x xs=>
  have h2:=(bG (aj hk).1).1;have h3:=(bG (aj hk).1).2;have h4:=cX (R:=Cm P c) .mk (aj (aj hk).2).1;unfold bw;dsimp only;split
  .
   rename_i rs g1 e1;split
   .
    rename_i ds e2;split
    .
     rename_i r0 e3;have ha:=jr hS ct hK h4 e1;have bY:=PK hK ct.calm (by have:=ct.room.units;lia) e3
     have d8:=(Cm.mk (aj (aj (aj hk).2).1).1).star (env:=X.env) (iK (d7 P n c) t 2 xs);have jG:=(cX (R:=Cm P c) .mk (aj (aj (aj hk).2).1).2).plain (env:=X.env) (pos:=t.pos);cases b <;> first |exact .some (Bb ha e2 bY (ct.pK _ h3) (ct.md.bn _ h2) rfl ⋯ ⋯ d8 jG) |exact .some (yr ha e2 bY (ct.pK _ h3) (ct.md.bn _ h2) rfl ⋯ ⋯ d8 jG)
    . exact .none
   . exact .none
  . exact .none
 case oq a n'=>
  have h1:=Cm.mk (aj (aj hk).2).1;have h2:=(bG (aj hk).1).1;have h3:=(bG (aj hk).1).2;have h4:=(bG (aj (aj (aj hk).2).2).2).1;have h5:=(bG (aj (aj (aj hk).2).2).2).2;have h7:=AD.mp (aj (aj (aj hk).2).2).1;unfold bw;dsimp only;split
  .
   rename_i r0 g1 e1;split
   .
    rename_i d e2;obtain⟨t1,_⟩:=Dl ct (yZ.cons (pos:=(kid t 2).pos) h4 h5 rfl h7 .nil);cases t1 with
    |cons t1 _=>exact .some (N5 hK (bq (hS.e ct hK h1 e1)) e2 (λ_ _ _ p=>tT p h7) (ct.pK _ h3) (ct.md.bn _ h2) rfl t1.gl t1.mg t1.bt t1.nn t1.db (h1.star _))
   . exact .none
  . exact .none
 case CJ a ns=>
  have h1:=Cm.mk (aj (aj hk).2).1;have h2:=(bG (aj hk).1).1;have h3:=(bG (aj hk).1).2;have h4:=dec (aj (aj (aj hk).2).2).1;have h5:=Qa (t:=kid t 2) (i:=0) (aj (aj (aj hk).2).2).2;unfold bw;dsimp only;split
  .
   rename_i r0 g1 e1;split
   . rename_i d e2;obtain⟨t1,t2⟩:=Dl ct h5;exact .some (HD hK (bq (hS.e ct hK h1 e1)) e2 t1 ⋯ (λ_ _ _ p=>pL p t2) (ct.pK _ h3) (ct.md.bn _ h2) rfl (h1.star _))
   . exact .none
  . exact .none
 case rev a=>
  have h1:=Cm.mk hk;unfold bw;dsimp only;split
  .
   rename_i r0 g1 e1;have q:=bq (hS.e ct hK h1 e1);split
   . rename_i l e4;rw[e4]at q;exact .some (Ii hK q)
   .
    split
    . rename_i e5;exact .some (Ih hK q e5)
    . exact .none
  . exact .none
 case emp=>exact .some (O1)
 case peek xe=>
  have h1:=Cm.mk (aj hk).2;unfold bw;dsimp only;split
  .
   rename_i hb;have hb:z.bor=[]:=List.isEmpty_iff.mp hb;split
   .
    rename_i d g1 e1;split
    . rename_i hf;exact .some (Iw hb hf (hS.e ct hK h1 (by rw[hb];exact e1)))
    . exact .none
   . exact .none
  . exact .none
 case stk=>exact .none
 case pH a l=>
  have h1:=Cm.mk (aj (aj hk).2).1;have h2:=(bG (aj hk).1).1;have h3:=(bG (aj hk).1).2;have h4:=dec (aj (aj (aj hk).2).2).2;have h5:=dec (aj (aj (aj hk).2).2).1;unfold bw;dsimp only;obtain⟨db,cv,hcv,hn,hC⟩:=ct.md.ups _ _ h4;have cls:∃w:V,(∀u,RelV w u->u=cv)/\PE X (.Name ((vF (kid t 2)).getD Str.empty) (kid t 2).pos) (tC w):=by
   rcases hcv with ⟨m1,D,rfl⟩ |⟨m1,m2,m3,n,rfl⟩
   . exact⟨.ref D,λu r=>r,v8 (ct.pK _ h5) m1 rfl db⟩
   . exact⟨.ty n,λu r=>r,qh (ct.pK _ h5) (ct.md.bn _ m1) m3 rfl m2 db⟩
  obtain⟨w,hw,pw⟩:=cls;split
  .
   rename_i r0 g1 e1;split
   .
    rename_i C e2;split
    . rename_i b e3;exact .some (Cy hK (bq (hS.e ct hK h1 e1)) e2 (λ_ _ _ _=>hC C b e3) (ct.pK _ h3) (ct.md.bn _ h2) rfl hw pw (h1.star _))
    . exact .none
   . rename_i e2;exact .some (Cy hK (bq (hS.e ct hK h1 e1)) e2 (λ_ _ _ _=>hn) (ct.pK _ h3) (ct.md.bn _ h2) rfl hw pw (h1.star _))
   . exact .none
  . exact .none
 case tN i ir ca xb=>
  obtain⟨g1,k1⟩:=aj hk;obtain⟨g2,k2⟩:=aj k1;obtain⟨g3,k3⟩:=aj k2;obtain⟨h6,k5⟩:=aj k3;obtain⟨fi,h1,h2⟩:=lF g1;unfold Qh at h6;rw[h1]at h6;have h3:=(Bool.or_eq_true_iff.mp g2).imp (λh=>(⟨dec (aj h).1,dec (aj h).2⟩:_/\_)) qW
  have h4:=dec (aj g3).1;have h5:=(aj g3).2;have h7:=(aj k5).1;have h8:=(aj (aj k5).2).1;have h9:=Cm.mk (aj (aj k5).2).2;unfold bw;dsimp only;split
  .
   rename_i fx k' e1;split
   .
    rename_i ci Cr e2;split
    .
     rename_i C e3;split
     .
      rename_i r0 g3 e4;split
      .
       rename_i r' e5;rcases h3 with ⟨rfl,h3⟩ |rfl
       . exact .some (JL hS hX hF ct hK h1 h2 h3 h4 h5 h6 h7 h8 h9 e1 e2 e3 e4 e5)
       . exact .some (nomatch e3)
      . exact .none
     . exact .none
    . exact .none
   . exact .none
  . exact .none
 case comp n' kk T it co xe=>
  obtain⟨rfl,h1,h2,h3,h4,h5,h6,h7,h8⟩:=tZ hk;unfold bw;dsimp only;split
  . rename_i acc g1 e1;obtain⟨items,g1,gE,w1,w2,w3,w4,w5,rfl⟩:=tY hS ct hK h3 h4 h5 h6 h7 h8 e1;exact .some (Hw (jq ct h1) ct.calm (by rw[ct.N];exact jY h2) w1 w2 w3 w4 w5 λy=>h6.folded y)
  . exact .none
 case gw a=>
  have h1:=(Cm.mk (aj hk).2);have h2:=(bG (aj hk).1).1;have h3:=(bG (aj hk).1).2;unfold bw;dsimp only;split
  .
   rename_i r0 g1 e1;split
   .
    rename_i d e2;split
    .
     rename_i l e3;split
     .
      rename_i ns e4;split
      . rename_i hl;exact .some (u6 hK (Qv (bq (hS.e ct hK h1 e1)) e2 (h1.star _)) e2 e3 e4 hl (ct.pK _ h3) (ct.md.bn _ h2) (h1.star _))
      . exact .none
     . exact .none
    . exact .none
   . exact .none
  . exact .none
 case append i x=>
  have h1:=(mW (aj (aj hk).2).1).1;have h2:=(mW (aj (aj hk).2).1).2.1;have h3:=(mW (aj (aj hk).2).1).2.2;have h4:=(Cm.mk (aj (aj hk).2).2);have h5:=(aj hk).1;obtain⟨hd,bY⟩:=dZ h3;unfold bw;dsimp only;split
  .
   rename_i l0 e0;split
   .
    rename_i d g1 e1;split
    .
     rename_i l e2;split
     . rename_i hl;exact .some (yC (by rw[ct.N];exact h1) (ct.vis h2) hd bY e0 (fD (bI hS ct hK h4 e1) gi (h4.star _)) e2 hl rfl (Qw h4) h5 (h4.star _))
     . exact .none
    . exact .none
   . exact .none
  . exact .none
 all_goals exact Bool.noConfusion (show false=true from hk)
theorem Dp(hS:ig P rn)(hX:jt P rn){fns:List Fx}(hF:eZ P fns)(ct:aW P k X c)(hK:z.K=X.K){e:Expr}{x:Ex}{g g':G}{r:R}(hc:Cm P c e x)(h:bw rn z.bor k fns x g=some (r,g')):az X z e g r g':=JN hS hX hF ct hK hc r g' h
end
section
theorem Dq(hS:ig P rn)(ct:aW P k X c)(hK:z.K=X.K){e:Expr}{x:Ex}{g g':G}{b:Bool}(hc:Cm P c e x)(h:stepT rn z.bor k x g=some (b,g')):bZ X z e g b g':=by
 have plain:(match rn.e z.bor k x g with |some (r,g1)=>(match pk (norm r) g1 with |some d=>(match Hz d with |some c=>some (c,g1) |none=>none) |none=>none) |none=>none)=some (b,g')->
   (∀whole,isTrue e X.env whole=(do let v <- whole;standAt e.pos;holding [v] (truthy v)))->bZ X z e g b g':=by
  intro h he;split at h
  .
   rename_i r g1 e1;split at h
   .
    rename_i d e2;split at h
    . rename_i b' e3;symm;exact BG hK (bq (hS.e ct hK hc e1)) e2 e3 he
    . symm
   . symm
  . symm
 obtain⟨n,t,rfl,hk⟩:=hc.Ga;cases x
 case cmp op a b=>
  have h1:=Cm.mk (aj hk).1;have h2:=Cm.mk (aj (aj hk).2).1;have h3:=gA (aj (aj hk).2).2;unfold stepT at h;dsimp only at h;split at h
  .
   rename_i r1 r2 g2 e1;obtain⟨s1,s2,g1,q1,q2,q3⟩:=gI e1;cases q3;split at h
   .
    rename_i d1 d2 p1 p2;split at h
    . rename_i r0 e3;symm;exact Ni (bq (hS.e ct hK h1 q1)) (bq (hS.e ct hK h2 q2)) p1 p2 (iJ hK ct.room e3) h3
    . symm
   . symm
  . symm
 case chain a ops xs=>
  obtain⟨k1,k2⟩:=aj hk;obtain⟨k3,k4⟩:=aj k2;obtain⟨k5,k6⟩:=aj k4;obtain⟨Oj,Ol,ops,rfl⟩:=two (dec (aj k6).1);obtain⟨x1,x2,xs,rfl⟩:=two (dec (aj k6).2);have h1:=Cm.mk k1;have h2:=cX (R:=Cm P c) .mk k3;have h3:=gA k5;unfold stepT at h;dsimp only at h;split at h
  . rename_i d1 g1 e1;exact Bx (bI hS ct hK h1 e1) (vJ hS ct hK h2 h) h3
  . symm
 case not a=>
  have h1:=Cm.mk hk;unfold stepT at h;dsimp only at h;split at h
  . rename_i b' g1 e1;symm;exact Nj (hS.t ct hK h1 e1)
  . symm
 case and xs=>exact (tW hS ct hK (cX (R:=Cm P c) .mk hk) h).tr
 case or xs=>exact (wX hS ct hK (cX (R:=Cm P c) .mk hk) h).tr
 case ite a b d=>symm
 case val d=>exact plain h (by rw[show Jw P (d7 P n) c (.val d) t=vI d t from rfl];unfold vI;split <;> exact λ_=>rfl)
 case peek xe=>exact plain h (by obtain⟨x,p,a,es,pos,e⟩:=tV (aj hk).1;rw[show Jw P (d7 P n) c (.peek xe) t=d7 P n c xe t from rfl,e];exact λ_=>rfl)
 all_goals first |exact plain h λ_=>rfl |exact Bool.noConfusion (show false=true from hk)
theorem w6(ct:aW P k X c):PassesOwn (~~~2) X.A X.env X.xe:=by rw[ct.xe];exact PassesOwn.never
theorem nh{T:Tg}{body:List Stmt}{b:G->Option (Fl×G)}(hb:∀{g g':G}{f:Fl},b g=some (f,g')->dF X z body g f g'):∀{items:List D}{g g':G}{f:Fl},fO T b items g=some (f,g')->dY X z body T items g f g'
 | [],_,_,_,h=>by symm;exact .nil
 |d::l,_,_,_,h=>by
  unfold fO at h;split at h
  . symm
  .
   rename_i g0 e0;split at h
   . symm
   . rename_i g1 e1;exact .next e0 (hb e1) (nh hb h)
   . rename_i g1 e1;exact .cont e0 (hb e1) (nh hb h)
   . rename_i g1 e1;symm;exact .brk e0 (hb e1)
   . rename_i g1 e1;symm;exact .ret e0 (hb e1)
theorem vL{ce:Expr}{body:List Stmt}{t:G->Option (Bool×G)}{b:G->Option (Fl×G)}(ht:∀{g g':G}{v:Bool},t g=some (v,g')->bZ X z ce g v g')(hb:∀{g g':G}{f:Fl},b g=some (f,g')->dF X z body g f g') :
  ∀{n:Nat}{g g':G}{f:Fl},K4 t b n g=some (f,g')->kZ X z ce body n g f g'
 | 0,_,_,_,h=>by symm
 |n+1,_,_,_,h=>by
  unfold K4 at h;split at h
  . symm
  . rename_i g1 e1;symm;exact .done (ht e1)
  .
   rename_i g1 e1;split at h
   . symm
   . rename_i g2 e2;exact .next (ht e1) (hb e2) (vL ht hb h)
   . rename_i g2 e2;exact .cont (ht e1) (hb e2) (vL ht hb h)
   . rename_i g2 e2;symm;exact .brk (ht e1) (hb e2)
   . rename_i g2 e2;symm;exact .ret (ht e1) (hb e2)
theorem ni{P:Pg}{c:Ct}{e:Expr}{x:Ex}(h:Cm P c e x)(hn:vH (λ_ _=>true) e=false)(t:Option Expr)(l:Nat)(env:Env):swapsWith e t l env=pure false:=by have hs:=h.zX;cases e <;> first |rfl |exact Bool.noConfusion (show true=false from hn) |exact Bool.noConfusion (show false=true from hs)
theorem uc(ct:aW P k X c)(fU:c.df=true){a:Expr}{b:List Comprehension}{s:Scope}{p py:Pos}{y:Str}{l:Nat}(hl:gY c y=true):swapsWith (.ListComp a b s p) (some (.Name y py)) l X.env=pure (Vo c y py p s):=by
 show (pure (X.env.blockKind==.function&&X.env.kindOf y==some .local&&py.line==(Expr.ListComp a b s p).pos.line&&!(s.names.any λ(n,k)=>n==y&&(k==.local||k==.cell))):Sem Bool)=_
 rw[ct.bk fU];have e:(X.env.kindOf y==some .local)=(c.sc.names.lookup y==some .local):=by
  unfold gY at hl;split at hl
  . rename_i e;rw[e];show (X.env.scope.names.lookup y==_)=_;rw[ct.Se y e]
  . rename_i e;rw[e];show (X.env.scope.names.lookup y==_)=_;rw[ct.cel fU y e]
  . cases hl
 rw[e];rfl
theorem zc(ct:aW P k X c)(fU:c.df=true){e:Expr}{x:Ex}{y:Str}{py:Pos}{l:Nat}(hl:gY c y=true)(h:Cm P c e x)(hn:vH (λs p=>Vo c y py p s) e=false):swapsWith e (some (.Name y py)) l X.env=pure false:=by have hs:=h.zX;cases e <;> first |rfl |exact Bool.noConfusion (show true=false from hn) |exact Bool.noConfusion (show false=true from hs) | (rw[uc ct fU hl];exact congrArg pure hn)
def Qy:Expr->Bool
 |.Starred ..=>true
 |_=>false
theorem Dr{e:Expr}{x:Ex}(h:Cm P c e x):Qy e=false:=by have hs:=h.zX;cases e <;> first |rfl |exact Bool.noConfusion (show false=true from hs)
theorem Qz{x:Str}{pn g7:Pos}{ix:Expr}{xi:Ex}{X:Cx}(h:Cm P c ix xi):∀v,assign (.Subscript (.Name x pn) ix g7) X.env v=(do
   let ov <- holding [v] (eval (.Name x pn) X.env)
   let iv <- holding [v,ov] (eval ix X.env)
   standAt g7
   holding [v,ov,iv] (setItem ov iv v)
   release [v,ov,iv] []):=by
 have hs:=h.zX;cases ix <;> first |exact λ_=>rfl |exact Bool.noConfusion (show false=true from hs)
theorem QB{y:Str}{pn g7:Pos}{ix e:Expr}{x:Ex}{env:Env}(h:Cm P c e x):swappedStores [.Subscript (.Name y pn) ix g7] e env=pure none:=by have hs:=h.zX;cases e <;> first |rfl |exact Bool.noConfusion (show false=true from hs)
theorem QC{x y:Str}{a b:Expr}{px py pt Gq:Pos}{kt k2:Nat}{xa xb:Ex}(ct:aW P k X c)(h:PN c x y px py a b=true)(ca:Cm P c a xa)(cb:Cm P c b xb):X.env.scope.names.lookup x=some .local/\X.env.scope.names.lookup y=some .local/\
  swappedStores [.Tuple [.Name x px,.Name y py] kt pt] (.Tuple [a,b] k2 Gq) X.env=pure (some [x,y]):=by
 unfold PN at h;simp only[eP]at h;obtain⟨⟨⟨⟨⟨⟨h1,h2⟩,h3⟩,h4⟩,h5⟩,h6⟩,h7⟩:=h;have e1:=ct.Se x (eq_of_beq h1);have e2:=ct.Se y (eq_of_beq h2);refine⟨e1,e2,?_⟩;have hb:=ct.bk h7;have sa:=Dr ca;have sb:=Dr cb;have k1:X.env.kindOf x=some .local:=e1;have Zd:X.env.kindOf y=some .local:=e2;have hxy:(y==x)=false:=by
  simp only[BB]at h4;rw[B1]at h4 ⊢
  exact λe=>h4 e.symm
 have h3':py.line=px.line:=eq_of_beq h3;show (if _ then _ else _:Sem (Option (List Str)))=_
 rw[gN (by rw[hb];simp)]
 show (if _ then _ else _:Sem (Option (List Str)))=_
 rw[gN (by show ¬ ((Qy a||(Qy b||false))=true);rw[sa,sb];decide)]
 show (if _ then _ else _:Sem (Option (List Str)))=_
 dsimp only;generalize hq:List.filterMap _ [Expr.Name x px,Expr.Name y py]=ns;have hn:ns=[x,y]:=by rw[<- hq];have l0:(([Expr.Name x px,Expr.Name y py].head?.map (·.pos.line)).getD 0)=px.line:=rfl;simp[tP,k1,Zd,h3',show (Expr.Name x px).pos=px from rfl,show (Expr.Name y py).pos=py from rfl]
 subst hn;have hd:[x,y].eraseDups.length=2:=by have jD:y≠x:=B1.mp hxy;simp[List.eraseDups_cons,List.filter_cons,jD]
 rw[gN (by rw[hd];simp)]
 show (if _ then _ else _:Sem (Option (List Str)))=_
 rw[gN (by show ¬ ((foldedForSure 8 a&&(foldedForSure 8 b&&true))=true);rw[Bool.and_true];intro z;rw[z]at h5;exact absurd h5 ⋯)]
 show (if _ then _ else _:Sem (Option (List Str)))=_
 rw[gN (by show ¬ ((constantsAlone 8 a&&(constantsAlone 8 b&&true))=true);rw[Bool.and_true];intro z;rw[z]at h6;exact absurd h6 ⋯)]
theorem nj(hS:ig P rn)(ct:aW P k X c)(fU:c.df=true)(hK:z.K=X.K){s:Stmt}{x:Sm}{g g':G}{f:Fl}(hc:Gd P c s x)(h:aD rn z.bor k x g=some (f,g')):fF X z s g f g':=by
 obtain⟨mm,n,t,rfl,hk⟩:=hc.Ga;clear hc;cases x
 case ret x=>
  have h1:=Cm.mk hk;unfold aD at h;dsimp only at h;split at h
  . rename_i r g1 e1;symm;exact N9 (hS.e ct hK h1 e1)
  . symm
 case expr x=>
  have h1:=Cm.mk (aj hk).1;have h2:=ZF (aj hk).2;unfold aD at h;dsimp only at h;split at h
  . rename_i r g1 e1;symm;exact Hi (hS.e ct hK h1 e1) (ni h1 h2 _ _ _)
  . symm
 case set i x=>
  have h1:=dec (aj (aj hk).1).1;have h2:=(aj (aj hk).1).2;have h3:=Cm.mk (aj (aj hk).2).1;have h4:=gA (aj (aj hk).2).2;have nm:=ct.nm h1 h2;have hsw:swapsWith (d7 P (mm+1) c x (aI t 0)) (some (.Name (Ev.nm c i) (aI t 1).pos)) t.pos.line X.env=pure false:=zc ct fU h2 h3 h4;unfold aD at h;dsimp only at h;split at h
  . symm
  .
   rename_i hb;split at h
   .
    rename_i l g1 e1;split at h
    . rename_i hl;symm;exact Hl nm.nd nm.ix nm.lc (hS.e ct hK h3 e1) hl hsw nm.fn hb
    . symm
   .
    rename_i r g1 _ e1;split at h
    . rename_i d g2 e2;symm;exact Hj nm.nd nm.ix nm.lc (Df (hS.e ct hK h3 e1) e2) hsw nm.fn hb
    . symm
   . symm
 case setC i x=>
  obtain⟨g1,g2⟩:=aj hk;obtain⟨h2,g4⟩:=aj g2;obtain⟨h3,g6⟩:=aj g4;have h1:=dec g1;clear hk g1 g2 g4;cases x
  case comp n' kk T it co xe=>
   have hl:c.sc.names.lookup (Ev.nm c i)=some .local:=by unfold Vo at h2;simp only[eP]at h2;exact eq_of_beq h2.1.1
   have d8:gY c (Ev.nm c i)=true:=by unfold gY;rw[hl]
   have nm:=ct.nm h1 d8;unfold aD at h;dsimp only at h;split at h
   . symm
   .
    rename_i hb;split at h
    .
     rename_i acc g1 e1;split at h
     .
      rename_i hi;symm;obtain⟨rfl,k1,k2,k3,k4,k5,k6,k7,k8⟩:=tZ h3
      . obtain⟨items,g1,gE,w1,w2,w3,w4,w5,rfl⟩:=tY hS ct hK k3 k4 k5 k6 k7 k8 e1;exact Hx (jq ct k1) ct.calm (by rw[ct.N];exact jY k2) w1 w2 w3 w4 w5 nm.nd nm.ix (ct.Se _ hl) hb hi (by rw[uc ct fU d8,h2]) λww=>k6.folded ww
     . symm
    . symm
  all_goals exact Bool.noConfusion (show false=true from g6)
 case item i xj x=>
  have h1:=(mW (aj hk).1).1;have h2:=(mW (aj hk).1).2.1;have h3:=(mW (aj hk).1).2.2;have h4:=Cm.mk (aj (aj hk).2).1;have h5:=Cm.mk (aj (aj (aj hk).2).2).1;have h6:=ZF (aj (aj (aj hk).2).2).2;obtain⟨hd,bY⟩:=dZ h3;unfold aD at h;dsimp only at h;split at h
  .
   rename_i d g1 e1;split at h
   .
    rename_i l0 e2;split at h
    .
     rename_i n g2 e3;split at h
     .
      rename_i l e4;split at h
      . rename_i m e5;symm;have hsw:swapsWithSole [.Subscript (.Name (Ev.nm c i) (kid (aI t 1) 0).pos) (d7 P (mm+1) c xj (kid (aI t 1) 1)) (aI t 1).pos] (d7 P (mm+1) c x (aI t 0)) t.pos.line X.env=pure false:=ni h5 h6 (some (.Subscript (.Name (Ev.nm c i) (kid (aI t 1) 0).pos) (d7 P (mm+1) c xj (kid (aI t 1) 1)) (aI t 1).pos)) t.pos.line X.env;have d8:swappedStores [.Subscript (.Name (Ev.nm c i) (kid (aI t 1) 0).pos) (d7 P (mm+1) c xj (kid (aI t 1) 1)) (aI t 1).pos] (d7 P (mm+1) c x (aI t 0)) X.env=pure none:=QB h5;exact Ho (by rw[ct.N];exact h1) (ct.vis h2) hd bY (bI hS ct hK h5 e1) e2 (bI hS ct hK h4 e3) e4 e5 (Qz h4) hsw d8 rfl
      . symm
     . symm
    . symm
   . symm
  . symm
 case par i j a b=>
  have h1:=(dec (aj hk).1).1;have h2:=(dec (aj hk).1).2.1;have h3:=(dec (aj hk).1).2.2;have h4:=(aj (aj hk).2).1;have h5:=Cm.mk (aj (aj (aj hk).2).2).1;have h6:=Cm.mk (aj (aj (aj hk).2).2).2;unfold aD at h;dsimp only at h;split at h
  . symm
  .
   rename_i hbi;split at h
   . symm
   .
    rename_i Y3;split at h
    . rename_i d1 d2 g1 e1;symm;obtain⟨w1,w2,w3⟩:=QC (k2:=ou (aI t 0)) (kt:=ou (aI t 1)) (pt:=(aI t 1).pos) (Gq:=(aI t 0).pos) ct h4 h5 h6;exact OJ ct.calm (ct.N▸ct.nd) (by rw[ct.N];exact h1) (by rw[ct.N];exact h2) h3 w1 w2 (gD hS ct hK (.cons h5 (.cons h6 .nil)) e1) hbi Y3 w3 rfl
    . symm
 case ite e a b=>
  have h1:=Cm.mk (aj hk).1;have h2:=rZ.mk (aj (aj hk).2).1;have h3:=rZ.mk (aj (aj hk).2).2;unfold aD at h;dsimp only at h;split at h
  . rename_i g1 e1;exact KQ (hS.t ct hK h1 e1) (by rw[i5 rfl];exact hS.b ct fU hK h2 h)
  . rename_i g1 e1;exact KQ (hS.t ct hK h1 e1) (by rw[gN pE];exact hS.b ct fU hK h3 h)
  . symm
 case loop T it b=>
  have h1:=De (t:=aI t 0) (aj hk).1;have h2:=Dd (R:=Cm P c) .mk (aj (aj hk).2).1;have h3:=rZ.mk (aj (aj hk).2).2;unfold aD at h;dsimp only at h;split at h
  . symm
  .
   rename_i hb;split at h
   . rename_i items g1 e1;exact Oe (w6 ct) ct.calm (Di hS ct hK (K9 h1) h2 e1) (La ct hK h1 λi hi hm=>hb (by rw[BO];exact⟨i,hi,nK hm⟩)) (nh (λe=>hS.b ct fU hK h3 e) h) λy=>h2.folded y
   . symm
 case «while» e b=>have h1:=Cm.mk (aj hk).1;have h2:=rZ.mk (aj hk).2;exact By (w6 ct) (vL (λe=>hS.t ct hK h1 e) (λe=>hS.b ct fU hK h2 e) h)
 case raise i x=>symm
 case stuck=>symm
 all_goals exact Bool.noConfusion (show false=true from hk)
theorem vM(hS:ig P rn)(ct:aW P k X c)(fU:c.df=true)(hK:z.K=X.K){ss:List Stmt}{x:Sm}{g g':G}{f:Fl}(h:Vz P (Cm P c) (Gd P c) c ss x)(e:aD rn z.bor k x g=some (f,g')):mS X z ss g f g':=by
 cases h with
 |@mk y v fx ic fi ir l ls e0 es ss st scope N' kb j oh op rhs ret b py lp pos fp vp cp tp ip Zu cmp h1 h2 h3 h4 h5 h6 h7 h8 h9 h10 h11=>
  unfold aD at e;dsimp only at e;split at e
  .
   rename_i hg;split at e
   .
    rename_i ds gx e1;split at e
    .
     rename_i r2 g2 e2;split at e
     .
      rename_i d2 p2;split at e
      .
       rename_i cc e3;obtain⟨ds',hr,⟨q,cc0,mk⟩,hm,he⟩:=hS.g (fp:=fp) (vp:=vp) (cp:=cp) ct hK h6 h8 e1;cases hr;obtain⟨dy,ZM⟩:=dZ h4;have hN:X.N[ic]?=some y:=by rw[ct.N];exact h1
       have vy:=ct.vis h3;have Si:=ct.nm h1 h2;have Lc:∃t,PE X (.ListComp (.Call (.Name fx fp) [.Name v vp] [] cp) [⟨.Name v tp,.Name y ip,[],0⟩] scope Zu) t/\∀O H M0 H0 Q,LL X z g gX ic M0 H0 (l::ls) O H->Kn z g O M0 H0 (.new ds) Q->t O H Q:=by refine tL h8.lt (by rw[ct.N];exact jY h8.nm) (jq ct h8.bl) ct.calm hN vy dy ZM (λbk=>(ct.blk h8.nd bk).nm (by rw[ct.N];exact h8.ix) h8.st) (by simp only[i3];lia) he
       have KD:=bq (hS.e ct hK h9 e2);cases h11 with
       |ite hs=>
        rename_i s1 x1 ipos;rw[gN ⋯]at e;refine kD hK mk Si.nd hN Si.lc Si.fn vy dy ZM hg h5 hm h7 (Cz Lc KD p2 (iJ hK ct.room e3) h10 ?_);cases cc with
        |true=>rw[i5 rfl]at e;exact hS.b ct fU hK (.cons hs .nil) e
        |false=>rw[gN ⋯]at e;cases e;exact Bp
       |ret=>rw[i5 rfl]at e;cases e;exact kD hK mk Si.nd hN Si.lc Si.fn vy dy ZM hg h5 hm h7 (yW Lc KD p2 (iJ hK ct.room e3) h10)
      . cases e
     . cases e
    . cases e
   . cases e
  . cases e
theorem nk(hS:ig P rn)(ct:aW P k X c)(fU:c.df=true)(hK:z.K=X.K):∀{iT:List Stmt}{xs:List Sm}{g g':G}{f:Fl},rZ P c iT xs->bV rn z.bor k xs g=some (f,g')->dF X z iT g f g'
 |_,_,_,_,_,.nil,h=>by symm;exact Bp
 |_,_,_,_,f,.grp h1 h2,h=>by
  unfold bV at h;split at h
  . rename_i g1 e1;exact (vM hS ct fU hK h1 e1).bk (nk hS ct fU hK h2 h)
  . rename_i hn e1;symm;exact (vM hS ct fU hK h1 e1).end λe=>hn e
  . symm
 |_,_,_,_,f,.cons h1 h2,h=>by
  unfold bV at h;split at h
  . rename_i g1 e1;exact Hg (nj hS ct fU hK h1 e1) (nk hS ct fU hK h2 h)
  .
   rename_i hn e1;symm;have q:=nj hS ct fU hK h1 e1;cases f with
   |nx=>exact absurd rfl hn
   |rt r=>exact N6 q
   |bk=>exact N7 q
   |ct=>exact N8 q
  . symm
end
theorem JQ{P:Pg}{k:Nat}{prog:Program}{w:World}{K:Frag}{mg:Str->Option Value}{base:Heap}{N ps:List Str}{qual:Str}{scope:Scope}{f:Addr}{bB:Value}{A:Around}{outer:List Env}{s:Shared}{H:Hp}{E:XK}
  (S:bT N ps scope) (md:qQ P K mg) (bY:PySem.W.codeIn K bB qual=true) (hr:bW k (A.deeper (envOfC qual scope s⁻¹ f bB))):Ge P k (eF (zU prog w) prog w K mg base N qual scope f bB A outer s H E) ⟨N,scope,true,qual⟩:=by
 refine⟨⟨rfl,S.nd,λx e=>e,λx e=>e,λx e=>e,λ_ x e=>e,λx _=>rfl,λ_=>?_,rfl,rfl,md,hr,λe h=>⟨by have e:qual = "law" :=e;subst e;rfl,md.lam h _ (by have e:qual = "law" :=e;exact e▸bY)⟩⟩,rfl,PassesOwn.leaving⟩
 show (if scope.kind.isAnnotationScope then ScopeKind.function else scope.kind)=.function
 rw[S.kind];rfl
section
theorem nq(hS:ig P rn)(hX:jt P rn)(cx:Ge P k X c)(hK:z.K=X.K)(hC:gF P X.mg ci C):∀{es:List Expr}{xs:List Ex}{g g':G},zW P c es xs->xArgs rn z.bor k xs g=some (ci,g')->U3 X z es g C g'
 |_,_,_,_,.nil,h=>by symm
 |_,_,_,_,.cons h1 h2,h=>by
  unfold xArgs at h;split at h
  . rename_i e1;symm;exact HS (hX.x cx hK hC h1 e1) (h1.star _)
  .
   split at h
   . rename_i r g1 e1;exact HW (hS.e (X:=X.jJ) cx.ct hK h1 e1).lift (nq hS hX cx hK hC h2 h) (h1.star _)
   . symm
theorem ZN(hS:ig P rn)(hX:jt P rn)(cx:Ge P k X c)(hK:z.K=X.K)(hC:gF P X.mg ci C){a b:Expr}{xa xb:Ex}{g g':G}(ha:Cm P c a xa)(hb:Cm P c b xb)(h:xArgs rn z.bor k [xa,xb] g=some (ci,g')):rY X z a g C g'\/∃r g1,az X z a g r g1/\rY X z b g1 C g':=by
 unfold xArgs at h;split at h
 . rename_i e1;symm;exact .inl (hX.x cx hK hC ha e1)
 .
  split at h
  .
   rename_i r g1 e1;unfold xArgs at h;split at h
   . rename_i e2;symm;exact .inr ⟨r,g1,(hS.e (X:=X.jJ) cx.ct hK ha e1).lift,hX.x cx hK hC hb e2⟩
   .
    split at h
    . symm
    . symm
  . symm
theorem Ds(hS:ig P rn)(hX:jt P rn){fns:List Fx}(hF:eZ P fns)(cx:Ge P k X c)(hK:z.K=X.K)(hC:gF P X.mg ci C){e:Expr}{x:Ex}{g g':G}(hc:Cm P c e x)(h:pJ rn z.bor k fns x g=some (ci,g')):rY X z e g C g':=by
 have ct:=cx.ct;obtain⟨n,t,rfl,hk⟩:=hc.Ga;clear hc;cases x
 case cmp op a b=>
  have h1:=Cm.mk (aj hk).1;have h2:=Cm.mk (aj (aj hk).2).1;have h3:=gA (aj (aj hk).2).2;rcases ZN hS hX cx hK hC h1 h2 h with q |⟨r,g1,q1,q2⟩
  . exact HN q h3
  . exact HQ q1 q2 h3
 case call i xs=>
  obtain⟨k1,k2⟩:=aj hk;obtain⟨k3,k4⟩:=aj k2;obtain⟨fi,h1,h2⟩:=lF k1;cases xs with
  |nil=>cases (aj k4).2
  |cons x xs=>
  have h3:=dec k3;have h4:=cX (R:=Cm P c) .mk (aj k4).1;show rY X z (.Call (.Name (mY P i) (kid t 0).pos) (iK (d7 P n c) t 1 (x::xs)) [] t.pos) g C g';rw[<- h2]at h3 ⊢
  have d8:=(Cm.mk (aj (aj k4).1).1).star (env:=X.env) (iK (d7 P n c) t 2 xs);have jG:=(cX (R:=Cm P c) .mk (aj (aj k4).1).2).plain (env:=X.env) (pos:=t.pos);obtain⟨fa,fd,hm,Sj,Qu,hB,iB⟩:=ct.md.fn _ fi h1;unfold pJ at h;dsimp only at h;split at h
  .
   rename_i r e1;symm;cases k with
   |zero=>
    have F:gQ X.prog X.w X.K X.mg X.base rW (0+1) fa fd fi.ps (Hq X.K fi.N fi.ps.length λ_ _ _ _=>False):=wJ Sj Qu λ_ _ _ _ _ _ _ _ _ _ _ _ _ h=>h.elim
    obtain⟨tt,q,kk⟩:=nq hS hX cx hK hC h4 e1;refine⟨_,?_,λO J M H Q s ac=>kk O J M H (λ_ _=>False) s ac⟩
    intro ah s O H Q I ht;refine pV (d9 I (ct.pK _ h3) hm ?_ iB);exact AA (h₀:=X.base) I.ok.mod.zQ Sj.kp (bR (q t.pos ah s O H _ I ht) λus s1 ⟨_,_,_,_,h⟩=>h.elim) d8 jG
   |succ k'=>
    have F:gQ X.prog X.w X.K X.mg X.base rW (k'+1) fa fd fi.ps (Hq X.K fi.N fi.ps.length λ_ _ _ _=>False):=wJ Sj Qu λ_ _ _ _ _ _ _ _ _ _ _ _ _ h=>h.elim
    exact BV F (nq hS hX cx hK hC h4 e1) ct.room (ct.pK _ h3) hm Sj.kp hB iB d8 jG
  .
   cases rS:fns[i]? with
   |none=>rw[rS]at h;symm
   |some fx=>
    rw[rS]at h;cases k with
    |zero=>symm
    |succ k'=>
     dsimp only at h;split at h
     .
      rename_i rs g1 e1;have QD:=hF _ _ _ h1 rS;have F:gQ X.prog X.w X.K X.mg X.base (zU X.prog X.w) (k'+1) fa fd fi.ps (YT X.K fi.N fi.ps.length λbor g C g'=>∃ci,gF P X.mg ci C/\rn.xb bor k' fx.body g=some (ci,g')):=by
       refine Oz Sj Qu λbB A outer s H E bY hr z' g C g' R8 ⟨ci,ZL,hrun⟩=>?_
       exact hX.b (JQ Qu ct.md bY hr) rfl R8 ZL QD.body hrun
      unfold pI at h;split at h
      .
       rename_i hl;split at h
       . symm
       .
        rename_i gs e2;split at h
        .
         rename_i ci' gc e3;split at h
         .
          rename_i gO e4;symm;have ha:=jr hS (X:=X.jJ) ct hK h4 e1;have ha':cV X z (d7 P n c x (kid t 1)::iK (d7 P n c) t 2 xs) g rs g1:=by
           obtain⟨t,q,kk⟩:=ha;refine⟨t,λpos ah s O H Q I hw=>?_,kk⟩
           exact l8 (q pos ah s O H Q (I.wish _) hw) (λ_ _ ⟨v,H',I',r,q⟩=>⟨v,H',I'.cM,r,q⟩) λ_ _ z=>False.elim z
          exact Ib F hK cx.ex ct.room (ct.pK _ h3) hm Sj.kp hB ha' (by rw[hl.1,QD.np]) e2 hl.2 ⟨ci,hC,by rw[<- QD.n];exact e3⟩ e4 iB d8 jG
         . symm
        . symm
      . symm
     . symm
 all_goals symm
theorem zg(hX:jt P rn)(cx:Ge P k X c)(hK:z.K=X.K)(hC:gF P X.mg ci C){e:Expr}{x:Ex}{g g':G}(hc:Cm P c e x)(h:qP rn z.bor k x g=some (ci,g')):RW X z e g C g':=by
 obtain⟨n,t,e,hk⟩:=hc.Ga;cases x
 case not a=>subst e;exact HR (hX.t cx hK hC (.mk (P:=P) (n:=n) hk) h)
 case call i l=>exact Ov (hX.x cx hK hC hc h) (by rw[e];exact λ_=>rfl)
 all_goals symm
theorem fF.lift{st:Stmt}{g g':G}{f:Fl}(h:fF X.jJ z st g f g'):fF X z st g f g':=by
 obtain⟨t,q,k⟩:=h;refine⟨t,λah s O H D I hw=>?_,k⟩
 exact l8 (q ah s O H D (I.wish _) hw) (λ_ _ q=>q.cM) λ_ _ z=>False.elim z
theorem zh(hS:ig P rn)(hX:jt P rn)(cx:Ge P k X c)(fU:c.df=true)(hK:z.K=X.K)(hC:gF P X.mg ci C){s:Stmt}{x:Sm}{g g':G}(hc:Gd P c s x)(h:iI rn z.bor k x g=some (ci,g')):Ou X z s g C g':=by
 have ct:=cx.ct;obtain⟨mm,n,t,rfl,hk⟩:=hc.Ga;clear hc;cases x
 case ret x=>exact Ow (hX.x cx hK hC (.mk hk) h)
 case expr x=>have h1:=Cm.mk (aj hk).1;have h2:=ZF (aj hk).2;exact HX (hX.x cx hK hC h1 h) (ni h1 h2 _ _ _)
 case ite e a b=>
  have h1:=Cm.mk (aj hk).1;have h2:=rZ.mk (aj (aj hk).2).1;have h3:=rZ.mk (aj (aj hk).2).2;unfold iI at h;dsimp only at h;split at h
  . rename_i e1;symm;exact Ox (hX.t cx hK hC h1 e1)
  .
   split at h
   . rename_i g1 e1;exact BP (v:=true) (hS.t (X:=X.jJ) ct hK h1 e1).lift (by rw[i5 rfl];exact hX.b cx fU hK hC h2 h)
   . rename_i g1 e1;exact BP (v:=false) (hS.t (X:=X.jJ) ct hK h1 e1).lift (by rw[gN pE];exact hX.b cx fU hK hC h3 h)
   . symm
 case raise i x=>
  have h1:=dec (aj hk).1;have h2:=dec (aj (aj hk).2).1;have h3:=Cm.mk (aj (aj hk).2).2;unfold iI at h;dsimp only at h;split at h
  .
   rename_i d g1 e1;symm;obtain⟨y,q1,q2⟩:=hC;rw[h1]at q1;cases q1;obtain⟨iB,C',q3,q4⟩:=ct.md.cls _ (l7 h1);have e:C'=C:=by have:=q3.symm.trans q2;cases this;rfl
   subst e;exact BR ct.calm cx.ex q4 (ct.pK _ h2) q2 iB (fD (bI hS (X:=X.jJ) ct hK h3 e1).lift gi (h3.star _)) (h3.star _)
  . symm
 all_goals symm
theorem jZ(hS:ig P rn)(hX:jt P rn)(cx:Ge P k X c)(fU:c.df=true)(hK:z.K=X.K)(hC:gF P X.mg ci C):∀{iT:List Stmt}{xs:List Sm}{g g':G},rZ P c iT xs->eL rn z.bor k xs g=some (ci,g')->HJ X z iT g C g'
 |_,_,_,_,.nil,h=>by symm
 |_,_,_,_,.grp h1 h2,h=>by
  unfold eL at h;split at h
  . rename_i e1;cases h1 <;> cases e1
  .
   split at h
   . rename_i g1 e1;exact ((vM (X:=X.jJ) hS cx.ct fU hK h1 e1).lift).ra (jZ hS hX cx fU hK hC h2 h)
   . symm
 |_,_,_,_,.cons h1 h2,h=>by
  unfold eL at h;split at h
  . rename_i e1;symm;exact HY (zh hS hX cx fU hK hC h1 e1)
  .
   split at h
   . rename_i g1 e1;exact Ia (nj (X:=X.jJ) hS cx.ct fU hK h1 e1).lift (jZ hS hX cx fU hK hC h2 h)
   . symm
end
theorem ud{P:Pg}{fns:List Fx}(hF:eZ P fns):∀n,ig P (run fns n)/\jt P (run fns n)
 | 0=>⟨⟨λ_ _ _ h=>(by symm),λ_ _ _ h=>(by symm),λ_ _ _ _ h=>(by symm),λ_ _ _ _ h=>(by symm)⟩,⟨λ_ _ _ _ h=>(by symm),λ_ _ _ _ h=>(by symm),λ_ _ _ _ _ h=>(by symm)⟩⟩
 |n+1=>
  let ⟨a,b⟩:=ud hF n
  ⟨⟨λct hK hc h=>Dp a b hF ct hK hc h,λct hK hc h=>Dq a ct hK hc h,λct fU hK hc h=>nk a ct fU hK hc h,λct hK hl B h=>Dn a b hF ct hK hl B h⟩,
  ⟨λcx hK hC hc h=>Ds a b hF cx hK hC hc h,λcx hK hC hc h=>zg b cx hK hC hc h,λcx fU hK hC hc h=>jZ a b cx fU hK hC hc h⟩⟩
theorem JR{P:Pg}{fns:List Fx}(hF:eZ P fns)(n:Nat):ig P (run fns n):=(ud hF n).1
def cY(K:Frag)(mg:Str->Option Value)(fi:Fi):Prop:=
 ∃f fd,mg fi.name=some (.ref f)/\Fz K fi.name fi.qual fi.st f fd/\bT fi.N fi.ps (aB fi.st)/\(∀us:List Value,us.length=fi.ps.length->bindArgs fd ⟨us,[]⟩=pure (fi.ps.zip us))/\(fi.name==(~~~3))=false
def QF(K:Frag)(mg:Str->Option Value)(p:Str×D):Prop:=(p.1==(~~~3))=false/\∃v u,mg p.1=some u/\RelV v u/\∀M H,Rep K M H p.2 v
inductive All{α:Type}(p:α->Prop):List α->Prop
 |nil:All p []
 |cons {a:α}{l:List α}:p a->All p l->All p (a::l)
theorem All.mem{α:Type}{p:α->Prop}:∀{l:List α},All p l->∀a∈l,p a
 |_,.nil,_,h=>nomatch h
 |_,.cons h t,a,hm=>(dL.mp hm).elim (λe=>e▸h) (All.mem t a)
structure QG(P:Pg)(K:Frag)(mg:Str->Option Value):Prop where
 lam:P.lam=true->∀bB,PySem.W.codeIn K bB "law"=true->CQ K mg bB
 gW:∀(i:Nat) (C:Addr),P.gW[i]?=some C->∃x,P.cls[i]?=some x/\mg x=some (.ref C)/\eH K C/\FG K C
 kt:P.lam=true->(P.kt==(~~~3))=false/\∃D,mg P.kt=some (.ref D)/\eH K D/\∀C∈P.gW,tG K C D=true
 ups:∀(x:Str) (l:List (Addr×Bool)),(x,l)∈P.ups->(x==(~~~3))=false/\∃cv,((mg x=some cv/\∃D,cv=.ref D)\/(x∈P.bn/\x≠ "__name__" /\bootBuiltins x=some cv/\∃n,cv=.type n))/\PySem.W.kitOne K (.type "NoneType") cv=some false/\∀C b,l.lookup C=some b->PySem.W.kitOne K (.ref C) cv=some b
theorem VP{P:Pg}{K:Frag}{mg:Str->Option Value}(h1:All (cY K mg) P.fn)(h2:All (QF K mg) P.ct)(h3:All (λx=>mg x=none) P.bn)(h4:All (λx=>(x==(~~~3))=false/\∃C,mg x=some (.ref C)/\eH K C) P.cls)(h5:QG P K mg):qQ P K mg:=
 ⟨λi fi e=>let ⟨f,fd,q1,q2,q3,q4,q5⟩:=h1.mem fi (l7 e);⟨f,fd,q1,q2,q3,.all q4,q5⟩,λx d h=>h2.mem (x,d) h,λx h=>h3.mem x h,λx h=>h4.mem x h,h5.lam,h5.gW,h5.kt,h5.ups⟩
def ZP(fi:Fi):Prop:=∀(kV doc pm:Value) (an:Option Addr) (bB ct:Value) (us:List Value),us.length=fi.ps.length->bindArgs (PySem.W.fnOf fi.name fi.qual (gH fi.st) (bz fi.st) (aB fi.st) .none kV doc pm an bB ct) ⟨us,[]⟩=pure (fi.ps.zip us)
section
variable{K:Frag}
theorem VR{fi:Fi}{oc:Value}{od an:Option Addr}{osl:Array (Option Value)}{kV doc pm bB ct:Value}(X:K.In h)(G:h.Ns mainGlobals mg)(a:PySem.W.nsIn K mainGlobals fi.name=some (some (.ref f)))
  (l:K.lookup f=some ⟨oc,od,.func (PySem.W.fnOf fi.name fi.qual (gH fi.st) (bz fi.st) (aB fi.st) .none kV doc pm an bB ct),osl⟩) (c:PySem.W.codeIn K bB fi.qual=true) (k:PySem.W.keepIn K (.ref f)=true)
  (sc:bT fi.N fi.ps (aB fi.st)) (hb:ZP fi)
  (hd:(fi.name==(~~~3))=false):cY K mg fi:=
 let F:=MN (x:=fi.name) (qual:=fi.qual) (st:=fi.st) l c k
 ⟨f,_,B0 X G a,F,sc,hb kV doc pm an bB ct,hd⟩
theorem QH{x:Str}{i:Int}{t:Tok}(X:K.In h)(G:h.Ns mainGlobals mg)(a:PySem.W.nsIn K mainGlobals x=some (some (.int i t)))(hd:(x==(~~~3))=false):QF K mg (x,.int i):=
 ⟨hd,.int i,.int i t,B0 X G a,⟨t,rfl⟩,λ_ _=>.int i⟩
theorem V0{x:Str}{C:Addr}(X:K.In h)(G:h.Ns mainGlobals mg)(a:PySem.W.nsIn K mainGlobals x=some (some (.ref C)))(q:eH K C)(hd:(x==(~~~3))=false):(x==(~~~3))=false/\∃C,mg x=some (.ref C)/\eH K C:=
 ⟨hd,C,B0 X G a,q⟩
theorem QJ{P:Pg}{fns:List Fx}{prog:Program}{w:World}{base:Heap}(hF:eZ P fns)(md:qQ P K mg){i:Nat}{fi:Fi}{fx:Fx}{x:Str}{fd:FuncData}{n k:Nat}(VM:P.fn[i]?=some fi)(rS:fns[i]?=some fx)(hp:fi.ps=[x])(F:Fz K fi.name fi.qual fi.st f fd)(sc:bT fi.N fi.ps (aB fi.st)) :
  gQ prog w K mg base rW (k+1) f fd [x] (Hq K fi.N 1 λbor g r g'=>(run fns n).b bor k fx.body g=some (.rt r,g')):=by
 have:=wJ (P:=prog) (w:=w) (mg:=mg) (base:=base) (k:=k) (N:=fi.N) (ps:=fi.ps) (run:=λbor g r g'=>(run fns n).b bor k fx.body g=some (.rt r,g')) F sc λbB A outer s H E bY hr z g r g' hK hrun=>
  ⟨_,(JR hF n).b (ng sc md bY hr) rfl hK (hF i fi fx VM rS).body hrun,.inl rfl⟩
 rw[hp]at this;exact this
theorem Dt{P:Pg}{fns:List Fx}{prog:Program}{w:World}(hF:eZ P fns)(md:qQ P K mg){i:Nat}{fi:Fi}{fx:Fx}{x:Str}{n k:Nat}(VM:P.fn[i]?=some fi)(rS:fns[i]?=some fx)(hp:fi.ps=[x])(h:cY K mg fi)(hm:mg fi.name=some (.ref f)) :
  ∃fd:FuncData,(∀(s:Shared) (u:Value),BindsTo s fd ⟨[u],[]⟩ [(x,u)])/\∀base:Heap,K.In base->base.Ns mainGlobals mg->gQ prog w K mg base rW (k+1) f fd [x] (Hq K fi.N 1 λbor g r g'=>(run fns n).b bor k fx.body g=some (.rt r,g')):=by
 obtain⟨f',fd,q1,q2,q3,q4,q5⟩:=h;rw[hm]at q1;cases q1;refine⟨fd,λs u=>.of_eq ?_,λbase _ _=>QJ hF md VM rS hp q2 q3⟩
 have:=q4 [u] (by rw[hp];rfl)
 rw[hp]at this;exact this
theorem QK{N:List Str}{run:List Nat->G->R->G->Prop}(hev:∀ns:List Int,ns.length<=63->∃g',run [] (cP N.length [.dat (.fix (ns.map .int))]) (.dat (.bl true)) g')(K:Frag)(H:Hp)(a:Addr)(ns: ~~~0)(hl:ns.length<=63)(hO:wM ((cF K).map (·.1)) H)(hS:cG K H a (ns.map V.int)) :
  Hq K N 1 run [.ref a] H (λv _=>v=.bl true) λ_ _ _=>False:=by
 obtain⟨g',hg⟩:=hev ns hl;have fx:lV K ((cF K).map (·.1)) H a (ns.map V.int):=by
  rcases hS with h |h
  .
   rcases hO a with ⟨_,z⟩ |⟨na,z⟩
   . rcases h with h |⟨o,h⟩ <;> (rw[z]at h;symm)
   .
    refine .inl ⟨na,?_⟩;rcases h with h |h
    .
     rcases z with z |⟨o,xs,z⟩
     . rw[z]at h;symm
     . rw[z]at h;symm
    . exact h
  . exact .inr (.inr h)
 have rr:∀ns:List Int,aJ K ((cF K).map (·.1)) H (ns.map D.int) (ns.map V.int):=λns=>by
  induction ns with
  |nil=>exact .nil
  |cons n ns ih=>exact .cons (.int n) ih
 have tb:∀p∈cF K,H p.1=some (.jH #[]):=λp hp=>by
  rcases hO p.1 with ⟨_,z⟩ |⟨z,_⟩
  . exact z
  . exact absurd (i7.mpr ⟨p,hp,rfl⟩) z
 refine⟨rfl,⟨K,H,(cF K).map (·.1),[],cF K⟩,cP N.length [.dat (.fix (ns.map .int))],g',[],(cF K).map (·.1),.dat (.bl true),rfl,?_,hg,λv σ' aA M' H' s' st R=>eu R⟩
 refine⟨?_,wE,(λa ha=>nomatch ha),λi b l e1 e2=>?_,(λm hm=>.inr hm),(λb o e _ _=>e),(λm hm=>hm),(λm hm=>?_),(λb hb=>nomatch hb),(λp hp=>nomatch hp),(λp hp=>⟨#[],tb p hp,trivial,λpos cv e=>nomatch e⟩),(λp hp=>i7.mpr ⟨p,hp,rfl⟩),rfl⟩
 . exact Slots.append (A1:=[]) (.dat (.fix fx (rr ns)) .nil) (Slots.W3 _)
 .
  exfalso;unfold cP at e1;cases i with
  |zero=>simp at e1
  |succ i=>rw[d5 ⋯]at e1;have:=l7 e1;rw[xL]at this;exact absurd this.2 ⋯
 . obtain⟨p,hp,rfl⟩:=i7.mp hm;intro z;have z:H p.1=none:=z;rw[tb p hp]at z;cases z
end
noncomputable abbrev Fi.ct(fi:Fi):Ct:=⟨fi.N,aB fi.st,true,fi.qual⟩
def xg(P:Pg)(fi:Fi)(fx:Fx):List Stmt:=ow (Qp P 99 (K7 P 99 20 fi.ct) fi.ct) (K7 P 99 20 fi.ct) fx.body (bz fi.st)
def ZQ(P:Pg)(fi:Fi)(fx:Fx):Bool:=decide (fx.np=fi.ps.length)&&(decide (fx.n=fi.N.length)&&Gb (Qq P 99 (K8 P 99 20 fi.ct) fi.ct) (K8 P 99 20 fi.ct) fx.body (bz fi.st))
theorem QL{P:Pg}{fi:Fi}{fx:Fx}(e:xg P fi fx=bz fi.st)(h:ZQ P fi fx=true):JH P fi fx:=⟨dec (aj h).1,dec (aj (aj h).2).1,Eq.mp (congrArg (λl=>rZ P fi.ct l fx.body) e) (rZ.mk (aj (aj h).2).2)⟩
def Du(P:Pg):List Fi->List Fx->Bool
 |fi::l,fx::r=>ZQ P fi fx&&Du P l r
 |_,_=>true
theorem JT{P:Pg}{l:List Fi}{r:List Fx}(e:List.zipWith (xg P) l r=l.map λfi=>bz fi.st)(h:Du P l r=true)(f:Nat)(fi:Fi)(fx:Fx)(h1:l[f]?=some fi)(h2:r[f]?=some fx):JH P fi fx:=by
 induction l generalizing r f with
 |nil=>cases h1
 |cons a l ih=>cases r with
  |nil=>cases h2
  |cons b r=>
   have h:(ZQ P a b&&Du P l r)=true:=h;cases f with
   |zero=>cases h1;cases h2;exact QL (List.cons.inj e).1 (aj h).1
   |succ f=>exact ih (List.cons.inj e).2 (aj h).2 f h1 h2
theorem QM{P:Pg}{fns:List Fx}(h:Du P P.fn fns=true)(e:List.zipWith (xg P) P.fn fns=P.fn.map λfi=>bz fi.st):eZ P fns:=λf fi fx h1 h2=>JT e h f fi fx h1 h2
theorem V1{us:List Value}(h:us.length=1):∃a,us=[a]:=by
 cases us with
 |nil=>symm
 |cons a us=>cases us with
  |nil=>exact⟨a,rfl⟩
  |cons _ _=>symm
theorem V2{us:List Value}(h:us.length=2):∃a b,us=[a,b]:=by
 cases us with
 |nil=>symm
 |cons a us=>obtain⟨b,rfl⟩:=V1 (BF h);exact⟨a,b,rfl⟩
theorem ZR{us:List Value}(h:us.length=3):∃a b c,us=[a,b,c]:=by
 cases us with
 |nil=>symm
 |cons a us=>obtain⟨b,c,rfl⟩:=V2 (BF h);exact⟨a,b,c,rfl⟩
def dP(st:Stmt):Fi:=match st with
 |.FunctionDef name args _ _ _ _ scope _ _ _=>⟨name,name,st,(args.args.map (·.arg))++scope.names.filterMap (λy=>if (y.2==.local||y.2==.cell)&&!(args.args.map (·.arg)).contains y.1 then some y.1 else none),args.args.map (·.arg)⟩
 |st=>⟨"", "",st,[],[]⟩
section
theorem uf(ds:List D):∀i,vars i (ds.map R.dat)=[]:=by
 induction ds with
 |nil=>intro i;rfl
 |cons d ds ih=>intro i;exact ih (i+1)
theorem ug(ds:List D):cS (ds.map R.dat) g1=some (ds.map .dat):=by
 induction ds with
 |nil=>rfl
 |cons d ds ih=>
  show (match cS (ds.map R.dat) g1 with |some gs=>some (Slot.dat d::gs) |none=>none)=_
  rw[ih];rfl
noncomputable def Dw:List D->G
 | []=>[]
 |d::l=>.dat d::Dw l
theorem xh(ds:List D):Dw ds=ds.map .dat:=by
 induction ds with
 |nil=>rfl
 |cons d ds ih=>rw[Dw,ih];rfl
def bF(rn:Rn)(k:Nat)(fx:Fx)(ds:List D):Option R:=match rn.b [] k fx.body (cP fx.n (Dw ds))with
 |some (.rt r,gc)=>cW [] gc r
 |some (.nx,_)=>some (.dat .non)
 |_=>none
theorem j3{fx:Fx}{ds:List D}(hl:ds.length=fx.np):bu rn fx k (ds.map .dat) g1=(bF rn k fx ds).map λr=>(r,g1):=by
 unfold bu bF;rw[uf,ug,xh];simp only[fR,hl,List.map_nil,wE,and_self,AT];cases rn.b [] k fx.body (cP fx.n (ds.map .dat))with
 |none=>rfl
 |some p=>
  obtain⟨f,gc⟩:=p;cases f with
  |nx=>rfl
  |rt r=>simp only[back];cases cW [] gc r <;> rfl
  |bk=>rfl
  |ct=>rfl
noncomputable def gM(g m:G)(acc:List D):G:=g++(m++[.own acc])
theorem gJ{g m:G}{acc:List D}{i:Nat}(h:i<g.length):(gM g m acc)[i]?=g[i]?:=by unfold gM;rw[eJ h]
theorem iM{g m:G}{acc:List D}{i:Nat}(h:i<m.length):(gM g m acc)[g.length+i]?=m[i]?:=by unfold gM;rw[d5 ⋯,i9,eJ h]
theorem lG{g m:G}{acc:List D}:(gM g m acc)[g.length+m.length]?=some (.own acc):=by unfold gM;rw[d5 ⋯,i9,d5 (eA _),BI];rfl
theorem fH{g m:G}{acc:List D}{i:Nat}{s:Slot}(h:i<m.length):(gM g m acc).set (g.length+i) s=gM g (m.set i s) acc:=by unfold gM;rw[t9 _ _ ⋯,i9,BS _ _ h]
theorem kJ{g m:G}{acc acc':List D}:(gM g m acc).set (g.length+m.length) (.own acc')=gM g m acc':=by unfold gM;rw[t9 _ _ ⋯,i9,t9 _ _ (eA _),BI];rfl
theorem xq{g m:G}{acc:List D}:(gM g m acc).take g.length=g:=by unfold gM;simp
theorem Ld{kk:Nat}:gC kk g=gM g (List.replicate kk .no) []:=rfl
theorem qY{α:Type}{T:Tg}{last kk:Nat}{c:Option Ex}{e:Ex}(lq:α->D)(f:α->D)(p:α->Bool)(st:α->G->G)(gq:last=g.length+kk)(d8:∀d m,m.length=kk->(st d m).length=kk) :
  ∀(items:List α) (m:G) (acc:List D),m.length=kk->acc.length+items.length<=lim->
  (∀d∈items,∀m acc,m.length=kk->T.set (lq d) (gM g m acc)=some (gM g (st d m) acc))->
  (∀d∈items,∀m acc,m.length=kk->K3 rn bor k c (gM g (st d m) acc)=some (p d,gM g (st d m) acc))->
  (∀d∈items,p d=true->∀m acc,m.length=kk->iS rn bor k e (gM g (st d m) acc)=some (f d,gM g (st d m) acc))->
  ∃m',m'.length=kk/\FW rn bor k T last c e (items.map lq) (gM g m acc)=some (gM g m' (acc++(items.filter p).map f))
 | [],m,acc,hm,_,_,_,_=>⟨m,hm,by simp[FW]⟩
 |d::items,m,acc,hm,hl,hT,hi,he=>by
  rw[i3]at hl;have q1:=hT d dA m acc hm;have q2:=hi d dA m acc hm;have hm':=d8 d m hm;rw[List.map_cons];unfold FW;rw[q1];dsimp only;rw[q2];cases hp:p d with
  |false=>
   dsimp only;obtain⟨m',w1,w2⟩:=qY lq f p st gq d8 items (st d m) acc hm' ⋯ (λx hx=>hT x (b0 _ hx)) (λx hx=>hi x (b0 _ hx)) (λx hx=>he x (b0 _ hx))
   exact⟨m',w1,by rw[w2,List.filter_cons,hp];rfl⟩
  |true=>
   have q3:=he d dA hp m acc hm;dsimp only;rw[q3];dsimp only;have q4:(gM g (st d m) acc)[last]?=some (.own acc):=by rw[gq,<- hm'];exact lG
   rw[q4];dsimp only;rw[i5 ⋯];have q5:(gM g (st d m) acc).set last (.own (acc++[f d]))=gM g (st d m) (acc++[f d]):=by rw[gq,<- hm'];exact kJ
   rw[q5];obtain⟨m',w1,w2⟩:=qY lq f p st gq d8 items (st d m) (acc++[f d]) hm' (by rw[i6,BE];lia) (λx hx=>hT x (b0 _ hx)) (λx hx=>hi x (b0 _ hx)) (λx hx=>he x (b0 _ hx))
   refine⟨m',w1,?_⟩;rw[w2,List.filter_cons,hp];simp
theorem pM{α:Type}{kk nn:Nat}{T:Tg}{it:Ex}{c:Option Ex}{e:Ex}(items:List α)(lq:α->D)(f:α->D)(p:α->Bool)(st:α->G->G)(hw:fS rn bor k T.k9 it g=some (items.map lq,g1))(hn:nn=g1.length)(hb:(T.ix.any λi=>decide (i∈bor))=false)(hl:items.length<=lim)(d8:∀d m,m.length=kk->(st d m).length=kk)
  (hT:∀d∈items,∀m acc,m.length=kk->T.set (lq d) (gM g1 m acc)=some (gM g1 (st d m) acc))
  (hi:∀d∈items,∀m acc,m.length=kk->K3 rn bor k c (gM g1 (st d m) acc)=some (p d,gM g1 (st d m) acc))
  (he:∀d∈items,p d=true->∀m acc,m.length=kk->iS rn bor k e (gM g1 (st d m) acc)=some (f d,gM g1 (st d m) acc)) :
  bS rn bor k nn kk T it c e g=some ((items.filter p).map f,g1):=by
 subst hn;obtain⟨m',w1,w2⟩:=qY (rn:=rn) (bor:=bor) (k:=k) (g:=g1) (last:=g1.length+kk) lq f p st rfl d8 items (List.replicate kk .no) [] ⋯ (by simpa using hl) hT hi he
 unfold bS;rw[hw];dsimp only;rw[i5 ⟨rfl,hb⟩,Ld,w2];dsimp only;have:(gM g1 m' ([]++(items.filter p).map f))[g1.length+kk]?=some (.own ([]++(items.filter p).map f)):=by rw[<- w1];exact lG
 rw[this];dsimp only;rw[xq,y7]
theorem QS{j kk:Nat}{d:D}{m:G}{acc:List D}(hj:g.length<=j)(hk:j - g.length<m.length):(Tg.nm j).set d (gM g m acc)=some (gM g (m.set (j - g.length) (.dat d)) acc):=by
 show some ((gM g m acc).set j (.dat d))=_;have:=fH (g:=g) (acc:=acc) (s:=.dat d) hk;rw[show g.length+(j - g.length)=j by lia]at this
 rw[this]
def JV(g:G)(j:Nat)(d:D)(G':G):Prop:=(∀i,i<g.length->G'[i]?=g[i]?)/\G'[j]?=some (.dat d)
theorem Le{α:Type}{kk nn j:Nat}{it:Ex}{c:Option Ex}{e:Ex}(items:List α)(lq:α->D)(p:α->Bool)(f:α->D)(hw:fS rn bor k false it g=some (items.map lq,g1))(hn:nn=g1.length)(hj1:g1.length<=j)(hj2:j<g1.length+kk)(hb:j∉bor)(hl:items.length<=lim)
  (hi:∀a∈items,∀G',JV g1 j (lq a) G'->K3 rn bor k c G'=some (p a,G')) (he:∀a∈items,p a=true->∀G',JV g1 j (lq a) G'->iS rn bor k e G'=some (f a,G')) :
  bS rn bor k nn kk (.nm j) it c e g=some ((items.filter p).map f,g1):=by
 have sees:∀(a:α) (m:G) (acc:List D),m.length=kk->JV g1 j (lq a) (gM g1 (m.set (j - g1.length) (.dat (lq a))) acc):=λa m acc hm=>by
  refine⟨λi hi=>gJ hi,?_⟩
  have:=iM (g:=g1) (m:=m.set (j - g1.length) (.dat (lq a))) (acc:=acc) (i:=j - g1.length) (by simp;lia)
  rw[show g1.length+(j - g1.length)=j by lia]at this
  rw[this,fI ⋯]
 refine pM (T:=.nm j) items lq f p (λa m=>m.set (j - g1.length) (.dat (lq a))) hw hn (by simp[Tg.ix,hb]) hl (λd m hm=>by simpa using hm) (λa _ m acc hm=>QS (kk:=kk) hj1 ⋯) (λa ha m acc hm=>hi a ha _ (sees a m acc hm)) λa ha hp m acc hm=>he a ha hp _ (sees a m acc hm)
theorem filter_all{α:Type}(l:List α):l.filter (λ_=>true)=l:=List.filter_eq_self.mpr λ_ _=>rfl
theorem nu{α:Type}{kk nn j:Nat}{it:Ex}{e:Ex}(items:List α)(lq:α->D)(f:α->D)(hw:fS rn bor k false it g=some (items.map lq,g1))(hn:nn=g1.length)(hj1:g1.length<=j)(hj2:j<g1.length+kk)(hb:j∉bor)(hl:items.length<=lim)
  (he:∀a∈items,∀G',JV g1 j (lq a) G'->iS rn bor k e G'=some (f a,G')):bS rn bor k nn kk (.nm j) it none e g=some (items.map f,g1):=by
 have:=Le (c:=none) items lq (λ_=>true) f hw hn hj1 hj2 hb hl (λ_ _ _ _=>rfl) λa ha _ G' hG=>he a ha G' hG
 rw[filter_all]at this;exact this
def xu(g:G)(j1 j2:Nat)(d1 d2:D)(G':G):Prop:=(∀i,i<g.length->G'[i]?=g[i]?)/\G'[j1]?=some (.dat d1)/\G'[j2]?=some (.dat d2)
theorem V3{α:Type}{kk nn j1 j2:Nat}{it:Ex}{c:Option Ex}{e:Ex}(items:List α)(gZ iN:α->D)(p:α->Bool)(f:α->D)(hw:fS rn bor k true it g=some (items.map λa=>.tup [gZ a,iN a],g1))(hn:nn=g1.length)(hj1:g1.length<=j1)(V4:j1<g1.length+kk)(hj2:g1.length<=j2)(V5:j2<g1.length+kk)(jD:j1≠j2)(hb1:j1∉bor)(hb2:j2∉bor)(hl:items.length<=lim)
  (hi:∀a∈items,∀G',xu g1 j1 j2 (gZ a) (iN a) G'->K3 rn bor k c G'=some (p a,G')) (he:∀a∈items,p a=true->∀G',xu g1 j1 j2 (gZ a) (iN a) G'->iS rn bor k e G'=some (f a,G')) :
  bS rn bor k nn kk (.tp [j1,j2]) it c e g=some ((items.filter p).map f,g1):=by
 have sees:∀(a:α) (m:G) (acc:List D),m.length=kk->xu g1 j1 j2 (gZ a) (iN a) (gM g1 ((m.set (j1 - g1.length) (.dat (gZ a))).set (j2 - g1.length) (.dat (iN a))) acc):=λa m acc hm=>by
  refine⟨λi hi=>gJ hi,?_,?_⟩
  .
   have:=iM (g:=g1) (m:=(m.set (j1 - g1.length) (.dat (gZ a))).set (j2 - g1.length) (.dat (iN a))) (acc:=acc) (i:=j1 - g1.length) (by simp;lia)
   rw[show g1.length+(j1 - g1.length)=j1 by lia]at this
   rw[this,eD ⋯,fI ⋯]
  .
   have:=iM (g:=g1) (m:=(m.set (j1 - g1.length) (.dat (gZ a))).set (j2 - g1.length) (.dat (iN a))) (acc:=acc) (i:=j2 - g1.length) (by simp;lia)
   rw[show g1.length+(j2 - g1.length)=j2 by lia]at this
   rw[this,fI (by simp;lia)]
 refine pM (T:=.tp [j1,j2]) items (λa=>.tup [gZ a,iN a]) f p (λa m=>(m.set (j1 - g1.length) (.dat (gZ a))).set (j2 - g1.length) (.dat (iN a))) hw hn (by simp[Tg.ix,hb1,hb2]) hl (λd m hm=>by simpa using hm) (λa _ m acc hm=>?_) (λa ha m acc hm=>hi a ha _ (sees a m acc hm)) λa ha hp m acc hm=>he a ha hp _ (sees a m acc hm)
 have q1:=fH (g:=g1) (m:=m) (acc:=acc) (i:=j1 - g1.length) (s:=.dat (gZ a)) ⋯;have q2:=fH (g:=g1) (m:=m.set (j1 - g1.length) (.dat (gZ a))) (acc:=acc) (i:=j2 - g1.length) (s:=.dat (iN a)) (by simp;lia)
 rw[show g1.length+(j1 - g1.length)=j1 by lia]at q1
 rw[show g1.length+(j2 - g1.length)=j2 by lia]at q2
 show some (((gM g1 m acc).set j1 (.dat (gZ a))).set j2 (.dat (iN a)))=_;rw[q1,q2]
theorem QT{α:Type}{kk nn j1 j2:Nat}{it:Ex}{e:Ex}(items:List α)(gZ iN:α->D)(f:α->D)(hw:fS rn bor k true it g=some (items.map λa=>.tup [gZ a,iN a],g1))(hn:nn=g1.length)(hj1:g1.length<=j1)(V4:j1<g1.length+kk)(hj2:g1.length<=j2)(V5:j2<g1.length+kk)(jD:j1≠j2)(hb1:j1∉bor)(hb2:j2∉bor)(hl:items.length<=lim)
  (he:∀a∈items,∀G',xu g1 j1 j2 (gZ a) (iN a) G'->iS rn bor k e G'=some (f a,G')):bS rn bor k nn kk (.tp [j1,j2]) it none e g=some (items.map f,g1):=by
 have:=V3 (c:=none) items gZ iN (λ_=>true) f hw hn hj1 V4 hj2 V5 jD hb1 hb2 hl (λ_ _ _ _=>rfl) λa ha _ G' hG=>he a ha G' hG
 rw[filter_all]at this;exact this
theorem dQ{α:Type}{T:Tg}{b:G->Option (Fl×G)}(lq:α->D)(I:List α->G->Prop)(step:∀a l g,I (a::l) g->∃g1 g2,T.set (lq a) g=some g1/\b g1=some (.nx,g2)/\I l g2):∀l g,I l g->∃g',I [] g'/\fO T b (l.map lq) g=some (.nx,g')
 | [],g,h=>⟨g,h,rfl⟩
 |a::l,g,h=>by
  obtain⟨g1,g2,q1,q2,q3⟩:=step a l g h;obtain⟨g',w1,w2⟩:=dQ lq I step l g2 q3;exact⟨g',w1,by rw[List.map_cons];unfold fO;rw[q1];dsimp only;rw[q2];exact w2⟩
end
theorem ints_map(l: ~~~0):cO (l.map .int)=some l:=by
 induction l with
 |nil=>rfl
 |cons a l ih=>simp[cO,ih]
theorem JW(l:List Bool):sN (l.map .bl)=some l:=by
 induction l with
 |nil=>rfl
 |cons a l ih=>simp[sN,ih]
theorem Dy(l:List D):lA .len [.tup l]=some (.dat (.int l.length)):=rfl
theorem Dz(l:List D):lA .len [.lst l]=some (.dat (.int l.length)):=rfl
theorem nB(l:List D):lA .len [.fix l]=some (.dat (.int l.length)):=rfl
theorem zj(l:List D):lA .list [.tup l]=some (.new l):=rfl
theorem zm(l:List D):lA .list [.lst l]=some (.new l):=rfl
theorem vN(l:List D):lA .tuple [.lst l]=some (.dat (.tup l)):=rfl
theorem vO(l:List D):lA .tuple [.tup l]=some (.dat (.tup l)):=rfl
theorem qZ(i j:Int):lA .max [.int i,.int j]=some (.dat (.int (if j > i then j else i))):=rfl
theorem xx(i j:Int):lA .min [.int i,.int j]=some (.dat (.int (if j<i then j else i))):=rfl
theorem QV(l:List Bool):lA .all [.lst (l.map .bl)]=some (.dat (.bl (l.all id))):=by simp only[lA,Px,JW]
theorem DG(l: ~~~0):lA .sum [.tup (l.map .int)]=some (.dat (.int l.sum)):=by simp only[lA,Px,dD,ints_map]
theorem DK(l: ~~~0):lA .sum [.lst (l.map .int)]=some (.dat (.int l.sum)):=by simp only[lA,Px,dD,ints_map]
theorem e9:∀a b:List Int,dI (a.map .int) (b.map .int)=decide (a=b)
 | [],[]=>rfl
 | [],_::_=>rfl
 |_::_,[]=>rfl
 |x::a,y::b=>by
  simp only[List.map_cons,dI,eG,e9 a b,List.cons.injEq,Bool.decide_and];rfl
theorem pN(a: ~~~0):lX (a.map .int)=true:=by
 induction a with
 |nil=>rfl
 |cons x a ih=>simp[lX,lz,ih]
theorem pP(a: ~~~0):deps (a.map .int)=0:=by
 induction a with
 |nil=>rfl
 |cons x a ih=>simp[deps,dep,ih]
theorem pQ(a b: ~~~0):iH (.tup (a.map .int)) (.tup (b.map .int))=true:=by simp[iH,lz,pN,dep,pP]
theorem nD(a b: ~~~0):iH (.lst (a.map .int)) (.lst (b.map .int))=true:=by simp[iH,lz,pN,dep,pP]
theorem QW(a b: ~~~0):eV .Eq (.tup (a.map .int)) (.tup (b.map .int))=some (decide (a=b)):=by simp only[eV,pQ,AT,eG,e9]
theorem QX(a b: ~~~0):eV .NotEq (.tup (a.map .int)) (.tup (b.map .int))=some (!decide (a=b)):=by simp only[eV,pQ,AT,eG,e9]
theorem DN(a b: ~~~0):eV .Eq (.lst (a.map .int)) (.lst (b.map .int))=some (decide (a=b)):=by simp only[eV,nD,AT,eG,e9]
theorem DP(a b: ~~~0):eV .NotEq (.lst (a.map .int)) (.lst (b.map .int))=some (!decide (a=b)):=by simp only[eV,nD,AT,eG,e9]
theorem QZ(a b:Int):eV .Eq (.int a) (.int b)=some (decide (a=b)):=rfl
theorem Q5(a b:Int):eV .NotEq (.int a) (.int b)=some (!decide (a=b)):=rfl
theorem Q6(a b:Int):eV .Lt (.int a) (.int b)=some (decide (a<b)):=rfl
theorem Q7(a b:Int):eV .LtE (.int a) (.int b)=some (decide (a<=b)):=rfl
theorem Q8(a b:Int):eV .Gt (.int a) (.int b)=some (decide (a > b)):=rfl
theorem Q9(a b:Int):eV .GtE (.int a) (.int b)=some (decide (a ≥ b)):=rfl
theorem JX(a b:Int):mU .Add (.int a) (.int b)=some (.dat (.int (a+b))):=rfl
theorem JZ(a b:Int):mU .Sub (.int a) (.int b)=some (.dat (.int (a - b))):=rfl
theorem ZS(l:List D)(i:Int):R9 (.tup l) (.int i)=L2.fM l i:=rfl
theorem ZT(l:List D)(i:Int):R9 (.lst l) (.int i)=L2.fM l i:=rfl
theorem ZV(l:List D)(i:Int):R9 (.fix l) (.int i)=L2.fM l i:=rfl
theorem rq{α:Type}(l:List α)(i:Nat)(h:i<l.length):L2.fM l (i:Int)=some l[i]:=by unfold L2.fM L2.rT;rw[i5 ⋯,i5 ⋯];simp[h]
theorem uh(l: ~~~0)(i:Nat)(h:i<l.length):L2.fM (l.map D.int) (i:Int)=some (.int l[i]):=by
 rw[rq _ _ (by simpa using h)]
 simp
theorem is_tup(l:List D):dN (kX (.tup l)) "tuple"=true:=rfl
theorem Ra(i:Int):dN (kX (.int i)) "int"=true:=rfl
theorem DQ(i:Int):dN (kX (.int i)) "bool"=false:=rfl
theorem aq(m:Nat)(h:m<=1000):m<=lim:=oI h ⋯
theorem aQ(i:Int)(h:0<=i/\i<=1000):Py i=true:=by unfold Py;simp only[eP,eQ];lia
section
theorem aG{fx:Fx}{d:D}(h:fx.np=1):bu rn fx k [.dat d] g1=(bF rn k fx [d]).map λr=>(r,g1):=j3 (ds:=[d]) h.symm
theorem bU{fx:Fx}{d e:D}(h:fx.np=2):bu rn fx k [.dat d,.dat e] g1=(bF rn k fx [d,e]).map λr=>(r,g1):=j3 (ds:=[d,e]) h.symm
theorem rz{fx:Fx}{d e f:D}(h:fx.np=3):bu rn fx k [.dat d,.dat e,.dat f] g1=(bF rn k fx [d,e,f]).map λr=>(r,g1):=j3 (ds:=[d,e,f]) h.symm
end
structure lg(fns:List Fx)(rn:Nat->Rn):Prop where
 e:∀(n:Nat) (bor:List Nat) (k:Nat) (x:Ex) (g:G),(rn (n+1)).e bor k x g=bw (rn n) bor k fns x g
 t:∀(n:Nat) (bor:List Nat) (k:Nat) (x:Ex) (g:G),(rn (n+1)).t bor k x g=stepT (rn n) bor k x g
 b:∀(n:Nat) (bor:List Nat) (k:Nat) (x:List Sm) (g:G),(rn (n+1)).b bor k x g=bV (rn n) bor k x g
 x:∀(n:Nat) (bor:List Nat) (k:Nat) (x:Ex) (g:G),(rn (n+1)).x bor k x g=pJ (rn n) bor k fns x g
 xt:∀(n:Nat) (bor:List Nat) (k:Nat) (x:Ex) (g:G),(rn (n+1)).xt bor k x g=qP (rn n) bor k x g
 xb:∀(n:Nat) (bor:List Nat) (k:Nat) (x:List Sm) (g:G),(rn (n+1)).xb bor k x g=eL (rn n) bor k x g
theorem J0(fns:List Fx):lg fns (run fns):=⟨λ_ _ _ _ _=>rfl,λ_ _ _ _ _=>rfl,λ_ _ _ _ _=>rfl,λ_ _ _ _ _=>rfl,λ_ _ _ _ _=>rfl,λ_ _ _ _ _=>rfl⟩
def um(rn:Rn)(k:Nat)(fx:Fx)(ds:List D):Option Nat:=match rn.xb [] k fx.body (cP fx.n (Dw ds))with
 |some (ci,_)=>some ci
 |none=>none
theorem pR{rn:Rn}{k:Nat}{g1:G}{fx:Fx}{ds:List D}(hl:ds.length=fx.np):pI rn fx k (ds.map .dat) g1=(um rn k fx ds).map λr=>(r,g1):=by
 unfold pI um;rw[uf,ug,xh];simp only[fR,hl,List.map_nil,wE,and_self,AT];cases rn.xb [] k fx.body (cP fx.n (ds.map .dat))with
 |none=>rfl
 |some p=>rfl
section
theorem gK{fx:Fx}{d:D}(h:fx.np=1):pI rn fx k [.dat d] g1=(um rn k fx [d]).map λr=>(r,g1):=pR (ds:=[d]) h.symm
theorem J1{fx:Fx}{d e:D}(h:fx.np=2):pI rn fx k [.dat d,.dat e] g1=(um rn k fx [d,e]).map λr=>(r,g1):=pR (ds:=[d,e]) h.symm
end
abbrev evZ:=And.intro @is_tup (And.intro @Ra (And.intro @DQ (And.intro @Dy (And.intro @Dz (And.intro @zj (And.intro @zm (And.intro @vN (And.intro @vO (And.intro @qZ (And.intro @xx (And.intro @QV (And.intro @DG (And.intro @DK (And.intro @QW (And.intro @QX (And.intro @DN (And.intro @DP (And.intro @QZ (And.intro @Q5 (And.intro @Q6 (And.intro @Q7 (And.intro @Q8 (And.intro @Q9 (And.intro @JX (And.intro @JZ (And.intro @ZS (And.intro @ZT @ZV)))))))))))))))))))))))))))
abbrev ZW{fns rn}(U:lg fns rn):=And.intro U.e (And.intro U.t (And.intro U.b (And.intro U.x (And.intro U.xt U.xb))))
end Ev
set_option hygiene false in
local macro_rules | `(tactic|simp! [$u:term,$ls,*])=>`(tactic|simp[-List.map_map,-List.map_cons,-List.map_nil,Ev.ZW $u,Ev.evZ,Ev.pJ,Ev.qP,Ev.iI,Ev.eL,Ev.xArgs,Ev.xW,Ev.Xo,Ev.bV,Ev.aD,Ev.bw,Ev.stepT,Ev.argsR,Ev.kF,Ev.iS,Ev.toD,Ev.norm,Ev.pk,Ev.sI,Ev.cP,Ev.cW,Ev.Dw,Ev.CK,Ev.Vn,Ev.tQ,Ev.CN,Ev.zV,Ev.Hz,$ls,*])
set_option hygiene false in
local macro_rules | `(~~~$x)=>`(Ev.D.tup (List.map Ev.D.int $x))
set_option hygiene false in
local macro_rules|`(∅)=>`((λx=>~~~x))
set_option hygiene false in
local macro_rules|`(~~~5)=>`(List (List Int))
local macro_rules|`(~~~0)=>`(List Int)
local macro_rules|`(~~~3)=>`(("__debug__":Str))
local macro_rules|`(~~~4)=>`([(.ret (.val (.bl false)))])
namespace Ev
noncomputable def bE:Fx:=⟨2,4,[(.ite (.ix ⇑0 ↥1) [(.set 2 (.bin .Mod (.ix ⇑0 ↥0) ⇑1)),(.item 0 ↥0 (.bin .FloorDiv (.ix ⇑0 ↥0) ⇑1)),(.ret ⇑2)] []),(.item 0 ↥0 (.bin .Mod (.bin .Add (.bin .Mult (.ix ⇑0 ↥0) ↥48271) ↥29) ↥2147483647)),(.set 3 (.bin .Mod (.bin .Add (.bin .Add (.bin .Mult (.ix ⇑0 ↥0) (.ix ⇑0 ↥0)) (.bin .Mult ↥39373 (.ix ⇑0 ↥0))) ↥7) ↥2147483629)),(.set 3 (.bin .Mod (.bin .Add (.bin .Mult ⇑3 ⇑3) (.bin .Mult ↥16807 ⇑3)) ↥2147483587)),(.ret (.bin .Mod (.bin .FloorDiv ⇑3 ↥8) ⇑1))]⟩
noncomputable def kK:Fx:=⟨2,2,[(.ite (.cmp .Lt ⇑1 (.blt .len [⇑0])) [(.ret (.ix ⇑0 ⇑1))] []),(.ret ↥0)]⟩
noncomputable def j4(ci:Nat):Fx:=⟨2,3,[(.set 2 (.call ci [⇑0,⇑1])),(.ite (.cmp .GtE ⇑2 (.bin .Pow ↥10 ↥18)) [(.ret (.lst [(.bin .Sub ⇑2 (.bin .Pow ↥10 ↥18)),(.val (.bl true))]))] []),(.ret (.lst [(.bin .Mod ⇑2 ↥2147483647),(.val (.bl false))]))]⟩
noncomputable def gt(t: ~~~0)(i:Int):Int:=t.getD i.toNat 0
theorem iO{t: ~~~0}{i:Int}(h:0<=i/\i<t.length):L2.fM (t.map D.int) i=some (.int (gt t i)):=by
 obtain⟨n,rfl⟩:∃n:Nat,i=n:=⟨i.toNat,by lia⟩
 rw[uh t n ⋯];simp[gt,(by lia:n<t.length)]
noncomputable def nums(m:Nat): ~~~0:=(List.range m).map λ(k:Nat)=>(k:Int)
theorem au{rn:Rn}{bor:List Nat}{k:Nat}{st:Sm}{rest:List Sm}{g g1:G}(h:aD rn bor k st g=some (.nx,g1)):bV rn bor k (st::rest) g=bV rn bor k rest g1:=by
 conv=>lhs;unfold bV
 rw[h]
noncomputable abbrev St(s:Int)(fl:Bool):Slot:=.own [.int s,.bl fl]
theorem ju(a b:Int)(h:0<b):mU .Mod (.int a) (.int b)=some (.dat (.int (a % b))):=by simp[mU,jl,h]
theorem xA(a b:Int)(h:0<b/\b<1073741824):mU .FloorDiv (.int a) (.int b)=some (.dat (.int (a / b))):=by simp[mU,jl,h]
theorem fJ(a b:Int)(h:(-(2 ^ 64)<a/\a<2 ^ 64)\/(-(2 ^ 64)<b/\b<2 ^ 64)):mU .Mult (.int a) (.int b)=some (.dat (.int (a * b))):=by
 have:IV a b=true:=by unfold IV;simp only[An,eP,eQ];exact h
 simp[mU,IW,this]
section
variable{ti mi:Nat}(U:lg fns rn)(hT:fns[ti]?=some bE)
include U
theorem Rb(s:Int)(fl:Bool)(m:Int)(hm:0<m/\m<1000):∃r s' s2 s3,0<=r/\r<m/\(rn (n+20)).b [0] k bE.body [St s fl,‹m›,.no,.no]=some (.rt ‹r›,[St s' fl,‹m›,s2,s3]):=by
 have i0:L2.fM [D.int s,D.bl fl] 0=some (.int s):=rfl;have i1:L2.fM [D.int s,D.bl fl] 1=some (.bl fl):=rfl;have x0':L2.rT 2 0=some 0:=rfl;cases fl with
 |true=>refine⟨s % m,s / m,.dat (.int (s % m)),.no,B8 _ ⋯,AW _ hm.1,?_⟩;unfold bE;simp! [U,i0,i1,x0',ju _ _ hm.1,xA _ _ (show 0<m/\m<1073741824 by lia)]
 |false=>
  generalize hs1:(s * 48271+29) % 2147483647=s1;have h1:0<=s1/\s1<2147483647:=by rw[<- hs1];exact⟨B8 _ ⋯,AW _ ⋯⟩
  have j0:L2.fM [D.int s1,D.bl false] 0=some (.int s1):=rfl;generalize hs2:(s1 * s1+39373 * s1+7) % 2147483629=s2;have h2:0<=s2/\s2<2147483629:=by rw[<- hs2];exact⟨B8 _ ⋯,AW _ ⋯⟩
  generalize hs3:(s2 * s2+16807 * s2) % 2147483587=s3;refine⟨s3 / 8 % m,s1,.no,‹s3›,B8 _ ⋯,AW _ hm.1,?_⟩;unfold bE;simp! [U,i0,i1,x0',ju,fJ s 48271 (.inr ⋯),hs1,j0,fJ s1 s1 (.inl ⋯),fJ 39373 s1 (.inl ⋯),hs2,fJ s2 s2 (.inl ⋯),fJ 16807 s2 (.inl ⋯),hs3,xA _ _ (show (0:Int)<8/\(8:Int)<1073741824 by decide),hm.1]
theorem cC{i:Nat}{s:Int}{fl:Bool}{m:Int}(hi:g[i]?=some (St s fl))(hm:0<m/\m<1000):∃r s',0<=r/\r<m/\bu (rn (n+20)) bE k [.var i,‹m›] g=some (‹r›,g.set i (St s' fl)):=by
 obtain⟨r,s',s2,s3,h1,h2,h⟩:=Rb U (n:=n) (k:=k) s fl m hm;refine⟨r,s',h1,h2,?_⟩;have hp:cP bE.n [St s fl,‹m›]=[St s fl,‹m›,.no,.no]:=rfl;unfold bu;simp only[vars,cS,hi,List.map_cons,List.map_nil];rw[i5 ⟨rfl,by simp⟩,hp,h]
 rfl
omit U in
theorem j5{l i:Nat}(h:i<l):L2.rT l (i:Int)=some i:=by unfold L2.rT;rw[i5 ⋯,i5 ⋯];simp
end
section
variable{ci:Nat}(U:lg fns rn)(hC:fns[ci]?=some kK)
include U hC
omit U hC in
theorem ql:mU .Pow (.int 10) (.int 18)=some (.dat (.int (10 ^ 18))):=by rfl
theorem DR(ns: ~~~0)(hl:ns.length<=1000)(j:Nat):∃(s:Int) (fl:Bool),bF (rn (n+40)) (k+1) (j4 ci) [.fix (ns.map .int),.int j]=some (.new [.int s,.bl fl]):=by
 obtain⟨v,q⟩:∃v:Int,∀n,bF (rn (n+20)) k kK [.fix (ns.map .int),.int j]=some ‹v›:=by
  by_cases h:j<ns.length
  .
   refine⟨ns[j],λn=>?_⟩
   have h':(j:Int)<ns.length:=by lia
   have:=uh ns j h;unfold bF kK;simp! [U,nB,h',this]
  .
   refine⟨0,λn=>?_⟩
   have h' : ¬ (j:Int)<ns.length:=by lia
   unfold bF kK;simp! [U,nB,h']
 by_cases hv:(1000000000000000000:Int)<=v
 . refine⟨v - 1000000000000000000,true,?_⟩;unfold bF j4;simp! [U,hC,bU (fx:=kK) rfl,q,ql,hv,aq 2 ⋯]
 . refine⟨v % 2147483647,false,?_⟩;unfold bF j4;simp! [U,hC,bU (fx:=kK) rfl,q,ql,hv,aq 2 ⋯,ju]
end
noncomputable def aR:Fx:=⟨1,1,[(.ret (.and [(.oq ⇑0 "int"),(.not (.oq ⇑0 "bool"))]))]⟩
noncomputable def bN(w:Nat):Fx:=⟨3,3,[(.ret (.and [(.call w [⇑0]),(.chain ⇑1 [.LtE,.LtE] [⇑0,⇑2])]))]⟩
def isInt:D->Bool
 |.int _=>true
 |_=>false
noncomputable def nF(lo hi:Int):D->Bool
 |.int i=>decide (lo<=i/\i<=hi)
 |_=>false
theorem pS:∀{l:List D},l.all isInt=true->∃t:List Int,l=t.map .int
 | [],_=>⟨[],rfl⟩
 |d::l,h=>by
  rw[List.all_cons,eP]at h;obtain⟨t,rfl⟩:=pS h.2;cases d with
  |int i=>exact⟨i::t,rfl⟩
  |_=>cases h.1
section
variable{w wi mw it ci cj:Nat}(U:lg fns rn)
include U
theorem cz(d:D):bF (rn (n+6)) k aR [d]=some (.dat (.bl (isInt d))):=by unfold bF aR;cases d <;> simp! [U,dN,kX,isInt]
variable(hW:fns[w]?=some aR)
include hW
theorem pU(d:D)(lo hi:Int):bF (rn (n+14)) (k+1) (bN w) [d,.int lo,.int hi]=some (.dat (.bl (nF lo hi d))):=by
 unfold bF bN;cases d with
 |int i=>
  by_cases h1:lo<=i
  .
   by_cases h2:i<=hi
   . simp! [U,hW,aG (fx:=aR) rfl,cz U,isInt,nF,h1,h2]
   . simp! [U,hW,aG (fx:=aR) rfl,cz U,isInt,nF,h1,h2]
  . simp! [U,hW,aG (fx:=aR) rfl,cz U,isInt,nF,h1]
 |_=>simp! [U,hW,aG (fx:=aR) rfl,cz U,isInt,nF]
end
noncomputable def W(m:Nat)(Rc: ~~~5):D:=.tup [.int m,.tup (Rc.map ∅)]
def tm(t: ~~~0)(x: ~~~0): ~~~0:=if gt t (gt x 0)<gt t (gt x 1)then [gt t (gt x 0),gt t (gt x 1)]else [gt t (gt x 1),gt t (gt x 0)]
noncomputable def dj(i:Nat):Fx:=⟨2,2,[(.ite (.CJ ⇑1 ["tuple", "list"]) [(.ite (.or [(.cmp .NotEq (.oq ⇑0 "tuple") (.oq ⇑1 "tuple")),(.cmp .NotEq (.oq ⇑0 "list") (.oq ⇑1 "list"))]) (~~~4) []),(.ite (.cmp .NotEq (.blt .len [⇑0]) (.blt .len [⇑1])) (~~~4) []),(.ret (.blt .all [(.comp 2 3 (.tp [3,4]) (.zip ⇑0 ⇑1) none (.call i [⇑3,⇑4]))]))] []),(.ret (.and [(.cmp .Eq ⇑0 ⇑1),(.cmp .Eq (.oq ⇑0 "bool") (.oq ⇑1 "bool"))]))]⟩
theorem rA{l:List D}{r:Int}(h:0<=r/\r<l.length):∃x∈l,L2.fM l r=some x:=by
 obtain⟨j,rfl⟩:∃j:Nat,r=j:=⟨r.toNat,by lia⟩
 have hj:j<l.length:=by lia
 exact⟨l[j],BN hj,rq l j hj⟩
theorem jv(l m:List D)(h:l.length+m.length<=1000):mU .Add (.tup l) (.tup m)=some (.dat (.tup (l++m))):=by
 show (if l.length+m.length<=lim then _ else _)=_
 rw[i5 (aq _ h)]
theorem jw(l m:List D)(h:l.length+m.length<=1000):mU .Add (.lst l) (.lst m)=some (.new (l++m)):=by
 show (if l.length+m.length<=lim then _ else _)=_
 rw[i5 (aq _ h)]
noncomputable def Sd:Nat->D->Prop
 |_,.int _=>True
 |_,.bl _=>True
 |_,.str _=>True
 |_,.non=>True
 |c+1,.tup l=>l.length<=1000/\∀x∈l,Sd c x
 |c+1,.lst l=>l.length<=1000/\∀x∈l,Sd c x
 |_,_=>False
theorem uo:∀l:List D,qN l l=l.map λa=>D.tup [a,a]
 | []=>rfl
 |a::l=>by
  show D.tup [a,a]::qN l l=_;rw[uo l];rfl
theorem all_true{α:Type}(l:List α):(l.map λ_=>true).all id=true:=by simp
section
variable(U:lg fns rn)
include U
theorem uq{c:Nat}(hS:fns[i]?=some (dj i))(ih:∀n k d,Sd c d->bF (rn (n+20 * c+20)) (k+c) (dj i) [d,d]=some (.dat (.bl true))){d:D}{l:List D}(hw:∀n k,fS (rn (n+2)) [] k true (.zip ⇑0 ⇑1) [.dat d,.dat d]=some (qN l l,[.dat d,.dat d]))(hl:l.length<=1000)(h:∀x∈l,Sd c x):∀n k,bS (rn (n+20 * c+23)) [] (k+c+1) 2 3 (.tp [3,4]) (.zip ⇑0 ⇑1) none (.call i [⇑3,⇑4]) [.dat d,.dat d]=some ((l.map λ_=>true).map .bl,[.dat d,.dat d]):=λn k=>by
 rw[List.map_map];exact QT (rn:=rn (n+20 * c+23)) (bor:=[]) (k:=k+c+1) (g:=[.dat d,.dat d]) (g1:=[.dat d,.dat d]) (kk:=3) (nn:=2) (j1:=3) (j2:=4) l id id _ (by rw[hw (n+20 * c+21)];rw[uo];rfl) rfl ⋯ ⋯ ⋯ ⋯ ⋯ ⋯ ⋯ (aq _ hl) λa ha G' hG=>by
  have h1:=hG.2.1;have h2:=hG.2.2;simp only[id]at h1 h2;have q:=ih (n+2) k a (h a ha);rw[show n+2+20 * c+20=n+20 * c+22 by lia]at q
  simp! [U,h1,h2,hS,bU (fx:=dj i) rfl,q]
theorem fc(d:D)(h:Sd 0 d):bF (rn (n+20)) k (dj i) [d,d]=some (.dat (.bl true)):=by
 cases d with
 |int j=>unfold bF dj;simp! [U,kX,dN,eV,iH,eG,lz,dep]
 |bl j=>unfold bF dj;simp! [U,kX,dN,eV,iH,eG,lz,dep]
 |str j=>unfold bF dj;simp! [U,kX,dN,eV,iH,eG,lz,dep]
 |non=>unfold bF dj;simp! [U,kX,dN,eV,iH,eG,lz,dep]
 |_=>exact h.elim
theorem lH(hS:fns[i]?=some (dj i)):∀(c n k:Nat) (d:D),Sd c d->bF (rn (n+20 * c+20)) (k+c) (dj i) [d,d]=some (.dat (.bl true))
 | 0,n,k,d,h=>fc U d h
 |c+1,n,k,d,h=>by
  have ih:=lH hS c;rw[show n+20 * (c+1)+20=n+20 * c+40 by lia,show k+(c+1)=k+c+1 by lia]
  cases d with
  |int j=>exact fc U _ trivial
  |bl j=>exact fc U _ trivial
  |str j=>exact fc U _ trivial
  |non=>exact fc U _ trivial
  |tup l=>
   have w:=uq U hS ih (d:=.tup l) (l:=l) (λn k=>by simp! [U,fS,dD,isTup]) h.1 h.2
   have w':=w (n+13) k;rw[show n+13+20 * c+23=n+20 * c+36 by lia]at w'
   unfold bF dj;simp! [U,kX,dN,eV,iH,eG,lz,dep,w',all_true]
  |lst l=>
   have w:=uq U hS ih (d:=.lst l) (l:=l) (λn k=>by simp! [U,fS,dD,isTup]) h.1 h.2
   have w':=w (n+13) k;rw[show n+13+20 * c+23=n+20 * c+36 by lia]at w'
   unfold bF dj;simp! [U,kX,dN,eV,iH,eG,lz,dep,w',all_true]
  |_=>exact h.elim
end
theorem nG{α:Type}(l:List α)(i j:Option Int):(dJ l i j).length<=l.length:=by unfold dJ;rw[u7,List.length_drop];lia
theorem ur:mU .Pow (.int 10) (.int 29)=some (.dat (.int (10 ^ 29))):=by rfl
noncomputable def kup:Nat->Nat->Nat->List (~~~0)
 | 0,_,_=>[]
 |f+1,left,most=>if left=0 then [[]]else (List.range (min left most)).flatMap λ(i:Nat)=>(kup f (left - (i+1)) (i+1)).map ((((i+1:Nat):Int)) :: ·)
def kinds(m:Nat): ~~~5:=kup (m+1) m m
noncomputable def adj: ~~~0->Bool
 |a::b::l=>decide (a ≥ b)&&adj (b::l)
 |_=>true
noncomputable def iu:Fx:=⟨1,1,[(.ret (.blt .all [(.comp 1 2 (.nm 2) (.dM ↥1 (.blt .len [⇑0])) none (.cmp .GtE (.ix ⇑0 (.bin .Sub ⇑2 ↥1)) (.ix ⇑0 ⇑2)))]))]⟩
def Rf(t: ~~~0):Bool:=(List.range (t.length - 1)).all λi=>decide (gt t i ≥ gt t (i+1))
theorem rB(a:Int)(l: ~~~0)(i:Nat):gt (a::l) ((i:Int)+1)=gt l i:=by
 unfold gt;rw[show ((i:Int)+1).toNat=i+1 by lia,show (i:Int).toNat=i by lia]
 simp
theorem xB:∀t:List Int,Rf t=adj t
 | []=>rfl
 | [a]=>rfl
 |a::b::l=>by
  have ih:=xB (b::l);unfold Rf at ih ⊢
  simp only[i3,Nat.add_sub_cancel]at ih ⊢
  rw[List.range_succ_eq_map,List.all_cons,Cn,adj,<- ih];have:∀i:Nat,decide (gt (a::b::l) ((i+1:Nat):Int) ≥ gt (a::b::l) (((i+1:Nat):Int)+1))=decide (gt (b::l) (i:Int) ≥ gt (b::l) ((i:Int)+1)):=λi=>by
   rw[show ((i+1:Nat):Int)=(i:Int)+1 by lia,rB,show (i:Int)+1+1=((i+1:Nat):Int)+1 by lia,rB,show ((i+1:Nat):Int)=(i:Int)+1 by lia]
  have h2:(λi:Nat=>decide (gt (a::b::l) (i:Int) ≥ gt (a::b::l) ((i:Int)+1))) ∘ Nat.succ=λi:Nat=>decide (gt (b::l) (i:Int) ≥ gt (b::l) ((i:Int)+1)):=funext this
  rw[h2];rfl
section
variable{k n:Nat}{g g1:G}{rn:Nat->Rn}{fns:List Fx}{w wi mw fa ik ci cj:Nat}(U:lg fns rn)
include U
theorem J2(t: ~~~0)(h:t.length<=1000):bF (rn (n+20)) k iu [~~~t]=some (.dat (.bl (adj t))):=by
 have w1:∀n k,bS (rn (n+10)) [] k 1 2 (.nm 2) (.dM ↥1 (.blt .len [⇑0])) none (.cmp .GtE (.ix ⇑0 (.bin .Sub ⇑2 ↥1)) (.ix ⇑0 ⇑2)) [.dat (~~~t)]=some (((List.range (t.length - 1)).map λ(i:Nat)=>decide (gt t i ≥ gt t (i+1))).map .bl,[.dat (~~~t)]):=λn k=>by
  rw[List.map_map];refine nu (rn:=rn (n+10)) (bor:=[]) (k:=k) (g:=[.dat (~~~t)]) (g1:=[.dat (~~~t)]) (kk:=2) (nn:=1) (j:=2) (List.range (t.length - 1)) (λ(i:Nat)=>D.int (1+(i:Int))) (λ(i:Nat)=>.bl (decide (gt t i ≥ gt t (i+1)))) ?_ rfl ⋯ ⋯ ⋯ (aq _ (by rw[List.length_range];lia)) λi hi G' hG=>?_
  .
   have hr:((t.length:Int) - 1).toNat=t.length - 1:=by lia
   have o1:=aQ 1 ⋯;have o2:=aQ (t.length:Int) ⋯;simp! [U,fS,o1,o2,fG,hr]
  .
   have h0:=hG.1 0 ⋯;have h2:=hG.2;rw[v6]at hi;have a1:L2.fM (t.map D.int) (1+(i:Int) - 1)=some (.int (gt t i)):=by rw[show 1+(i:Int) - 1=(i:Int)by lia];exact iO ⋯
   have a2:L2.fM (t.map D.int) (1+(i:Int))=some (.int (gt t (i+1))):=by rw[show 1+(i:Int)=(i:Int)+1 by lia];exact iO ⋯
   simp only[List.getElem?_cons_zero]at h0;simp! [U,h0,h2,a1,a2]
 have e:((List.range (t.length - 1)).map λ(i:Nat)=>decide (gt t i ≥ gt t (i+1))).all id=adj t:=by rw[<- xB];unfold Rf;rw[Cn];rfl
 unfold bF iu;simp! [U,w1,e]
variable(hW:fns[w]?=some aR)(hF:fns[fa]?=some iu)(hI:fns[wi]?=some (bN w))
include hW hF hI
end
def aK(wi fa:Nat):Fx:=⟨1,1,[(.ite (.or [(.not (.oq ⇑0 "tuple")),(.not (.chain ↥1 [.LtE,.LtE] [(.blt .len [⇑0]),↥12]))]) (~~~4) []),(.ret (.and [(.blt .all [(.comp 1 2 (.nm 2) ⇑0 none (.call wi [⇑2,↥0,(.bin .Sub (.blt .len [⇑0]) ↥1)]))]),(.call fa [⇑0])]))]⟩
def aX(w:Nat):Fx:=⟨1,1,[(.ite (.or [(.not (.oq ⇑0 "tuple")),(.not (.chain ↥1 [.LtE,.LtE] [(.blt .len [⇑0]),↥12]))]) (~~~4) []),(.ite (.not (.blt .all [(.comp 1 2 (.nm 2) ⇑0 none (.and [(.call w [⇑2]),(.chain ↥0 [.LtE,.Lt] [⇑2,(.blt .len [⇑0])])]))])) (~~~4) []),(.ret (.cmp .Eq (.blt .list [⇑0]) (.gw ⇑0)))]⟩
def Gf:D->Prop
 |.tup l=>l.length<=40
 |_=>True
def DS(l:List D):Bool:=l.all (nF 0 ((l.length:Int) - 1))
def jx:D->Bool
 |.tup l=>decide (1<=l.length/\l.length<=12)&&(DS l&&match cO l with |some t=>adj t |none=>false)
 |_=>false
theorem rC{l:List D}(h:1<=l.length/\l.length<=12):jx (.tup l)=(DS l&&match cO l with |some t=>adj t |none=>false):=by
 show (decide (1<=l.length/\l.length<=12)&&(DS l&&match cO l with |some t=>adj t |none=>false))=_
 rw[nK h,Bool.true_and]
theorem jy{l:List D}(h : ¬ (1<=l.length/\l.length<=12)):jx (.tup l)=false:=by
 show (decide (1<=l.length/\l.length<=12)&&(DS l&&match cO l with |some t=>adj t |none=>false))=_
 rw[mB h,Bool.false_and]
theorem uv{l:List D}(h:DS l=true):∃t:List Int,l=t.map .int:=pS (oD.mpr λx hx=>by
 have:=oD.mp h x hx;cases x <;> first |rfl |cases this)
theorem rD:∀t:List Int,adj t=true ↔ t.Pairwise (· ≥ ·)
 | []=>by simp[adj]
 | [a]=>by simp[adj]
 |a::b::l=>by
  have ih:=rD (b::l);rw[adj,eP,ih,eQ];constructor
  .
   rintro⟨h1,h2⟩;refine lL.mpr ⟨λx hx=>?_,h2⟩
   rcases dL.mp hx with rfl |hx
   . exact h1
   . have:=(lL.mp h2).1 x hx;lia
  . intro h;exact⟨(lL.mp h).1 b dA,(lL.mp h).2⟩
theorem xD(t: ~~~0):decide (t=(cg t).reverse)=adj t:=by
 rw[B6,eQ,rD];constructor
 . intro h;rw[h,x5];exact cQ t
 . intro h;have:=mK (List.reverse_perm t) (x5.mpr h);rw[<- this,List.reverse_reverse]
section
variable{k n:Nat}{g g1:G}{rn:Nat->Rn}{fns:List Fx}{w wi fa:Nat}(U:lg fns rn)(hW:fns[w]?=some aR)
include U hW
theorem kL(hI:fns[wi]?=some (bN w))(hF:fns[fa]?=some iu)(d:D)(hd:Gf d):bF (rn (n+40)) (k+2) (aK wi fa) [d]=some (.dat (.bl (jx d))):=by
 cases d with
 |tup l=>
  have hd:l.length<=40:=hd;by_cases c1:1<=l.length
  .
   by_cases c2:l.length<=12
   .
    have vP:(1:Int)<=l.length:=by lia
    have DT:(l.length:Int)<=12:=by lia
    have o:∀n k,bS (rn (n+20)) [] (k+2) 1 2 (.nm 2) ⇑0 none (.call wi [⇑2,↥0,(.bin .Sub (.blt .len [⇑0]) ↥1)]) [.dat (.tup l)]=some ((l.map (nF 0 ((l.length:Int) - 1))).map .bl,[.dat (.tup l)]):=λn k=>by
     rw[List.map_map];have:=nu (rn:=rn (n+20)) (bor:=[]) (k:=k+2) (g:=[.dat (.tup l)]) (g1:=[.dat (.tup l)]) (kk:=2) (nn:=1) (j:=2) (it:=.slot 0) (e:=.call wi [⇑2,↥0,(.bin .Sub (.blt .len [⇑0]) ↥1)]) l id (λx=>.bl (nF 0 ((l.length:Int) - 1) x)) (by simp! [U,fS]) rfl ⋯ ⋯ ⋯ (aq _ ⋯) λa _ G' hG=>by
      have h0:G'[0]?=some (.dat (.tup l)):=hG.1 0 ⋯;have h2:=hG.2;simp only[id]at h2;simp! [U,h0,h2,hI,rz (fx:=bN w) rfl,pU U hW]
     exact this
    have ea:(l.map (nF 0 ((l.length:Int) - 1))).all id=DS l:=by simp[Cn,DS]
    rw[rC ⟨c1,c2⟩];cases e:DS l with
    |false=>rw[e]at ea;unfold bF aK;simp! [U,vP,DT,o,ea]
    |true=>
     rw[e]at ea;obtain⟨t,rfl⟩:=uv e;have tl:t.length<=12:=by simpa using c2
     have fa':=λn k=>J2 U (n:=n) (k:=k) t ⋯
     rw[ints_map];unfold bF aK;simp only[fR]at vP DT o ea;simp! [U,vP,DT,o,ea,hF,aG (fx:=iu) rfl,fa']
   .
    have vP:(1:Int)<=l.length:=by lia
    have DT : ¬ (l.length:Int)<=12:=by lia
    rw[jy ⋯];unfold bF aK;simp! [U,vP,DT]
  .
   have vP : ¬ (1:Int)<=l.length:=by lia
   rw[jy ⋯];unfold bF aK;simp! [U,vP]
 |_=>unfold bF aK;simp! [U,dN,kX,jx]
theorem nI(d:D)(hd:Gf d):bF (rn (n+40)) (k+2) (aX w) [d]=some (.dat (.bl (jx d))):=by
 cases d with
 |tup l=>
  have hd:l.length<=40:=hd;by_cases c1:1<=l.length
  .
   by_cases c2:l.length<=12
   .
    have vP:(1:Int)<=l.length:=by lia
    have DT:(l.length:Int)<=12:=by lia
    have o:∀n k,bS (rn (n+20)) [] (k+2) 1 2 (.nm 2) ⇑0 none (.and [(.call w [⇑2]),(.chain ↥0 [.LtE,.Lt] [⇑2,(.blt .len [⇑0])])]) [.dat (.tup l)]=some ((l.map (nF 0 ((l.length:Int) - 1))).map .bl,[.dat (.tup l)]):=λn k=>by
     rw[List.map_map];have:=nu (rn:=rn (n+20)) (bor:=[]) (k:=k+2) (g:=[.dat (.tup l)]) (g1:=[.dat (.tup l)]) (kk:=2) (nn:=1) (j:=2) (it:=.slot 0) (e:=.and [(.call w [⇑2]),(.chain ↥0 [.LtE,.Lt] [⇑2,(.blt .len [⇑0])])]) l id (λx=>.bl (nF 0 ((l.length:Int) - 1) x)) (by simp! [U,fS]) rfl ⋯ ⋯ ⋯ (aq _ ⋯) λa _ G' hG=>by
      have h0:G'[0]?=some (.dat (.tup l)):=hG.1 0 ⋯;have h2:=hG.2;simp only[id]at h2;cases a with
      |int i=>
       by_cases h3:0<=i
       .
        by_cases h4:i<l.length
        . have:nF 0 ((l.length:Int) - 1) (.int i)=true:=nK ⋯;simp! [U,h0,h2,hW,aG (fx:=aR) rfl,cz U,isInt,this,h3,h4]
        . have:nF 0 ((l.length:Int) - 1) (.int i)=false:=mB ⋯;simp! [U,h0,h2,hW,aG (fx:=aR) rfl,cz U,isInt,this,h3,h4]
       . have:nF 0 ((l.length:Int) - 1) (.int i)=false:=mB ⋯;simp! [U,h0,h2,hW,aG (fx:=aR) rfl,cz U,isInt,this,h3]
      |_=>simp! [U,h0,h2,hW,aG (fx:=aR) rfl,cz U,isInt,nF]
     exact this
    have ea:(l.map (nF 0 ((l.length:Int) - 1))).all id=DS l:=by simp[Cn,DS]
    rw[rC ⟨c1,c2⟩];cases e:DS l with
    |false=>rw[e]at ea;unfold bF aX;simp! [U,vP,DT,o,ea]
    |true=>
     rw[e]at ea;obtain⟨t,rfl⟩:=uv e;have tl:t.length<64:=by have:t.length<=12:=(by simpa using c2);lia
     rw[ints_map];dsimp only;rw[Bool.true_and,<- xD];have ce:eV .Eq (.lst (t.map .int)) (.lst (List.map D.int (cg t)).reverse)=some (decide (t=(cg t).reverse)):=by rw[<- List.map_reverse,DN]
     unfold bF aX;simp only[fR]at vP DT o ea;simp! [U,vP,DT,o,ea,dD,ints_map,tl,ce]
   .
    have vP:(1:Int)<=l.length:=by lia
    have DT : ¬ (l.length:Int)<=12:=by lia
    rw[jy ⋯];unfold bF aX;simp! [U,vP,DT]
  .
   have vP : ¬ (1:Int)<=l.length:=by lia
   rw[jy ⋯];unfold bF aX;simp! [U,vP]
 |_=>unfold bF aX;simp! [U,dN,kX,jx]
end
def oth(i:Int)(x: ~~~0):Option Int:=if gt x 0=i then some (gt x 1)else if gt x 1=i then some (gt x 0)else none
def nb(i:Int)(Rc: ~~~5): ~~~0:=Rc.filterMap (oth i)
noncomputable def has(i:Int)(x: ~~~0):Bool:=decide (gt x 0=i)||decide (gt x 1=i)
def ext(m:Nat)(l: ~~~5): ~~~5:=l.flatMap λr=>((nums m).filter λx=>!decide (x∈r)).map λx=>r++[x]
def cB(ti:Nat):List Sm:=[(.ite (.cmp .Lt (.call ti [⇑0,↥4]) ⇑5) [(.item 4 ⇑6 (.bin .Add (.ix ⇑4 ⇑6) ↥1)),(.item 4 ⇑7 (.bin .Add (.ix ⇑4 ⇑7) ↥1))] [])]
def cL(ti:Nat):List Sm:=[(.loop (.nm 7) (.dM (.bin .Add ⇑6 ↥1) ⇑2) (cB ti))]
def cA(ti:Nat):Sm:=.set 2 (.bin .Sub ⇑1 (.ix (.lst [↥0,↥0,↥1,↥2,↥0,↥3,↥1,(.bin .Sub ⇑1 ↥1)]) (.call ti [⇑0,↥8])))
def cE(ti:Nat):List Sm:=[(.set 4 (.bin .Mult (.lst [↥0]) ⇑2)),(.set 5 (.bin .Add ↥1 (.call ti [⇑0,↥3]))),(.loop (.nm 6) (.eK ⇑2) (cL ti))]
def cT(ti:Nat):List Sm:=[(.setC 4 (.comp 10 2 (.nm 11) (.eK ⇑2) none (.call ti [⇑0,⇑2])))]
def cI(ti:Nat):Sm:=.ite (.cmp .Eq ⇑3 ↥3) (cT ti) (cE ti)
noncomputable def cJ(ti:Nat):Sm:=.ite (.cmp .Eq ⇑3 ↥1) [(.item 4 (.call ti [⇑0,⇑2]) (.call ti [⇑0,⇑2]))] []
def cK(ti:Nat):Sm:=.ite (.cmp .Eq ⇑3 ↥2) [(.par 8 9 (.call ti [⇑0,⇑2]) (.call ti [⇑0,⇑2])),(.item 4 ⇑8 (.blt .min [(.bin .Sub ⇑2 ↥1),(.bin .Add (.ix ⇑4 ⇑8) ↥1)])),(.item 4 ⇑9 (.blt .max [↥0,(.bin .Sub (.ix ⇑4 ⇑9) ↥1)]))] []
def bJ(ti:Nat):Fx:=⟨2,10,[(cA ti),(.set 2 (.blt .max [↥1,⇑2])),(.set 3 (.call ti [⇑0,↥4])),(cI ti),(cJ ti),(cK ti),(.ret (.blt .tuple [(.gw ⇑4)]))]⟩
theorem DW(N:Nat)(hN:N<=12):mU .Mult (.lst [.int 0]) (.int N)=some (.new ((List.replicate N (0:Int)).map .int)):=by
 match N,hN with
 | 0,_ | 1,_ | 2,_ | 3,_ | 4,_ | 5,_ | 6,_ | 7,_ | 8,_ | 9,_ | 10,_ | 11,_ | 12,_=>rfl
def r9(N:Nat)(t: ~~~0):Prop:=t.length=N/\∀x∈t,0<=x/\x<=(N:Int) - 1
noncomputable def bnd(N i j x:Nat):Int:=if x<i then (N:Int) - 1 else if x=i then (j:Int) - 1 else if x<j then (i:Int)+1 else i
def Bd(N i j:Nat)(t: ~~~0):Prop:=t.length=N/\∀x,x<N->0<=gt t x/\gt t x<=bnd N i j x
theorem rE(t: ~~~0)(i:Nat)(v:Int)(x:Nat)(hx:x<t.length):gt (t.set i v) x=if x=i then v else gt t x:=by
 unfold gt;rw[mM,nV,nV,List.getElem?_set];by_cases e:i=x
 . subst e;rw[i5 rfl,i5 rfl,i5 hx];rfl
 . rw[gN e,gN (λh=>e h.symm)]
theorem r9.of{N:Nat}{t: ~~~0}(h:t.length=N)(hb:∀x,x<N->0<=gt t x/\gt t x<=(N:Int) - 1):r9 N t:=⟨h,λy hy=>by
 obtain⟨x,hx,e⟩:=List.getElem_of_mem hy;have:=hb x ⋯;unfold gt at this;rw[mM,nV,nE hx,Option.getD_some,e]at this;exact this⟩
theorem r9.gt{N:Nat}{t: ~~~0}(h:r9 N t)(x:Nat)(hx:x<N):0<=gt t x/\gt t x<=(N:Int) - 1:=by
 have hl:x<t.length:=by rw[h.1];exact hx
 have:=h.2 t[x] (BN hl);unfold Ev.gt;rw[mM,nV,nE hl,Option.getD_some];exact this
theorem r9.set{N:Nat}{t: ~~~0}(h:r9 N t)(i:Nat)(v:Int)(hv:0<=v/\v<=(N:Int) - 1):r9 N (t.set i v):=.of (by rw[kS];exact h.1) λx hx=>by
 rw[rE _ _ _ _ (by rw[h.1];exact hx)]
 split
 . exact hv
 . exact h.gt x hx
theorem Bd.mono{N i j:Nat}{t: ~~~0}(h:Bd N i j t)(hij:i<j):Bd N i (j+1) t:=⟨h.1,λx hx=>⟨(h.2 x hx).1,BM (h.2 x hx).2 (by unfold bnd;split <;> (try split) <;> (try split) <;> (try split) <;> lia)⟩⟩
theorem Bd.put{N i j:Nat}{t: ~~~0}(h:Bd N i j t)(hij:i<j)(hj:j<N):Bd N i (j+1) ((t.set i (gt t i+1)).set j (gt (t.set i (gt t i+1)) j+1)):=by
 refine⟨by rw[kS,kS,h.1],λx hx=>?_⟩
 have h0:=h.1;rw[rE _ _ _ _ (by rw[kS];lia),rE _ _ _ _ ⋯,rE _ _ _ _ ⋯]
 have h1:=h.2 x hx;have h2:=h.2 i ⋯;have h3:=h.2 j hj;unfold bnd at *;by_cases e1:x=j
 . subst e1;rw[i5 rfl,gN ⋯,gN ⋯,gN ⋯,i5 ⋯];rw[gN ⋯,gN ⋯,gN ⋯]at h3;lia
 .
  rw[gN e1];by_cases e2:x=i
  . subst e2;rw[i5 rfl,gN ⋯,i5 rfl];rw[gN ⋯,i5 rfl]at h1;lia
  .
   rw[gN e2];refine⟨h1.1,BM h1.2 ?_⟩;split
   . lia
   . split <;> split <;> lia
theorem Bd.next{N i:Nat}{t: ~~~0}(h:Bd N i N t):Bd N (i+1) (i+2) t:=⟨h.1,λx hx=>⟨(h.2 x hx).1,BM (h.2 x hx).2 (by
 unfold bnd;by_cases e1:x<i
 . rw[i5 e1,i5 ⋯];lia
 .
  by_cases e2:x=i
  . rw[gN e1,i5 e2,i5 ⋯];lia
  .
   rw[gN e1,gN e2,i5 hx,gN ⋯];split <;> (try split) <;> lia)⟩⟩
section
variable{k n:Nat}{g g1:G}{rn:Nat->Rn}{fns:List Fx}{ti:Nat}(U:lg fns rn)(hT:fns[ti]?=some bE)
include U hT
def fC(s:Int)(fl:Bool)(a1 a2 a3 a4 a5 a6 a7 a8 a9:Slot):G:=[St s fl,a1,a2,a3,a4,a5,a6,a7,a8,a9]
theorem V6(s:Int)(fl:Bool)(N:Nat)(hN:1<=N/\N<=12)(t: ~~~0)(i j:Nat)(ht:Bd N i j t)(hij:i<j)(hj:j<N)(r:Int)(a1 a3:Slot):∃(t': ~~~0) (s':Int),Bd N i (j+1) t'/\(rn (n+97)).b [0] (k+1) (cB ti) (fC s fl a1 ‹N› a3 (.own (t.map .int)) ‹r› ‹i› ‹j› .no .no)=some (.nx,fC s' fl a1 ‹N› a3 (.own (t'.map .int)) ‹r› ‹i› ‹j› .no .no):=by
 have h0:=ht.1;obtain⟨v,s1,v1,v2,q1⟩:=cC U (n:=n+74) (k:=k) (g:=fC s fl a1 ‹N› a3 (.own (t.map .int)) ‹r› ‹i› ‹j› .no .no) (i:=0) (s:=s) (fl:=fl) (m:=4) rfl ⋯;have nY:bu (rn (n+94)) bE k [.var 0,‹4›] [St s fl,a1,‹N›,a3,.own (t.map .int),‹r›,‹i›,‹j›,.no,.no]=some (‹v›,[St s1 fl,a1,‹N›,a3,.own (t.map .int),‹r›,‹i›,‹j›,.no,.no]):=q1;by_cases c:v<r
 .
  have l1:L2.rT t.length (i:Int)=some i:=j5 ⋯;have l2:L2.rT t.length (j:Int)=some j:=j5 ⋯;have g1:=iO (t:=t) (i:=(i:Int)) ⋯;have g2:=iO (t:=t.set i (gt t i+1)) (i:=(j:Int)) (by rw[kS];lia)
  rw[AE]at g2;refine⟨(t.set i (gt t i+1)).set j (gt (t.set i (gt t i+1)) j+1),s1,ht.put hij hj,?_⟩;rw[AE,AE];unfold cB fC;simp! [U,hT,nY,c,g1,g2,l1,l2]
 . refine⟨t,s1,ht.mono hij,?_⟩;unfold cB fC;simp! [U,hT,nY,c]
theorem Rg(s:Int)(fl:Bool)(N:Nat)(hN:1<=N/\N<=12)(t: ~~~0)(i:Nat)(ht:Bd N i (i+1) t)(hi:i<N)(r:Int)(a1 a3 a7:Slot):∃(t': ~~~0) (s':Int) (b7:Slot),Bd N i N t'/\(rn (n+98)).b [0] (k+1) (cL ti) (fC s fl a1 ‹N› a3 (.own (t.map .int)) ‹r› ‹i› a7 .no .no)=some (.nx,fC s' fl a1 ‹N› a3 (.own (t'.map .int)) ‹r› ‹i› b7 .no .no):=by
 obtain⟨g',⟨j,hj,hl,t',s',b7,h1,rfl⟩,h3⟩:=dQ (T:=.nm 7) (b:=(rn (n+97)).b [0] (k+1) (cB ti)) (λ(j:Nat)=>D.int ((i:Int)+1+(j:Int)))
  (I:=λl g=>∃j,i+1+j<=N/\l=List.range' j (N - (i+1) - j)/\∃(t': ~~~0) (s':Int) (b7:Slot),Bd N i (i+1+j) t'/\g=fC s' fl a1 ‹N› a3 (.own (t'.map .int)) ‹r› ‹i› b7 .no .no)
  (step:=λa l g h=>by
   obtain⟨j,hj,hl,t',s',b7,h1,rfl⟩:=h;have hn:N - (i+1) - j≠0:=λe=>by rw[e]at hl;cases hl
   obtain⟨p,hp⟩:∃p,N - (i+1) - j=p+1:=⟨_,(Nat.succ_pred hn).symm⟩;rw[hp,List.range'_succ]at hl;injection hl with e1 e2;subst e1 e2;obtain⟨t2,s2,h4,h5⟩:=V6 U hT (n:=n) (k:=k) s' fl N hN t' i (i+1+a) h1 ⋯ ⋯ r a1 a3;have e:((i+1+a:Nat):Int)=(i:Int)+1+(a:Int):=by lia
   rw[e]at h5;exact⟨_,_,rfl,h5,a+1,by lia,by congr 1;lia,t2,s2,_,h4,rfl⟩) (List.range (N - (i+1))) (fC s fl a1 ‹N› a3 (.own (t.map .int)) ‹r› ‹i› a7 .no .no) ⟨0,by lia,List.range_eq_range',t,s,a7,ht,rfl⟩
 have h1:Bd N i N t':=by
  have:i+1+j=N:=by have:=congrArg List.length hl;simp at this;lia
  rwa [this]at h1
 refine⟨t',s',b7,h1,?_⟩;have e:((N:Int) - ((i:Int)+1)).toNat=N - (i+1):=by lia
 generalize hb:(rn (n+97)).b [0] (k+1) (cB ti)=bb at h3;unfold fC at h3 ⊢
 unfold cL;simp! [U,Tg.ix,Tg.k9,fS,aQ ((i:Int)+1) ⋯,aQ N ⋯,e,fG,hb,h3]
theorem V7(s:Int)(fl:Bool)(N:Nat)(hN:1<=N/\N<=12)(t: ~~~0)(ht:Bd N 0 1 t)(r:Int)(a1 a3:Slot):∃(t': ~~~0) (s':Int) (b6 b7:Slot),r9 N t'/\aD (rn (n+98)) [0] (k+1) (.loop (.nm 6) (.eK ⇑2) (cL ti)) (fC s fl a1 ‹N› a3 (.own (t.map .int)) ‹r› .no .no .no .no)=some (.nx,fC s' fl a1 ‹N› a3 (.own (t'.map .int)) ‹r› b6 b7 .no .no):=by
 obtain⟨g',⟨j,hj,hl,t',s',b6,b7,h1,rfl⟩,h3⟩:=dQ (T:=.nm 6) (b:=(rn (n+98)).b [0] (k+1) (cL ti)) (λ(j:Nat)=>D.int (j:Int))
  (I:=λl g=>∃j,j<=N/\l=List.range' j (N - j)/\∃(t': ~~~0) (s':Int) (b6 b7:Slot),Bd N j (j+1) t'/\g=fC s' fl a1 ‹N› a3 (.own (t'.map .int)) ‹r› b6 b7 .no .no)
  (step:=λa l g h=>by
   obtain⟨j,hj,hl,t',s',b6,b7,h1,rfl⟩:=h;have hn:N - j≠0:=λe=>by rw[e]at hl;cases hl
   obtain⟨p,hp⟩:∃p,N - j=p+1:=⟨_,(Nat.succ_pred hn).symm⟩;rw[hp,List.range'_succ]at hl;injection hl with e1 e2;subst e1 e2;obtain⟨t2,s2,c7,h4,h5⟩:=Rg U hT (n:=n) (k:=k) s' fl N hN t' a h1 ⋯ r a1 a3 b7;exact⟨_,_,rfl,h5,a+1,by lia,by congr 1;lia,t2,s2,_,_,h4.next,rfl⟩) (List.range N) (fC s fl a1 ‹N› a3 (.own (t.map .int)) ‹r› .no .no .no .no) ⟨0,by lia,List.range_eq_range',t,s,.no,.no,ht,rfl⟩
 have h1:r9 N t':=.of h1.1 λx hx=>by
  have:j=N:=by have:=congrArg List.length hl;simp at this;lia
  have h2:=h1.2 x hx;unfold bnd at h2
  rwa [i5 ⋯]at h2
 refine⟨t',s',b6,b7,h1,?_⟩;have hr:fG 0 N=(List.range N).map λ(x:Nat)=>D.int (x:Int):=by unfold fG;exact B9 λx _=>by rw[Int.zero_add]
 generalize hb:(rn (n+98)).b [0] (k+1) (cL ti)=bb at h3;unfold fC at h3 ⊢
 simp! [U,Tg.ix,Tg.k9,fS,aQ N ⋯,hr,hb,h3]
end
section
variable{k n:Nat}{g g1:G}{rn:Nat->Rn}{fns:List Fx}{ti:Nat}(U:lg fns rn)(hT:fns[ti]?=some bE)
include U hT
theorem cE1(s:Int)(fl:Bool)(v:Int)(a1 a3:Slot)(z:List D)(om:mU .Mult (.lst [.int 0]) (.int v)=some (.new z)):aD (rn (n+98)) [0] (k+1) (.set 4 (.bin .Mult (.lst [↥0]) ⇑2)) (fC s fl a1 ‹v› a3 .no .no .no .no .no .no)=some (.nx,fC s fl a1 ‹v› a3 (.own z) .no .no .no .no .no):=by unfold fC;simp! [U,aq 1 ⋯,om]
theorem cE2(s:Int)(fl:Bool)(N:Nat)(a1 a3:Slot)(z:List D):∃(r s1:Int),aD (rn (n+98)) [0] (k+1) (.set 5 (.bin .Add ↥1 (.call ti [⇑0,↥3]))) (fC s fl a1 ‹N› a3 (.own z) .no .no .no .no .no)=some (.nx,fC s1 fl a1 ‹N› a3 (.own z) (.dat (.int (1+r))) .no .no .no .no):=by obtain⟨r,s1,r1,r2,q1⟩:=cC U (n:=n+76) (k:=k) (g:=fC s fl a1 ‹N› a3 (.own z) .no .no .no .no .no) (i:=0) (s:=s) (fl:=fl) (m:=3) rfl ⋯;have nY:bu (rn (n+96)) bE k [.var 0,‹3›] [St s fl,a1,‹N›,a3,.own z,.no,.no,.no,.no,.no]=some (‹r›,[St s1 fl,a1,‹N›,a3,.own z,.no,.no,.no,.no,.no]):=q1;refine⟨r,s1,?_⟩;unfold fC;simp! [U,hT,nY]
theorem V8(s:Int)(fl:Bool)(N:Nat)(hN:1<=N/\N<=12)(a1 a3:Slot):∃(t': ~~~0) (s':Int) (b5 b6 b7:Slot),r9 N t'/\(rn (n+99)).b [0] (k+1) (cE ti) (fC s fl a1 ‹N› a3 .no .no .no .no .no .no)=some (.nx,fC s' fl a1 ‹N› a3 (.own (t'.map .int)) b5 b6 b7 .no .no):=by
 obtain⟨z,hz,om⟩:∃z:List Int,Bd N 0 1 z/\mU .Mult (.lst [.int 0]) (.int N)=some (.new (z.map .int)):=⟨_,⟨fA,λx hx=>by
  have:gt (List.replicate N (0:Int)) x=0:=by unfold gt;simp[hx]
  rw[this];unfold bnd;split <;> (try split) <;> (try split) <;> lia⟩,DW N hN.2⟩
 have e1:=cE1 U hT (n:=n) (k:=k) s fl (N:Int) a1 a3 _ om;obtain⟨r,s1,e2⟩:=cE2 U hT (n:=n) (k:=k) s fl N a1 a3 (z.map .int);obtain⟨t',s',b6,b7,h1,e3⟩:=V7 U hT (n:=n) (k:=k) s1 fl N hN z hz (1+r) a1 a3;refine⟨t',s',.dat (.int (1+r)),b6,b7,h1,?_⟩;unfold cE;rw[U.b,au e1,au e2,au e3];simp only[bV]
end
section
variable{rn:Rn}{bor:List Nat}{k:Nat}
theorem zo{g m:G}{acc:List D}{i:Nat}{s:Slot}(h:i<g.length):(gM g m acc).set i s=gM (g.set i s) m acc:=by unfold gM;rw[BS _ _ h]
theorem uw{i j last kk:Nat}{fl:Bool}{e:Ex}{P:D->Prop}(g:G)(hi:i<g.length)(gq:last=g.length+kk)(hj1:g.length<=j)(hj2:j<g.length+kk)
  (he:∀s G',G'[i]?=some (St s fl)->(∀i',i'≠i->i'<g.length->G'[i']?=g[i']?)->∃d s',P d/\iS rn bor k e G'=some (d,G'.set i (St s' fl))) :
  ∀(items:List D) (s:Int) (m:G) (acc:List D),m.length=kk->acc.length+items.length<=lim->∃ds s' m',m'.length=kk/\ds.length=items.length/\(∀d∈ds,P d)/\FW rn bor k (.nm j) last none e items (gM (g.set i (St s fl)) m acc)=some (gM (g.set i (St s' fl)) m' (acc++ds))
 | [],s,m,acc,hm,_=>⟨[],s,m,hm,rfl,(λ_ h=>nomatch h),by rw[mI];rfl⟩
 |x::items,s,m,acc,hm,hl=>by
  rw[i3]at hl;have hg:(g.set i (St s fl)).length=g.length:=kS;have q1:Tg.set (.nm j) x (gM (g.set i (St s fl)) m acc)=some (gM (g.set i (St s fl)) (m.set (j - g.length) (.dat x)) acc):=by
   show some ((gM (g.set i (St s fl)) m acc).set j (.dat x))=_;have:=fH (g:=g.set i (St s fl)) (m:=m) (acc:=acc) (i:=j - g.length) (s:=.dat x) ⋯;rw[hg,show g.length+(j - g.length)=j by lia]at this
   rw[this]
  obtain⟨d,s1,hd,q2⟩:=he s (gM (g.set i (St s fl)) (m.set (j - g.length) (.dat x)) acc) (by rw[gJ ⋯,fI hi]) λi' h1 h2=>by rw[gJ ⋯,eD (oQ h1)]
  rw[zo ⋯,List.set_set]at q2;have hm':(m.set (j - g.length) (Slot.dat x)).length=kk:=by rw[kS];exact hm
  obtain⟨ds,s',m',w1,w2,w3,w4⟩:=uw g hi gq hj1 hj2 he items s1 (m.set (j - g.length) (.dat x)) (acc++[d]) hm' (by rw[i6,BE];lia)
  refine⟨d::ds,s',m',w1,by rw[i3,i3,w2],λy hy=>(dL.mp hy).elim (λe=>e▸hd) (w3 y),?_⟩
  have FH:(g.set i (St s1 fl)).length=g.length:=kS;have q4:(gM (g.set i (St s1 fl)) (m.set (j - g.length) (.dat x)) acc)[last]?=some (.own acc):=by rw[gq,<- hm',<- FH];exact lG
  have q5:(gM (g.set i (St s1 fl)) (m.set (j - g.length) (.dat x)) acc).set last (.own (acc++[d]))=gM (g.set i (St s1 fl)) (m.set (j - g.length) (.dat x)) (acc++[d]):=by rw[gq,<- hm',<- FH];exact kJ
  unfold FW;rw[q1];dsimp only[K3];rw[q2];dsimp only;rw[q4];dsimp only;rw[i5 ⋯,q5,w4,List.append_assoc];rfl
theorem zp{i j nn kk:Nat}{fl:Bool}{it e:Ex}{P:D->Prop}(g:G)(s:Int)(hg:g[i]?=some (St s fl))(items:List D)(hw:fS rn bor k false it g=some (items,g))(hn:nn=g.length)(hj1:g.length<=j)(hj2:j<g.length+kk)(hb:j∉bor)(hl:items.length<=lim)
  (he:∀s G',G'[i]?=some (St s fl)->(∀i',i'≠i->i'<g.length->G'[i']?=g[i']?)->∃d s',P d/\iS rn bor k e G'=some (d,G'.set i (St s' fl))) :
  ∃ds s',ds.length=items.length/\(∀d∈ds,P d)/\bS rn bor k nn kk (.nm j) it none e g=some (ds,g.set i (St s' fl)):=by
 subst hn;have hi:i<g.length:=(dE.mp hg).1;obtain⟨ds,s',m',w1,w2,w3,w4⟩:=uw g hi rfl hj1 hj2 he items s (List.replicate kk .no) [] ⋯ (by simpa using hl)
 have e0:g.set i (St s fl)=g:=by
  apply List.ext_getElem?;intro a;by_cases h:a=i
  . subst h;rw[fI hi,hg]
  . rw[eD (oQ h)]
 rw[e0]at w4;refine⟨ds,s',w2,w3,?_⟩;have FH:(g.set i (St s' fl)).length=g.length:=kS;have q4:(gM (g.set i (St s' fl)) m' ([]++ds))[g.length+kk]?=some (.own ds):=by have:=lG (g:=g.set i (St s' fl)) (m:=m') (acc:=[]++ds);rw[FH,w1]at this;exact this
 have q5:(gM (g.set i (St s' fl)) m' ([]++ds)).take g.length=g.set i (St s' fl):=by rw[<- FH];exact xq
 unfold bS;rw[show Tg.k9 (.nm j)=false from rfl,hw]
 dsimp only;rw[i5 ⟨rfl,by simpa [Tg.ix]using hb⟩,Ld,w4]
 dsimp only;rw[q4];dsimp only;rw[q5]
end
section
variable{k n:Nat}{g g1:G}{rn:Nat->Rn}{fns:List Fx}{ti:Nat}(U:lg fns rn)(hT:fns[ti]?=some bE)
include U hT
theorem V9(s:Int)(fl:Bool)(N:Nat)(hN:1<=N/\N<=12)(a1 a3:Slot):∃(t': ~~~0) (s':Int),r9 N t'/\(rn (n+99)).b [0] (k+1) (cT ti) (fC s fl a1 ‹N› a3 .no .no .no .no .no .no)=some (.nx,fC s' fl a1 ‹N› a3 (.own (t'.map .int)) .no .no .no .no .no):=by
 obtain⟨ds,s',h1,h2,h3⟩:=zp (rn:=rn (n+98)) (bor:=[0]) (k:=k+1) (i:=0) (j:=11) (nn:=10) (kk:=2) (fl:=fl) (it:=.eK ⇑2) (e:=.call ti [⇑0,⇑2]) (P:=λd=>∃x:Int,(0<=x/\x<=(N:Int) - 1)/\d=.int x) (fC s fl a1 ‹N› a3 .no .no .no .no .no .no) s rfl (fG 0 N) (by unfold fC;simp! [U,fS,aQ N ⋯]) rfl (show 10<=11 by decide) (show 11<10+2 by decide) ⋯ (aq _ (by unfold fG;simp;lia))
  (λs G' h0 hG=>by
   have h2:G'[2]?=some ‹N›:=hG 2 ⋯ (show 2<10 by decide)
   obtain⟨v,s1,v1,v2,q1⟩:=cC U (n:=n+77) (k:=k) (g:=G') (i:=0) (s:=s) (fl:=fl) (m:=(N:Int)) h0 ⋯;have nY:bu (rn (n+97)) bE k [.var 0,‹N›] G'=some (‹v›,G'.set 0 (St s1 fl)):=q1;refine⟨.int v,s1,⟨v,⟨v1,by lia⟩,rfl⟩,?_⟩
   simp! [U,hT,h0,h2,nY])
 have hds:∀ds:List D,(∀d∈ds,∃x:Int,(0<=x/\x<=(N:Int) - 1)/\d=.int x)->∃t:List Int,(∀x∈t,0<=x/\x<=(N:Int) - 1)/\ds=t.map .int:=λds=>by
  induction ds with
  |nil=>exact λ_=>⟨[],(λx hx=>nomatch hx),rfl⟩
  |cons d l ih=>
   intro h;obtain⟨x,hx,rfl⟩:=h d dA;obtain⟨t,ht,rfl⟩:=ih λd hd=>h d (b0 _ hd)
   exact⟨x::t,List.forall_mem_cons.mpr ⟨hx,ht⟩,rfl⟩
 obtain⟨t,ht,rfl⟩:=hds ds h2;refine⟨t,s',⟨by rw[fR]at h1;rw[h1];unfold fG;simp,ht⟩,?_⟩
 have h3':bS (rn (n+98)) [0] (k+1) 10 2 (.nm 11) (.eK ⇑2) none (.call ti [⇑0,⇑2]) (fC s fl a1 ‹N› a3 .no .no .no .no .no .no)=some (t.map .int,fC s' fl a1 ‹N› a3 .no .no .no .no .no .no):=h3;have e1:aD (rn (n+98)) [0] (k+1) (.setC 4 (.comp 10 2 (.nm 11) (.eK ⇑2) none (.call ti [⇑0,⇑2]))) (fC s fl a1 ‹N› a3 .no .no .no .no .no .no)=some (.nx,fC s' fl a1 ‹N› a3 (.own (t.map .int)) .no .no .no .no .no):=by simp only[aD,h3'];simp[fC]
 unfold cT;rw[U.b,au e1];simp only[bV]
theorem ZX(s:Int)(fl:Bool)(N:Nat)(hN:1<=N/\N<=12)(w:Int)(a1:Slot):∃(t': ~~~0) (s':Int) (b5 b6 b7:Slot),r9 N t'/\aD (rn (n+99)) [0] (k+1) (cI ti) (fC s fl a1 ‹N› ‹w› .no .no .no .no .no .no)=some (.nx,fC s' fl a1 ‹N› ‹w› (.own (t'.map .int)) b5 b6 b7 .no .no):=by
 by_cases c:w=3
 .
  obtain⟨t,s',h1,h2⟩:=V9 U hT (n:=n) (k:=k) s fl N hN a1 ‹w›;refine⟨t,s',.no,.no,.no,h1,?_⟩;unfold cI;generalize cT ti=bb at h2 ⊢
  generalize cE ti=cc;rw[U.b]at h2;unfold fC at h2 ⊢
  subst c;simp! [U,h2]
 .
  obtain⟨t,s',b5,b6,b7,h1,h2⟩:=V8 U hT (n:=n) (k:=k) s fl N hN a1 ‹w›;refine⟨t,s',b5,b6,b7,h1,?_⟩;unfold cI;generalize cT ti=bb;generalize cE ti=cc at h2 ⊢
  rw[U.b]at h2;unfold fC at h2 ⊢
  simp! [U,c,h2]
theorem ZZ(s:Int)(fl:Bool)(N:Nat)(hN:1<=N/\N<=12)(t: ~~~0)(ht:r9 N t)(w:Int)(a1 a5 a6 a7:Slot):∃(t': ~~~0) (s':Int),r9 N t'/\aD (rn (n+99)) [0] (k+1) (cJ ti) (fC s fl a1 ‹N› ‹w› (.own (t.map .int)) a5 a6 a7 .no .no)=some (.nx,fC s' fl a1 ‹N› ‹w› (.own (t'.map .int)) a5 a6 a7 .no .no):=by
 have h0:=ht.1;by_cases c:w=1
 .
  subst c;obtain⟨p,s1,p1,p2,q1⟩:=cC U (n:=n+77) (k:=k) (g:=fC s fl a1 ‹N› ‹1› (.own (t.map .int)) a5 a6 a7 .no .no) (i:=0) (s:=s) (fl:=fl) (m:=(N:Int)) rfl ⋯;have nY:bu (rn (n+97)) bE k [.var 0,‹N›] [St s fl,a1,‹N›,‹1›,.own (t.map .int),a5,a6,a7,.no,.no]=some (‹p›,[St s1 fl,a1,‹N›,‹1›,.own (t.map .int),a5,a6,a7,.no,.no]):=q1;obtain⟨q,s2,p3,p4,q2⟩:=cC U (n:=n+77) (k:=k) (g:=fC s1 fl a1 ‹N› ‹1› (.own (t.map .int)) a5 a6 a7 .no .no) (i:=0) (s:=s1) (fl:=fl) (m:=(N:Int)) rfl ⋯;have yD:bu (rn (n+97)) bE k [.var 0,‹N›] [St s1 fl,a1,‹N›,‹1›,.own (t.map .int),a5,a6,a7,.no,.no]=some (‹q›,[St s2 fl,a1,‹N›,‹1›,.own (t.map .int),a5,a6,a7,.no,.no]):=q2;obtain⟨pn,rfl⟩:∃pn:Nat,p=pn:=⟨p.toNat,by lia⟩
  obtain⟨qn,rfl⟩:∃qn:Nat,q=qn:=⟨q.toNat,by lia⟩
  have l1:L2.rT t.length (pn:Int)=some pn:=j5 ⋯;have l2:L2.rT t.length (qn:Int)=some qn:=j5 ⋯
  first
  |refine⟨t.set qn pn,s2,ht.set _ _ ⋯,?_⟩
   rw[AE];unfold cJ fC;simp! [U,hT,nY,yD,l1,l2]
   done
  |refine⟨t.set pn qn,s2,ht.set _ _ ⋯,?_⟩
   rw[AE];unfold cJ fC;simp! [U,hT,nY,yD,l1,l2]
 . refine⟨t,s,ht,?_⟩;unfold cJ fC;simp! [U,c]
theorem Z0(s:Int)(fl:Bool)(N:Nat)(hN:1<=N/\N<=12)(t: ~~~0)(ht:r9 N t)(w:Int)(a1 a5 a6 a7:Slot):∃(t': ~~~0) (s':Int) (b8 b9:Slot),r9 N t'/\aD (rn (n+99)) [0] (k+1) (cK ti) (fC s fl a1 ‹N› ‹w› (.own (t.map .int)) a5 a6 a7 .no .no)=some (.nx,fC s' fl a1 ‹N› ‹w› (.own (t'.map .int)) a5 a6 a7 b8 b9):=by
 have h0:=ht.1;by_cases c:w=2
 .
  subst c;obtain⟨p,s1,p1,p2,q1⟩:=cC U (n:=n+77) (k:=k) (g:=fC s fl a1 ‹N› ‹2› (.own (t.map .int)) a5 a6 a7 .no .no) (i:=0) (s:=s) (fl:=fl) (m:=(N:Int)) rfl ⋯;have nY:bu (rn (n+97)) bE k [.var 0,‹N›] [St s fl,a1,‹N›,‹2›,.own (t.map .int),a5,a6,a7,.no,.no]=some (‹p›,[St s1 fl,a1,‹N›,‹2›,.own (t.map .int),a5,a6,a7,.no,.no]):=q1;obtain⟨q,s2,p3,p4,q2⟩:=cC U (n:=n+77) (k:=k) (g:=fC s1 fl a1 ‹N› ‹2› (.own (t.map .int)) a5 a6 a7 .no .no) (i:=0) (s:=s1) (fl:=fl) (m:=(N:Int)) rfl ⋯;have yD:bu (rn (n+97)) bE k [.var 0,‹N›] [St s1 fl,a1,‹N›,‹2›,.own (t.map .int),a5,a6,a7,.no,.no]=some (‹q›,[St s2 fl,a1,‹N›,‹2›,.own (t.map .int),a5,a6,a7,.no,.no]):=q2;obtain⟨pn,rfl⟩:∃pn:Nat,p=pn:=⟨p.toNat,by lia⟩
  obtain⟨qn,rfl⟩:∃qn:Nat,q=qn:=⟨q.toNat,by lia⟩
  have l1:L2.rT t.length (pn:Int)=some pn:=j5 ⋯;have l2:L2.rT t.length (qn:Int)=some qn:=j5 ⋯;have g1:=iO (t:=t) (i:=(pn:Int)) ⋯;have h3:=ht.gt pn ⋯;obtain⟨v,hvr,hv⟩:∃v:Int,(0<=v/\v<=(N:Int) - 1)/\lA .min [.int ((N:Int) - 1),.int (gt t pn+1)]=some ‹v›:=⟨_,by split <;> lia,xx _ _⟩
  have ht2:=ht.set pn v hvr;have h4:=ht2.gt qn ⋯;have g2:=iO (t:=t.set pn v) (i:=(qn:Int)) (by rw[kS];lia)
  rw[AE]at g2;obtain⟨x,hxr,hx⟩:∃x:Int,(0<=x/\x<=(N:Int) - 1)/\lA .max [.int 0,.int (gt (t.set pn v) qn - 1)]=some ‹x›:=⟨_,by split <;> lia,qZ _ _⟩
  refine⟨(t.set pn v).set qn x,s2,‹pn›,‹qn›,ht2.set qn x hxr,?_⟩;rw[AE,AE];unfold cK fC;simp! [U,hT,nY,yD,l1,l2,g1,hv,g2,hx]
 . refine⟨t,s,.no,.no,ht,?_⟩;unfold cK fC;simp! [U,c]
end
section
variable{k n:Nat}{g g1:G}{rn:Nat->Rn}{fns:List Fx}{ti:Nat}(U:lg fns rn)(hT:fns[ti]?=some bE)
include U hT
theorem fK{i:Nat}{s:Int}{fl:Bool}(mo:Int)(hmo:4<=mo/\mo<=12)(hi:g[i]?=some (St s fl)):∃(t: ~~~0) (s':Int),((1<=t.length/\t.length<=12)/\r9 t.length t/\t.Pairwise (· ≥ ·))/\bu (rn (n+100)) (bJ ti) (k+1) [.var i,‹mo›] g=some (.dat (~~~t),g.set i (St s' fl)):=by
 obtain⟨r,s1,r1,r2,q1⟩:=cC U (n:=n+76) (k:=k) (g:=fC s fl ‹mo› .no .no .no .no .no .no .no .no) (i:=0) (s:=s) (fl:=fl) (m:=8) rfl ⋯;have nY:bu (rn (n+96)) bE k [.var 0,‹8›] [St s fl,‹mo›,.no,.no,.no,.no,.no,.no,.no,.no]=some (‹r›,[St s1 fl,‹mo›,.no,.no,.no,.no,.no,.no,.no,.no]):=q1;obtain⟨x,hx,ex⟩:=rA (l:=[D.int 0,.int 0,.int 1,.int 2,.int 0,.int 3,.int 1,.int (mo - 1)]) (r:=r) ⟨r1,r2⟩;obtain⟨v,hv,rfl⟩:∃v:Int,(0<=v/\v<=mo - 1)/\x=.int v:=by simp only[dL,i4,u8]at hx;rcases hx with rfl |rfl |rfl |rfl |rfl |rfl |rfl |rfl <;> exact⟨_,by lia,rfl⟩
 obtain⟨N,hN,h1⟩:∃N:Nat,mo - v=(N:Int)/\(1<=N/\N<=12):=⟨(mo - v).toNat,by lia,by lia⟩
 have e1:aD (rn (n+99)) [0] (k+1) (cA ti) (fC s fl ‹mo› .no .no .no .no .no .no .no .no)=some (.nx,fC s1 fl ‹mo› ‹N› .no .no .no .no .no .no .no):=by unfold cA fC;simp! [U,hT,nY,ex,aq 8 ⋯,hN]
 have bm:lA .max [.int 1,.int N]=some ‹N›:=by
  rw[qZ]
  congr 3
  split <;> lia
 have e2:aD (rn (n+99)) [0] (k+1) (.set 2 (.blt .max [↥1,⇑2])) (fC s1 fl ‹mo› ‹N› .no .no .no .no .no .no .no)=some (.nx,fC s1 fl ‹mo› ‹N› .no .no .no .no .no .no .no):=by unfold fC;simp! [U,bm]
 obtain⟨w,s2,w1,w2,q2⟩:=cC U (n:=n+78) (k:=k) (g:=fC s1 fl ‹mo› ‹N› .no .no .no .no .no .no .no) (i:=0) (s:=s1) (fl:=fl) (m:=4) rfl ⋯;have yD:bu (rn (n+98)) bE k [.var 0,‹4›] [St s1 fl,‹mo›,‹N›,.no,.no,.no,.no,.no,.no,.no]=some (‹w›,[St s2 fl,‹mo›,‹N›,.no,.no,.no,.no,.no,.no,.no]):=q2;have e3:aD (rn (n+99)) [0] (k+1) (.set 3 (.call ti [⇑0,↥4])) (fC s1 fl ‹mo› ‹N› .no .no .no .no .no .no .no)=some (.nx,fC s2 fl ‹mo› ‹N› ‹w› .no .no .no .no .no .no):=by unfold fC;simp! [U,hT,yD]
 obtain⟨t1,s3,b5,b6,b7,l1,e4⟩:=ZX U hT (n:=n) (k:=k) s2 fl N h1 w ‹mo›;obtain⟨t2,s4,l2,e5⟩:=ZZ U hT (n:=n) (k:=k) s3 fl N h1 t1 l1 w ‹mo› b5 b6 b7;obtain⟨t3,s5,b8,b9,l3,e6⟩:=Z0 U hT (n:=n) (k:=k) s4 fl N h1 t2 l2 w ‹mo› b5 b6 b7;have l30:=l3.1;have hl:t3.length<64:=by lia
 have e7:aD (rn (n+99)) [0] (k+1) (.ret (.blt .tuple [(.gw ⇑4)])) (fC s5 fl ‹mo› ‹N› ‹w› (.own (t3.map .int)) b5 b6 b7 b8 b9)=some (.rt (.dat (~~~(cg t3).reverse)),fC s5 fl ‹mo› ‹N› ‹w› (.own (t3.map .int)) b5 b6 b7 b8 b9):=by unfold fC;simp! [U,dD,ints_map,hl]
 refine⟨(cg t3).reverse,s5,?_,?_⟩
 .
  have hll:(cg t3).reverse.length=N:=by rw[n0,(bC t3).length_eq,l30]
  rw[hll];exact⟨h1,⟨hll,λx hx=>l3.2 x ((bC t3).mem_iff.mp (List.mem_reverse.mp hx))⟩,x5.mpr (cQ t3)⟩
 .
  have hp:cP (bJ ti).n [St s fl,‹mo›]=fC s fl ‹mo› .no .no .no .no .no .no .no .no:=rfl;have body:(rn (n+100)).b [0] (k+1) (bJ ti).body (fC s fl ‹mo› .no .no .no .no .no .no .no .no)=some (.rt (.dat (~~~(cg t3).reverse)),fC s5 fl ‹mo› ‹N› ‹w› (.own (t3.map .int)) b5 b6 b7 b8 b9):=by unfold bJ;rw[U.b,au e1,au e2,au e3,au e4,au e5,au e6];unfold bV;rw[e7]
  unfold bu;simp only[vars,cS,hi,List.map_cons,List.map_nil];rw[i5 ⟨rfl,by simp⟩,hp,body]
  rfl
end
def iP(ti:Nat):Fx:=⟨2,5,[(.set 2 (.call ti [⇑0,(.bin .Add (.blt .len [⇑1]) ↥1)])),(.set 3 (.ix (.lst [(.blt .len [⇑1]),(.neg ↥1),(.val (.bl true)),(.val .non),(.val (.str (PySem.Str.ofString "0"))),(.tup [↥0]),(.bin .Pow ↥10 ↥29),↥0,(.val (.bl false)),(.bin .Sub (.blt .len [⇑1]) ↥1)]) (.call ti [⇑0,↥10]))),(.set 4 (.lst [(.bin .Add (.bin .Add (.slice ⇑1 none (some ⇑2)) (.tup [⇑3])) (.slice ⇑1 (some (.bin .Add ⇑2 ↥1)) none)),(.bin .Add (.bin .Add (.slice ⇑1 none (some ⇑2)) (.tup [⇑3])) (.slice ⇑1 (some ⇑2) none)),(.bin .Add (.slice ⇑1 none (some ⇑2)) (.slice ⇑1 (some (.bin .Add ⇑2 ↥1)) none))])),(.set 4 (.bin .Add ⇑4 (.lst [(.rev ⇑1),(.blt .list [⇑1]),(.val .non),.emp,↥0,(.tup []),(.bin .Mult (.tup [↥0]) ↥12),(.bin .Mult (.tup [↥0]) ↥13),(.bin .Add ⇑1 ⇑1)]))),(.ret (.ix ⇑4 (.call ti [⇑0,↥12])))]⟩
section
variable{k n:Nat}{g g1:G}{rn:Nat->Rn}{fns:List Fx}{ti:Nat}(U:lg fns rn)(hT:fns[ti]?=some bE)
include U hT
theorem DX{i:Nat}{s:Int}{fl:Bool}(t: ~~~0)(ht:1<=t.length/\t.length<=12)(hi:g[i]?=some (St s fl)):∃(d:D) (s':Int),Gf d/\bu (rn (n+60)) (iP ti) (k+1) [.var i,.dat (~~~t)] g=some (.dat d,g.set i (St s' fl)):=by
 have hml:(t.map D.int).length=t.length:=fR _;obtain⟨p,s1,p1,p2,q1⟩:=cC U (n:=n+38) (k:=k) (g:=[St s fl,.dat (~~~t),.no,.no,.no]) (i:=0) (s:=s) (fl:=fl) (m:=(t.length:Int)+1) rfl ⋯;have nY:bu (rn (n+58)) bE k [.var 0,.dat (.int ((t.length:Int)+1))] [St s fl,.dat (~~~t),.no,.no,.no]=some (‹p›,[St s1 fl,.dat (~~~t),.no,.no,.no]):=q1;obtain⟨pn,rfl⟩:∃pn:Nat,p=pn:=⟨p.toNat,by lia⟩
 have e1:aD (rn (n+59)) [0] (k+1) (.set 2 (.call ti [⇑0,(.bin .Add (.blt .len [⇑1]) ↥1)])) [St s fl,.dat (~~~t),.no,.no,.no]=some (.nx,[St s1 fl,.dat (~~~t),‹pn›,.no,.no]):=by simp! [U,hT,nY]
 obtain⟨r,s3,r1,r2,q3⟩:=cC U (n:=n+37) (k:=k) (g:=[St s1 fl,.dat (~~~t),‹pn›,.no,.no]) (i:=0) (s:=s1) (fl:=fl) (m:=10) rfl ⋯;have FJ:bu (rn (n+57)) bE k [.var 0,‹10›] [St s1 fl,.dat (~~~t),‹pn›,.no,.no]=some (‹r›,[St s3 fl,.dat (~~~t),‹pn›,.no,.no]):=q3;obtain⟨o,ho,eo⟩:=rA (l:=[D.int (t.length:Int),.int (-1),.bl true,.non,.str (PySem.Str.ofString "0"),.tup [.int 0],.int 100000000000000000000000000000,.int 0,.bl false,.int ((t.length:Int) - 1)]) (r:=r) ⟨r1,r2⟩;have e2:aD (rn (n+59)) [0] (k+1) (.set 3 (.ix (.lst [(.blt .len [⇑1]),(.neg ↥1),(.val (.bl true)),(.val .non),(.val (.str (PySem.Str.ofString "0"))),(.tup [↥0]),(.bin .Pow ↥10 ↥29),↥0,(.val (.bl false)),(.bin .Sub (.blt .len [⇑1]) ↥1)]) (.call ti [⇑0,↥10]))) [St s1 fl,.dat (~~~t),‹pn›,.no,.no]=some (.nx,[St s3 fl,.dat (~~~t),‹pn›,.dat o,.no]):=by simp! [U,hT,FJ,ur,aq 1 ⋯,aq 10 ⋯,eo]
 generalize hA:dJ (t.map D.int) none (some (pn:Int))=A;generalize hB:dJ (t.map D.int) (some ((pn:Int)+1)) none=B;generalize hC:dJ (t.map D.int) (some (pn:Int)) none=C;have pA:A.length<=12:=by rw[<- hA];exact oI (nG _ _ _) ⋯
 have pB:B.length<=12:=by rw[<- hB];exact oI (nG _ _ _) ⋯
 have pC:C.length<=12:=by rw[<- hC];exact oI (nG _ _ _) ⋯
 have pO:(A++[o]).length<=13:=by simp;lia
 have e3:aD (rn (n+59)) [0] (k+1) (.set 4 (.lst [(.bin .Add (.bin .Add (.slice ⇑1 none (some ⇑2)) (.tup [⇑3])) (.slice ⇑1 (some (.bin .Add ⇑2 ↥1)) none)),(.bin .Add (.bin .Add (.slice ⇑1 none (some ⇑2)) (.tup [⇑3])) (.slice ⇑1 (some ⇑2) none)),(.bin .Add (.slice ⇑1 none (some ⇑2)) (.slice ⇑1 (some (.bin .Add ⇑2 ↥1)) none))])) [St s3 fl,.dat (~~~t),‹pn›,.dat o,.no]=some (.nx,[St s3 fl,.dat (~~~t),‹pn›,.dat o,.own [.tup (A++[o]++B),.tup (A++[o]++C),.tup (A++B)]]):=by simp! [U,kG,hA,hB,hC,jv A [o] (by simp;lia),jv (A++[o]) B ⋯,jv (A++[o]) C ⋯,jv A B ⋯,aq 1 ⋯,aq 3 ⋯]
 generalize hZ:[D.tup (A++[o]++B),.tup (A++[o]++C),.tup (A++B)]=Z at e3;have zl:Z.length=3:=by rw[<- hZ];rfl
 have Xu:mU .Mult (.tup [.int 0]) (.int 12)=some (.dat (.tup (List.replicate 12 (.int 0)))):=rfl;have Xv:mU .Mult (.tup [.int 0]) (.int 13)=some (.dat (.tup (List.replicate 13 (.int 0)))):=rfl;generalize h12:List.replicate 12 (D.int 0)=z12 at Xu;generalize h13:List.replicate 13 (D.int 0)=z13 at Xv;generalize hY:[D.tup (t.map D.int).reverse,.lst (t.map D.int),.non,.emp,.int 0,.tup [],.tup z12,.tup z13,.tup (t.map D.int++t.map D.int)]=Y;have yl:Y.length=9:=by rw[<- hY];rfl
 have e4:aD (rn (n+59)) [0] (k+1) (.set 4 (.bin .Add ⇑4 (.lst [(.rev ⇑1),(.blt .list [⇑1]),(.val .non),.emp,↥0,(.tup []),(.bin .Mult (.tup [↥0]) ↥12),(.bin .Mult (.tup [↥0]) ↥13),(.bin .Add ⇑1 ⇑1)]))) [St s3 fl,.dat (~~~t),‹pn›,.dat o,.own Z]=some (.nx,[St s3 fl,.dat (~~~t),‹pn›,.dat o,.own (Z++Y)]):=by simp! [U,aq 1 ⋯,aq 9 ⋯,aq 0 ⋯,Xu,Xv,jv (t.map D.int) (t.map D.int) ⋯,hY,aq Y.length ⋯,jw Z Y ⋯]
 obtain⟨r',s4,w1,w2,q4⟩:=cC U (n:=n+37) (k:=k) (g:=[St s3 fl,.dat (~~~t),‹pn›,.dat o,.own (Z++Y)]) (i:=0) (s:=s3) (fl:=fl) (m:=12) rfl ⋯;have Z1:bu (rn (n+57)) bE k [.var 0,‹12›] [St s3 fl,.dat (~~~t),‹pn›,.dat o,.own (Z++Y)]=some (‹r'›,[St s4 fl,.dat (~~~t),‹pn›,.dat o,.own (Z++Y)]):=q4;obtain⟨d,hd,ed⟩:=rA (l:=Z++Y) (r:=r') ⟨w1,by rw[i6,zl,yl];exact w2⟩
 have e5:aD (rn (n+59)) [0] (k+1) (.ret (.ix ⇑4 (.call ti [⇑0,↥12]))) [St s3 fl,.dat (~~~t),‹pn›,.dat o,.own (Z++Y)]=some (.rt (.dat d),[St s4 fl,.dat (~~~t),‹pn›,.dat o,.own (Z++Y)]):=by simp! [U,hT,Z1,ed]
 have hf:Gf d:=by
  rw[<- hZ,<- hY]at hd;simp only[sB,dL,i4,u8]at hd;rcases hd with (rfl |rfl |rfl) | (rfl |rfl |rfl |rfl |rfl |rfl |rfl |rfl |rfl)
  . show (A++[o]++B).length<=40;rw[i6];lia
  . show (A++[o]++C).length<=40;rw[i6];lia
  . show (A++B).length<=40;rw[i6];lia
  . show (t.map D.int).reverse.length<=40;rw[n0];lia
  . trivial
  . trivial
  . trivial
  . trivial
  . exact AM _
  . show z12.length<=40;rw[<- h12];decide
  . show z13.length<=40;rw[<- h13];decide
  . show (t.map D.int++t.map D.int).length<=40;rw[i6];lia
 refine⟨d,s4,hf,?_⟩;have hp:cP (iP ti).n [St s fl,.dat (~~~t)]=[St s fl,.dat (~~~t),.no,.no,.no]:=rfl;have body:(rn (n+60)).b [0] (k+1) (iP ti).body [St s fl,.dat (~~~t),.no,.no,.no]=some (.rt (.dat d),[St s4 fl,.dat (~~~t),‹pn›,.dat o,.own (Z++Y)]):=by unfold iP;rw[U.b,au e1,au e2,au e3,au e4];unfold bV;rw[e5]
 unfold bu;simp only[vars,cS,hi,List.map_cons,List.map_nil];rw[i5 ⟨rfl,by simp⟩,hp,body]
 rfl
end
end Ev
namespace Eg
inductive Co where
 |S |T |R
 deriving DecidableEq
structure El where
 x:Int
 m:Bool
 c:Co
def ind(b:Bool):Int:=if b then 1 else 0
noncomputable def cn(p:Bool->Co->Bool):List El->Int
 | []=>0
 |e::z=>ind (p e.m e.c)+cn p z
noncomputable def sm(p:Bool->Co->Bool):List El->Int
 | []=>0
 |e::z=>(if p e.m e.c then e.x else 0)+sm p z
def cD(k:Co)(_m:Bool)(c:Co):Bool:=decide (c=k)
def nC(k:Co)(z:List El):Int:=cn (cD k) z
def sC(k:Co)(z:List El):Int:=sm (cD k) z
def V(z:List El):Int:=sC .S z - sC .T z - nC .S z * (nC .S z - 1+nC .R z)
def G(d: ~~~0):Prop:=∀z:List El,z.map El.x=d->V z<=0
theorem bO(p):∀z,0<=cn p z
 | []=>Int.le_refl _
 |e::z=>by have:=bO p z;simp only[cn,ind];split <;> omega
theorem rF(p):∀y z,cn p (y++z)=cn p y+cn p z
 | [],z=>by simp[cn]
 |e::y,z=>by have:=rF p y z;simp only[List.cons_append,cn];omega
theorem DY(p):∀y z,sm p (y++z)=sm p y+sm p z
 | [],z=>by simp[sm]
 |e::y,z=>by have:=DY p y z;simp only[List.cons_append,sm];omega
noncomputable def rec'(h:Bool->Co->Co)(z:List El):List El:=z.map λe=>⟨e.x,e.m,h e.m e.c⟩
theorem Wa(h z):(rec' h z).map El.x=z.map El.x:=by simp[rec',Function.comp_def]
theorem Ea(p h):∀z,cn p (rec' h z)=cn (λm c=>p m (h m c)) z
 | []=>rfl
 |e::z=>by have:=Ea p h z;simp only[rec',List.map_cons,cn]at *;omega
theorem Eb(p h):∀z,sm p (rec' h z)=sm (λm c=>p m (h m c)) z
 | []=>rfl
 |e::z=>by have:=Eb p h z;simp only[rec',List.map_cons,sm]at *;omega
def cl(b:Bool)(k:Co)(m:Bool)(c:Co):Bool:=decide (m=b)&&decide (c=k)
theorem rG(p):∀z,cn p z=ind (p true .S) * cn (cl true .S) z+ind (p true .T) * cn (cl true .T) z+ind (p true .R) * cn (cl true .R) z+ind (p false .S) * cn (cl false .S) z+ind (p false .T) * cn (cl false .T) z+ind (p false .R) * cn (cl false .R) z
 | []=>by simp[cn]
 |⟨x,m,c⟩::z=>by
  have:=rG p z;simp only[cn];cases m <;> cases c <;> simp[cl,ind]at * <;> grind
theorem vQ(p):∀z,sm p z=ind (p true .S) * sm (cl true .S) z+ind (p true .T) * sm (cl true .T) z+ind (p true .R) * sm (cl true .R) z+ind (p false .S) * sm (cl false .S) z+ind (p false .T) * sm (cl false .T) z+ind (p false .R) * sm (cl false .R) z
 | []=>by simp[sm]
 |⟨x,m,c⟩::z=>by
  have:=vQ p z;simp only[sm];cases m <;> cases c <;> simp[cl,ind]at * <;> grind
theorem nJ(p)(v:Int):∀z,(∀e∈z,p e.m e.c=true->e.x=v)->sm p z=v * cn p z
 | [],_=>by simp[sm,cn]
 |e::z,h=>by
  have:=nJ p v z λe he=>h e (b0 _ he)
  have h0:=h e (dA ..);simp only[sm,cn,ind];split
  . rename_i hp;have:=h0 hp;grind
  .
   grind
theorem Lf(p)(v:Int):∀z,(∀e∈z,p e.m e.c=true->e.x<=v)->sm p z<=v * cn p z
 | [],_=>by simp[sm,cn]
 |e::z,h=>by
  have:=Lf p v z λe he=>h e (b0 _ he)
  have h0:=h e (dA ..);simp only[sm,cn,ind];split
  . rename_i hp;have:=h0 hp;grind
  .
   grind
theorem Lg(p)(v:Int):∀z,(∀e∈z,p e.m e.c=true->v<=e.x)->v * cn p z<=sm p z
 | [],_=>by simp[sm,cn]
 |e::z,h=>by
  have:=Lg p v z λe he=>h e (b0 _ he)
  have h0:=h e (dA ..);simp only[sm,cn,ind];split
  . rename_i hp;have:=h0 hp;grind
  .
   grind
theorem j6(p):∀z,0<cn p z->∃e∈z,p e.m e.c=true
 | [],h=>by simp[cn]at h
 |e::z,h=>by
  by_cases hp:p e.m e.c=true
  . exact⟨e,dA ..,hp⟩
  .
   have:0<cn p z:=by simp only[cn,ind]at h;simpa [hp]using h
   obtain⟨e,he,hq⟩:=j6 p z this;exact⟨e,b0 _ he,hq⟩
end Eg
namespace Eg
noncomputable def mark:Nat->List El->List El
 |_,[]=>[]
 | 0,e::z=>⟨e.x,false,e.c⟩::mark 0 z
 |n+1,e::z=>⟨e.x,true,e.c⟩::mark n z
noncomputable def dec:Nat->~~~0->List Int
 |_,[]=>[]
 | 0,x::l=>x::l
 |n+1,x::l=>(x - 1)::dec n l
def dn(z:List El):List El:=z.map λe=>⟨e.x - ind e.m,e.m,e.c⟩
theorem J3(l: ~~~0):dec 0 l=l:=by cases l <;> rfl
theorem nL(k):∀n z,nC k (mark n z)=nC k z
 |n,[]=>by simp[mark]
 | 0,e::z=>by have:=nL k 0 z;simp only[mark,nC,cn,cD]at *;omega
 |n+1,e::z=>by have:=nL k n z;simp only[mark,nC,cn,cD]at *;omega
theorem rH(k):∀n z,sC k (mark n z)=sC k z
 |n,[]=>by simp[mark]
 | 0,e::z=>by have:=rH k 0 z;simp only[mark,sC,sm,cD]at *;rw[this];rfl
 |n+1,e::z=>by have:=rH k n z;simp only[mark,sC,sm,cD]at *;rw[this];rfl
theorem rJ:∀n z,(dn (mark n z)).map El.x=dec n (z.map El.x)
 |n,[]=>by simp[mark,dn,dec]
 | 0,e::z=>by have:=rJ 0 z;simp[mark,dn,dec,ind,J3]at *;exact this
 |n+1,e::z=>by have:=rJ n z;simp[mark,dn,dec,ind]at *;exact this
theorem vR:∀n z,n<=z.length->cn (λm _=>m) (mark n z)=n
 | 0,[],_=>by simp[mark,cn]
 | 0,e::z,_=>by have:=vR 0 z (AM _);simp[mark,cn,ind]at *;exact this
 |n+1,e::z,h=>by have:=vR n z (by simpa using h);simp[mark,cn,ind]at *;omega
theorem Ec(k):∀z,nC k (dn z)=nC k z
 | []=>rfl
 |e::z=>by have:=Ec k z;simp only[dn,List.map_cons,nC,cn]at *;omega
theorem Wb(k):∀z,sC k (dn z)=sC k z - cn (cl true k) z
 | []=>rfl
 |⟨x,m,c⟩::z=>by
  have:=Wb k z;simp only[dn,List.map_cons,sC,sm,cn]at *;rw[this];cases m <;> by_cases h:c=k <;> simp[cl,cD,ind,h] <;> omega
theorem xE(k z):nC k z=cn (cl true k) z+cn (cl false k) z:=by unfold nC;rw[rG];cases k <;> simp[cD,ind]
theorem Lh(k z):sC k z=sm (cl true k) z+sm (cl false k) z:=by unfold sC;rw[vQ];cases k <;> simp[cD,ind]
theorem Li(z):cn (λm _=>m) z=cn (cl true .S) z+cn (cl true .T) z+cn (cl true .R) z:=by rw[rG];simp[ind]
theorem Wc(z):V (dn z)=sC .S z - cn (cl true .S) z - (sC .T z - cn (cl true .T) z) - nC .S z * (nC .S z - 1+nC .R z):=by simp only[V,Wb,Ec]
theorem Z2(x m z):V (⟨x,m,.S⟩::z)=x+sC .S z - sC .T z - (nC .S z+1) * (nC .S z+nC .R z):=by simp[V,sC,nC,sm,cn,cD,ind];grind
theorem V_T(x m z):V (⟨x,m,.T⟩::z)=sC .S z - sC .T z - x - nC .S z * (nC .S z - 1+nC .R z):=by simp[V,sC,nC,sm,cn,cD,ind];grind
theorem Wd(x m z):V (⟨x,m,.R⟩::z)=sC .S z - sC .T z - nC .S z * (nC .S z+nC .R z):=by simp[V,sC,nC,sm,cn,cD,ind];grind
theorem Wf{f:Nat}{l: ~~~0}(hf:f<=l.length)(h:G (dec f l)):G ((f:Int)::l):=by
 intro z0 hz
 match z0,hz with
 |⟨x,m,k⟩::z1,hz=>
  have hx:x=f:=by simp at hz;exact hz.1
  have hz:z1.map El.x=l:=by simp at hz;exact hz.2
  rw[hx];clear hx;have hl:z1.length=l.length:=by rw[<- hz];simp
  have h1:=h (dn (mark f z1)) (by rw[rJ,hz])
  rw[Wc,rH,rH,nL,nL]at h1;have h2:=vR f z1 (by omega)
  rw[Li]at h2;have hs:=xE .S (mark f z1);have hr:=xE .R (mark f z1);rw[nL]at hs hr;have p1:=bO (cl false .S) (mark f z1);have p2:=bO (cl false .R) (mark f z1);have p3:=bO (cl true .T) (mark f z1);have p4:=bO (cl true .S) (mark f z1);have p5:=bO (cl true .R) (mark f z1);generalize cn (cl true .S) (mark f z1)=a at *;generalize cn (cl true .T) (mark f z1)=b at *;generalize cn (cl true .R) (mark f z1)=c at *;generalize cn (cl false .S) (mark f z1)=a' at *;generalize cn (cl false .R) (mark f z1)=c' at *;have key:∀k,V (⟨(f:Int),m,k⟩::z1)=match k with |.S=>f+sC .S z1 - sC .T z1 - (nC .S z1+1) * (nC .S z1+nC .R z1) |.T=>sC .S z1 - sC .T z1 - f - nC .S z1 * (nC .S z1 - 1+nC .R z1) |.R=>sC .S z1 - sC .T z1 - nC .S z1 * (nC .S z1+nC .R z1):=λk=>by
   cases k
   . exact Z2 _ _ _
   . exact V_T _ _ _
   . exact Wd _ _ _
  rw[key k];clear key;generalize nC .S z1=s at *;generalize nC .R z1=r at *;generalize sC .S z1=qs at *;generalize sC .T z1=qt at *;have e1:(s+1) * (s+r)=s * (s - 1+r)+2 * s+r:=by grind
  have e2:s * (s+r)=s * (s - 1+r)+s:=by grind
  cases k
  . simp only[e1];generalize s * (s - 1+r)=w at *;omega
  . simp only;generalize s * (s - 1+r)=w at *;omega
  . simp only[e2];generalize s * (s - 1+r)=w at *;omega
theorem Lj{α:Type}(f:α->Int):∀(l:List α),l≠[]->∃x∈l,∀y∈l,f y<=f x
 | [],h=>absurd rfl h
 | [x],_=>⟨x,dA ..,λy hy=>by simp at hy;subst hy;exact Int.le_refl _⟩
 |x::x'::l,_=>by
  obtain⟨y,hy,hm⟩:=Lj f (x'::l) ⋯;by_cases h:f y<=f x
  .
   exact⟨x,dA ..,λw hw=>by
    rcases dL.1 hw with e |hw
    . subst e;exact Int.le_refl _
    .
     exact BM (hm w hw) h⟩
  .
   exact⟨y,b0 _ hy,λw hw=>by
    rcases dL.1 hw with e |hw
    . subst e;omega
    .
     exact hm w hw⟩
noncomputable def cols:List (Int×Bool)->List (List El)
 | []=>[[]]
 | (x,m)::l=>(cols l).flatMap λz=>[⟨x,m,.S⟩::z,⟨x,m,.T⟩::z,⟨x,m,.R⟩::z]
def xm(z:List El):List (Int×Bool):=z.map λe=>(e.x,e.m)
theorem jz:∀z,z∈cols (xm z)
 | []=>by simp[xm,cols]
 |⟨x,m,c⟩::z=>by
  have:=jz z;simp only[xm,List.map_cons,cols,List.mem_flatMap]at *;exact⟨z,this,by cases c <;> simp⟩
theorem xF:∀l z,z∈cols l->xm z=l
 | [],z,h=>by simp[cols]at h;subst h;rfl
 | (x,m)::l,z,h=>by
  simp only[cols,List.mem_flatMap]at h;obtain⟨y,hy,h⟩:=h;have:=xF l y hy;simp at h;rcases h with h |h |h <;> subst h <;> simp[xm]at * <;> exact this
def W(B:Int)(z:List El):Int:=V (dn z) * B * B+nC .S z * B - nC .T z
structure Opt(z:List El):Prop where
 S:∀e∈z,e.c=.S->nC .S z+nC .R z - 1<=e.x - ind e.m
 T:∀e∈z,e.c=.T->e.x - ind e.m<=nC .S z - 1
 R:∀e∈z,e.c=.R->nC .S z<=e.x - ind e.m/\e.x - ind e.m<=nC .S z+nC .R z - 2
theorem nl(B v v' k k':Int)(hB:2<=B)(h:v' * B * B+k'<=v * B * B+k)(hk:k - k'<B * B):v'<=v:=by
 refine CF.1 λhv=>?_
 have:(v+1) * (B * B)<=v' * (B * B):=nS (by omega) (wP (by omega) (by omega))
 grind
theorem fL(p):∀z,cn p z<=z.length
 | []=>by simp[cn]
 |e::z=>by have:=fL p z;simp only[cn,ind,i3];split <;> omega
theorem Rh{z1 z2:List El}{e:El}(k:Co){B:Int}(hB:(z1++e::z2).length+2<=B)
  (h:W B (z1++⟨e.x,e.m,k⟩::z2)<=W B (z1++e::z2)) :
  V (dn (z1++⟨e.x,e.m,k⟩::z2))<=V (dn (z1++e::z2))/\
  (nC .S (z1++e::z2) * B - nC .T (z1++e::z2)<nC .S (z1++⟨e.x,e.m,k⟩::z2) * B - nC .T (z1++⟨e.x,e.m,k⟩::z2)->V (dn (z1++⟨e.x,e.m,k⟩::z2))+1<=V (dn (z1++e::z2))):=by
 have l1:=fL (cD .S) (z1++e::z2);have l2:=fL (cD .T) (z1++e::z2);have l3:=fL (cD .S) (z1++⟨e.x,e.m,k⟩::z2);have l4:=fL (cD .T) (z1++⟨e.x,e.m,k⟩::z2);have m1:=bO (cD .S) (z1++e::z2);have m2:=bO (cD .T) (z1++e::z2);have m3:=bO (cD .S) (z1++⟨e.x,e.m,k⟩::z2);have m4:=bO (cD .T) (z1++⟨e.x,e.m,k⟩::z2);have hl:(z1++⟨e.x,e.m,k⟩::z2).length=(z1++e::z2).length:=by simp
 simp only[W]at h;unfold nC at *;generalize V (dn (z1++⟨e.x,e.m,k⟩::z2))=v' at *;generalize V (dn (z1++e::z2))=v at *;generalize cn (cD .S) (z1++e::z2)=s at *;generalize cn (cD .T) (z1++e::z2)=t at *;generalize cn (cD .S) (z1++⟨e.x,e.m,k⟩::z2)=s' at *;generalize cn (cD .T) (z1++⟨e.x,e.m,k⟩::z2)=t' at *;rw[hl]at l3 l4;generalize ((z1++e::z2).length:Int)=L at *;have hb:s * B<=L * B:=nS l1 (by omega)
 have hb':0<=s' * B:=wP (by omega) (by omega)
 have hb2:(L+2) * B<=B * B:=nS hB (by omega)
 refine⟨nl B v v' (s * B - t) (s' * B - t') (by omega) (by omega) (by grind),λjC=>?_⟩
 refine CF.1 λhv=>?_
 have:v * (B * B)<=v' * (B * B):=nS (by omega) (wP (by omega) (by omega))
 grind
end Eg
namespace Eg
theorem xG(z1:List El)(e:El)(z2:List El):V (dn (z1++e::z2)) =
  (sC .S (dn z1)+(if e.c=.S then e.x - ind e.m else 0)+sC .S (dn z2)) - (sC .T (dn z1)+(if e.c=.T then e.x - ind e.m else 0)+sC .T (dn z2))
  - (nC .S (dn z1)+ind (decide (e.c=.S))+nC .S (dn z2)) * ((nC .S (dn z1)+ind (decide (e.c=.S))+nC .S (dn z2)) - 1+(nC .R (dn z1)+ind (decide (e.c=.R))+nC .R (dn z2))):=by
 have hd:dn (z1++e::z2)=dn z1++⟨e.x - ind e.m,e.m,e.c⟩::dn z2:=by simp[dn]
 rw[hd];unfold V nC sC;simp only[rF,DY,cn,sm,cD,eQ,Int.add_assoc]
theorem xH(k)(z1:List El)(e:El)(z2:List El):nC k (z1++e::z2)=nC k (dn z1)+ind (decide (e.c=k))+nC k (dn z2):=by rw[Ec,Ec];unfold nC;simp only[rF,cn,cD,Int.add_assoc]
theorem Ri{z:List El}{B:Int}(hB:z.length+2<=B)(h:∀y,xm y=xm z->W B y<=W B z):Opt z:=by
 have mv:∀(z1 z2:List El) (e:El) (k:Co),z=z1++e::z2->_:=λz1 z2 e k ez=>
  Rh (z1:=z1) (z2:=z2) (e:=e) k (B:=B) (by rw[<- ez];exact hB) (by rw[<- ez];exact h _ (by rw[ez];simp[xm]))
 refine⟨λe he hc=>?_,λe he hc=>?_,λe he hc=>⟨?_,?_⟩⟩ <;> obtain⟨z1,z2,ez⟩:=List.append_of_mem he
 .
  have h1:=(mv z1 z2 e .R ez).1;rw[ez];simp only[xG,xH,hc,ind]at h1 ⊢
  simp at h1 ⊢
  generalize nC Co.S (dn z1)=s1 at *;generalize nC Co.S (dn z2)=s2 at *;generalize nC Co.R (dn z1)=r1 at *;generalize nC Co.R (dn z2)=r2 at *
  grind
 .
  have h1:=(mv z1 z2 e .R ez).2;rw[ez];simp only[xG,xH,hc,ind]at h1 ⊢
  simp at h1 ⊢
  generalize nC Co.S (dn z1)=s1 at *;generalize nC Co.S (dn z2)=s2 at *;generalize nC Co.R (dn z1)=r1 at *;generalize nC Co.R (dn z2)=r2 at *;have h1:=h1 (by omega)
  grind
 .
  have h1:=(mv z1 z2 e .T ez).1;rw[ez];simp only[xG,xH,hc,ind]at h1 ⊢
  simp at h1 ⊢
  generalize nC Co.S (dn z1)=s1 at *;generalize nC Co.S (dn z2)=s2 at *;generalize nC Co.R (dn z1)=r1 at *;generalize nC Co.R (dn z2)=r2 at *
  grind
 .
  have h1:=(mv z1 z2 e .S ez).2;have hl:0<B:=by omega
  rw[ez];simp only[xG,xH,hc,ind]at h1 ⊢
  simp at h1 ⊢
  generalize nC Co.S (dn z1)=s1 at *;generalize nC Co.S (dn z2)=s2 at *;generalize nC Co.R (dn z1)=r1 at *;generalize nC Co.R (dn z2)=r2 at *;have h1:=h1 (by grind)
  grind
theorem best{z:List El}(h:0<V (dn z)):∃y,xm y=xm z/\0<V (dn y)/\Opt y:=by
 obtain⟨y,hy,hm⟩:=Lj (W (z.length+2)) (cols (xm z)) (λe=>by have:=jz z;rw[e]at this;cases this)
 have ex:=xF _ _ hy;have el:y.length=z.length:=by have:=congrArg List.length ex;simpa [xm]using this
 have o:=Ri (B:=z.length+2) (z:=y) (by omega) (λw hw=>hm w (by rw[<- ex,<- hw];exact jz w))
 refine⟨y,ex,?_,o⟩;have h1:=hm z (jz z);unfold W at h1;have l1:=fL (cD .S) y;have l2:=fL (cD .T) z;have m1:=bO (cD .S) z;have m2:=bO (cD .T) y;change nC .S y<=_ at l1;change nC .T z<=_ at l2;change 0<=nC .S z at m1;change 0<=nC .T y at m2;generalize V (dn y)=v' at *;generalize V (dn z)=v at *;generalize nC .S y=a at *;generalize nC .T y=b at *;generalize nC .S z=c at *;generalize nC .T z=d at *;rw[el]at l1;generalize hL:(z.length:Int)+2=B at *;have hb:a * B<=(B - 2) * B:=nS (by omega) (by omega)
 have hb':0<=c * B:=wP (by omega) (by omega)
 refine Int.not_le.1 λhv=>?_
 have hv2:v' * (B * B)<=0:=Int.mul_nonpos_of_nonpos_of_nonneg hv (wP (by omega) (by omega))
 have hv3:1 * (B * B)<=v * (B * B):=nS (by omega) (wP (by omega) (by omega))
 grind
end Eg
namespace Eg
noncomputable def up:Nat->List El->List El
 |_,[]=>[]
 | 0,e::z=>⟨e.x,false,e.c⟩::up 0 z
 |n+1,e::z=>⟨e.x+1,true,e.c⟩::up n z
theorem Z3(n z):V (dn (up n z))=V z:=by
 have h1:∀k n z,nC k (up n z)=nC k z:=λk n z=>by
  induction z generalizing n with
  |nil=>simp[up]
  |cons e z ih=>cases n <;> simp only[up,nC,cn,cD]at * <;> rw[ih]
 have h2:∀k n z,sC k (dn (up n z))=sC k z:=λk n z=>by
  induction z generalizing n with
  |nil=>simp[up,dn]
  |cons e z ih=>
   cases n with
   |zero=>have:=ih 0;simp only[up,sC,sm,cD,dn,List.map_cons]at *;rw[this];simp[ind]
   |succ n=>have:=ih n;simp only[up,sC,sm,cD,dn,List.map_cons]at *;rw[this];simp[ind]
 simp only[V,h2,Ec,h1]
theorem Rj:∀n z l,z.map El.x=dec n l->(up n z).map El.x=l
 |n,[],l,h=>by cases l <;> cases n <;> simp[dec]at h <;> rfl
 | 0,e::z,l,h=>by
  rw[J3]at h;subst h;have:=Rj 0 z (z.map El.x) (by rw[J3])
  simp[up,this]
 |n+1,e::z,[],h=>by simp[dec]at h
 |n+1,e::z,x::l,h=>by
  simp[dec]at h;have:=Rj n z l h.2;simp[up,this];omega
theorem Rk:∀n z,n<=z.length->cn (λm _=>m) (up n z)=n
 | 0,[],_=>by simp[up,cn]
 | 0,e::z,_=>by have:=Rk 0 z (AM _);simp[up,cn,ind]at *;exact this
 |n+1,e::z,h=>by have:=Rk n z (by simpa using h);simp[up,cn,ind]at *;omega
theorem up0:∀z,∀e∈up 0 z,e.m=false
 | [],e,h=>by simp[up]at h
 |e'::z,e,h=>by
  simp[up]at h;rcases h with h |h
  . subst h;rfl
  . exact up0 z e h
theorem Ed:∀n z,((up n z).map El.x).Pairwise (· ≥ ·)->∀e∈up n z,∀e'∈up n z,e.m=true->e'.m=false->e'.x<=e.x
 |n,[],_,e,h,_,_,_,_=>by simp[up]at h
 | 0,e0::z,_,e,h,e',h',hm,_=>by have:=up0 _ e h;rw[this]at hm;cases hm
 |n+1,e0::z,hp,e,h,e',h',hm,hm'=>by
  simp[up]at h h' hp;rcases h' with h' |h'
  . subst h';cases hm'
  .
   rcases h with h |h
   . subst h;exact hp.1 e' h'
   . exact Ed n z hp.2 e h e' h' hm hm'
theorem xJ:∀z:List El,(z.map El.x).sum=sC .S z+sC .T z+sC .R z
 | []=>rfl
 |⟨x,m,c⟩::z=>by
  have:=xJ z;simp only[List.map_cons,vS,sC,sm,cD]at *;rw[this];cases c <;> simp <;> omega
theorem Wg{p:Bool->Bool}{y z:List El}(h:xm y=xm z):cn (λm _=>p m) y=cn (λm _=>p m) z:=by
 induction y generalizing z with
 |nil=>cases z with |nil=>rfl |cons=>simp[xm]at h
 |cons e y ih=>cases z with
  |nil=>simp[xm]at h
  |cons e' z=>simp[xm]at h;simp only[cn];rw[ih (z:=z) (by simpa [xm]using h.2),h.1.2]
theorem Z4{y z:List El}(h:xm y=xm z):y.map El.x=z.map El.x:=by have:=congrArg (List.map Prod.fst) h;simpa [xm,Function.comp_def]using this
theorem Ef{y z:List El}(h:xm y=xm z){e:El}(he:e∈y):∃e'∈z,e'.x=e.x/\e'.m=e.m:=by
 have:(e.x,e.m)∈xm z:=by rw[<- h];exact i7.2 ⟨e,he,rfl⟩
 obtain⟨e',h1,h2⟩:=i7.1 this;simp at h2;exact⟨e',h1,h2.1,h2.2⟩
noncomputable def sw(p:Bool->Co->Bool)(k:Co)(m:Bool)(c:Co):Co:=if p m c then k else c
theorem iz(h k z):nC k (rec' h z)=ind (decide (h true .S=k)) * cn (cl true .S) z+ind (decide (h true .T=k)) * cn (cl true .T) z+ind (decide (h true .R=k)) * cn (cl true .R) z+ind (decide (h false .S=k)) * cn (cl false .S) z+ind (decide (h false .T=k)) * cn (cl false .T) z+ind (decide (h false .R=k)) * cn (cl false .R) z:=by unfold nC;rw[Ea,rG];rfl
theorem iA(h k z):sC k (rec' h z)=ind (decide (h true .S=k)) * sm (cl true .S) z+ind (decide (h true .T=k)) * sm (cl true .T) z+ind (decide (h true .R=k)) * sm (cl true .R) z+ind (decide (h false .S=k)) * sm (cl false .S) z+ind (decide (h false .T=k)) * sm (cl false .T) z+ind (decide (h false .R=k)) * sm (cl false .R) z:=by unfold sC;rw[Eb,vQ];rfl
theorem bV{f:Nat}{l: ~~~0}(hs:((f:Int)::l).Pairwise (· ≥ ·))(hf:f<=l.length)(hG:G ((f:Int)::l))(he:((f:Int)+l.sum) % 2=0):G (dec f l):=by
 intro z0 hz0;refine CF.1 λjC=>?_
 have Z5:(up f z0).map El.x=l:=Rj _ _ _ hz0;have aV:z0.length=l.length:=by
  have h1:∀n (l: ~~~0),(dec n l).length=l.length:=λn l=>by induction l generalizing n with |nil=>cases n <;> rfl |cons x l ih=>cases n <;> simp[dec,ih]
  have:=congrArg List.length hz0;rw[h1]at this;simpa using this
 obtain⟨y,hy,hv,o⟩:=best (z:=up f z0) (by rw[Z3];exact jC)
 have hyl:y.map El.x=l:=by rw[Z4 hy,Z5]
 have hm:cn (λm _=>m) y=f:=by have:=Wg (p:=id) hy;simp only[id]at this;rw[this];exact Rk f z0 (by omega)
 have hord:∀e∈y,∀e'∈y,e.m=true->e'.m=false->e'.x<=e.x:=λe h e' h' hm hm'=>by
  obtain⟨w,hw,e1,e2⟩:=Ef hy h;obtain⟨w',hw',e1',KD⟩:=Ef hy h';have:=Ed f z0 (by rw[Z5];exact (lL.1 hs).2) w hw w' hw' (by rw[e2];exact hm) (by rw[KD];exact hm')
  omega
 have hg:∀(h:Bool->Co->Co) (k:Co),V (⟨(f:Int),false,k⟩::rec' h y)<=0:=λh k=>hG _ (by simp[Wa,hyl])
 clear hy Z5 hz0 jC hG;rw[Wc]at hv;rw[Li]at hm;have hsum:=xJ y;rw[hyl]at hsum;rw[hsum]at he;have eS:=xE .S y;have eR:=xE .R y;have sS:=Lh .S y;have sT:=Lh .T y;have p1:=bO (cl true .S) y;have p2:=bO (cl true .T) y;have p3:=bO (cl true .R) y;have p4:=bO (cl false .S) y;have p6:=bO (cl false .R) y;have hcls:∀(b:Bool) (k:Co) (e:El),cl b k e.m e.c=true->e.m=b/\e.c=k:=λb k e h=>by simpa [cl]using h
 have Rl:∀k,V (⟨(f:Int),false,k⟩::y)<=0:=λk=>by have:=hg (λ_ c=>c) k;rwa [show rec' (λ_ c=>c) y=y by simp[rec']]at this
 have pX:0<nC .R y->2<=nC .R y:=λh=>by
  obtain⟨e,he,hc⟩:=j6 _ y h;have:=o.R e he (by simpa [cD]using hc)
  omega
 by_cases hA:cn (cl false .S) y=0
 .
  by_cases hb:cn (cl true .T) y=0
  .
   have h1:=Rl .R;rw[Wd]at h1
   grind
  ·
   obtain⟨j,hj,Xw⟩:=j6 (cl true .T) y (by omega)
   obtain⟨jm,jc⟩:=hcls _ _ _ Xw;have hjx:=o.T j hj jc;have hR:∀e∈y,cl false .R e.m e.c=true->e.x=nC .S y:=λe h hc=>by
    obtain⟨em,ec⟩:=hcls _ _ _ hc;have h1:=(o.R e h ec).1;have h2:=hord j hj e h jm em;rw[em]at h1;rw[jm]at hjx;simp[ind]at h1 hjx;omega
   have hq:=nJ _ _ y hR;have h1:=hg (sw (cl false .R) .T) .S;rw[Z2,iz,iz,iA,iA]at h1;simp[sw,cl,ind]at h1;clear hg Rl hord o hR pX hcls hjx hj Xw;have e0:nC .S y=cn (cl true .S) y:=by omega
   rw[hA,Int.add_zero]at h1;rw[e0]at hq hv;rw[eR]at hv;have e1:∀a c c':Int,a * (a - 1+(c+c'))=a * a - a+a * c+a * c':=λa c c'=>by grind
   have e2:∀a c:Int,(a+1) * (a+c)=a * a+a * c+a+c:=λa c=>by grind
   rw[e1]at hv;rw[e2]at h1;omega
 .
  obtain⟨i,hi,hic⟩:=j6 (cl false .S) y (by omega)
  obtain⟨im,ic⟩:=hcls _ _ _ hic;have hix:=o.S i hi ic;rw[im]at hix;simp[ind]at hix;by_cases hb:cn (cl true .T) y=0
  .
   by_cases hc:cn (cl true .R) y=0
   .
    have h1:=Rl .T;rw[V_T]at h1
    grind
   .
    obtain⟨r,hr,hrc⟩:=j6 (cl true .R) y (by omega)
    obtain⟨rm,rc⟩:=hcls _ _ _ hrc;have Z6:=(o.R r hr rc).2;rw[rm]at Z6;simp[ind]at Z6;have hS:∀e∈y,cl false .S e.m e.c=true->e.x=nC .S y+nC .R y - 1:=λe h hc=>by
     obtain⟨em,ec⟩:=hcls _ _ _ hc;have h1:=o.S e h ec;have h2:=hord r hr e h rm em;rw[em]at h1;simp[ind]at h1;omega
    have hq:=nJ _ _ y hS;have h1:=hg (sw (cl false .S) .R) .R;rw[Wd,iz,iz,iA,iA]at h1;simp[sw,cl,ind]at h1;clear hg Rl hord o hS pX hcls Z6 hr hrc hix hi hic;rw[eS,eR]at hv hq;have e1:∀a a' c c':Int,(a+a') * (a+a' - 1+(c+c'))=a * (a+(c+a'+c')) - a+(a+a'+(c+c') - 1) * a':=λa a' c c'=>by grind
    rw[e1]at hv;omega
  .
   obtain⟨j,hj,Xw⟩:=j6 (cl true .T) y (by omega)
   obtain⟨jm,jc⟩:=hcls _ _ _ Xw;have hjx:=o.T j hj jc;rw[jm]at hjx;simp[ind]at hjx;have hij:=hord j hj i hi jm im;have r0:nC .R y=0:=by
    have:=bO (cD .R) y;change 0<=nC .R y at this;refine Decidable.byContradiction λhn=>?_
    have:=pX (by omega)
    omega
   have c1:cn (cl true .R) y=0:=by omega
   have c2:cn (cl false .R) y=0:=by omega
   have sR:sC .R y=0:=by
    have h1:=nJ (cD .R) 0 y (λe h hc=>by
     have:0<cn (cD .R) y:=by obtain⟨z1,z2,ez⟩:=List.append_of_mem h;rw[ez,rF,cn,hc];have:=bO (cD .R) z1;have:=bO (cD .R) z2;simp[ind];omega
     change 0<nC .R y at this;omega)
    rw[Int.zero_mul]at h1;exact h1
   have par:sC .S y - sC .T y - nC .S y * (nC .S y - 1) ≥ cn (cl true .S) y - cn (cl true .T) y+2:=by
    have h2:(nC .S y * (nC .S y - 1)) % 2=0:=by
     have:∀x:Int,(x * (x - 1)) % 2=0:=λx=>by
      rcases Int.emod_two_eq x with h |h <;> rw[Int.mul_emod,Int.sub_emod,h] <;> rfl
     exact this _
    rw[r0]at hv;rw[sR]at he;simp only[Int.add_zero]at hv;generalize nC .S y * (nC .S y - 1)=w at *;omega
   by_cases hall:∀e∈y,cl true .T e.m e.c=true->e.x=nC .S y
   .
    have hq:=nJ _ _ y hall;have hS:=Lf (cl false .S) (nC .S y) y (λe h hc=>by
     obtain⟨em,ec⟩:=hcls _ _ _ hc;have h2:=hord j hj e h jm em;omega)
    have h1:=hg (λm c=>if cl false .S m c||cl true .T m c then .R else c) .R
    rw[Wd,iz,iz,iA,iA]at h1;simp[cl,ind]at h1;have hp:0<=(cn (cl false .S) y - 1) * (cn (cl true .T) y - 1):=wP (by omega) (by omega)
    clear hg Rl hord o pX hcls hall he hv;rw[c1,c2]at h1;rw[eS]at hS hq par;rw[sS,sT]at par
    grind
   .
    simp only[Classical.not_forall]at hall;obtain⟨j',hj',Z7,jD⟩:=hall;obtain⟨jm',jc'⟩:=hcls _ _ _ Z7;have Wh:=o.T j' hj' jc';rw[jm']at Wh;simp[ind]at Wh;have hS:∀e∈y,cl false .S e.m e.c=true->e.x=nC .S y - 1:=λe h hc=>by
     obtain⟨em,ec⟩:=hcls _ _ _ hc;have h1:=o.S e h ec;have h2:=hord j' hj' e h jm' em;rw[em]at h1;simp[ind]at h1;omega
    have hq:=nJ _ _ y hS;have hT:=Lg (cl true .T) (nC .S y - 1) y (λe h hc=>by
     obtain⟨em,ec⟩:=hcls _ _ _ hc;have h2:=hord e h i hi em im;have:=hS i hi hic;omega)
    by_cases h2:cn (cl false .S) y=1
    .
     have h1:=hg (sw (cl false .S) .R) .S;rw[Z2,iz,iz,iA,iA]at h1;simp[sw,cl,ind]at h1;clear hg Rl hord o pX hcls he hv hS;rw[c1,c2,h2]at h1;rw[eS,h2]at hq par;rw[sS,sT]at par
     grind
    .
     have h1:=hg (λm c=>if cl false .S m c||cl true .T m c then .R else c) .R
     rw[Wd,iz,iz,iA,iA]at h1;simp[cl,ind]at h1;have hp:0<=(cn (cl false .S) y - 2) * cn (cl true .T) y:=wP (by omega) (by omega)
     clear hg Rl hord o pX hcls he hv hS;rw[c1,c2]at h1;rw[eS]at hT hq par;rw[sS,sT]at par
     grind
end Eg
namespace Eg
def mn(k:Int)(x:Int):Int:=if x<k then x else k
def much(d: ~~~0)(k:Nat):Prop:=(d.take k).sum > (k:Int) * ((k:Int) - 1)+((d.drop k).map (mn k)).sum
theorem pY(g:Int->Int)(hg:∀x y,x<=y->g x<=g y):∀(z:List El),(z.map El.x).Pairwise (· ≥ ·)->∀n:Nat,cn (cD .S) z=n->sm (cD .S) (z.map λe=>⟨g e.x,e.m,e.c⟩)<=(((z.map El.x).take n).map g).sum
 | [],_,n,h=>by simp[sm]
 |⟨x,m,c⟩::z,hp,n,h=>by
  simp only[List.map_cons,lL]at hp;have ih:=pY g hg z hp.2;by_cases hc:c=.S
  .
   subst hc;simp[cn,cD,ind]at h
   match n,h with
   | 0,h=>have:=bO (cD .S) z;omega
   |n+1,h=>
    have:=ih n (by push_cast at h;omega)
    simp only[List.map_cons,sm,cD,decide_true,AT,Cc,vS];simpa [cD]using this
  .
   have h':cn (cD .S) z=n:=by simpa [cn,cD,ind,hc]using h
   have:=ih n h';have e0:sm (cD .S) (List.map (λe=>(⟨g e.x,e.m,e.c⟩:El)) (⟨x,m,c⟩::z))=sm (cD .S) (z.map λe=>⟨g e.x,e.m,e.c⟩):=by simp[sm,cD,hc]
   rw[e0];refine BM this ?_;have step:∀(l: ~~~0) (x:Int) (n:Nat),(x::l).Pairwise (· ≥ ·)->n<=l.length->((l.take n).map g).sum<=(((x::l).take n).map g).sum:=λl x n=>by
    induction l generalizing x n with
    |nil=>intro _ h;simp at h;subst h;simp
    |cons y l ih=>
     intro hp hn;cases n with
     |zero=>simp
     |succ n=>
      simp only[Cc,List.map_cons,vS];simp only[lL]at hp;have h1:=ih y n (lL.2 hp.2) (by simpa using hn)
      have h2:=hg y x (hp.1 y (dA ..));omega
   have hl:=fL (cD .S) z;refine step (z.map El.x) x n (lL.2 hp) ?_;simp;omega
theorem Z8{d: ~~~0}(hs:d.Pairwise (· ≥ ·))(h:∀k:Nat,k<=d.length->¬ much d k):G d:=by
 intro z hz;obtain⟨n,hn⟩:∃n:Nat,nC .S z=n:=⟨(nC .S z).toNat,by have:=bO (cD .S) z;change 0<=nC .S z at this;omega⟩
 have hl:(n:Int)<=d.length:=by rw[<- hn,<- hz];have:=fL (cD .S) z;change nC .S z<=_ at this;simpa using this
 have hk:=h n (by omega)
 have hmono:∀x y:Int,x<=y->x+mn n x<=y+mn n y:=λx y hxy=>by simp only[mn];split <;> split <;> omega
 have h1:=pY (λx=>x+mn n x) hmono z (by rw[hz];exact hs) n hn
 rw[hz]at h1;have h2:∀z:List El,sC .S z - sC .T z - n * nC .R z<=sm (cD .S) (z.map λe=>⟨e.x+mn n e.x,e.m,e.c⟩) - ((z.map El.x).map (mn n)).sum:=λz=>by
  induction z with
  |nil=>simp[sC,sm,nC,cn]
  |cons e z ih=>
   obtain⟨x,m,c⟩:=e;simp only[sC,sm,nC,cn,List.map_cons,vS,cD,ind]at *;have hm:mn n x<=x/\mn n x<=n:=by simp only[mn];split <;> omega
   cases c <;> simp at * <;> grind
 have h3:=h2 z;rw[hz]at h3;have h4:(d.map (mn n)).sum=((d.take n).map (mn n)).sum+((d.drop n).map (mn n)).sum:=by rw[<- List.sum_append,<- List.map_append,BH]
 have h5:∀l:List Int,(l.map λx=>x+mn n x).sum=l.sum+(l.map (mn n)).sum:=λl=>by induction l with |nil=>rfl |cons x l ih=>simp only[List.map_cons,vS,ih];omega
 rw[h5]at h1;simp only[much,CF]at hk;simp only[V];rw[hn]at *;have e1:(n:Int) * ((n:Int) - 1+nC .R z)=n * (n - 1)+n * nC .R z:=by grind
 rw[e1];omega
noncomputable def pre(k:Int):Nat->~~~0->List El
 |_,[]=>[]
 | 0,x::l=>⟨x,false,if x<k then .T else .R⟩::pre k 0 l
 |n+1,x::l=>⟨x,false,.S⟩::pre k n l
theorem Eh(k):∀n l,(pre k n l).map El.x=l
 |n,[]=>by simp[pre]
 | 0,x::l=>by simp[pre,Eh k 0 l]
 |n+1,x::l=>by simp[pre,Eh k n l]
theorem Ei(k):∀n l,n<=l.length->nC .S (pre k n l)=n/\sC .S (pre k n l)=(l.take n).sum/\sC .T (pre k n l)+k * nC .R (pre k n l)=((l.drop n).map (mn k)).sum
 | 0,[],_=>by simp[pre,nC,sC,cn,sm]
 | 0,x::l,_=>by
  obtain⟨h1,h2,h3⟩:=Ei k 0 l (AM _);simp only[pre,nC,sC,cn,sm,cD,ind]at *;by_cases hx:x<k <;> simp[hx,mn]at * <;> refine⟨h1,h2,?_⟩ <;> grind
 |n+1,x::l,h=>by
  obtain⟨h1,h2,h3⟩:=Ei k n l (by simpa using h)
  simp only[pre,nC,sC,cn,sm,cD,ind]at *;simp at *;refine⟨by omega,by omega,h3⟩
theorem Wi{d: ~~~0}(h:G d)(k:Nat)(hk:k<=d.length) : ¬ much d k:=by
 have h1:=h _ (Eh k k d);obtain⟨a,b,c⟩:=Ei k k d hk;simp only[V,a,b]at h1;simp only[much,CF];have e1:(k:Int) * ((k:Int) - 1+nC .R (pre k k d))=k * (k - 1)+k * nC .R (pre k k d):=by grind
 rw[e1]at h1;omega
theorem Ej{d d': ~~~0}(h:d.Perm d')(hG:G d):G d':=by
 have key:∀z':List El,z'.map El.x=d'->∃z:List El,z.map El.x=d/\z.Perm z':=by
  clear hG
  induction h with
  |nil=>intro z' hz;exact⟨[],rfl,by simp at hz;subst hz;exact .nil⟩
  |cons x _ ih=>
   intro z' hz
   match z',hz with
   |e::z',hz=>simp at hz;obtain⟨z,h1,h2⟩:=ih z' hz.2;exact⟨e::z,by simp[h1,hz.1],h2.cons e⟩
  |swap x y l=>
   intro z' hz
   match z',hz with
   |e::e'::z',hz=>simp at hz;exact⟨e'::e::z',by simp[hz],.swap ..⟩
  |trans _ _ ih1 ih2=>intro z' hz;obtain⟨z,h1,h2⟩:=ih2 z' hz;obtain⟨y,h3,h4⟩:=ih1 z h1;exact⟨y,h3,h4.trans h2⟩
 have hc:∀p (z z':List El),z.Perm z'->cn p z=cn p z'/\sm p z=sm p z':=λp z z' h=>by
  induction h with
  |nil=>exact⟨rfl,rfl⟩
  |cons x _ ih=>simp only[cn,sm];omega
  |swap x y l=>simp only[cn,sm];omega
  |trans _ _ ih1 ih2=>omega
 intro z' hz;obtain⟨z,h1,h2⟩:=key z' hz;have:=hG z h1;simp only[V,sC,nC]at *;rw[(hc (cD .S) _ _ h2).1,(hc (cD .S) _ _ h2).2,(hc (cD .T) _ _ h2).2,(hc (cD .R) _ _ h2).1]at this;exact this
end Eg
namespace Eg
def laid(J4: ~~~0->~~~0):Nat->~~~0->Bool
 |_,[]=>true
 | 0,_::_=>false
 |n+1,f::r=>if f > 0 then (if f ≥ r.length+1 then false else if (dec f.toNat r).any (λx=>decide (x<0))then false else laid J4 n (J4 (dec f.toNat r)))else true
theorem rK:∀n (l: ~~~0),(dec n l).length=l.length
 |n,[]=>by cases n <;> rfl
 | 0,x::l=>rfl
 |n+1,x::l=>by simp[dec,rK n l]
theorem xK:∀n (l: ~~~0),n<=l.length->(dec n l).sum=l.sum - n
 | 0,[],_=>rfl
 | 0,x::l,_=>by simp[dec]
 |n+1,x::l,h=>by have:=xK n l (by simpa using h);simp[dec,this];omega
theorem Ek{a b: ~~~0}(h:a.Perm b):a.sum=b.sum:=by
 induction h with
 |nil=>rfl
 |cons x _ ih=>simp[ih]
 |swap x y l=>simp;omega
 |trans _ _ ih1 ih2=>rw[ih1,ih2]
theorem Em{d: ~~~0}(h:∀x∈d,x=0):G d:=by
 intro z hz;have h0:∀p,sm p z=0:=λp=>by
  have:=nJ p 0 z λe he _=>h e.x (by rw[<- hz];exact i7.2 ⟨e,he,rfl⟩)
  simpa using this
 simp only[V,sC,h0];have h1:=bO (cD .S) z;have h2:=bO (cD .R) z;change 0<=nC .S z at h1;change 0<=nC .R z at h2;by_cases hs:nC .S z=0
 . rw[hs];simp
 .
  have:=wP (a:=nC .S z) (b:=nC .S z - 1+nC .R z) (by omega) (by omega)
  omega
theorem xM{f:Nat}{l: ~~~0}(hs:l.Pairwise (· ≥ ·))(hn:∀x∈l,0<=x)(h:G ((f:Int)::l)):f<=l.length/\∀x∈dec f l,0<=x:=by
 have h1:=Wi h 1 ⋯;simp only[much,Cc,List.take_zero,List.drop_succ_cons,BC,vS,List.sum_nil,CF]at h1;simp at h1;have key:∀(l: ~~~0),l.Pairwise (· ≥ ·)->(∀x∈l,0<=x)->∀f:Nat,(f:Int)<=(l.map (mn 1)).sum->f<=l.length/\∀x∈dec f l,0<=x:=λl=>by
  induction l with
  |nil=>intro _ _ f h;simp at h;subst h;simp[dec]
  |cons x l ih=>
   intro hp hn f h;simp only[lL]at hp;cases f with
   |zero=>exact⟨AM _,by rw[J3];exact hn⟩
   |succ f=>
    simp only[List.map_cons,vS]at h;have hx:=hn x (dA ..);by_cases h0:x<1
    ·
     have hz:∀l:List Int,(∀y∈l,y=0)->(l.map (mn 1)).sum=0:=λl hl=>by
      induction l with
      |nil=>rfl
      |cons y l ih=>simp[hl y (dA ..),mn];exact ih λy hy=>hl y (b0 _ hy)
     have:=hz l λy hy=>by have h1:=hp.1 y hy;have h2:=hn y (b0 _ hy);omega
     rw[this]at h;simp[mn,h0]at h;omega
    .
     obtain⟨a,b⟩:=ih hp.2 (λy hy=>hn y (b0 _ hy)) f (by simp[mn,h0]at h;omega)
     refine⟨by simpa using a,?_⟩
     simp only[dec,dL];rintro y (rfl |hy)
     . omega
     . exact b y hy
 exact key l hs hn f h1
theorem ux(J4: ~~~0->~~~0)(h1:∀l,(J4 l).Perm l)(h2:∀l,(J4 l).Pairwise (· ≥ ·)):∀(n:Nat) (l: ~~~0),l.length<=n->l.Pairwise (· ≥ ·)->(∀x∈l,0<=x)->(laid J4 n l=true ↔ l.sum % 2=0/\G l)
 |n,[],_,_,_=>by
  have:laid J4 n []=true:=by cases n <;> rfl
  rw[this];exact⟨λ_=>⟨rfl,Em λx hx=>by cases hx⟩,λ_=>rfl⟩
 | 0,x::l,h,_,_=>by simp at h
 |n+1,x::r,h,hs,hn=>by
  have Z9:=lL.1 hs;have hx:=hn x (dA ..);simp only[laid];by_cases hf:x > 0
  .
   rw[i5 hf];obtain⟨f,rfl⟩:∃f:Nat,x=f:=⟨x.toNat,by omega⟩
   simp only[mM];by_cases hl:(f:Int) ≥ r.length+1
   .
    rw[i5 hl];refine⟨λh=>(by symm),λh=>?_⟩
    have:=(xM Z9.2 (λy hy=>hn y (b0 _ hy)) h.2).1
    omega
   .
    rw[gN hl];have hfl:f<=r.length:=by omega
    by_cases ha:(dec f r).any (λx=>decide (x<0))=true
    .
     rw[i5 ha];refine⟨λh=>(by symm),λh=>?_⟩
     have:=(xM Z9.2 (λy hy=>hn y (b0 _ hy)) h.2).2
     simp only[BO,eQ]at ha;obtain⟨y,hy,h0⟩:=ha;have:=this y hy;omega
    .
     rw[gN ha];have hnn:∀y∈dec f r,0<=y:=λy hy=>by
      simp only[BO,eQ,not_exists,not_and]at ha;have:=ha y hy;omega
     have ih:=ux J4 h1 h2 n (J4 (dec f r)) (by rw[(h1 _).length_eq,rK];simpa using h) (h2 _) (λy hy=>hnn y ((h1 _).mem_iff.1 hy))
     rw[ih,Ek (h1 _),xK f r hfl];simp only[vS];refine⟨λ⟨p,g⟩=>⟨by omega,Wf hfl (Ej (h1 _) g)⟩,λ⟨p,g⟩=>⟨by omega,Ej (h1 _).symm (bV hs hfl g p)⟩⟩
  .
   rw[gN hf];have hz:∀y∈x::r,y=0:=λy hy=>by
    have h0:=hn y hy;rcases dL.1 hy with e |hy
    . omega
    . have:=Z9.1 y hy;omega
   refine⟨λ_=>⟨?_,Em hz⟩,λ_=>rfl⟩
   have:∀l:List Int,(∀y∈l,y=0)->l.sum=0:=λl hl=>by
    induction l with
    |nil=>rfl
    |cons y l ih=>simp[hl y (dA ..)];exact ih λy hy=>hl y (b0 _ hy)
   rw[this _ hz];rfl
end Eg
namespace Ev
def aZ:PySem.Str:=PySem.Str.ofString "odd"
def aF:PySem.Str:=PySem.Str.ofString "much"
noncomputable def aU(ic ci:Nat):Fx:=⟨1,1,[(.ite (.not (.call ic [⇑0])) [(.raise ci (.val (.str (PySem.Str.ofString "no counts"))))] [])]⟩
noncomputable def eE(np:Nat):Fx:=⟨1,1,[(.ret (.cmp .Is (.call np [⇑0]) (.val .non)))]⟩
def bh(mu od wi mc:Nat):Fx:=⟨2,2,[(.expr (.call mu [⇑0])),(.ite (.not (.oq ⇑1 "tuple")) (~~~4) []),(.ite (.cmp .Eq ⇑1 (.tup [(.val (.str aZ))])) [(.ret (.call od [⇑0]))] []),(.ite (.or [(.cmp .NotEq (.blt .len [⇑1]) ↥2),(.cmp .NotEq (.ix ⇑1 ↥0) (.val (.str aF)))]) (~~~4) []),(.ret (.and [(.call wi [(.ix ⇑1 ↥1),↥1,(.blt .len [⇑0])]),(.call mc [⇑0,(.ix ⇑1 ↥1)])]))]⟩
noncomputable def oz:Fx:=⟨1,1,[(.ret (.cmp .Eq (.bin .Mod (.blt .sum [⇑0]) ↥2) ↥1))]⟩
def jA:Fx:=⟨2,3,[(.setC 2 (.comp 3 2 (.nm 4) (.slice ⇑0 (some ⇑1) none) none (.blt .min [⇑4,⇑1]))),(.ret (.cmp .Gt (.blt .sum [(.slice ⇑0 none (some ⇑1))]) (.bin .Add (.bin .Mult ⇑1 (.bin .Sub ⇑1 ↥1)) (.blt .sum [⇑2]))))]⟩
def cZ(mu od mc:Nat):Fx:=⟨1,2,[(.expr (.call mu [⇑0])),(.ite (.call od [⇑0]) [(.ret (.tup [(.val (.str aZ))]))] []),(.setC 1 (.comp 2 2 (.nm 3) (.dM ↥1 (.bin .Add (.blt .len [⇑0]) ↥1)) (some (.call mc [⇑0,⇑3])) ⇑3)),(.ret (.ite ⇑1 (.tup [(.val (.str aF)),(.ix ⇑1 ↥0)]) (.val .non)))]⟩
def aE(w:Nat):Fx:=⟨2,5,[(.ite (.or [(.not (.oq ⇑1 "tuple")),(.cmp .Eq (.blt .len [⇑1]) ↥0),(.not (.oq (.ix ⇑1 ↥0) "str"))]) (~~~4) []),(.ite (.cmp .Eq (.ix ⇑1 ↥0) (.val (.str aZ))) [(.ret (.and [(.cmp .Eq (.blt .len [⇑1]) ↥1),(.cmp .Eq (.bin .Mod (.blt .sum [⇑0]) ↥2) ↥1)]))] []),(.ite (.or [(.cmp .NotEq (.ix ⇑1 ↥0) (.val (.str aF))),(.cmp .NotEq (.blt .len [⇑1]) ↥2),(.not (.call w [(.ix ⇑1 ↥1)])),(.not (.chain ↥1 [.LtE,.LtE] [(.ix ⇑1 ↥1),(.blt .len [⇑0])]))]) (~~~4) []),(.set 2 (.ix ⇑1 ↥1)),(.set 3 (.bin .Mult ⇑2 (.bin .Sub ⇑2 ↥1))),(.loop (.nm 4) (.slice ⇑0 (some ⇑2) none) [(.set 3 (.bin .Add ⇑3 (.blt .min [⇑4,⇑2])))]),(.ret (.cmp .Gt (.blt .sum [(.slice ⇑0 none (some ⇑2))]) ⇑3))]⟩
def oA(t: ~~~0):Bool:=decide (t.sum % 2=1)
noncomputable def dm(t: ~~~0)(k:Nat):Bool:=decide ((t.take k).sum > (k:Int) * ((k:Int) - 1)+((t.drop k).map λx=>if (k:Int)<x then (k:Int)else x).sum)
structure Kt(t: ~~~0):Prop where
 l1:1<=t.length
 l2:t.length<=12
 r:r9 t.length t
 s:t.Pairwise (· ≥ ·)
theorem Kt.is{t: ~~~0}(h:Kt t):jx (~~~t)=true:=by
 rw[rC ⟨by simpa using h.l1,by simpa using h.l2⟩,ints_map]
 simp only[eP];refine⟨oD.mpr λx hx=>?_,(rD t).mpr h.s⟩
 obtain⟨y,hy,rfl⟩:=i7.mp hx;rw[fR];exact nK (h.r.2 y hy)
theorem En(t: ~~~0)(k:Nat)(h:k<=t.length):dJ (t.map D.int) (some (k:Int)) none=(t.drop k).map .int:=by unfold dJ;rw[HT.wg,HT.sE,fR,Nat.min_eq_left h,<- List.map_drop,A9 ⋯]
theorem Eo(t: ~~~0)(k:Nat)(h:k<=t.length):dJ (t.map D.int) none (some (k:Int))=(t.take k).map .int:=by unfold dJ;rw[HT.wg,HT.sE,fR,Nat.min_eq_left h,BC,Nat.sub_zero,<- List.map_take]
theorem Rm{rn:Rn}{bor:List Nat}{k:Nat}{e:Ex}{g:G}(h:rn.x bor k e g=none):eL rn bor k [.ret e] g=none:=by simp only[eL,iI,h,aD];cases rn.e bor k e g <;> rfl
section
variable{k n:Nat}{g g1:G}{rn:Nat->Rn}{fns:List Fx}(U:lg fns rn)
include U
theorem Ep(t: ~~~0):bF (rn (n+10)) k oz [~~~t]=some (.dat (.bl (oA t))):=by unfold bF oz oA;simp! [U,ju]
theorem zq(t a b: ~~~0)(v m:Int)(o:∀n k,bS (rn (n+10)) [] k 3 2 (.nm 4) (.slice ⇑0 (some ⇑1) none) none (.blt .min [⇑4,⇑1]) [.dat (~~~t),‹v›,.no]=some (a.map .int,[.dat (~~~t),‹v›,.no]))(c:dJ (t.map D.int) none (some v)=b.map .int)(mu:mU .Mult (.int v) (.int (v - 1))=some ‹m›):bF (rn (n+20)) k jA [~~~t,.int v]=some (.dat (.bl (decide (b.sum > m+a.sum)))):=by unfold bF jA;simp! [U,o,kG,c,mu]
theorem Er(t: ~~~0)(h:t.length<=12)(v:Int)(l: ~~~0)(hl:dJ (t.map D.int) (some v) none=l.map .int)(hl2:l.length<=12):∀n k,bS (rn (n+10)) [] k 3 2 (.nm 4) (.slice ⇑0 (some ⇑1) none) none (.blt .min [⇑4,⇑1]) [.dat (~~~t),‹v›,.no]=some ((l.map λx=>if v<x then v else x).map .int,[.dat (~~~t),‹v›,.no]):=λn k=>by
 rw[List.map_map];refine nu (rn:=rn (n+10)) (bor:=[]) (k:=k) (g:=[.dat (~~~t),‹v›,.no]) (g1:=[.dat (~~~t),‹v›,.no]) (kk:=2) (nn:=3) (j:=4) l (λx=>D.int x) _ ?_ rfl ⋯ ⋯ ⋯ (aq _ ⋯) λa _ G' hG=>?_
 . simp! [U,fS,kG,hl]
 . have h1:G'[1]?=some ‹v›:=hG.1 1 ⋯;have h4:=hG.2;simp! [U,h1,h4]
theorem xN(t: ~~~0)(h:Kt t)(j:Nat)(h1:1<=j)(h2:j<=t.length):bF (rn (n+20)) k jA [~~~t,.int j]=some (.dat (.bl (dm t j))):=by have hl:=h.l2;exact zq U t _ _ (j:Int) _ (Er U t hl j (t.drop j) (En t j h2) (by simp;lia)) (Eo t j h2) (fJ (j:Int) ((j:Int) - 1) (.inl ⟨by lia,by lia⟩))
def oB(s:PySem.Str):D->Bool
 |.str r=>decide (r=s)
 |_=>false
def Lk(t: ~~~0):D->Bool
 |.int i=>dm t i.toNat
 |_=>false
def aL(t: ~~~0):D->Bool
 |.tup l=>(match l with
  | [x]=>oB aZ x&&oA t
  | [x,y]=>oB aF x&&(nF 1 t.length y&&Lk t y)
  |_=>false)
 |_=>false
structure Ro(d:D):Prop where
 o:∀l,d=.tup l->eV .Eq d (.tup [.str aZ])=some (eG d (.tup [.str aZ]))
 h:∀x l,d=.tup (x::l)->eV .Eq x (.str aZ)=some (oB aZ x)/\eV .NotEq x (.str aF)=some (!oB aF x)
variable{w wi fa ic mu od mc ci:Nat}(hW:fns[w]?=some aR)(hI:fns[wi]?=some (bN w))(hF:fns[fa]?=some iu)(hC:fns[ic]?=some (aK wi fa))
include hW hI hF hC
theorem pZ(t: ~~~0)(h:Kt t):bF (rn (n+50)) (k+3) (aU ic ci) [~~~t]=some (.dat .non):=by
 have q:=λn k=>kL U hW hI hF (n:=n) (k:=k) (~~~t) (show (t.map D.int).length<=40 by rw[fR];have:=h.l2;lia)
 rw[h.is]at q;unfold bF aU;simp! [U,hC,aG (fx:=aK wi fa) rfl,q]
theorem zu(d:D)(hd:Gf d):um (rn (n+40)) (k+2) (aK wi fa) [d]=none:=by
 cases d with
 |tup l=>
  by_cases c1:(1:Int)<=l.length
  .
   by_cases c2:(l.length:Int)<=12
   .
    unfold um aK;have e1:aD (rn (n+39)) [] (k+2) (.ite (.or [(.not (.oq ⇑0 "tuple")),(.not (.chain ↥1 [.LtE,.LtE] [(.blt .len [⇑0]),↥12]))]) (~~~4) []) [.dat (.tup l)]=some (.nx,[.dat (.tup l)]):=by simp! [U,c1,c2]
    have e2:iI (rn (n+39)) [] (k+2) (.ite (.or [(.not (.oq ⇑0 "tuple")),(.not (.chain ↥1 [.LtE,.LtE] [(.blt .len [⇑0]),↥12]))]) (~~~4) []) [.dat (.tup l)]=none:=by simp! [U,c1,c2]
    simp only[U.xb,Dw,cP,i3,List.length_nil,Nat.reduceAdd,Nat.reduceSub,List.replicate,mI];rw[eL,e2];dsimp only;rw[e1];dsimp only;rw[Rm (by simp only[U.x,pJ])]
   . unfold um aK;simp! [U,c1,c2]
  . unfold um aK;simp! [U,c1]
 |_=>unfold um aK;simp! [U,dN,kX]
theorem uy(d:D)(hd:Gf d)(h:jx d=false):um (rn (n+50)) (k+3) (aU ic ci) [d]=some ci:=by
 have q:=λn k=>kL U hW hI hF (n:=n) (k:=k) d hd
 have q':=λn k=>zu U hW hI hF hC (n:=n) (k:=k) d hd
 rw[h]at q;unfold um aU;simp! [U,hC,aG (fx:=aK wi fa) rfl,gK (fx:=aK wi fa) rfl,q,q']
end
theorem Rp(s:PySem.Str)(x:D):eG x (.str s)=oB s x:=by cases x <;> rfl
theorem xO{s:PySem.Str}{x:D}(h:oB s x=true):x=.str s:=by
 cases x with
 |str r=>rw[i8 (show decide (r=s)=true from h)]
 |_=>symm
theorem j7(a:D)(l:List D)(b:D)(m:List D):dI (a::l) (b::m)=(eG a b&&dI l m):=rfl
theorem xP{lo hi:Int}{y:D}(h:nF lo hi y=true):∃i:Int,y=.int i/\lo<=i/\i<=hi:=by
 cases y with
 |int i=>exact⟨i,rfl,i8 (show decide (lo<=i/\i<=hi)=true from h)⟩
 |_=>symm
section
variable{k n:Nat}{g g1:G}{rn:Nat->Rn}{fns:List Fx}(U:lg fns rn){w wi fa ic mu od mc ci:Nat}(hW:fns[w]?=some aR)(hI:fns[wi]?=some (bN w))(hF:fns[fa]?=some iu)(hC:fns[ic]?=some (aK wi fa))(hM:fns[mu]?=some (aU ic ci))(hO:fns[od]?=some oz)(hB:fns[mc]?=some jA)
include U hW hI hF hC hM hO hB
theorem vU(t: ~~~0)(h:Kt t)(d:D)(hd:Ro d):bF (rn (n+70)) (k+4) (bh mu od wi mc) [~~~t,d]=some (.dat (.bl (aL t d))):=by
 have l1:=aq 1 ⋯;have q1:=λn k=>pZ U hW hI hF hC (ci:=ci) (n:=n) (k:=k) t h
 have q2:=λn k=>Ep U (n:=n) (k:=k) t
 have q3:=λn k d=>pU U hW (n:=n) (k:=k) d 1 t.length
 cases d with
 |tup l=>
  have ho:=hd.o l rfl
  match l,hd,ho with
  | [],hd,ho=>have e:eG (.tup []) (.tup [.str aZ])=false:=rfl;rw[e]at ho;unfold bF bh;simp! [U,l1,hM,aG (fx:=aU ic ci) rfl,q1,ho,aL]
  | [x],hd,ho=>
   have e:eG (.tup [x]) (.tup [.str aZ])=oB aZ x:=by show dI [x] [.str aZ]=_;rw[j7,Rp];exact Bool.and_true _
   rw[e]at ho;cases hx:oB aZ x with
   |true=>rw[hx]at ho;unfold bF bh;simp! [U,l1,hM,aG (fx:=aU ic ci) rfl,q1,ho,hO,aG (fx:=oz) rfl,q2,aL,hx]
   |false=>rw[hx]at ho;unfold bF bh;simp! [U,l1,hM,aG (fx:=aU ic ci) rfl,q1,ho,aL,hx]
  | [x,y],hd,ho=>
   have e:eG (.tup [x,y]) (.tup [.str aZ])=false:=by show dI [x,y] [.str aZ]=_;rw[j7];exact CA _
   rw[e]at ho;have i0:L2.fM [x,y] 0=some x:=rfl;have i1:L2.fM [x,y] 1=some y:=rfl;have hm:=(hd.h x [y] rfl).2;cases hx:oB aF x with
   |false=>rw[hx]at hm;unfold bF bh;simp! [U,l1,hM,aG (fx:=aU ic ci) rfl,q1,ho,aL,hx,i0,hm]
   |true=>
    rw[hx]at hm;cases hy:nF 1 t.length y with
    |false=>
     have FJ:=λn k=>q3 n k y
     rw[hy]at FJ;unfold bF bh;simp! [U,l1,hM,aG (fx:=aU ic ci) rfl,q1,ho,aL,hx,i0,i1,hm,hI,rz (fx:=bN w) rfl,FJ,hy]
    |true=>
     have FJ:=λn k=>q3 n k y
     rw[hy]at FJ;obtain⟨i,rfl,a1,a2⟩:=xP hy;obtain⟨j,rfl⟩:∃j:Nat,i=j:=⟨i.toNat,by lia⟩
     have q4:=λn k=>xN U (n:=n) (k:=k) t h j ⋯ ⋯
     have e5:aL t (.tup [x,.int j])=dm t j:=by show (oB aF x&&(nF 1 t.length (.int j)&&dm t (j:Int).toNat))=_;rw[hx,hy,mM];rfl
     rw[e5];generalize dm t j=bb at q4;generalize (j:Int)=v at *;unfold bF bh;simp! [U,l1,hM,aG (fx:=aU ic ci) rfl,q1,ho,i0,i1,hm,hI,rz (fx:=bN w) rfl,FJ,hB,bU (fx:=jA) rfl,q4]
  |x::y::z::r,hd,ho=>
   have e:eG (.tup (x::y::z::r)) (.tup [.str aZ])=false:=by show dI (x::y::z::r) [.str aZ]=_;rw[j7];exact CA _
   rw[e]at ho;have hl : ¬ (((x::y::z::r).length:Int)=2):=by simp only[i3];lia
   generalize hL:x::y::z::r=L at *;have hp:aL t (.tup L)=false:=by rw[<- hL];rfl
   unfold bF bh;simp! [U,l1,hM,aG (fx:=aU ic ci) rfl,q1,ho,hl,hp]
 |_=>unfold bF bh;simp! [U,l1,hM,aG (fx:=aU ic ci) rfl,q1,dN,kX,aL]
end
def p7(t: ~~~0):Option Nat:=(List.range t.length).find? λi=>dm t (i+1)
def lI(t: ~~~0):D:=if oA t=true then .tup [.str aZ]else match p7 t with
 |none=>.non
 |some i=>.tup [.str aF,.int ((i+1:Nat):Int)]
def jB(lp:Nat):Fx:=⟨1,2,[(.loop (.nm 1) (.bin .Add (.lst [(.tup [(.val (.str aZ))])]) (.comp 2 2 (.nm 3) (.dM ↥1 (.bin .Add (.blt .len [⇑0]) ↥1)) none (.tup [(.val (.str aF)),⇑3]))) [(.ite (.call lp [⇑0,⇑1]) [(.ret ⇑1)] [])]),(.ret (.val .non))]⟩
theorem xQ(x:D)(l:List D):L2.fM (x::l) 0=some x:=rq (x::l) 0 (Nat.succ_pos _)
theorem j8(m:Nat):fG 1 m=(List.range m).map λ(i:Nat)=>D.int ((i+1:Nat):Int):=by unfold fG;exact B9 λi _=>by congr 1;lia
noncomputable def hit(A s:Slot):Option D->Option (Fl×G)
 |some d=>some (.rt (.dat d),[A,s])
 |none=>some (.nx,[A,s])
theorem nM{A:Slot}{b:G->Option (Fl×G)}{p:D->Bool}:∀{items:List D},(∀d∈items,b [A,.dat d]=if p d=true then some (.rt (.dat d),[A,.dat d])else some (.nx,[A,.dat d]))->∀s,∃s',fO (.nm 1) b items [A,s]=hit A s' (items.find? p)
 | [],_,s=>⟨s,rfl⟩
 |d::l,h,s=>by
  have h0:=h d dA;have st:Tg.set (.nm 1) d [A,s]=some [A,.dat d]:=rfl;cases e:p d with
  |true=>rw[e,i5 rfl]at h0;refine⟨.dat d,?_⟩;unfold fO;rw[st];dsimp only;rw[h0,AC,e];rfl
  |false=>
   rw[e,gN ⋯]at h0;obtain⟨s',q⟩:=nM (λd hd=>h d (b0 _ hd)) (.dat d)
   refine⟨s',?_⟩;unfold fO;rw[st];dsimp only;rw[h0,AC,e];exact q
section
variable{k n:Nat}{g g1:G}{rn:Nat->Rn}{fns:List Fx}(U:lg fns rn){w wi fa ic mu od mc ci np lp:Nat}(hW:fns[w]?=some aR)
include U hW
theorem oE(t: ~~~0)(h:Kt t)(x:D)(v m:Int)(l b: ~~~0)(he:eV .Eq x (.str aZ)=some false)(hn:eV .NotEq x (.str aF)=some false)(hx:x=.str aF)(hv:1<=v/\v<=t.length)(c1:dJ (t.map D.int) (some v) none=l.map .int)(c2:dJ (t.map D.int) none (some v)=b.map .int)(mu:mU .Mult (.int v) (.int (v - 1))=some ‹m›):bF (rn (n+30)) (k+2) (aE w) [~~~t,.tup [x,.int v]]=some (.dat (.bl (decide (b.sum > m+(l.map λx=>if v<x then v else x).sum)))):=by
 have q1:=λn k=>cz U (n:=n) (k:=k) (.int v)
 have i0:L2.fM [x,.int v] 0=some x:=rfl;have i1:L2.fM [x,.int v] 1=some (.int v):=rfl;have hs:dN (kX x) "str"=true:=by rw[hx];rfl
 have v1:=hv.1;have v2:=hv.2;have i2:isInt (.int v)=true:=rfl;rw[i2]at q1;generalize hA:Slot.dat (~~~t)=A0;generalize hL:(l.map λx=>if v<x then v else x).sum=S
 generalize hT:Slot.dat (.tup [x,.int v])=A1;obtain⟨g',⟨acc,s4,e0,rfl⟩,h3⟩:=dQ (T:=.nm 4) (b:=(rn (n+29)).b [] (k+2) [(.set 3 (.bin .Add ⇑3 (.blt .min [⇑4,⇑2])))]) (λ(j:Int)=>D.int j)
  (I:=λl' g=>∃(acc:Int) (s4:Slot),acc+(l'.map λx=>if v<x then v else x).sum=m+S/\g=[A0,A1,‹v›,‹acc›,s4])
  (step:=λa l' g hh=>by
   obtain⟨acc,s4,e0,rfl⟩:=hh;rw[List.map_cons,vS]at e0;refine⟨_,_,rfl,?_,acc+(if v<a then v else a),‹a›,by rw[<- e0];lia,rfl⟩
   simp! [U,U.e]) l [A0,A1,‹v›,‹m›,.no] ⟨m,.no,by rw[hL],rfl⟩
 rw[List.map_nil,List.sum_nil,Int.add_zero]at e0;subst e0;have e1:aD (rn (n+29)) [] (k+2) (.ite (.or [(.not (.oq ⇑1 "tuple")),(.cmp .Eq (.blt .len [⇑1]) ↥0),(.not (.oq (.ix ⇑1 ↥0) "str"))]) (~~~4) []) [A0,A1,.no,.no,.no]=some (.nx,[A0,A1,.no,.no,.no]):=by subst hT;simp! [U,i0,hs]
 have e2:aD (rn (n+29)) [] (k+2) (.ite (.cmp .Eq (.ix ⇑1 ↥0) (.val (.str aZ))) [(.ret (.and [(.cmp .Eq (.blt .len [⇑1]) ↥1),(.cmp .Eq (.bin .Mod (.blt .sum [⇑0]) ↥2) ↥1)]))] []) [A0,A1,.no,.no,.no]=some (.nx,[A0,A1,.no,.no,.no]):=by subst hT;simp! [U,i0,he]
 have e3:aD (rn (n+29)) [] (k+2) (.ite (.or [(.cmp .NotEq (.ix ⇑1 ↥0) (.val (.str aF))),(.cmp .NotEq (.blt .len [⇑1]) ↥2),(.not (.call w [(.ix ⇑1 ↥1)])),(.not (.chain ↥1 [.LtE,.LtE] [(.ix ⇑1 ↥1),(.blt .len [⇑0])]))]) (~~~4) []) [A0,A1,.no,.no,.no]=some (.nx,[A0,A1,.no,.no,.no]):=by subst hT hA;simp! [U,i0,i1,hn,hW,aG (fx:=aR) rfl,q1,v1,v2]
 have e4:aD (rn (n+29)) [] (k+2) (.set 2 (.ix ⇑1 ↥1)) [A0,A1,.no,.no,.no]=some (.nx,[A0,A1,‹v›,.no,.no]):=by subst hT;simp! [U,i1]
 have e5:aD (rn (n+29)) [] (k+2) (.set 3 (.bin .Mult ⇑2 (.bin .Sub ⇑2 ↥1))) [A0,A1,‹v›,.no,.no]=some (.nx,[A0,A1,‹v›,‹m›,.no]):=by simp! [U,mu]
 have e6:aD (rn (n+29)) [] (k+2) (.loop (.nm 4) (.slice ⇑0 (some ⇑2) none) [(.set 3 (.bin .Add ⇑3 (.blt .min [⇑4,⇑2])))]) [A0,A1,‹v›,‹m›,.no]=some (.nx,[A0,A1,‹v›,.dat (.int (m+S)),s4]):=by
  have hw:fS (rn (n+29)) [] (k+2) false (.slice ⇑0 (some ⇑2) none) [A0,A1,‹v›,‹m›,.no]=some (l.map .int,[A0,A1,‹v›,‹m›,.no]):=by subst hA;simp! [U,fS,kG,c1]
  simp only[aD,Tg.ix,Tg.k9,hw,h3];simp
 have e7:aD (rn (n+29)) [] (k+2) (.ret (.cmp .Gt (.blt .sum [(.slice ⇑0 none (some ⇑2))]) ⇑3)) [A0,A1,‹v›,.dat (.int (m+S)),s4]=some (.rt (.dat (.bl (decide (b.sum > m+S)))),[A0,A1,‹v›,.dat (.int (m+S)),s4]):=by subst hA;simp! [U,kG,c2]
 have hp:cP (aE w).n (Dw [~~~t,.tup [x,.int v]])=[A0,A1,.no,.no,.no]:=by subst hA hT;rfl
 have body:(rn (n+30)).b [] (k+2) (aE w).body [A0,A1,.no,.no,.no]=some (.rt (.dat (.bl (decide (b.sum > m+S)))),[A0,A1,‹v›,.dat (.int (m+S)),s4]):=by unfold aE;rw[U.b,au e1,au e2,au e3,au e4,au e5,au e6];unfold bV;rw[e7]
 unfold bF;rw[hp,body];rfl
theorem kM(t: ~~~0)(h:Kt t)(d:D)(hd:Ro d):bF (rn (n+30)) (k+2) (aE w) [~~~t,d]=some (.dat (.bl (aL t d))):=by
 have hl:=h.l2;cases d with
 |tup l=>
  match l,hd with
  | [],hd=>unfold bF aE;simp! [U,aL]
  | [x],hd=>
   have i0:L2.fM [x] 0=some x:=rfl;obtain⟨he,hn⟩:=hd.h x [] rfl;by_cases hs:dN (kX x) "str"=true
   .
    cases hx:oB aZ x with
    |true=>rw[hx]at he;have ho:(decide (t.sum % 2=1))=oA t:=rfl;unfold bF aE;simp! [U,i0,hs,he,aL,hx,ju,ho]
    |false=>
     rw[hx]at he;cases hm:oB aF x with
     |true=>rw[hm]at hn;unfold bF aE;simp! [U,i0,hs,he,hn,aL,hx]
     |false=>rw[hm]at hn;unfold bF aE;simp! [U,i0,hs,he,hn,aL,hx]
   .
    have hx:oB aZ x=false:=by cases x <;> first |rfl |exact absurd rfl hs
    unfold bF aE;simp! [U,i0,hs,aL,hx]
  | [x,y],hd=>
   have i0:L2.fM [x,y] 0=some x:=rfl;have i1:L2.fM [x,y] 1=some y:=rfl;obtain⟨he,hn⟩:=hd.h x [y] rfl;by_cases hs:dN (kX x) "str"=true
   .
    cases hx:oB aZ x with
    |true=>
     rw[hx]at he;have hm:oB aF x=false:=by rw[xO hx];show decide (aZ=aF)=false;exact mB ⋯
     unfold bF aE;simp! [U,i0,hs,he,aL,hm]
    |false=>
     rw[hx]at he;cases hm:oB aF x with
     |false=>rw[hm]at hn;unfold bF aE;simp! [U,i0,hs,he,hn,aL,hm]
     |true=>
      rw[hm]at hn;cases hy:nF 1 t.length y with
      |true=>
       obtain⟨i,rfl,a1,a2⟩:=xP hy;obtain⟨j,rfl⟩:∃j:Nat,i=j:=⟨i.toNat,by lia⟩
       have e5:aL t (.tup [x,.int j])=dm t j:=by show (oB aF x&&(nF 1 t.length (.int j)&&dm t (j:Int).toNat))=_;rw[hm,hy,mM];rfl
       rw[e5];exact oE U hW t h x (j:Int) _ (t.drop j) (t.take j) he hn (xO hm) ⟨a1,a2⟩ (En t j ⋯) (Eo t j ⋯) (fJ (j:Int) ((j:Int) - 1) (.inl ⟨by lia,by lia⟩))
      |false=>
       have q1:=λn k=>cz U (n:=n) (k:=k) y
       have hp:aL t (.tup [x,y])=false:=by show (oB aF x&&(nF 1 t.length y&&Lk t y))=false;rw[hm,hy];rfl
       rw[hp];cases hi:isInt y with
       |false=>rw[hi]at q1;unfold bF aE;simp! [U,i0,i1,hs,he,hn,hW,aG (fx:=aR) rfl,q1]
       |true=>
        rw[hi]at q1;cases y with
        |int i=>
         have hr : ¬ (1<=i/\i<=(t.length:Int)):=of_decide_eq_false hy;by_cases b1:1<=i
         .
          have b2 : ¬ i<=(t.length:Int):=λh=>hr ⟨b1,h⟩
          unfold bF aE;simp! [U,i0,i1,hs,he,hn,hW,aG (fx:=aR) rfl,q1,b1,b2]
         . unfold bF aE;simp! [U,i0,i1,hs,he,hn,hW,aG (fx:=aR) rfl,q1,b1]
        |_=>cases hi
   .
    have hx:oB aF x=false:=by cases x <;> first |rfl |exact absurd rfl hs
    unfold bF aE;simp! [U,i0,hs,aL,hx]
  |x::y::z::r,hd=>
   obtain⟨he,hn⟩:=hd.h x (y::z::r) rfl;have hl1 : ¬ (((x::y::z::r).length:Int)=0):=by simp only[i3];lia
   have hl2 : ¬ (((x::y::z::r).length:Int)=2):=by simp only[i3];lia
   have hl3 : ¬ (((x::y::z::r).length:Int)=1):=by simp only[i3];lia
   have i0:L2.fM (x::y::z::r) 0=some x:=xQ _ _;have hp:aL t (.tup (x::y::z::r))=false:=rfl;rw[hp];have Wj : ¬ (x::y::z::r)=[]:=nofun;have hl5 : ¬ (x::y::z::r).length=1:=by simp only[i3];lia
   have hl6 : ¬ (x::y::z::r).length=2:=by simp only[i3];lia
   generalize x::y::z::r=L at hl1 hl2 hl3 Wj hl5 hl6 i0 ⊢
   by_cases hs:dN (kX x) "str"=true
   .
    cases hx:oB aZ x with
    |true=>rw[hx]at he;unfold bF aE;simp! [U,i0,hs,he,hl1,hl3,Wj,hl5]
    |false=>
     rw[hx]at he;cases hm:oB aF x with
     |true=>rw[hm]at hn;unfold bF aE;simp! [U,i0,hs,he,hn,hl1,hl2,Wj,hl6]
     |false=>rw[hm]at hn;unfold bF aE;simp! [U,i0,hs,he,hn,hl1,Wj]
   . unfold bF aE;simp! [U,i0,hs,hl1,Wj]
 |_=>unfold bF aE;simp! [U,dN,kX,aL]
end
theorem J5:Ro (.tup [.str aZ]):=⟨λ_ _=>rfl,λx l e=>by cases e;exact⟨rfl,rfl⟩⟩
theorem uz(i:Int):Ro (.tup [.str aF,.int i]):=⟨λ_ _=>rfl,λx l e=>by cases e;exact⟨rfl,rfl⟩⟩
theorem zz(t: ~~~0):aL t (.tup [.str aZ])=oA t:=by show (decide (aZ=aZ)&&oA t)=_;rw[nK rfl,Bool.true_and]
theorem vV(t: ~~~0)(i:Nat)(h:i<t.length):aL t (.tup [.str aF,.int ((i+1:Nat):Int)])=dm t (i+1):=by show (decide (aF=aF)&&(decide (1<=((i+1:Nat):Int)/\((i+1:Nat):Int)<=t.length)&&dm t ((i+1:Nat):Int).toNat))=_;rw[nK rfl,nK ⋯,mM];rfl
noncomputable def gone(t: ~~~0):List D:=[D.tup [.str aZ]]++(List.range t.length).map λ(i:Nat)=>D.tup [.str aF,.int ((i+1:Nat):Int)]
theorem zA(t: ~~~0):(match (gone t).find? (aL t)with |some d=>d |none=>.non)=lI t:=by
 unfold gone lI p7;rw[List.find?_append,List.find?_singleton,zz];cases oA t with
 |true=>rfl
 |false=>
  simp only[AV,CI,Option.none_or,List.find?_map];have e:∀l:List Nat,(∀i∈l,i<t.length)->l.find? (aL t ∘ λ(i:Nat)=>D.tup [.str aF,.int ((i+1:Nat):Int)])=l.find? λi=>dm t (i+1):=λl=>by
   induction l with
   |nil=>intro _;rfl
   |cons a l ih=>intro h;rw[AC,AC,Function.comp,vV t a (h a dA),ih λi hi=>h i (b0 _ hi)]
  rw[e _ λi hi=>v6.mp hi]
  cases (List.range t.length).find? λi=>dm t (i+1) <;> rfl
section
variable{k n:Nat}{g g1:G}{rn:Nat->Rn}{fns:List Fx}(U:lg fns rn){w wi fa ic mu od mc ci np lp:Nat}(hW:fns[w]?=some aR)
include U hW
theorem zB(hL:fns[lp]?=some (aE w))(t: ~~~0)(h:Kt t):bF (rn (n+50)) (k+3) (jB lp) [~~~t]=some (.dat (lI t)):=by
 have hl:=h.l2;have l1:=aq 1 ⋯;have l2:=aq 2 ⋯;have q:=λn k d hd=>kM U hW (n:=n) (k:=k) t h d hd
 have o:bS (rn (n+47)) [] (k+3) 2 2 (.nm 3) (.dM ↥1 (.bin .Add (.blt .len [⇑0]) ↥1)) none (.tup [(.val (.str aF)),⇑3]) [.dat (~~~t),.no]=some ((List.range t.length).map λ(i:Nat)=>D.tup [.str aF,.int ((i+1:Nat):Int)],[.dat (~~~t),.no]):=by
  refine nu (rn:=rn (n+47)) (bor:=[]) (k:=k+3) (g:=[.dat (~~~t),.no]) (g1:=[.dat (~~~t),.no]) (kk:=2) (nn:=2) (j:=3) (List.range t.length) (λ(i:Nat)=>D.int ((i+1:Nat):Int)) _ ?_ rfl ⋯ ⋯ ⋯ (aq _ (by simp;lia)) λa _ G' hG=>?_
  .
   rw[<- j8];have e:((t.length:Int)+1 - 1).toNat=t.length:=by lia
   simp! [U,fS,aQ 1 ⋯,aQ ((t.length:Int)+1) ⋯,e]
  . have h3:=hG.2;generalize ((a+1:Nat):Int)=v at *;simp! [U,h3,l2]
 have hw:fS (rn (n+49)) [] (k+3) false (.bin .Add (.lst [(.tup [(.val (.str aZ))])]) (.comp 2 2 (.nm 3) (.dM ↥1 (.bin .Add (.blt .len [⇑0]) ↥1)) none (.tup [(.val (.str aF)),⇑3]))) [.dat (~~~t),.no]=some (gone t,[.dat (~~~t),.no]):=by
  have oo:=jw [D.tup [.str aZ]] ((List.range t.length).map λ(i:Nat)=>D.tup [.str aF,.int ((i+1:Nat):Int)]) (by simp;lia)
  change _=some (R.new (gone t))at oo;generalize (List.range t.length).map (λ(i:Nat)=>D.tup [.str aF,.int ((i+1:Nat):Int)])=Z at o oo
  simp! [U,fS,o,l1,oo]
 have hb:∀d∈gone t,(rn (n+49)).b [] (k+3) [(.ite (.call lp [⇑0,⇑1]) [(.ret ⇑1)] [])] [.dat (~~~t),.dat d]=if aL t d=true then some (.rt (.dat d),[.dat (~~~t),.dat d])else some (.nx,[.dat (~~~t),.dat d]):=λd hd=>by
  have hc:Ro d:=by
   unfold gone at hd;rcases sB.mp hd with hd |hd
   . rw[hU.mp hd];exact J5
   . obtain⟨i,_,rfl⟩:=i7.mp hd;exact uz _
  have q':=λn k=>q n k d hc
  cases e:aL t d with
  |true=>rw[e]at q';simp! [U,hL,bU (fx:=aE w) rfl,q']
  |false=>rw[e]at q';simp! [U,hL,bU (fx:=aE w) rfl,q']
 obtain⟨s',hf⟩:=nM hb .no;have fg:=zA t;have e1:aD (rn (n+49)) [] (k+3) (.loop (.nm 1) (.bin .Add (.lst [(.tup [(.val (.str aZ))])]) (.comp 2 2 (.nm 3) (.dM ↥1 (.bin .Add (.blt .len [⇑0]) ↥1)) none (.tup [(.val (.str aF)),⇑3]))) [(.ite (.call lp [⇑0,⇑1]) [(.ret ⇑1)] [])]) [.dat (~~~t),.no]=hit (.dat (~~~t)) s' ((gone t).find? (aL t)):=by rw[<- hf];simp only[aD,Tg.ix,Tg.k9,hw];simp
 unfold bF jB;have hp:cP 2 (Dw [~~~t])=[.dat (~~~t),.no]:=rfl;dsimp only;rw[hp,U.b,bV,e1];rw[<- fg];cases (gone t).find? (aL t)with
 |some d=>simp! [U,hit]
 |none=>simp! [U,hit]
variable(hI:fns[wi]?=some (bN w))(hF:fns[fa]?=some iu)(hC:fns[ic]?=some (aK wi fa))(hM:fns[mu]?=some (aU ic ci))(hO:fns[od]?=some oz)(hB:fns[mc]?=some jA)
include hI hF hC hM hO hB
theorem uA(t: ~~~0)(h:Kt t):bF (rn (n+70)) (k+4) (cZ mu od mc) [~~~t]=some (.dat (lI t)):=by
 have hl:=h.l2;have l1:=aq 1 ⋯;have l2:=aq 2 ⋯;have q1:=λn k=>pZ U hW hI hF hC (ci:=ci) (n:=n) (k:=k) t h
 have q2:=λn k=>Ep U (n:=n) (k:=k) t
 unfold lI;cases ho:oA t with
 |true=>rw[ho]at q2;unfold bF cZ;simp! [U,l1,hM,aG (fx:=aU ic ci) rfl,q1,hO,aG (fx:=oz) rfl,q2]
 |false=>
  rw[ho]at q2;have o:∀n k,bS (rn (n+30)) [] (k+1) 2 2 (.nm 3) (.dM ↥1 (.bin .Add (.blt .len [⇑0]) ↥1)) (some (.call mc [⇑0,⇑3])) ⇑3 [.dat (~~~t),.no]=some (((List.range t.length).filter λi=>dm t (i+1)).map λ(i:Nat)=>D.int ((i+1:Nat):Int),[.dat (~~~t),.no]):=λn k=>by
   refine Le (rn:=rn (n+30)) (bor:=[]) (k:=k+1) (g:=[.dat (~~~t),.no]) (g1:=[.dat (~~~t),.no]) (kk:=2) (nn:=2) (j:=3) (List.range t.length) (λ(i:Nat)=>D.int ((i+1:Nat):Int)) _ _ ?_ rfl ⋯ ⋯ ⋯ (aq _ (by simp;lia)) (λa ha G' hG=>?_) λa ha _ G' hG=>?_
   .
    rw[<- j8];have e:((t.length:Int)+1 - 1).toNat=t.length:=by lia
    simp! [U,fS,aQ 1 ⋯,aQ ((t.length:Int)+1) ⋯,e]
   .
    have h0:G'[0]?=some (.dat (~~~t)):=hG.1 0 ⋯;have h3:=hG.2;have q:=λn k=>xN U (n:=n) (k:=k) t h (a+1) ⋯ (by have:=v6.mp ha;lia)
    generalize dm t (a+1)=bb at *;generalize ((a+1:Nat):Int)=v at *;unfold K3;simp! [U,h0,h3,hB,bU (fx:=jA) rfl,q]
   . have h3:=hG.2;generalize ((a+1:Nat):Int)=v at *;simp! [U,h3]
  unfold p7;rw[<- List.head?_filter];generalize (List.range t.length).filter (λi=>dm t (i+1))=Z at o
  cases Z with
  |nil=>simp only[List.map_nil]at o;unfold bF cZ;simp! [U,l1,hM,aG (fx:=aU ic ci) rfl,q1,hO,aG (fx:=oz) rfl,q2,o]
  |cons i Z=>
   have i0:∀v (l:List D),L2.fM (D.int v::l) 0=some (.int v):=λv l=>xQ _ _
   simp only[List.map_cons]at o;simp only[List.head?_cons];generalize ((i+1:Nat):Int)=v at *;generalize Z.map (λ(i:Nat)=>D.int ((i+1:Nat):Int))=Y at o
   unfold bF cZ;simp! [U,l1,l2,hM,aG (fx:=aU ic ci) rfl,q1,hO,aG (fx:=oz) rfl,q2,o,i0]
variable(hN:fns[np]?=some (cZ mu od mc))
include hN
theorem zC(t: ~~~0)(h:Kt t):bF (rn (n+80)) (k+5) (eE np) [~~~t]=some (.dat (.bl (n5 (lI t)))):=by
 have q:=λn k=>uA U hW hI hF hC hM hO hB (n:=n) (k:=k) t h
 unfold bF eE;simp! [U,hN,aG (fx:=cZ mu od mc) rfl,q,eV,Zr]
theorem xR(d:D)(hd:Gf d)(h:jx d=false):um (rn (n+70)) (k+4) (cZ mu od mc) [d]=some ci:=by
 have q:=λn k=>uy U hW hI hF hC (ci:=ci) (n:=n) (k:=k) d hd h
 unfold um cZ;simp! [U,hM,gK (fx:=aU ic ci) rfl,q]
theorem zD(d e:D)(hd:Gf d)(h:jx d=false):um (rn (n+70)) (k+4) (bh mu od wi mc) [d,e]=some ci:=by
 have q:=λn k=>uy U hW hI hF hC (ci:=ci) (n:=n) (k:=k) d hd h
 unfold um bh;simp! [U,hM,gK (fx:=aU ic ci) rfl,q]
theorem Es(d:D)(hd:Gf d)(h:jx d=false):um (rn (n+80)) (k+5) (eE np) [d]=some ci:=by
 have q:=λn k=>xR U hW hI hF hC hM hO hB hN (n:=n) (k:=k) d hd h
 unfold um eE;simp! [U,hN,gK (fx:=cZ mu od mc) rfl,q]
end
def lC:Ex:=.and [(.cmp .NotEq ⇑1 (.lst [])),(.cmp .Gt (.ix ⇑1 ↥0) ↥0)]
def lE:Ex:=.bin .Sub (.ix ⇑1 ⇑4) (.blt .int [(.cmp .LtE ⇑4 ⇑2)])
def Sl:Sm:=.set 2 (.ix ⇑1 ↥0)
noncomputable def Ln:Sm:=.ite (.cmp .GtE ⇑2 (.blt .len [⇑1])) (~~~4) []
def Sq:Sm:=.set 1 (.comp 3 2 (.nm 4) (.dM ↥1 (.blt .len [⇑1])) none lE)
noncomputable def Lp:Sm:=.ite (.cmp .Lt (.blt .min [⇑1]) ↥0) (~~~4) []
def Ss:Sm:=.set 1 (.gw ⇑1)
def p8:Fx:=⟨1,3,[(.set 1 (.gw ⇑0)),(.while lC [Sl,Ln,Sq,Lp,Ss]),(.ret (.val (.bl true)))]⟩
def dc(l: ~~~0): ~~~0:=(cg l).reverse
noncomputable def Rq(g':G):Bool->Option (Fl×G)
 |true=>some (.nx,g')
 |false=>some (.rt (.dat (.bl false)),g')
theorem Et(n:Int)(l: ~~~0):lA .min [.lst ((n::l).map .int)]=some (.dat (.int (fQ n l))):=by
 have:=ints_map (n::l);rw[List.map_cons]at this ⊢
 simp only[lA,Px,dD,this]
theorem Rr(b:Bool):lA .int [.bl b]=some (.dat (.int (if b=true then 1 else 0))):=rfl
theorem xS:∀(n:Nat) (l: ~~~0) (i:Nat),(Eg.dec n l)[i]?=(l[i]?).map λx=>x - (if i<n then 1 else 0)
 |n,[],i=>by cases n <;> simp[Eg.dec]
 | 0,x::l,i=>by simp[Eg.dec]
 |n+1,x::l,0=>by simp[Eg.dec]
 |n+1,x::l,i+1=>by simp[Eg.dec,xS n l i]
theorem J6(f:Int)(hf:f > 0)(r: ~~~0):((List.range r.length).map λ(i:Nat)=>gt (f::r) (1+(i:Int)) - (if (1+(i:Int))<=f then 1 else 0))=Eg.dec f.toNat r:=by
 refine List.ext_getElem? λi=>?_
 rw[xS,t5];by_cases h:i<r.length
 .
  rw[List.getElem?_range h,nE h];simp only[AU]
  congr 2
  . rw[Int.add_comm,rB];unfold gt;rw[mM,nV,nE h,Option.getD_some]
  .
   by_cases c:(1+(i:Int))<=f
   . rw[i5 c,i5 ⋯]
   . rw[gN c,gN ⋯]
 .
  rw[t8 (by simp;lia),t8 ⋯]
  rfl
theorem J7(x:Int)(l: ~~~0):decide (fQ x l<0)=(x::l).any λy=>decide (y<0):=by
 obtain⟨h1,h2,h3⟩:=qK l x;rw[B6,eQ,BO];constructor
 .
  intro h;rcases h3 with h3 |h3
  . exact⟨x,dA,nK ⋯⟩
  . exact⟨_,b0 _ h3,nK h⟩
 .
  rintro⟨y,hy,h⟩;have h:=i8 h;rcases dL.mp hy with rfl |hy
  . lia
  . have:=h2 y hy;lia
section
variable{k n:Nat}{g g1:G}{rn:Nat->Rn}{fns:List Fx}(U:lg fns rn)
include U
theorem Eu(A:Slot)(l: ~~~0)(s:Slot):(rn (n+30)).t [] k lC [A,.own (l.map .int),s]=some (match l with | []=>false |f::_=>decide (f > 0),[A,.own (l.map .int),s]):=by
 have l0:=aq 0 ⋯;have jD:eV .NotEq (.lst (l.map .int)) (.lst [])=some (!decide (l=[])):=DP l [];cases l with
 |nil=>unfold lC;simp! [U,l0,jD]
 |cons f r=>have i0:L2.fM ((f::r).map D.int) 0=some (.int f):=xQ _ _;have hnn:(decide (f::r=[]))=false:=mB nofun;rw[hnn]at jD;generalize (f::r).map D.int=L at *;unfold lC;simp! [U,l0,jD,i0]
theorem Rt(A:Slot)(f:Int)(hf:f > 0)(r: ~~~0)(h:r.length<=12):aD (rn (n+29)) [] k Sq [A,.own ((f::r).map .int),‹f›]=some (.nx,[A,.own ((Eg.dec f.toNat r).map .int),‹f›]):=by
 have o:bS (rn (n+28)) [] k 3 2 (.nm 4) (.dM ↥1 (.blt .len [⇑1])) none lE [A,.own ((f::r).map .int),‹f›]=some ((Eg.dec f.toNat r).map .int,[A,.own ((f::r).map .int),‹f›]):=by
  rw[<- J6 f hf r,List.map_map];refine nu (rn:=rn (n+28)) (bor:=[]) (k:=k) (g:=[A,.own ((f::r).map .int),‹f›]) (g1:=[A,.own ((f::r).map .int),‹f›]) (kk:=2) (nn:=3) (j:=4) (List.range r.length) (λ(i:Nat)=>D.int (1+(i:Int))) _ ?_ rfl ⋯ ⋯ ⋯ (aq _ (by simp;lia)) λa ha G' hG=>?_
  .
   have e:(((f::r).map D.int).length:Int)=(r.length:Int)+1:=by simp
   have e2:((r.length:Int)+1 - 1).toNat=r.length:=by lia
   generalize (f::r).map D.int=L at *;simp! [U,fS,aQ 1 ⋯,e,aQ ((r.length:Int)+1) ⋯,e2];rfl
  .
   have h1:G'[1]?=some (.own ((f::r).map .int)):=hG.1 1 ⋯;have h2:G'[2]?=some ‹f›:=hG.1 2 ⋯;have h4:=hG.2;have i0:=iO (t:=f::r) (i:=1+(a:Int)) (by have:=v6.mp ha;simp only[i3];lia)
   simp only[Function.comp];generalize gt (f::r) (1+(a:Int))=y at *;generalize (f::r).map D.int=L at *;generalize 1+(a:Int)=v at *;unfold lE;simp! [U,h1,h2,h4,i0,Rr]
 generalize (f::r).map D.int=L at *;generalize (Eg.dec f.toNat r).map D.int=L' at *;unfold Sq;simp! [U,o]
theorem p9(A:Slot):∀(m:Nat) (l: ~~~0) (s:Slot),l.length<=12->l.length<m->∃g',K4 ((rn (n+30)).t [] k lC) ((rn (n+30)).b [] k [Sl,Ln,Sq,Lp,Ss]) m [A,.own (l.map .int),s]=Rq g' (Eg.laid dc l.length l)
 | 0,l,s,_,h=>absurd h (Nat.not_lt_zero _)
 |m+1,[],s,_,_=>by
  refine⟨[A,.own (([]: ~~~0).map .int),s],?_⟩;unfold K4;rw[Eu U];rfl
 |m+1,f::r,s,hl,hm=>by
  have hl':r.length<=11:=by simpa using hl
  have hc:=Eu U (n:=n) (k:=k) A (f::r) s;unfold K4;rw[hc];have hL:Eg.laid dc (f::r).length (f::r)=if f > 0 then (if f ≥ r.length+1 then false else if (Eg.dec f.toNat r).any (λx=>decide (x<0))then false else Eg.laid dc r.length (dc (Eg.dec f.toNat r)))else true:=rfl
  rw[hL];clear hL;dsimp only;by_cases hf:f > 0
  .
   rw[nK hf,i5 hf];dsimp only;have i0:L2.fM ((f::r).map D.int) 0=some (.int f):=xQ _ _;have e:(((f::r).map D.int).length:Int)=(r.length:Int)+1:=by simp
   have e1:aD (rn (n+29)) [] k Sl [A,.own ((f::r).map .int),s]=some (.nx,[A,.own ((f::r).map .int),‹f›]):=by generalize (f::r).map D.int=L at *;unfold Sl;simp! [U,i0]
   by_cases hge:f ≥ (r.length:Int)+1
   .
    rw[i5 hge];have e2:aD (rn (n+29)) [] k Ln [A,.own ((f::r).map .int),‹f›]=some (.rt (.dat (.bl false)),[A,.own ((f::r).map .int),‹f›]):=by generalize (f::r).map D.int=L at *;unfold Ln;simp! [U,e,hge]
    refine⟨[A,.own ((f::r).map .int),‹f›],?_⟩;rw[U.b,au e1];unfold bV;rw[e2];rfl
   .
    rw[gN hge];have e2:aD (rn (n+29)) [] k Ln [A,.own ((f::r).map .int),‹f›]=some (.nx,[A,.own ((f::r).map .int),‹f›]):=by generalize (f::r).map D.int=L at *;unfold Ln;simp! [U,e,hge]
    have e3:=Rt U (n:=n) (k:=k) A f hf r ⋯;have hd:(Eg.dec f.toNat r).length=r.length:=Eg.rK _ _;generalize hD:Eg.dec f.toNat r=d at *
    match d,hD with
    | [],_=>simp at hd;lia
    |x::d',hD=>
     have hmin:=Et x d';have hmn:=J7 x d';by_cases ha:((x::d').any λy=>decide (y<0))=true
     .
      rw[i5 ha];rw[ha]at hmn;have hmn:=i8 hmn;have e4:aD (rn (n+29)) [] k Lp [A,.own ((x::d').map .int),‹f›]=some (.rt (.dat (.bl false)),[A,.own ((x::d').map .int),‹f›]):=by generalize (x::d').map D.int=L at *;unfold Lp;simp! [U,hmin,hmn]
      refine⟨[A,.own ((x::d').map .int),‹f›],?_⟩;rw[U.b,au e1,au e2,au e3];unfold bV;rw[e4];rfl
     .
      rw[gN ha];have aac : ¬ fQ x d'<0:=λhh=>ha (by rw[<- hmn];exact nK hh)
      have e4:aD (rn (n+29)) [] k Lp [A,.own ((x::d').map .int),‹f›]=some (.nx,[A,.own ((x::d').map .int),‹f›]):=by generalize (x::d').map D.int=L at *;unfold Lp;simp! [U,hmin,aac]
      have hi:=ints_map (x::d');have jC:(x::d').length<64:=by lia
      have e5:aD (rn (n+29)) [] k Ss [A,.own ((x::d').map .int),‹f›]=some (.nx,[A,.own ((dc (x::d')).map .int),‹f›]):=by unfold dc;rw[List.map_reverse];generalize hq:(cg (x::d')).map D.int=Q;generalize hD2:x::d'=X at *;generalize X.map D.int=L at *;unfold Ss;simp! [U,dD,hi,jC,hq]
      obtain⟨g',ih⟩:=p9 A m (dc (x::d')) ‹f› (by unfold dc;rw[n0,(bC _).length_eq];lia) (by unfold dc;rw[n0,(bC _).length_eq];have:r.length+1<m+1:=hm;lia)
      have aV:(dc (x::d')).length=r.length:=by unfold dc;rw[n0,(bC _).length_eq,hd]
      rw[aV]at ih;refine⟨g',?_⟩;rw[<- ih];rw[U.b,au e1,au e2,au e3,au e4,au e5];rfl
  . rw[mB hf,gN hf];exact⟨[A,.own ((f::r).map .int),s],rfl⟩
theorem J8(t: ~~~0)(h:t.length<=12):bF (rn (n+32)) k p8 [~~~t]=some (.dat (.bl (Eg.laid dc t.length (dc t)))):=by
 have aV:(dc t).length=t.length:=by unfold dc;rw[n0,(bC _).length_eq]
 obtain⟨g',q⟩:=p9 U (n:=n+1) (k:=k) (.dat (~~~t)) 100000 (dc t) .no ⋯ ⋯;rw[aV]at q;have jC:t.length<64:=by lia
 have e1:aD (rn (n+31)) [] k (.set 1 (.gw ⇑0)) [.dat (~~~t),.no,.no]=some (.nx,[.dat (~~~t),.own ((dc t).map .int),.no]):=by unfold dc;rw[List.map_reverse];generalize hq:(cg t).map D.int=Q;simp! [U,dD,ints_map,jC,hq]
 have hp:cP p8.n (Dw [~~~t])=[.dat (~~~t),.no,.no]:=rfl;have hbody:p8.body=[(.set 1 (.gw ⇑0)),(.while lC [Sl,Ln,Sq,Lp,Ss]),(.ret (.val (.bl true)))]:=rfl;have e2:aD (rn (n+31)) [] k (.while lC [Sl,Ln,Sq,Lp,Ss]) [.dat (~~~t),.own ((dc t).map .int),.no]=Rq g' (Eg.laid dc t.length (dc t)):=q;unfold bF;rw[hp,hbody,U.b,au e1,bV,e2];cases Eg.laid dc t.length (dc t)with
 |true=>simp! [U,Rq]
 |false=>rfl
end
theorem uB(t: ~~~0)(k:Nat):dm t k=true ↔ Eg.much t k:=by
 unfold dm Eg.much;rw[eQ];have e:((t.drop k).map λx=>if (k:Int)<x then (k:Int)else x)=(t.drop k).map (Eg.mn k):=B9 λx _=>by
  unfold Eg.mn;split <;> split <;> lia
 rw[e]
theorem J9(t: ~~~0)(h:Kt t):n5 (lI t)=Eg.laid dc t.length (dc t):=by
 have hs:dc t=t:=(i8 (show decide (t=(cg t).reverse)=true by rw[xD];exact (rD t).mpr h.s)).symm
 rw[hs];have hn:∀x∈t,0<=x:=λx hx=>(h.r.2 x hx).1
 have hi:=Eg.ux dc (λl=>(List.reverse_perm _).trans (bC l)) (λl=>x5.mpr (cQ l)) t.length t (eA _) h.s hn
 rw[B6,hi];have hm:p7 t=none ↔ Eg.G t:=by
  unfold p7;rw[List.find?_eq_none];constructor
  .
   intro hh;refine Eg.Z8 h.s λk hk=>?_
   cases k with
   |zero=>
    unfold Eg.much;have z:∀l:List Int,(∀x∈l,0<=x)->0<=(l.map (Eg.mn 0)).sum:=λl hl=>by
     induction l with
     |nil=>decide
     |cons a l ih=>
      rw[List.map_cons,vS];have:=ih λx hx=>hl x (b0 _ hx)
      have:=hl a dA;unfold Eg.mn at *;split <;> lia
    have:=z t hn;simp only[List.take_zero,List.sum_nil,BC,Int.natCast_zero,Int.zero_mul,Int.zero_add];lia
   |succ k=>exact λhm=>hh k (v6.mpr ⋯) ((uB t (k+1)).mpr hm)
  . intro hG i hi hm;exact Eg.Wi hG (i+1) (by have:=v6.mp hi;lia) ((uB t (i+1)).mp hm)
 rw[<- hm];unfold lI;cases ho:oA t with
 |true=>
  have ho:=i8 ho;simp only[AT];refine⟨(λh=>nomatch h),λh=>?_⟩
  lia
 |false=>
  have ho:=of_decide_eq_false ho;have he:t.sum % 2=0:=by lia
  simp only[AV,CI];cases p7 t with
  |none=>exact⟨λ_=>⟨he,rfl⟩,λ_=>rfl⟩
  |some i=>exact⟨(λh=>nomatch h),(λh=>nomatch h.2)⟩
end Ev
namespace bD
open Ev
noncomputable def gW:List PySem.Addr:=[145]
def Sv:Fx:=⟨1,4,[(.set 1 (.val .non)),.stuck,(.set 3 (.lst [(.pH ⇑1 [(145,false)]),(.pH ⇑1 [(145,false)]),(.pH ⇑1 [(145,false)])])),(.set 3 (.bin .Add ⇑3 (.lst [(.pH ⇑1 [(145,false)]),(.pH ⇑1 [(145,false)]),(.pH ⇑1 [(145,false)])]))),(.set 3 (.bin .Add ⇑3 (.lst [(.pH ⇑1 [(145,false)]),(.pH ⇑1 [(145,false)]),(.pH ⇑1 [(145,false)])]))),(.set 3 (.bin .Add ⇑3 (.lst [(.pH ⇑1 [(145,false)]),(.pH ⇑1 [(145,false)]),(.pH ⇑1 [(145,false)])]))),(.set 3 (.bin .Add ⇑3 (.lst [(.pH ⇑1 [(145,false)]),(.pH ⇑1 [(145,true)]),(.pH ⇑1 [(145,false)])]))),(.ite (.not (.pH ⇑1 [(145,true)])) [(.ret (.val .non))] []),(.ret (.comp 4 2 (.nm 5) (.eK ↥15) (some (.ix ⇑3 ⇑5)) ⇑5))]⟩
def Xx:Sm:=(.set 1 (.lst [(.tup [(.val (.str aZ))]),(.tup [(.val (.str aF))]),(.tup [(.val (.str aF)),↥0]),(.tup [(.val (.str aF)),(.bin .Add (.blt .len [⇑0]) ↥1)]),(.tup [(.val (.str aF)),(.val (.bl true))]),(.tup [(.val (.str aF)),(.val .non)]),(.tup [(.val (.str aZ)),↥1])]))
def Xy:Sm:=(.set 1 (.bin .Add ⇑1 (.lst [(.tup [(.val (.str (PySem.Str.ofString "even")))]),(.tup [↥1,(.val (.str aF))]),(.lst [(.val (.str aZ))]),(.lst [(.val (.str aF)),↥1]),(.val (.str aZ)),(.val .non),(.tup []),.emp,↥1,(.tup [(.val (.str aF)),(.val (.str (PySem.Str.ofString "1")))]),(.tup [(.val (.str aF)),(.tup [↥1])])])))
def pW:Ex:=(.bin .Add (.bin .Add ⇑1 (.comp 3 2 (.nm 4) (.dM ↥1 (.bin .Add (.blt .len [⇑0]) ↥1)) none (.tup [(.val (.str aF)),⇑4]))) (.lst [(.tup [(.val (.str aF)),↥1,↥1]),(.tup [(.val (.str aF)),(.bin .Pow ↥10 ↥29)])]))
noncomputable def pB:List Sm:=[(.ite (.not (.call 10 [(.call 6 [⇑0,⇑2]),(.call 12 [⇑0,⇑2])])) (~~~4) [])]
def Sw:Fx:=⟨1,3,[Xx,Xy,.loop (.nm 2) pW pB,(.ret (.val (.bl true)))]⟩
def t1:Sm:=(.set 4 (.call 22 [⇑3]))
noncomputable def t2:Sm:=(.ite (.or [(.cmp .NotEq (.cmp .Is ⇑4 (.val .non)) (.call 17 [⇑3])),(.not (.peek (.call 10 [(.call 5 [⇑3]),(.cmp .Is ⇑4 (.val .non))])))]) (~~~4) [])
noncomputable def t3:Sm:=(.ite (.or [(.not (.peek (.call 10 [(.call 9 [⇑3]),⇑4]))),(.not (.call 21 [⇑3]))]) (~~~4) [])
def Ew:List Sm:=[t1,t2,t3]
noncomputable def dW:Ex:=(.lst [(.call 16 [⇑2,↥12]),(.call 16 [⇑2,↥6]),(.call 16 [⇑2,↥8])])
def b1:Sm:=(.set 2 (.call 14 [⇑0,⇑1]))
def b2:Sm:=.loop (.nm 3) dW Ew
def b3:Sm:=(.set 6 (.call 18 [⇑2,⇑3]))
def Xz:Sm:=.calls 5 (.refs 20 1 gW [(.call 5 [⇑6]),(.call 6 [⇑6,(.tup [(.val (.str aZ))])]),(.call 9 [⇑6])]) .NotEq (.bin .Mult (.lst [(.lst [↥13])]) ↥3) false (~~~4)
def b4:Sm:=.ite (.not (.call 19 [⇑6])) [Xz] []
noncomputable def uC:List Sm:=[b1,b2,b3,b4]
noncomputable def Sx:Fx:=⟨1,7,[.loop (.nm 1) (.eK (.blt .max [↥1,(.blt .min [(.blt .len [⇑0]),↥8])])) uC,(.ret (.val (.bl true)))]⟩
def fns:List Fx:=[aR,bN 0,iu,aK 1 2,aU 3 0,eE 9,bh 4 7 1 8,oz,jA,cZ 4 7 8,dj 10,aR,aE 11,kK,j4 13,bE,bJ 15,p8,iP 15,aX 11,Sv,Sw,jB 12,Sx]
theorem c0:fns[0]?=some (aR):=rfl
theorem c1:fns[1]?=some (bN 0):=rfl
theorem c2:fns[2]?=some (iu):=rfl
theorem c3:fns[3]?=some (aK 1 2):=rfl
theorem c4:fns[4]?=some (aU 3 0):=rfl
theorem c5:fns[5]?=some (eE 9):=rfl
theorem c6:fns[6]?=some (bh 4 7 1 8):=rfl
theorem c7:fns[7]?=some (oz):=rfl
theorem c8:fns[8]?=some (jA):=rfl
theorem c9:fns[9]?=some (cZ 4 7 8):=rfl
theorem Sy:fns[10]?=some (dj 10):=rfl
theorem c11:fns[11]?=some (aR):=rfl
theorem c12:fns[12]?=some (aE 11):=rfl
theorem c13:fns[13]?=some (kK):=rfl
theorem c14:fns[14]?=some (j4 13):=rfl
theorem XC:fns[15]?=some (bE):=rfl
theorem c16:fns[16]?=some (bJ 15):=rfl
theorem c17:fns[17]?=some (p8):=rfl
theorem c18:fns[18]?=some (iP 15):=rfl
theorem c19:fns[19]?=some (aX 11):=rfl
theorem c20:fns[20]?=some (Sv):=rfl
theorem c21:fns[21]?=some (Sw):=rfl
theorem c22:fns[22]?=some (jB 12):=rfl
end bD
namespace bD
open Ev
noncomputable def T1(v:Int):List D:=[.tup [.str aZ],.tup [.str aF],.tup [.str aF,.int 0],.tup [.str aF,.int v],.tup [.str aF,.bl true],.tup [.str aF,.non],.tup [.str aZ,.int 1]]
noncomputable def T2:List D:=[.tup [.str (PySem.Str.ofString "even")],.tup [.int 1,.str aF],.lst [.str aZ],.lst [.str aF,.int 1],.str aZ,.non,.tup [],.emp,.int 1,.tup [.str aF,.str (PySem.Str.ofString "1")],.tup [.str aF,.tup [.int 1]]]
noncomputable def T3:List D:=[.tup [.str aF,.int 1,.int 1],.tup [.str aF,.int (10 ^ 29)]]
noncomputable def T4(t: ~~~0):List D:=(List.range t.length).map λ(i:Nat)=>D.tup [.str aF,.int ((i+1:Nat):Int)]
def things(t: ~~~0):List D:=T1 ((t.length:Int)+1)++T2++T4 t++T3
theorem Ka(t: ~~~0):∀d∈things t,Ro d:=λd hd=>by
 unfold things at hd;rcases sB.mp hd with hd |hd
 .
  rcases sB.mp hd with hd |hd
  .
   rcases sB.mp hd with hd |hd
   . simp only[T1,dL,i4,u8]at hd;rcases hd with rfl |rfl |rfl |rfl |rfl |rfl |rfl <;> exact⟨λ_ _=>rfl,λx l e=>by cases e;exact⟨rfl,rfl⟩⟩
   . simp only[T2,dL,i4,u8]at hd;rcases hd with rfl |rfl |rfl |rfl |rfl |rfl |rfl |rfl |rfl |rfl |rfl <;> first |exact⟨λ_ _=>rfl,λx l e=>by cases e;exact⟨rfl,rfl⟩⟩ |exact⟨λ_ _=>rfl,(λx l e=>nomatch e)⟩ |exact⟨(λl e=>nomatch e),(λx l e=>nomatch e)⟩
  . obtain⟨i,_,rfl⟩:=i7.mp hd;exact uz _
 . simp only[T3,dL,i4,u8]at hd;rcases hd with rfl |rfl <;> exact⟨λ_ _=>rfl,λx l e=>by cases e;exact⟨rfl,rfl⟩⟩
section
variable{k n:Nat}{g g1:G}{rn:Nat->Rn}(U:lg fns rn)
include U
theorem zE(t: ~~~0)(h:Kt t):bF (rn (n+90)) (k+6) Sw [~~~t]=some (.dat (.bl true)):=by
 have hl:=h.l2;have l0:=aq 0 ⋯;have l1:=aq 1 ⋯;have l2:=aq 2 ⋯;have l3:=aq 3 ⋯;have hv:((List.map D.int t).length:Int)+1=(t.length:Int)+1:=by rw[fR]
 have e1:aD (rn (n+89)) [] (k+6) Xx [.dat (~~~t),.no,.no]=some (.nx,[.dat (~~~t),.own (T1 ((t.length:Int)+1)),.no]):=by unfold Xx T1;simp! [U,l1,l2,aq 7 ⋯]
 have e2:aD (rn (n+89)) [] (k+6) Xy [.dat (~~~t),.own (T1 ((t.length:Int)+1)),.no]=some (.nx,[.dat (~~~t),.own (T1 ((t.length:Int)+1)++T2),.no]):=by
  have o:=jw (T1 ((t.length:Int)+1)) T2 (show 7+11<=1000 by decide)
  have hb:T2=[.tup [.str (PySem.Str.ofString "even")],.tup [.int 1,.str aF],.lst [.str aZ],.lst [.str aF,.int 1],.str aZ,.non,.tup [],.emp,.int 1,.tup [.str aF,.str (PySem.Str.ofString "1")],.tup [.str aF,.tup [.int 1]]]:=rfl;generalize T1 ((t.length:Int)+1)=Z at *;unfold Xy;simp! [U,l0,l1,l2,aq T2.length ⋯,<- hb,o]
 have o:bS (rn (n+86)) [] (k+6) 3 2 (.nm 4) (.dM ↥1 (.bin .Add (.blt .len [⇑0]) ↥1)) none (.tup [(.val (.str aF)),⇑4]) [.dat (~~~t),.own (T1 ((t.length:Int)+1)++T2),.no]=some (T4 t,[.dat (~~~t),.own (T1 ((t.length:Int)+1)++T2),.no]):=by
  generalize T1 ((t.length:Int)+1)++T2=Z at *;unfold T4;refine nu (rn:=rn (n+86)) (bor:=[]) (k:=k+6) (g:=[.dat (~~~t),.own Z,.no]) (g1:=[.dat (~~~t),.own Z,.no]) (kk:=2) (nn:=3) (j:=4) (List.range t.length) (λ(i:Nat)=>D.int ((i+1:Nat):Int)) _ ?_ rfl ⋯ ⋯ ⋯ (aq _ (by simp;lia)) λa _ G' hG=>?_
  .
   rw[<- j8];have e:((t.length:Int)+1 - 1).toNat=t.length:=by lia
   simp! [U,fS,aQ 1 ⋯,aQ ((t.length:Int)+1) ⋯,e]
  . have h4:=hG.2;generalize ((a+1:Nat):Int)=v at *;simp! [U,h4,l2]
 have zl:(T1 ((t.length:Int)+1)++T2).length=18:=rfl;have yl:(T4 t).length=t.length:=by unfold T4;simp
 have hw:fS (rn (n+89)) [] (k+6) false pW [.dat (~~~t),.own (T1 ((t.length:Int)+1)++T2),.no]=some (things t,[.dat (~~~t),.own (T1 ((t.length:Int)+1)++T2),.no]):=by
  unfold things;generalize T1 ((t.length:Int)+1)++T2=Z at *;generalize T4 t=Y at *;have o1:=jw Z Y ⋯;have o2:=jw (Z++Y) T3 (by rw[i6,zl,yl];show 18+t.length+2<=_;lia)
  have hb:T3=[.tup [.str aF,.int 1,.int 1],.tup [.str aF,.int 100000000000000000000000000000]]:=rfl;unfold pW;simp! [U,fS,o,o1,ur,l2,l3,aq T3.length ⋯,<- hb,o2]
 obtain⟨g',⟨_,s2,rfl⟩,h3⟩:=dQ (T:=.nm 2) (b:=(rn (n+89)).b [] (k+6) pB) (λd:D=>d)
  (I:=λl g=>(∀d∈l,Ro d)/\∃s2:Slot,g=[.dat (~~~t),.own (T1 ((t.length:Int)+1)++T2),s2])
  (step:=λd l g hh=>by
   obtain⟨h0,s2,rfl⟩:=hh;refine⟨_,_,rfl,?_,λx hx=>h0 x (b0 _ hx),.dat d,rfl⟩
   have q1:=λn k=>vU U c0 c1 c2 c3 c4 c7 c8 (n:=n) (k:=k) t h d (h0 d dA)
   have q2:=λn k=>kM U c11 (n:=n) (k:=k) t h d (h0 d dA)
   have q3:=λn k=>lH U Sy 0 n k (.bl (aL t d)) trivial
   simp only[Nat.reduceMul,Nat.add_assoc,Nat.reduceAdd,Nat.add_zero]at q3;generalize T1 ((t.length:Int)+1)++T2=Z at *;generalize aL t d=bb at *;unfold pB;simp! [U,c6,bU (fx:=bh 4 7 1 8) rfl,q1,c12,bU (fx:=aE 11) rfl,q2,Sy,bU (fx:=dj 10) rfl,q3]) (things t) [.dat (~~~t),.own (T1 ((t.length:Int)+1)++T2),.no] ⟨Ka t,.no,rfl⟩
 rw[List.map_id']at h3;have e3:aD (rn (n+89)) [] (k+6) (.loop (.nm 2) pW pB) [.dat (~~~t),.own (T1 ((t.length:Int)+1)++T2),.no]=some (.nx,[.dat (~~~t),.own (T1 ((t.length:Int)+1)++T2),s2]):=by simp only[aD,Tg.ix,Tg.k9,hw,h3];simp
 have hp:cP Sw.n (Dw [~~~t])=[.dat (~~~t),.no,.no]:=rfl;have hbody:Sw.body=[Xx,Xy,.loop (.nm 2) pW pB,(.ret (.val (.bl true)))]:=rfl;unfold bF;rw[hp,hbody,U.b,au e1,au e2,au e3];generalize T1 ((t.length:Int)+1)++T2=Z;simp! [U,U.e]
end
end bD
namespace bD
open Ev
def Ru(rn:Rn)(k:Nat)(C:Nat)(c:Int):Prop:=∃r g3,rn.b [] k (Sv.body.drop 2) ((List.replicate Sv.n .no).set 1 (.dat (.kr C)))=some (.rt r,g3)/\cW [] g3 r=some (.new [.int c])
structure Fk(rn:Nat->Rn)(n k:Nat):Prop where
 a0:Ru (rn (n+127)) (k+11) 145 13
theorem Wk(t: ~~~0):Sd 1 (lI t):=by
 unfold lI;split
 . exact⟨by decide,λx hx=>by rw[hU.mp hx];trivial⟩
 .
  split
  . trivial
  .
   refine⟨by simp,λx hx=>?_⟩
   simp only[dL,i4,u8]at hx;rcases hx with rfl |rfl <;> trivial
theorem Wm{T:Tg}{b:G->Option (Fl×G)}{d1 d2 d3:D}{g0 g1 g1' g2 g2' g3 g3':G}(h1:T.set d1 g0=some g1)(e1:b g1=some (.nx,g1'))(h2:T.set d2 g1'=some g2)(e2:b g2=some (.nx,g2'))(h3:T.set d3 g2'=some g3)(e3:b g3=some (.nx,g3')):fO T b [d1,d2,d3] g0=some (.nx,g3'):=by simp only[fO,h1,e1,h2,e2,h3,e3]
section
variable{k n:Nat}{g g1:G}{rn:Nat->Rn}(U:lg fns rn)
include U
omit U in
theorem rL{rn:Rn}{k:Nat}{e:Ex}{g g':G}{ci C:Nat}{c:Int}(hx:rn.x [] k e (g.map noOwn)=some (ci,g'))(hc:gW[ci]?=some C)(hr:Ru rn k C c):CP rn (k+2) fns 20 1 gW e g=some (.lst [.int c]):=by obtain⟨r,g3,h1,h2⟩:=hr;unfold CP;simp only[c20,hx,hc,h1,h2];rfl
theorem nO(t: ~~~0)(h:Kt t)(A0 A1 A2 a4 A5 A6:Slot):(rn (n+129)).b [] (k+13) Ew [A0,A1,A2,.dat (~~~t),a4,A5,A6]=some (.nx,[A0,A1,A2,.dat (~~~t),.dat (lI t),A5,A6]):=by
 have q1:=λn k=>zB U c11 c12 (n:=n) (k:=k) t h
 have q2:=λn k=>J8 U (n:=n) (k:=k) t h.l2
 have q3:=λn k=>zC U c0 c1 c2 c3 c4 c7 c8 c9 (n:=n) (k:=k) t h
 have q4:=λn k=>uA U c0 c1 c2 c3 c4 c7 c8 (n:=n) (k:=k) t h
 have q5:=λn k=>zE U (n:=n) (k:=k) t h
 have q6:=λn k=>lH U Sy 0 n k (.bl (n5 (lI t))) trivial
 have q7:=λn k=>lH U Sy 1 n k (lI t) (Wk t)
 simp only[Nat.reduceMul,Nat.add_assoc,Nat.reduceAdd,Nat.add_zero]at q6 q7;rw[<- J9 t h]at q2;generalize lI t=np at *;have hz:List.map jE [A0,A1,A2,.dat (~~~t),.dat np,A5,A6]=[jE A0,jE A1,jE A2,.dat (~~~t),jE (.dat np),jE A5,jE A6]:=rfl;have hz2:jE (.dat np)=.dat np:=rfl;have cm:eV .NotEq (.bl (n5 np)) (.bl (n5 np))=some false:=by cases n5 np <;> rfl
 have cI:eV .Is np .non=some (n5 np):=rfl;have e1:aD (rn (n+128)) [] (k+13) t1 [A0,A1,A2,.dat (~~~t),a4,A5,A6]=some (.nx,[A0,A1,A2,.dat (~~~t),.dat np,A5,A6]):=by unfold t1;simp! [U,c22,aG (fx:=jB 12) rfl,q1]
 have e2:aD (rn (n+128)) [] (k+13) t2 [A0,A1,A2,.dat (~~~t),.dat np,A5,A6]=some (.nx,[A0,A1,A2,.dat (~~~t),.dat np,A5,A6]):=by unfold t2;simp! [U,hz,hz2,cI,c17,aG (fx:=p8) rfl,q2,cm,c5,aG (fx:=eE 9) rfl,q3,Sy,bU (fx:=dj 10) rfl,q6,flat]
 have e3:aD (rn (n+128)) [] (k+13) t3 [A0,A1,A2,.dat (~~~t),.dat np,A5,A6]=some (.nx,[A0,A1,A2,.dat (~~~t),.dat np,A5,A6]):=by unfold t3;simp! [U,hz,hz2,c9,aG (fx:=cZ 4 7 8) rfl,q4,Sy,bU (fx:=dj 10) rfl,q7,flat,c21,aG (fx:=Sw) rfl,q5]
 unfold Ew;rw[U.b,au e1,au e2,au e3];rfl
variable(F:Fk rn n k)
include F
theorem refused(A0 A1 A2 A3 A4:Slot)(d:D)(hd:Gf d)(hk:jx d=false):aD (rn (n+128)) [] (k+13) Xz [A0,A1,A2,A3,A4,.no,.dat d]=some (.nx,[A0,A1,A2,A3,A4,.no,.dat d]):=by
 have y1:=λn k=>Es U c0 c1 c2 c3 c4 c7 c8 c9 (n:=n) (k:=k) d hd hk
 have y2:=λn k=>zD U c0 c1 c2 c3 c4 c7 c8 c9 (n:=n) (k:=k) d (.tup [.str aZ]) hd hk
 have y3:=λn k=>xR U c0 c1 c2 c3 c4 c7 c8 c9 (n:=n) (k:=k) d hd hk
 have nz:List.map noOwn [A0,A1,A2,A3,A4,.no,.dat d]=[noOwn A0,noOwn A1,noOwn A2,noOwn A3,noOwn A4,.no,.dat d]:=rfl;have l1:=aq 1 ⋯;generalize hG:[A0,A1,A2,A3,A4,.no,.dat d]=GG at nz;have g5:GG[5]?=some .no:=by rw[<- hG];rfl
 have w1:(rn (n+127)).x [] (k+11) (.call 5 [⇑6]) (GG.map noOwn)=some (0,[noOwn A0,noOwn A1,noOwn A2,noOwn A3,noOwn A4,.no,.dat d]):=by rw[nz];simp! [U,c5,gK (fx:=eE 9) rfl,y1]
 have w2:(rn (n+127)).x [] (k+11) (.call 6 [⇑6,(.tup [(.val (.str aZ))])]) (GG.map noOwn)=some (0,[noOwn A0,noOwn A1,noOwn A2,noOwn A3,noOwn A4,.no,.dat d]):=by rw[nz];simp! [U,l1,c6,J1 (fx:=bh 4 7 1 8) rfl,y2]
 have w3:(rn (n+127)).x [] (k+11) (.call 9 [⇑6]) (GG.map noOwn)=some (0,[noOwn A0,noOwn A1,noOwn A2,noOwn A3,noOwn A4,.no,.dat d]):=by rw[nz];simp! [U,c9,gK (fx:=cZ 4 7 8) rfl,y3]
 have hc0:gW[0]?=some 145:=rfl;have rs:(rn (n+128)).e [] (k+13) (.refs 20 1 gW [(.call 5 [⇑6]),(.call 6 [⇑6,(.tup [(.val (.str aZ))])]),(.call 9 [⇑6])]) GG=some (.new [.lst [.int 13],.lst [.int 13],.lst [.int 13]],GG):=by rw[U.e];simp only[bw,tR,rL w1 hc0 F.a0,rL w2 hc0 F.a0,rL w3 hc0 F.a0]
 have rt:(rn (n+128)).e [] (k+13) (.bin .Mult (.lst [(.lst [↥13])]) ↥3) GG=some (.new [.lst [.int 13],.lst [.int 13],.lst [.int 13]],GG):=by have o:mU .Mult (.lst [.lst [.int 13]]) (.int 3)=some (.new [.lst [.int 13],.lst [.int 13],.lst [.int 13]]):=rfl;simp! [U,l1,o]
 have cm:eV .NotEq (.lst [.lst [.int 13],.lst [.int 13],.lst [.int 13]]) (.lst [.lst [.int 13],.lst [.int 13],.lst [.int 13]])=some false:=by simp[eV,iH,eG,dI,lz,lX,dep,deps]
 unfold Xz aD;simp only[g5,rs,rt,norm,pk,cm];rfl
theorem cell(ns: ~~~0)(hl:ns.length<=63)(j:Nat)(a2 a3 a4 a6:Slot):∃b2 b3 b4 b6,(rn (n+130)).b [] (k+13) uC [.dat (.fix (ns.map .int)),‹j›,a2,a3,a4,.no,a6]=some (.nx,[.dat (.fix (ns.map .int)),‹j›,b2,b3,b4,.no,b6]):=by
 obtain⟨s,fl,q1⟩:=DR U c13 (n:=n+88) (k:=k+11) ns ⋯ j;generalize hA0:Slot.dat (.fix (ns.map .int))=A0;generalize hA1:Slot.dat (.int (j:Int))=A1;have e1:aD (rn (n+129)) [] (k+13) b1 [A0,A1,a2,a3,a4,.no,a6]=some (.nx,[A0,A1,St s fl,a3,a4,.no,a6]):=by subst hA0 hA1;unfold b1;simp! [U,c14,bU (fx:=j4 13) rfl,q1]
 obtain⟨u1,s1,h1,q2⟩:=fK U XC (n:=n+27) (k:=k+11) (g:=[A0,A1,St s fl,a3,a4,.no,a6]) (i:=2) (s:=s) (fl:=fl) 12 ⋯ rfl;obtain⟨u2,s2,h2,q3⟩:=fK U XC (n:=n+27) (k:=k+11) (g:=[A0,A1,St s1 fl,a3,a4,.no,a6]) (i:=2) (s:=s1) (fl:=fl) 6 ⋯ rfl;obtain⟨u3,s3,h3,q4⟩:=fK U XC (n:=n+27) (k:=k+11) (g:=[A0,A1,St s2 fl,a3,a4,.no,a6]) (i:=2) (s:=s2) (fl:=fl) 8 ⋯ rfl;have yD:bu (rn (n+127)) (bJ 15) (k+12) [.var 2,‹12›] [A0,A1,St s fl,a3,a4,.no,a6]=some (.dat (~~~u1),[A0,A1,St s1 fl,a3,a4,.no,a6]):=q2;have FJ:bu (rn (n+127)) (bJ 15) (k+12) [.var 2,‹6›] [A0,A1,St s1 fl,a3,a4,.no,a6]=some (.dat (~~~u2),[A0,A1,St s2 fl,a3,a4,.no,a6]):=q3;have Z1:bu (rn (n+127)) (bJ 15) (k+12) [.var 2,‹8›] [A0,A1,St s2 fl,a3,a4,.no,a6]=some (.dat (~~~u3),[A0,A1,St s3 fl,a3,a4,.no,a6]):=q4;have r1:=nO U (n:=n) (k:=k) u1 ⟨h1.1.1,h1.1.2,h1.2.1,h1.2.2⟩ A0 A1 (St s3 fl) a4 .no a6;have r2:=nO U (n:=n) (k:=k) u2 ⟨h2.1.1,h2.1.2,h2.2.1,h2.2.2⟩ A0 A1 (St s3 fl) (.dat (lI u1)) .no a6;have r3:=nO U (n:=n) (k:=k) u3 ⟨h3.1.1,h3.1.2,h3.2.1,h3.2.2⟩ A0 A1 (St s3 fl) (.dat (lI u2)) .no a6;have hw:fS (rn (n+129)) [] (k+13) false dW [A0,A1,St s fl,a3,a4,.no,a6]=some ([~~~u1,~~~u2,~~~u3],[A0,A1,St s3 fl,a3,a4,.no,a6]):=by unfold dW;simp! [U,fS,c16,yD,FJ,Z1,aq 3 ⋯]
 have e2:aD (rn (n+129)) [] (k+13) b2 [A0,A1,St s fl,a3,a4,.no,a6]=some (.nx,[A0,A1,St s3 fl,.dat (~~~u3),.dat (lI u3),.no,a6]):=by unfold b2;have lp:=Wm (T:=.nm 3) (g0:=[A0,A1,St s3 fl,a3,a4,.no,a6]) rfl r1 rfl r2 rfl r3;simp only[aD,Tg.ix,Tg.k9,hw,lp];simp
 obtain⟨d,s4,hd,q5⟩:=DX U XC (n:=n+68) (k:=k+11) (g:=[A0,A1,St s3 fl,.dat (~~~u3),.dat (lI u3),.no,a6]) (i:=2) (s:=s3) (fl:=fl) u3 h3.1 rfl;have q5':bu (rn (n+128)) (iP 15) (k+12) [.var 2,.dat (~~~u3)] [A0,A1,St s3 fl,.dat (~~~u3),.dat (lI u3),.no,a6]=some (.dat d,[A0,A1,St s4 fl,.dat (~~~u3),.dat (lI u3),.no,a6]):=q5;have e3:aD (rn (n+129)) [] (k+13) b3 [A0,A1,St s3 fl,.dat (~~~u3),.dat (lI u3),.no,a6]=some (.nx,[A0,A1,St s4 fl,.dat (~~~u3),.dat (lI u3),.no,.dat d]):=by unfold b3;simp! [U,c18,q5']
 refine⟨St s4 fl,.dat (~~~u3),.dat (lI u3),.dat d,?_⟩;generalize St s4 fl=A2 at *;generalize Slot.dat (~~~u3)=A3 at *;generalize Slot.dat (lI u3)=A4 at *;have q6:=λn k=>nI U c11 (n:=n) (k:=k) d hd
 have e4:aD (rn (n+129)) [] (k+13) b4 [A0,A1,A2,A3,A4,.no,.dat d]=some (.nx,[A0,A1,A2,A3,A4,.no,.dat d]):=by
  have t0:(rn (n+129)).t [] (k+13) (.not (.call 19 [⇑6])) [A0,A1,A2,A3,A4,.no,.dat d]=some (!jx d,[A0,A1,A2,A3,A4,.no,.dat d]):=by simp! [U,c19,aG (fx:=aX 11) rfl,q6]
  unfold b4 aD;cases hk:jx d with
  |true=>rw[hk]at t0;simp only[t0,Bool.not_true,U.b,bV]
  |false=>
   rw[hk]at t0;have rf:=refused U F A0 A1 A2 A3 A4 d hd hk;have bb:(rn (n+129)).b [] (k+13) [Xz] [A0,A1,A2,A3,A4,.no,.dat d]=some (.nx,[A0,A1,A2,A3,A4,.no,.dat d]):=by rw[U.b,au rf];rfl
   simp only[t0,Bool.not_false,bb]
 unfold uC;rw[U.b,au e1,au e2,au e3,au e4];rfl
theorem whole(ns: ~~~0)(hl:ns.length<=63):∃g',(rn (n+131)).b [] (k+13) Sx.body [.dat (.fix (ns.map .int)),.no,.no,.no,.no,.no,.no]=some (.rt (.dat (.bl true)),g'):=by
 have loop:=dQ (T:=.nm 1) (b:=(rn (n+130)).b [] (k+13) uC) (λ(j:Nat)=>D.int (0+(j:Int)))
  (I:=λ(l:List Nat) g=>∃(s1 s2 s3 s4 s6:Slot),g=[.dat (.fix (ns.map .int)),s1,s2,s3,s4,.no,s6])
  (step:=λa l g h=>by
   obtain⟨s1,s2,s3,s4,s6,rfl⟩:=h;rw[Int.zero_add];obtain⟨b2,b3,b4,b6,q⟩:=cell U F ns hl a s2 s3 s4 s6;exact⟨_,_,rfl,q,_,_,_,_,_,rfl⟩)
 obtain⟨M,hM,hM2⟩:∃M:Nat,M<=8/\(if ((if (8:Int)<ns.length then 8 else (ns.length:Int))) > 1 then (if (8:Int)<ns.length then 8 else (ns.length:Int))else 1)=(M:Int):=by
  refine⟨(if ((if (8:Int)<ns.length then 8 else (ns.length:Int))) > 1 then (if (8:Int)<ns.length then 8 else (ns.length:Int))else 1).toNat,?_,?_⟩
  . split <;> (try split) <;> lia
  . split <;> (try split) <;> lia
 obtain⟨g2,⟨s1,s2,s3,s4,s6,rfl⟩,h4⟩:=loop (List.range M) [.dat (.fix (ns.map .int)),.no,.no,.no,.no,.no,.no] ⟨_,_,_,_,_,rfl⟩;have hv:iS (rn (n+130)) [] (k+13) (.blt .max [↥1,(.blt .min [(.blt .len [⇑0]),↥8])]) [.dat (.fix (ns.map .int)),.no,.no,.no,.no,.no,.no]=some (.int (M:Int),[.dat (.fix (ns.map .int)),.no,.no,.no,.no,.no,.no]):=by rw[<- hM2];simp! [U,nB]
 have hw:fS (rn (n+130)) [] (k+13) false (.eK (.blt .max [↥1,(.blt .min [(.blt .len [⇑0]),↥8])])) [.dat (.fix (ns.map .int)),.no,.no,.no,.no,.no,.no]=some ((List.range M).map λ(x:Nat)=>D.int (0+(x:Int)),[.dat (.fix (ns.map .int)),.no,.no,.no,.no,.no,.no]):=by unfold fS;dsimp only;rw[hv];dsimp only;rw[i5 (aQ M ⋯),mM];rfl
 have e1:aD (rn (n+130)) [] (k+13) (.loop (.nm 1) (.eK (.blt .max [↥1,(.blt .min [(.blt .len [⇑0]),↥8])])) uC) [.dat (.fix (ns.map .int)),.no,.no,.no,.no,.no,.no]=some (.nx,[.dat (.fix (ns.map .int)),s1,s2,s3,s4,.no,s6]):=by simp only[aD,Tg.ix,Tg.k9,hw,h4];simp
 refine⟨[.dat (.fix (ns.map .int)),s1,s2,s3,s4,.no,s6],?_⟩;unfold Sx;rw[U.b,au e1];simp! [U,U.e]
end
end bD
namespace bD
open Ev
def rfB(rn:Rn)(k:Nat)(C:Nat)(c:Int):Bool:=match rn.b [] k (Sv.body.drop 2) ((List.replicate Sv.n .no).set 1 (.dat (.kr C)))with
 |some (.rt r,g3)=>(match cW [] g3 r with |some (.new [.int c'])=>decide (c'=c) |_=>false)
 |_=>false
theorem Rv{rn:Rn}{k C:Nat}{c:Int}(h:rfB rn k C c=true):Ru rn k C c:=by
 unfold rfB at h;split at h
 .
  rename_i r g3 e;split at h
  . rename_i c' e2;rw[i8 h]at e2;exact⟨r,g3,e,e2⟩
  . symm
 . symm
theorem Rw:Fk (run fns) 0 0:=⟨Rv (by decide +kernel)⟩
def kk:Nat:=13
def fuel:Nat:=131
theorem hev(ns: ~~~0)(hl:ns.length<=63):∃g',(run fns fuel).b [] kk Sx.body (cP 7 [.dat (.fix (ns.map .int))])=some (.rt (.dat (.bl true)),g'):=whole (J0 fns) Rw ns hl
end bD
namespace Ev
open L2
def Wn:Value->Bool
 |.str _ _=>true
 |_=>false
def Kc:Value->Bool
 |.int _ _=>true
 |_=>false
def Lq:Value->Bool
 |.bool _=>true
 |_=>false
noncomputable def Kd(n:String):Value->Bool
 |.type m=>decide (m=n)
 |_=>false
noncomputable def Rx(q:Addr):Option Value->Bool
 |some (.ref p)=>decide (p=q)
 |_=>false
theorem rM{n:String}{v:Value}(h:Kd n v=true):v=.type n:=by
 unfold Kd at h;split at h
 . rw[i8 h]
 . symm
theorem Ke{q:Addr}{v:Option Value}(h:Rx q v=true):v=some (.ref q):=by
 unfold Rx at h;split at h
 . rw[i8 h]
 . symm
def codeOk(K:Frag)(c q:Addr):Bool:=match K.lookup c with
 |some o=>(match o.data with
  |.fields vs=>Kd "code" o.cls&&Rx q vs[11]?&&Wn (vs.getD 18 .none)&&Kc (vs.getD 7 .none)&&Lq (vs.getD 9 .none)&&Kc (vs.getD 10 .none)&&decide (c≠q)
  |_=>false)
 |none=>false
theorem qa{K:Frag}{h:Heap}{c q:Addr}(X:K.In h)(e:codeOk K c q=true):PySem.W.CodeHd h c q/\∃o vs,h.get? c=some o/\o.cls=.type "code" /\o.data=.fields vs/\vs[11]?=some (.ref q):=by
 unfold codeOk at e;split at e
 .
  rename_i o ho;split at e
  .
   rename_i vs hv;simp only[eP,eQ]at e;obtain⟨⟨⟨⟨⟨⟨e1,e2⟩,e3⟩,e4⟩,e5⟩,e6⟩,e7⟩:=e;have r:=Ke e2;have d:vs.getD 11 .none=.ref q:=by rw[Array.getD_eq_getD_getElem?,r];rfl
   unfold Wn at e3;split at e3
   .
    rename_i file tf h3;unfold Kc at e4;split at e4
    .
     rename_i fl tg h4;unfold Lq at e5;split at e5
     .
      rename_i b h5;unfold Kc at e6;split at e6
      . rename_i tx tt h6;exact⟨⟨o,vs,file,tf,fl,tg,b,tx,tt,X _ _ ho,rM e1,hv,r,d,h3,h4,h5,h6,e7⟩,o,vs,X _ _ ho,rM e1,hv,r⟩
      . cases e6
     . cases e5
    . cases e4
   . cases e3
  . cases e
 . cases e
noncomputable def Ey(K:Frag)(c:Addr):Bool:=K.all λp=>decide (p.1=c)||!PySem.W.codeIn [p] (.ref p.1) "law"
theorem lookup_mem{β:Type}:∀{l:List (Addr×β)}{a:Addr}{b:β},l.lookup a=some b->(a,b)∈l
 | [],_,_,h=>by symm
 | (x,y)::l,a,b,h=>by
  rw[oS]at h;by_cases e:a=x
  . subst e;simp at h;subst h;exact dA
  .
   have:(a==x)=false:=by simpa using e
   rw[this]at h;exact b0 _ (lookup_mem h)
noncomputable def Ry(K:Frag)(bm q:Addr):Bool:=match K.lookup bm with
 |some ⟨c,some d,.plain,_⟩=>Kd "module" c&&decide (d=builtinsNs)&&decide (bm≠builtinsNs)&&decide (bm≠mainGlobals)&&decide (bm≠q)
 |_=>false
theorem Rz{K:Frag}{mg:Str->Option Value}{h:Heap}{c q bm:Addr}(X:K.In h)(G:h.Ns mainGlobals mg)(e1:Ey K c=true)(e2:codeOk K c q=true)(e3:cF K=[(q,gX)])(e4:PySem.W.nsIn K mainGlobals "__builtins__"=some (some (.ref bm)))(e5:Ry K bm q=true)(e6:mainGlobals≠q) :
  ∀bB,PySem.W.codeIn K bB "law"=true->CQ K mg bB:=λbB hc=>by
 cases bB with
 |ref c'=>
  cases hl:K.lookup c' with
  |none=>unfold PySem.W.codeIn at hc;simp only[hl]at hc;cases hc
  |some o=>
   have hm:=lookup_mem hl;have e0:PySem.W.codeIn [(c',o)] (.ref c') "law"=PySem.W.codeIn K (.ref c') "law" :=by
    have h1:List.lookup c' [(c',o)]=some o:=by simp
    unfold PySem.W.codeIn;simp only[hl,h1]
   have ec:c'=c:=by have:=oD.mp e1 _ hm;dsimp only at this;rw[e0,hc]at this;simpa using this
   subst ec;refine⟨c',q,rfl,λb hb=>(qa hb e2).1,by rw[e3];exact dA,λb hb=>?_,e6⟩
   unfold Ry at e5;split at e5
   . rename_i cc d sl hb2;simp only[eP,eQ]at e5;obtain⟨⟨⟨⟨f1,f2⟩,f3⟩,f4⟩,f5⟩:=e5;exact⟨bm,_,B0 X G e4,f3,f4,f5,hb _ _ hb2,rM f1,by rw[f2],rfl⟩
   . cases e5
 |_=>cases hc
theorem uD{q:Addr}{K:Params->Frag}{w:World}{h:Heap}(e:(K w.params).lookup q=none)(Y:PySem.W.InK (oH q K) w h):(K w.params).In h:=λa o ho=>by
 refine Y a o ?_;show List.lookup a ((q,_)::K w.params)=_;rw[oS];have:(a==q)=false:=by
  by_cases z:a=q
  . rw[z,e]at ho;cases ho
  . simpa using z
 rw[this];exact ho
theorem zF{c q:Addr}{K:Params->Frag}{w:World}{h:Heap}(e:(K w.params).lookup q=none)(e2:codeOk (K w.params) c q=true)(Y:PySem.W.InK (oH q K) w h):∀p∈[q],(∃c,h.TableAt c p #[])/\(K w.params).lookup p=none:=λp hp=>by
 cases hU.mp hp;refine⟨⟨c,(qa (uD e Y) e2).2,Y _ _ ?_⟩,e⟩;show List.lookup q ((q,_)::K w.params)=_;simp
theorem Ez{l:PySem.W.OpenLaw}{n k:Nat}{q:Program}{loose:List Str}{XP:(Str->Option Value)->Heap->Prop}{YP:World->Heap->Prop}{d:DefRec}{K:Params->Frag}{CX:yg}{sp:Frag->Sp}{x:Str}{T:List Addr}
  (hn:l.most=some n) (hn2:n<=sizeLine) (fU:d.params.defaults=[]) (hr:bW k callerA)
  (hY:∀(w:World) (h:Heap),YP w h->(K w.params).In h) (hT:∀(w:World) (h:Heap),YP w h->∀q∈T,(∃c,h.TableAt c q #[])/\(K w.params).lookup q=none)
  (F:∀(w:World) (mg:Str->Option Value) (fa:Addr) (h:Heap),(K w.params).In h->h.Ns mainGlobals mg->mg d.name=some (.ref fa)->
   ∃fd:FuncData,(∀(s:Shared) (u:Value),BindsTo s fd ⟨[u],[]⟩ [(x,u)])/\
    ∀base:Heap,(K w.params).In base->base.Ns mainGlobals mg->gQ l.prog w (K w.params) mg base CX k fa fd [x] (sp (K w.params)))
  (RN:∀(w:World) (H:Hp) (a:Addr) (ns: ~~~0),ns.length<=n->wM T H->cG (K w.params) H a (ns.map V.int)->sp (K w.params) [.ref a] H (λv _=>v=.bl true) λ_ _ _=>False)
  (Y9:∀(H:Hp) (s:Shared) (e:Value) (s':Shared),CX [] H s (λ_ _ _=>False) e s'->False) :
  PySem.W.WalkO q loose XP YP l.row.toRowW d [] (λf vs=>PySem.call f vs):=by
 refine Att.sF hn fU λw s₀ s₁ mg mb fa o pm cd doc a vs ns G Y ho hd bY hmg hobj hints aV hg=>?_
 have KX:=hY w _ Y;obtain⟨fd,hb,hF⟩:=F w mg fa _ KX G.T.g hmg;exact yQ KX (hT w _ Y) G.T.g G.T.b G.T.builtins G.T.nolimit hg hobj hints (oI aV hn2) hr hF hb (λH hO hS=>RN w H a ns aV hO hS) λH e s'=>Y9 H s₁ e s'
noncomputable def kitF(K:Frag)(C:Addr):Bool:=["int", "bool", "str", "tuple", "list", "dict"].all λn=>decide (PySem.W.kitOne K (.ref C) (.type n)=some false)
theorem RB{K:Frag}{C:Addr}(h1:PySem.W.findIn K (.ref C) "__getattribute__"=some (some (.builtin "BaseException.__getattribute__")))(h8:PySem.W.findIn K (.ref C) "__getattr__"=some none)(h9:PySem.W.mroIn K C (.type "BaseException")=some true)(h2:PySem.W.hasDictIn K C=true)(h3:PySem.W.findIn K (.ref C) "__class__"=some (some (.builtin "object.__class__")))(h4:PySem.W.specialIn K (.builtin "object.__class__") "__get__"=some (some (.builtin "getset_descriptor.__get__")))(h5:PySem.W.takesIn K (.builtin "object.__class__")=some true)(h6:PySem.W.mroIn K C (.type "object")=some true)(h7:kitF K C=true):FG K C:=
 ⟨h1,h8,h9,h2,h3,h4,h5,h6,λn hn=>i8 (oD.mp h7 n hn)⟩
noncomputable def fh(K:Frag)(cv:Value)(l:List (Addr×Bool)):Bool:=decide (PySem.W.kitOne K (.type "NoneType") cv=some false)&&l.all λp=>decide (PySem.W.kitOne K (.ref p.1) cv=some p.2)
theorem bK{P:Pg}{K:Frag}{mg:Str->Option Value}{h:Heap}{x:Str}{l:List (Addr×Bool)}{D:Addr}(X:K.In h)(G:h.Ns mainGlobals mg)(e1:(x==(~~~3))=false)(e2:PySem.W.nsIn K mainGlobals x=some (some (.ref D)))(e3:fh K (.ref D) l=true) :
  (x==(~~~3))=false/\∃cv,((mg x=some cv/\∃D,cv=.ref D)\/(x∈P.bn/\x≠ "__name__" /\bootBuiltins x=some cv/\∃n,cv=.type n))/\PySem.W.kitOne K (.type "NoneType") cv=some false/\∀C b,l.lookup C=some b->PySem.W.kitOne K (.ref C) cv=some b:=by
 unfold fh at e3;rw[eP]at e3;exact⟨e1,.ref D,.inl ⟨B0 X G e2,D,rfl⟩,i8 e3.1,λC b hl=>i8 (oD.mp e3.2 _ (lookup_mem hl))⟩
theorem EY{P:Pg}{K:Frag}{mg:Str->Option Value}{x:Str}{l:List (Addr×Bool)}{n:String}(e1:(x==(~~~3))=false)(e2:x∈P.bn)(e4:x≠ "__name__")(e5:bootBuiltins x=some (.type n))(e3:fh K (.type n) l=true) :
  (x==(~~~3))=false/\∃cv,((mg x=some cv/\∃D,cv=.ref D)\/(x∈P.bn/\x≠ "__name__" /\bootBuiltins x=some cv/\∃n,cv=.type n))/\PySem.W.kitOne K (.type "NoneType") cv=some false/\∀C b,l.lookup C=some b->PySem.W.kitOne K (.ref C) cv=some b:=by
 unfold fh at e3;rw[eP]at e3;exact⟨e1,.type n,.inr ⟨e2,e4,e5,n,rfl⟩,i8 e3.1,λC b hl=>i8 (oD.mp e3.2 _ (lookup_mem hl))⟩
theorem Wo{P:Pg}{K:Frag}{mg:Str->Option Value}(h1:∀bB,PySem.W.codeIn K bB "law"=true->CQ K mg bB)(h2:All (λp:Str×Addr=>mg p.1=some (.ref p.2)/\eH K p.2/\FG K p.2) (P.cls.zip P.gW))(hl:P.gW.length<=P.cls.length)
  (h3:(P.kt==(~~~3))=false/\∃D,mg P.kt=some (.ref D)/\eH K D/\All (λC=>tG K C D=true) P.gW)
  (h4:All (λp:Str×List (Addr×Bool)=>(p.1==(~~~3))=false/\∃cv,((mg p.1=some cv/\∃D,cv=.ref D)\/(p.1∈P.bn/\p.1≠ "__name__" /\bootBuiltins p.1=some cv/\∃n,cv=.type n))/\PySem.W.kitOne K (.type "NoneType") cv=some false/\∀C b,p.2.lookup C=some b->PySem.W.kitOne K (.ref C) cv=some b) P.ups):QG P K mg:=
 ⟨λ_=>h1,λi C e=>by
  have hi:i<P.gW.length:=(dE.mp e).1;have hi2:i<P.cls.length:=by lia
  refine⟨P.cls[i],nE hi2,?_⟩;have:=h2.mem (P.cls[i],C) (l7 (i:=i) (by rw[List.getElem?_zip_eq_some];exact⟨nE hi2,e⟩))
  exact this,λ_=>let ⟨a,D,b,c,d⟩:=h3;⟨a,D,b,c,λC hC=>d.mem C hC⟩,λx l h=>h4.mem (x,l) h⟩
end Ev
namespace bD
open L2 Ev
def f0:Fi:=dP (st 18)
def f1:Fi:=dP (st 19)
def f2:Fi:=dP (st 21)
def f3:Fi:=dP (st 24)
def f4:Fi:=dP (st 25)
def f5:Fi:=dP (st 26)
def f6:Fi:=dP (st 27)
def f7:Fi:=dP (st 28)
def f8:Fi:=dP (st 29)
def f9:Fi:=dP (st 30)
def f10:Fi:=dP (st 32)
def f11:Fi:=dP (st 33)
def f12:Fi:=dP (st 34)
def f13:Fi:=dP (st 35)
def f14:Fi:=dP (st 36)
def f15:Fi:=dP (st 37)
def f16:Fi:=dP (st 38)
def f17:Fi:=dP (st 39)
def f18:Fi:=dP (st 40)
def f19:Fi:=dP (st 41)
def f20:Fi:=dP (st 42)
def f21:Fi:=dP (st 43)
def f22:Fi:=dP (st 44)
def Sz:Fi:=dP (st 45)
noncomputable def ups:List (Str×List (Addr×Bool)):=[("NoWeb",[(145,false)]),("NoNumber",[(145,false)]),("NoTurn",[(145,false)]),("NoKind",[(145,false)]),("NoPlace",[(145,false)]),("NoTie",[(145,false)]),("NoNumbers",[(145,false)]),("NoTree",[(145,false)]),("NoCode",[(145,false)]),("NoCounts",[(145,true)]),("NoMarks",[(145,false)]),("NoText",[(145,false)]),("NoLine",[(145,false)]),("NoDeed",[(145,false)]),("TooGreat",[(145,false)]),("ValueError",[(145,true)])]
def P:Pg:=⟨[f0,f1,f2,f3,f4,f5,f6,f7,f8,f9,f10,f11,f12,f13,f14,f15,f16,f17,f18,f19,f20,f21,f22,Sz],[("MOST_COUNTS",.int 12)],["ValueError", "all", "bool", "int", "isinstance", "len", "list", "max", "min", "range", "sorted", "str", "sum", "tuple", "zip"],["NoCounts"],true,[145], "KindError",ups⟩
theorem RC:Du P P.fn fns=true:=by decide +kernel
theorem fns_eq:List.zipWith (xg P) P.fn fns=P.fn.map (λfi=>bz fi.st):=by kernel_rfl
theorem nLaw:Sz.N.length=7:=rfl
theorem hevF:∀ns:List Int,ns.length<=63->∃g',(run fns fuel).b [] kk Sx.body (cP Sz.N.length [.dat (.fix (ns.map .int))])=some (.rt (.dat (.bl true)),g'):=by rw[nLaw];exact hev
theorem xT(P:Params):cF (K P)=[(nat_lit 355,gX)]:=by kernel_rfl
theorem Fb(P:Params):(K P).lookup (nat_lit 355)=none:=by kernel_rfl
theorem xU(P:Params):codeOk (K P) (nat_lit 357) (nat_lit 355)=true:=by kernel_rfl
theorem Kf(P:Params):Ey (K P) (nat_lit 357)=true:=by kernel_rfl
theorem Wq(P:Params):Ry (K P) (nat_lit 4) (nat_lit 355)=true:=by kernel_rfl
theorem uE(P:Params):FG (K P) (nat_lit 145):=RB (by kernel_rfl) (by kernel_rfl) (by kernel_rfl) (by kernel_rfl) (by kernel_rfl) (by kernel_rfl) (by kernel_rfl) (by kernel_rfl) (by kernel_rfl)
theorem kN(P:Params):eH (K P) (nat_lit 145):=by kernel_rfl
theorem uF(P:Params):tG (K P) (nat_lit 145) (nat_lit 24)=true:=by kernel_rfl
theorem rO(P:Params):eH (K P) (nat_lit 24):=by kernel_rfl
theorem Fc(P:Params):fh (K P) (.ref (nat_lit 37)) [(145,false)]=true:=by kernel_rfl
theorem uG(P:Params):fh (K P) (.ref (nat_lit 49)) [(145,false)]=true:=by kernel_rfl
theorem zG(P:Params):fh (K P) (.ref (nat_lit 61)) [(145,false)]=true:=by kernel_rfl
theorem zH(P:Params):fh (K P) (.ref (nat_lit 73)) [(145,false)]=true:=by kernel_rfl
theorem vW(P:Params):fh (K P) (.ref (nat_lit 85)) [(145,false)]=true:=by kernel_rfl
theorem Fd(P:Params):fh (K P) (.ref (nat_lit 97)) [(145,false)]=true:=by kernel_rfl
theorem rP(P:Params):fh (K P) (.ref (nat_lit 109)) [(145,false)]=true:=by kernel_rfl
theorem zI(P:Params):fh (K P) (.ref (nat_lit 121)) [(145,false)]=true:=by kernel_rfl
theorem zJ(P:Params):fh (K P) (.ref (nat_lit 133)) [(145,false)]=true:=by kernel_rfl
theorem uH(P:Params):fh (K P) (.ref (nat_lit 145)) [(145,true)]=true:=by kernel_rfl
theorem vX(P:Params):fh (K P) (.ref (nat_lit 157)) [(145,false)]=true:=by kernel_rfl
theorem zK(P:Params):fh (K P) (.ref (nat_lit 169)) [(145,false)]=true:=by kernel_rfl
theorem zL(P:Params):fh (K P) (.ref (nat_lit 181)) [(145,false)]=true:=by kernel_rfl
theorem zM(P:Params):fh (K P) (.ref (nat_lit 193)) [(145,false)]=true:=by kernel_rfl
theorem uI(P:Params):fh (K P) (.ref (nat_lit 212)) [(145,false)]=true:=by kernel_rfl
theorem oF(P:Params):fh (K P) (.type "ValueError") [(145,true)]=true:=by kernel_rfl
end bD
open PySem PySem.W PyProof.Rows
set_option maxHeartbeats 0 in
theorem PySem.Challenge.cw_websbykind_k61_papers_that_none_has_coun_holds : PySem.Challenge.rw_websbykind_k61_papers_that_none_has_coun.Holds := by
 w_on
 refine PySem.W.holds_law (by decide +kernel) λsaid=>?_
 refine PySem.W.holds_open (q:=bD.qv) (loose:=[]) (Xt:=λs=>xlAt bD.qv [] s&&recOk (OpenRow.toRowW PySem.Challenge.rw_websbykind_k61_papers_that_none_has_coun.row).records s) (XP:=XL bD.qv []) (Yf:=λs=>bD.as2.map s.heap.get?) (Ya:=λw=>(Ev.oH 355 bD.K w.params).map λp:Nat×Obj=>some p.2) (YP:=InK (Ev.oH 355 bD.K)) (N:=8000) bD.hl (InK.of bD.SM) InK.keeps (λs e=>xl_of s (Bool.and_eq_true_iff.mp e).1) XL.keeps (by rfl) (by rfl) (by rfl) (λs e=>recFacts_of (Bool.and_eq_true_iff.mp e).2) (by rfl) (by first |assumption |decide +kernel) (by decide +kernel) ⟨rfl,rfl,rfl,rfl,rfl,by decide +kernel⟩ ?hw ?hc
 (case hw=>w_witness2)
 k_fill
 refine Ev.Ez (l:=PySem.Challenge.rw_websbykind_k61_papers_that_none_has_coun) (n:=63) (k:=bD.kk+1) (x:= "_law_script") (CX:=L2.rW) (K:=bD.K) (T:=[355]) (sp:=λK=>Ev.Hq K bD.Sz.N 1 λbor g r g'=>(Ev.run bD.fns bD.fuel).b bor bD.kk bD.Sx.body g=some (.rt r,g')) rfl ⋯ rfl ⟨rfl,by decide,by decide⟩ (λw h Y=>Ev.uD (bD.Fb _) Y) (λw h Y=>Ev.zF (bD.Fb _) (bD.xU _) Y) ?F ?S ?C
 case F=>
  intro w mg fa h KX G hmg
  have mm:Ev.cY (L2.KOf KX) mg bD.f0/\Ev.cY (L2.KOf KX) mg bD.f1/\Ev.cY (L2.KOf KX) mg bD.f2/\Ev.cY (L2.KOf KX) mg bD.f3/\Ev.cY (L2.KOf KX) mg bD.f4/\Ev.cY (L2.KOf KX) mg bD.f5/\Ev.cY (L2.KOf KX) mg bD.f6/\Ev.cY (L2.KOf KX) mg bD.f7/\Ev.cY (L2.KOf KX) mg bD.f8/\Ev.cY (L2.KOf KX) mg bD.f9/\Ev.cY (L2.KOf KX) mg bD.f10/\Ev.cY (L2.KOf KX) mg bD.f11/\Ev.cY (L2.KOf KX) mg bD.f12/\Ev.cY (L2.KOf KX) mg bD.f13/\Ev.cY (L2.KOf KX) mg bD.f14/\Ev.cY (L2.KOf KX) mg bD.f15/\Ev.cY (L2.KOf KX) mg bD.f16/\Ev.cY (L2.KOf KX) mg bD.f17/\Ev.cY (L2.KOf KX) mg bD.f18/\Ev.cY (L2.KOf KX) mg bD.f19/\Ev.cY (L2.KOf KX) mg bD.f20/\Ev.cY (L2.KOf KX) mg bD.f21/\Ev.cY (L2.KOf KX) mg bD.f22/\Ev.cY (L2.KOf KX) mg bD.Sz:=by
   refine⟨?_,?_,?_,?_,?_,?_,?_,?_,?_,?_,?_,?_,?_,?_,?_,?_,?_,?_,?_,?_,?_,?_,?_,?_⟩ <;> (
    dsimp only[L2.KOf]
    exact Ev.VR (by assumption) (by assumption) (by k_is) (by k_is) (by k_is) (by k_is) ⟨rfl,rfl,rfl,by decide +kernel,by decide +kernel,by decide +kernel,by decide +kernel⟩ (λ_ _ _ _ _ _ us hl=>by first | (obtain⟨_,e⟩:=Ev.V1 hl;subst e;rfl) | (obtain⟨_,_,e⟩:=Ev.V2 hl;subst e;rfl) | (obtain⟨_,_,_,e⟩:=Ev.ZR hl;subst e;rfl) | (obtain⟨_,_,_,_,e⟩:=Ev.len4 hl;subst e;rfl)) ⋯)
  obtain⟨m0,m1,m2,m3,m4,m5,m6,m7,m8,m9,m10,m11,Xu,Xv,m14,m15,m16,m17,m18,m19,m20,m21,m22,m23⟩:=mm
  have oG:Ev.QF (L2.KOf KX) mg ("MOST_COUNTS",.int 12):=by
   dsimp only[L2.KOf]
   refine' Ev.QH KX G ?a ⋯
   (case a=>k_is)
  have rQ:mg "ValueError"=none:=mg_none_of KX G (by k_is)
  have Wr:mg "all"=none:=mg_none_of KX G (by k_is)
  have RD:mg "bool"=none:=mg_none_of KX G (by k_is)
  have Ws:mg "int"=none:=mg_none_of KX G (by k_is)
  have rR:mg "isinstance"=none:=mg_none_of KX G (by k_is)
  have Wt:mg "len"=none:=mg_none_of KX G (by k_is)
  have RJ:mg "list"=none:=mg_none_of KX G (by k_is)
  have Wu:mg "max"=none:=mg_none_of KX G (by k_is)
  have Wv:mg "min"=none:=mg_none_of KX G (by k_is)
  have Kg:mg "range"=none:=mg_none_of KX G (by k_is)
  have Fe:mg "sorted"=none:=mg_none_of KX G (by k_is)
  have Ww:mg "str"=none:=mg_none_of KX G (by k_is)
  have Wx:mg "sum"=none:=mg_none_of KX G (by k_is)
  have Kh:mg "tuple"=none:=mg_none_of KX G (by k_is)
  have Wy:mg "zip"=none:=mg_none_of KX G (by k_is)
  have iQ:PySem.W.nsIn (L2.KOf KX) mainGlobals "NoCounts"=some (some (.ref 145)):=by dsimp only[L2.KOf];k_is
  have uJ:PySem.W.nsIn (L2.KOf KX) mainGlobals "KindError"=some (some (.ref 24)):=by dsimp only[L2.KOf];k_is
  have Kl:PySem.W.nsIn (L2.KOf KX) mainGlobals "NoWeb"=some (some (.ref 37)):=by dsimp only[L2.KOf];k_is
  have vY:PySem.W.nsIn (L2.KOf KX) mainGlobals "NoNumber"=some (some (.ref 49)):=by dsimp only[L2.KOf];k_is
  have Fg:PySem.W.nsIn (L2.KOf KX) mainGlobals "NoTurn"=some (some (.ref 61)):=by dsimp only[L2.KOf];k_is
  have Fj:PySem.W.nsIn (L2.KOf KX) mainGlobals "NoKind"=some (some (.ref 73)):=by dsimp only[L2.KOf];k_is
  have zO:PySem.W.nsIn (L2.KOf KX) mainGlobals "NoPlace"=some (some (.ref 85)):=by dsimp only[L2.KOf];k_is
  have Km:PySem.W.nsIn (L2.KOf KX) mainGlobals "NoTie"=some (some (.ref 97)):=by dsimp only[L2.KOf];k_is
  have uK:PySem.W.nsIn (L2.KOf KX) mainGlobals "NoNumbers"=some (some (.ref 109)):=by dsimp only[L2.KOf];k_is
  have Fo:PySem.W.nsIn (L2.KOf KX) mainGlobals "NoTree"=some (some (.ref 121)):=by dsimp only[L2.KOf];k_is
  have Fp:PySem.W.nsIn (L2.KOf KX) mainGlobals "NoCode"=some (some (.ref 133)):=by dsimp only[L2.KOf];k_is
  have zP:PySem.W.nsIn (L2.KOf KX) mainGlobals "NoMarks"=some (some (.ref 157)):=by dsimp only[L2.KOf];k_is
  have Fq:PySem.W.nsIn (L2.KOf KX) mainGlobals "NoText"=some (some (.ref 169)):=by dsimp only[L2.KOf];k_is
  have Ft:PySem.W.nsIn (L2.KOf KX) mainGlobals "NoLine"=some (some (.ref 181)):=by dsimp only[L2.KOf];k_is
  have Fv:PySem.W.nsIn (L2.KOf KX) mainGlobals "NoDeed"=some (some (.ref 193)):=by dsimp only[L2.KOf];k_is
  have vZ:PySem.W.nsIn (L2.KOf KX) mainGlobals "TooGreat"=some (some (.ref 212)):=by dsimp only[L2.KOf];k_is
  have n_b:PySem.W.nsIn (L2.KOf KX) mainGlobals "__builtins__"=some (some (.ref 4)):=by dsimp only[L2.KOf];k_is
  have lm:Ev.QG bD.P (L2.KOf KX) mg:=Ev.Wo (Ev.Rz KX G (bD.Kf _) (bD.xU _) (bD.xT _) n_b (bD.Wq _) ⋯) (.cons ⟨mg_of KX G iQ,bD.kN _,bD.uE _⟩ .nil) ⋯ ⟨by decide,24,mg_of KX G uJ,bD.rO _,(.cons (bD.uF _) .nil)⟩ (.cons (Ev.bK KX G ⋯ Kl (bD.Fc _)) (.cons (Ev.bK KX G ⋯ vY (bD.uG _)) (.cons (Ev.bK KX G ⋯ Fg (bD.zG _)) (.cons (Ev.bK KX G ⋯ Fj (bD.zH _)) (.cons (Ev.bK KX G ⋯ zO (bD.vW _)) (.cons (Ev.bK KX G ⋯ Km (bD.Fd _)) (.cons (Ev.bK KX G ⋯ uK (bD.rP _)) (.cons (Ev.bK KX G ⋯ Fo (bD.zI _)) (.cons (Ev.bK KX G ⋯ Fp (bD.zJ _)) (.cons (Ev.bK KX G ⋯ iQ (bD.uH _)) (.cons (Ev.bK KX G ⋯ zP (bD.vX _)) (.cons (Ev.bK KX G ⋯ Fq (bD.zK _)) (.cons (Ev.bK KX G ⋯ Ft (bD.zL _)) (.cons (Ev.bK KX G ⋯ Fv (bD.zM _)) (.cons (Ev.bK KX G ⋯ vZ (bD.uI _)) (.cons (Ev.EY ⋯ ⋯ ⋯ rfl (bD.oF _)) .nil))))))))))))))))
  have md:Ev.qQ bD.P (L2.KOf KX) mg:=Ev.VP (.cons m0 (.cons m1 (.cons m2 (.cons m3 (.cons m4 (.cons m5 (.cons m6 (.cons m7 (.cons m8 (.cons m9 (.cons m10 (.cons m11 (.cons Xu (.cons Xv (.cons m14 (.cons m15 (.cons m16 (.cons m17 (.cons m18 (.cons m19 (.cons m20 (.cons m21 (.cons m22 (.cons m23 .nil)))))))))))))))))))))))) (.cons oG .nil) (.cons rQ (.cons Wr (.cons RD (.cons Ws (.cons rR (.cons Wt (.cons RJ (.cons Wu (.cons Wv (.cons Kg (.cons Fe (.cons Ww (.cons Wx (.cons Kh (.cons Wy .nil))))))))))))))) (.cons (Ev.V0 KX G iQ (bD.kN _) ⋯) .nil) lm
  exact Ev.Dt (Ev.QM bD.RC bD.fns_eq) md (i:=23) (fi:=bD.Sz) rfl rfl rfl m23 hmg
 case S=>exact λw H a ns hl hO hS=>Ev.QK bD.hevF (bD.K w.params) H a ns hl (by rw[bD.xT];exact hO) hS
 case C=>exact λ_ _ _ _ z=>z
